/- The document's Exact on a finite float: how the float's value lies to the whole number. -/
import Derived.Test.YtihkabgoaejcgaaDoorX2
import Derived.Test.YtihkabgoaejcgaaDoorFltN
namespace Go.Proofs.YtihkabgoaejcgaaDoor
open Go.RowKit Ieee
open Flt (ordI exactV)

theorem refExact_nan (x : Nat) (n : Int) (o1 : FloatKind.f64.format.order x x = none) (w : World) : Calls Tryd.prog 31 #[.float .f64 x, .int .i64 n] w fun e w' => e = .returned (.int .i64 2) ∧ w' = w := by
  go_enter Tryd.func31, Tryd.ntmps31
  go_wp2
  go_ret
  exact ⟨rfl, rfl⟩

theorem refExact_high (x : Nat) (n : Int) (o1 : FloatKind.f64.format.order x x = some .eq) (o2 : FloatKind.f64.format.order x 4890909195324358656 = some .gt ∨ FloatKind.f64.format.order x 4890909195324358656 = some .eq) (w : World) : Calls Tryd.prog 31 #[.float .f64 x, .int .i64 n] w fun e w' => e = .returned (.int .i64 1) ∧ w' = w := by
  rcases o2 with o2 | o2
  all_goals
    go_enter Tryd.func31, Tryd.ntmps31
    go_wp2
    go_ret
    exact ⟨rfl, rfl⟩

theorem refExact_low (x : Nat) (n : Int) (o1 : FloatKind.f64.format.order x x = some .eq) (o2 : FloatKind.f64.format.order x 4890909195324358656 = some .lt) (o3 : FloatKind.f64.format.order x 14114281232179134464 = some .lt) (w : World) : Calls Tryd.prog 31 #[.float .f64 x, .int .i64 n] w fun e w' => e = .returned (.int .i64 (-1)) ∧ w' = w := by
  go_enter Tryd.func31, Tryd.ntmps31
  go_wp2
  go_ret
  exact ⟨rfl, rfl⟩
theorem refExact_mid (x p q : Nat) (v n : Int) (o : Ordering) (o1 : FloatKind.f64.format.order x x = some .eq) (o2 : FloatKind.f64.format.order x 4890909195324358656 = some .lt) (o3 : FloatKind.f64.format.order x 14114281232179134464 = some .gt ∨ FloatKind.f64.format.order x 14114281232179134464 = some .eq)
    (c0 : ∀ w, (convert 24 2 (.float .f64 x)).run Tryd.prog w = .ok (.int .i64 v) w) (hq : floatOfInt .f64 v = q)
    (hp : floatBits .sub .f64 x q = some p) (h3 : FloatKind.f64.format.order p 0 = some o) (w : World) : Calls Tryd.prog 31 #[.float .f64 x, .int .i64 n] w fun e w' => e = .returned (.int .i64 (exactV v n o)) ∧ w' = w := by
  have hz : ∀ t (w : World), (binOp .sub t (.float .f64 x) (.float .f64 q)).run Tryd.prog w = .ok (.float .f64 p) w := fun t w => run_float_arith w .sub t .f64 _ _ _ hp
  clear hp
  rcases Int.lt_trichotomy v n with h | h | h
  · have ev : exactV v n o = -1 := by rw [exactV, if_pos h]
    have d1 : (v == n) = false := by rw [beq_eq_false_iff_ne]; omega
    have d2 : decide (v < n) = true := by simpa using h
    rw [ev]
    clear h ev
    rcases o3 with o3 | o3
    all_goals
      go_enter Tryd.func31, Tryd.ntmps31
      go_wp2
      go_ret
      exact ⟨rfl, rfl⟩
  · subst h
    have ev : exactV v v o = ordI o := by rw [exactV, if_neg (by omega), if_neg (by omega)]
    rw [ev]
    clear ev
    cases o
    all_goals
      rcases o3 with o3 | o3
      all_goals
        go_enter Tryd.func31, Tryd.ntmps31
        go_wp2
        go_ret
        exact ⟨rfl, rfl⟩
  · have ev : exactV v n o = 1 := by rw [exactV, if_neg (by omega), if_pos h]
    have d1 : (v == n) = false := by rw [beq_eq_false_iff_ne]; omega
    have d2 : decide (v < n) = false := by rw [decide_eq_false_iff_not]; omega
    rw [ev]
    clear h ev
    rcases o3 with o3 | o3
    all_goals
      go_enter Tryd.func31, Tryd.ntmps31
      go_wp2
      go_ret
      exact ⟨rfl, rfl⟩
theorem refExact_val (x : Nat) (n : Int) (hx : x < 18446744073709551616) (hf : Flt.fin x = true) (n1 : -9223372036854775808 ≤ n) (n2 : n ≤ 9223372036854775807) (w : World) :
    Calls Tryd.prog 31 #[.float .f64 x, .int .i64 n] w fun e w' => e = .returned (.int .i64 (ordI (compare (Flt.U x) (n * Flt.P)))) ∧ w' = w := by
  have hP := Flt.P_pos
  have o1 : FloatKind.f64.format.order x x = some .eq := by
    show double.order x x = _
    rw [Flt.order_U hx hx hf hf]; simp
  have e2 : double.order x 4890909195324358656 = some (compare (Flt.U x) (9223372036854775808 * Flt.P)) := by
    rw [Flt.order_U hx (by decide) hf (by decide), U_hi]
  have e3 : double.order x 14114281232179134464 = some (compare (Flt.U x) (-9223372036854775808 * Flt.P)) := by
    rw [Flt.order_U hx (by decide) hf (by decide), U_lo]
  have b1 : -9223372036854775808 * Flt.P ≤ n * Flt.P := mul_le.2 n1
  have b2 : n * Flt.P < 9223372036854775808 * Flt.P := mul_lt.2 (by omega)
  by_cases h1 : Flt.U x < 9223372036854775808 * Flt.P
  · have o2 : FloatKind.f64.format.order x 4890909195324358656 = some .lt := by rw [Int.compare_eq_lt.2 h1] at e2; exact e2
    by_cases h2 : Flt.U x < -9223372036854775808 * Flt.P
    · have o3 : FloatKind.f64.format.order x 14114281232179134464 = some .lt := by rw [Int.compare_eq_lt.2 h2] at e3; exact e3
      rw [Int.compare_eq_lt.2 (by omega)]
      exact refExact_low x n o1 o2 o3 w
    · have o3 : FloatKind.f64.format.order x 14114281232179134464 = some .gt ∨ FloatKind.f64.format.order x 14114281232179134464 = some .eq := by
        rcases Int.lt_or_eq_of_le (Int.not_lt.1 h2) with h | h
        · rw [Int.compare_eq_gt.2 h] at e3; exact Or.inl e3
        · rw [Int.compare_eq_eq.2 h.symm] at e3; exact Or.inr e3
      obtain ⟨s, m, p, M, hr, lo, hi, ht, hW, hle⟩ := Flt.whole_part hx hf
      have hM : signed s M 0 = signed s (m * 2 ^ p.toNat / 2 ^ (-p).toNat) 0 := by
        rw [hr, Flt.toInt_part] at ht
        exact (Option.some.inj ht).symm
      have hM2 : M = m * 2 ^ p.toNat / 2 ^ (-p).toNat := by
        cases s
        · simp only [signed, Nat.shiftLeft_zero, Bool.false_eq_true, if_false] at hM; omega
        · simp only [signed, Nat.shiftLeft_zero, if_true] at hM; omega
      have hgt := (Flt.part_bounds m lo).2
      rw [← hM2] at hgt
      have hU := Flt.U_of hr
      have hrg : -9223372036854775808 ≤ signed s M 0 ∧ signed s M 0 ≤ 9223372036854775807 := by
        rw [hU] at h1 h2
        have a1 : ((M : Int) * Flt.P) ≤ ((m * 2 ^ (p + 1074).toNat : Nat) : Int) := by
          have := Int.ofNat_le.2 hle
          rw [Int.natCast_mul M] at this
          exact this
        have eu : Flt.unit s m p = if s then -((m * 2 ^ (p + 1074).toNat : Nat) : Int) else ((m * 2 ^ (p + 1074).toNat : Nat) : Int) := by
          unfold Flt.unit signed; simp only [Nat.shiftLeft_eq]
        rw [eu] at h1 h2
        generalize ((m * 2 ^ (p + 1074).toNat : Nat) : Int) = V at *
        unfold signed
        simp only [Nat.shiftLeft_zero]
        cases s
        · simp only [Bool.false_eq_true, if_false] at *
          have : (M : Int) * Flt.P < 9223372036854775808 * Flt.P := by omega
          have := mul_lt.1 this
          omega
        · simp only [if_true] at *
          have : (M : Int) * Flt.P ≤ 9223372036854775808 * Flt.P := by
            have : -9223372036854775808 * Flt.P = -(9223372036854775808 * Flt.P) := Int.neg_mul _ _
            omega
          have := mul_le.1 this
          omega
      have ht' : (Ieee.double.read x).toInt .zero = some (signed s M 0) := ht
      obtain ⟨q, p', hq, hp, pl, pf, pU⟩ := Flt.frac_of hx hf ht'
      have o3' : FloatKind.f64.format.order p' 0 = some (compare (Flt.unit s m p) (signed s M 1074)) := by
        show double.order p' 0 = _
        rw [Flt.order_U pl (by decide) pf (by decide), Flt.U_zero, pU, hU, Flt.signed_P]
        have : ∀ a b : Int, compare (a - b) 0 = compare a b := fun a b => by
          rcases Int.lt_trichotomy a b with h | h | h
          · rw [Int.compare_eq_lt.2 h, Int.compare_eq_lt.2 (by omega)]
          · rw [Int.compare_eq_eq.2 h, Int.compare_eq_eq.2 (by omega)]
          · rw [Int.compare_eq_gt.2 h, Int.compare_eq_gt.2 (by omega)]
        rw [this]
      have := refExact_mid x p' q _ n _ o1 o2 o3 (cv_int ht' hrg.1 hrg.2) hq hp o3' w
      rw [Flt.exact_value n hle hgt, ← hU] at this
      exact this
  · have o2 : FloatKind.f64.format.order x 4890909195324358656 = some .gt ∨ FloatKind.f64.format.order x 4890909195324358656 = some .eq := by
      rcases Int.lt_or_eq_of_le (Int.not_lt.1 h1) with h | h
      · rw [Int.compare_eq_gt.2 h] at e2; exact Or.inl e2
      · rw [Int.compare_eq_eq.2 h.symm] at e2; exact Or.inr e2
    rw [Int.compare_eq_gt.2 (by omega)]
    exact refExact_high x n o1 o2 w
end Go.Proofs.YtihkabgoaejcgaaDoor
