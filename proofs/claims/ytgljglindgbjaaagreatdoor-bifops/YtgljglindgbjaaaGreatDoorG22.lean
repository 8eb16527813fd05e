import Derived.Test.YtgljglindgbjaaaGreatDoorG21
import Derived.Test.YtgljglindgbjaaaGreatDoorG12
/- Plain facts on binary floats of 64 bits: what is left of a float without its whole part is a float. -/
namespace Go.Proofs.YtgljglindgbjaaaGreatDoor.Flt
open Ieee

theorem near_int {s : Bool} {M : Nat} (hW : Whole s M (double.nearest s M 0)) : ∃ q, double.nearest (decide (signed s M 0 < 0)) (signed s M 0).natAbs 0 = q ∧ q < 18446744073709551616 ∧ fin q = true ∧ U q = signed s M 0 * P := by
  by_cases h0 : M = 0
  · subst h0
    have hw := whole_small false (M := 0) (by omega)
    refine ⟨_, rfl, ?_⟩
    have e : signed s 0 0 = 0 := by rw [signed_0]; split <;> simp
    rw [e]
    refine ⟨hw.lt, hw.fin, ?_⟩
    have := hw.U
    rw [signed_0] at this
    exact this
  · have hs : decide (signed s M 0 < 0) = s := by
      rw [signed_0]
      cases s
      · rw [decide_eq_false_iff_not]; simp only [Bool.false_eq_true, if_false]; omega
      · rw [decide_eq_true_eq]; simp only [if_true]; omega
    have hn : (signed s M 0).natAbs = M := by rw [signed_0]; split <;> omega
    rw [hs, hn]
    exact ⟨_, rfl, hW.lt, hW.fin, hW.U⟩

/-- a float less its whole part -/
theorem frac_of {x : Nat} (hx : x < 18446744073709551616) (fx : fin x = true) {T : Int} (hT : (double.read x).toInt .zero = some T) :
    ∃ q p, double.nearest (decide (T < 0)) T.natAbs 0 = q ∧ double.sub x q = some p ∧ p < 18446744073709551616 ∧ fin p = true ∧ U p = U x - T * P := by
  obtain ⟨s, m, p0, M, b, hr, lo, hM, hb, hw, V, hV, V0, h1, h2, h3, h4⟩ := parts_of_U hx fx
  have w0 := hw false (by simp)
  rw [Bool.toNat_false, Nat.add_zero] at w0
  have hTM : T = signed s M 0 := by
    rw [hr, toInt_part, ← hM] at hT
    exact (Option.some.inj hT).symm
  obtain ⟨q, q1, q2, q3, q4⟩ := near_int w0
  rw [← hTM] at q1 q4
  have hab : ∃ r a, (U x - U q).natAbs = r * 2 ^ a ∧ r < 9007199254740992 ∧ a ≤ 2045 := by
    obtain ⟨m', p', hr', hc, hp, he⟩ := read_canon hx fx
    rw [hr] at hr'
    have em : m = m' := by injection hr'
    have ep : p0 = p' := by injection hr'
    subst em ep
    rw [q4, hTM, U_abs hr, signed_0]
    have hsame : ((if s = true then -((m * 2 ^ (p0 + 1074).toNat : Nat) : Int) else ((m * 2 ^ (p0 + 1074).toNat : Nat) : Int)) - (if s = true then -(M : Int) else (M : Int)) * P).natAbs = m * 2 ^ (p0 + 1074).toNat - M * 2 ^ 1074 := by
      have hle := (part_bounds m lo).1
      rw [← hM] at hle
      have c : (M : Int) * P = ((M * 2 ^ 1074 : Nat) : Int) := (castP M).symm
      generalize m * 2 ^ (p0 + 1074).toNat = A at hle
      cases s
      · simp only [Bool.false_eq_true, if_false]
        rw [c]
        generalize M * 2 ^ 1074 = B at hle
        omega
      · simp only [if_true]
        rw [Int.neg_mul, c]
        generalize M * 2 ^ 1074 = B at hle
        omega
    rw [hsame]
    rcases Int.lt_or_le p0 0 with hp0 | hp0
    · refine ⟨m % 2 ^ (-p0).toNat, (p0 + 1074).toNat, ?_, ?_, by omega⟩
      · have e : p0.toNat = 0 := by omega
        rw [e, Nat.pow_zero, Nat.mul_one] at hM
        have hpw : ∀ K : Nat, K = 1074 → (2 : Nat) ^ K = 2 ^ (-p0).toNat * 2 ^ (p0 + 1074).toNat := fun K hK => by rw [← Nat.pow_add]; congr 1; omega
        rw [hpw 1074 rfl, ← Nat.mul_assoc, ← Nat.sub_mul, hM]
        congr 1
        have := Nat.div_add_mod m (2 ^ (-p0).toNat)
        rw [Nat.mul_comm] at this
        omega
      · exact Nat.lt_of_le_of_lt (Nat.mod_le _ _) hc.hi
    · refine ⟨0, 0, ?_, by omega, by omega⟩
      have hz := (part_rest m lo).1 (by
        have e : (-p0).toNat = 0 := by omega
        rw [e, Nat.pow_zero]; exact Nat.mod_one _)
      rw [hz, ← hM, Nat.zero_mul]
      exact Nat.sub_self _
  obtain ⟨r, a, e1, e2, e3⟩ := hab
  obtain ⟨z, z1, z2, z3, z4⟩ := sub_exact hx q2 fx q3 e2 e3 e1
  exact ⟨q, z, q1, z1, z2, z3, by rw [z4, q4]⟩

/-- a half, both ways -/
theorem U_half : 2 * U 4602678819172646912 = P ∧ fin 4602678819172646912 = true := by
  have h := U_rung false (a := 1021) (m := 4503599627370496) (by omega) (by omega) (by omega)
  rw [word_val] at h
  have e : (if false = true then 9223372036854775808 else 0) + (1021 * 4503599627370496 + 4503599627370496) = 4602678819172646912 := by decide
  rw [e] at h
  refine ⟨?_, h.2.1⟩
  rw [h.1]
  have up : ∀ a b : Nat, b = 53 + a → 2 * (((4503599627370496 <<< a : Nat)) : Int) = ((2 ^ b : Nat) : Int) := fun a b hb => by
    rw [hb, Nat.shiftLeft_eq, Nat.pow_add]
    have : (2 : Nat) ^ 53 = 2 * 4503599627370496 := by decide
    rw [this]
    generalize 2 ^ a = A
    omega
  unfold P signed
  simp only [Bool.false_eq_true, if_false]
  exact up 1021 1074 (by omega)

theorem U_half_neg : 2 * U 13826050856027422720 = -P ∧ fin 13826050856027422720 = true := by
  have := U_turn (x := 4602678819172646912) (y := 13826050856027422720) (by decide) U_half.2 (by decide) (by decide) (by decide)
  refine ⟨?_, this.1⟩
  rw [this.2]
  have := U_half.1
  omega

/-- where the whole part is T, and F is left -/
theorem by_parts {x z : Nat} {f c t r : Int} (L : Lies (U x) f c t r) (b2 : U x < (f + 1) * P) (b4 : (c - 1) * P < U x) (hR : Rounded x z r) :
    (U x - t * P < 0 → f = t - 1) ∧ (0 ≤ U x - t * P → f = t) ∧ (0 < U x - t * P → c = t + 1) ∧ (U x - t * P ≤ 0 → c = t) ∧
    (P ≤ 2 * (U x - t * P) → r = t + 1) ∧ (2 * (U x - t * P) ≤ -P → r = t - 1) ∧ (-P < 2 * (U x - t * P) → 2 * (U x - t * P) < P → r = t) := by
  have hP := P_pos
  have h1 := L.vf
  have h3 := L.vc
  have fc := L.fc
  have cf := L.cf
  have ft := L.ft
  have tc := L.tc
  have a1 : ∀ a : Int, (a + 1) * P = a * P + P := fun a => by rw [Int.add_mul, Int.one_mul]
  have a2 : ∀ a : Int, (a - 1) * P = a * P - P := fun a => by rw [Int.sub_mul, Int.one_mul]
  have hft : t = f ∨ t = f + 1 := by omega
  have hct : t = c ∨ t = c - 1 := by omega
  rw [a1] at b2
  rw [a2] at b4
  have d1 : ∀ a : Int, (2 * a) * P = 2 * (a * P) := fun a => Int.mul_assoc _ _ _
  refine ⟨fun h => ?_, fun h => ?_, fun h => ?_, fun h => ?_, fun h => ?_, fun h => ?_, fun h h' => ?_⟩
  · rcases hft with e | e
    · subst e; omega
    · omega
  · rcases hft with e | e
    · exact e.symm
    · subst e; rw [a1] at h; omega
  · rcases hct with e | e
    · subst e; omega
    · omega
  · rcases hct with e | e
    · exact e.symm
    · subst e; rw [a2] at h; omega
  · rcases Int.lt_or_le (U x) 0 with hu | hu
    · have := L.neg hu
      subst this
      omega
    · have := L.pos hu
      subst this
      obtain ⟨r1, r2⟩ := hR.up hu
      have e1 : (2 * t + 1) * P < (2 * r + 1) * P := by rw [Int.add_mul, Int.add_mul, Int.one_mul, d1, d1]; omega
      have e2 : (2 * r - 1) * P < (2 * t + 2) * P := by rw [Int.sub_mul, Int.add_mul, Int.one_mul, d1, d1]; omega
      have := ltP e1
      have := ltP e2
      omega
  · rcases Int.lt_or_le (U x) 0 with hu | hu
    · have := L.neg hu
      subst this
      obtain ⟨r1, r2⟩ := hR.down hu
      have e1 : (2 * r - 1) * P < (2 * t - 1) * P := by rw [Int.sub_mul, Int.sub_mul, Int.one_mul, d1, d1]; omega
      have e2 : (2 * t - 2) * P < (2 * r + 1) * P := by rw [Int.sub_mul, Int.add_mul, Int.one_mul, d1, d1]; omega
      have := ltP e1
      have := ltP e2
      omega
    · have := L.pos hu
      subst this
      omega
  · rcases Int.lt_or_le (U x) 0 with hu | hu
    · have := L.neg hu
      subst this
      obtain ⟨r1, r2⟩ := hR.down hu
      have e1 : (2 * r) * P < (2 * t + 1) * P := by rw [Int.add_mul, Int.one_mul, d1, d1]; omega
      have e2 : (2 * t - 1) * P < (2 * r + 1) * P := by rw [Int.sub_mul, Int.add_mul, Int.one_mul, d1, d1]; omega
      have := ltP e1
      have := ltP e2
      omega
    · have := L.pos hu
      subst this
      obtain ⟨r1, r2⟩ := hR.up hu
      have e1 : (2 * r - 1) * P < (2 * t + 1) * P := by rw [Int.sub_mul, Int.add_mul, Int.one_mul, d1, d1]; omega
      have e2 : (2 * t) * P < (2 * r + 1) * P := by rw [Int.add_mul, Int.one_mul, d1, d1]; omega
      have := ltP e1
      have := ltP e2
      omega
end Go.Proofs.YtgljglindgbjaaaGreatDoor.Flt


/- The document's Exact on a finite float: how the float's value lies to the whole number. -/
namespace Go.Proofs.YtgljglindgbjaaaGreatDoor
open Go.RowKit Ieee
open Flt (ordI exactV)

theorem refExact_nan (x : Nat) (n : Int) (o1 : FloatKind.f64.format.order x x = none) (w : World) : Calls Tryz.prog 114 #[.float .f64 x, .int .i64 n] w fun e w' => e = .returned (.int .i64 2) ∧ w' = w := by
  go_enter Tryz.func114, Tryz.ntmps114
  go_wp2
  go_ret
  exact ⟨rfl, rfl⟩

theorem refExact_high (x : Nat) (n : Int) (o1 : FloatKind.f64.format.order x x = some .eq) (o2 : FloatKind.f64.format.order x 4890909195324358656 = some .gt ∨ FloatKind.f64.format.order x 4890909195324358656 = some .eq) (w : World) : Calls Tryz.prog 114 #[.float .f64 x, .int .i64 n] w fun e w' => e = .returned (.int .i64 1) ∧ w' = w := by
  rcases o2 with o2 | o2
  all_goals
    go_enter Tryz.func114, Tryz.ntmps114
    go_wp2
    go_ret
    exact ⟨rfl, rfl⟩

theorem refExact_low (x : Nat) (n : Int) (o1 : FloatKind.f64.format.order x x = some .eq) (o2 : FloatKind.f64.format.order x 4890909195324358656 = some .lt) (o3 : FloatKind.f64.format.order x 14114281232179134464 = some .lt) (w : World) : Calls Tryz.prog 114 #[.float .f64 x, .int .i64 n] w fun e w' => e = .returned (.int .i64 (-1)) ∧ w' = w := by
  go_enter Tryz.func114, Tryz.ntmps114
  go_wp2
  go_ret
  exact ⟨rfl, rfl⟩
theorem refExact_mid (x p q : Nat) (v n : Int) (o : Ordering) (o1 : FloatKind.f64.format.order x x = some .eq) (o2 : FloatKind.f64.format.order x 4890909195324358656 = some .lt) (o3 : FloatKind.f64.format.order x 14114281232179134464 = some .gt ∨ FloatKind.f64.format.order x 14114281232179134464 = some .eq)
    (c0 : ∀ w, (convert 25 2 (.float .f64 x)).run Tryz.prog w = .ok (.int .i64 v) w) (hq : floatOfInt .f64 v = q)
    (hp : floatBits .sub .f64 x q = some p) (h3 : FloatKind.f64.format.order p 0 = some o) (w : World) : Calls Tryz.prog 114 #[.float .f64 x, .int .i64 n] w fun e w' => e = .returned (.int .i64 (exactV v n o)) ∧ w' = w := by
  have hz : ∀ t (w : World), (binOp .sub t (.float .f64 x) (.float .f64 q)).run Tryz.prog w = .ok (.float .f64 p) w := fun t w => run_float_arith w .sub t .f64 _ _ _ hp
  clear hp
  rcases Int.lt_trichotomy v n with h | h | h
  · have ev : exactV v n o = -1 := by rw [exactV, if_pos h]
    have d1 : (v == n) = false := by rw [beq_eq_false_iff_ne]; omega
    have d2 : decide (v < n) = true := by simpa using h
    rw [ev]
    clear h ev
    rcases o3 with o3 | o3
    all_goals
      go_enter Tryz.func114, Tryz.ntmps114
      go_wp2
      go_ret
      exact ⟨rfl, rfl⟩
  · subst h
    have ev : exactV v v o = ordI o := by rw [exactV, if_neg (by omega), if_neg (by omega)]
    rw [ev]
    clear ev
    cases o
    all_goals
      rcases o3 with o3 | o3
      all_goals
        go_enter Tryz.func114, Tryz.ntmps114
        go_wp2
        go_ret
        exact ⟨rfl, rfl⟩
  · have ev : exactV v n o = 1 := by rw [exactV, if_neg (by omega), if_pos h]
    have d1 : (v == n) = false := by rw [beq_eq_false_iff_ne]; omega
    have d2 : decide (v < n) = false := by rw [decide_eq_false_iff_not]; omega
    rw [ev]
    clear h ev
    rcases o3 with o3 | o3
    all_goals
      go_enter Tryz.func114, Tryz.ntmps114
      go_wp2
      go_ret
      exact ⟨rfl, rfl⟩
theorem refExact_val (x : Nat) (n : Int) (hx : x < 18446744073709551616) (hf : Flt.fin x = true) (n1 : -9223372036854775808 ≤ n) (n2 : n ≤ 9223372036854775807) (w : World) :
    Calls Tryz.prog 114 #[.float .f64 x, .int .i64 n] w fun e w' => e = .returned (.int .i64 (ordI (compare (Flt.U x) (n * Flt.P)))) ∧ w' = w := by
  have hP := Flt.P_pos
  have o1 : FloatKind.f64.format.order x x = some .eq := by
    show double.order x x = _
    rw [Flt.order_U hx hx hf hf]; simp
  have e2 : double.order x 4890909195324358656 = some (compare (Flt.U x) (9223372036854775808 * Flt.P)) := by
    rw [Flt.order_U hx (by decide) hf (by decide), U_hi]
  have e3 : double.order x 14114281232179134464 = some (compare (Flt.U x) (-9223372036854775808 * Flt.P)) := by
    rw [Flt.order_U hx (by decide) hf (by decide), U_lo]
  have b1 : -9223372036854775808 * Flt.P ≤ n * Flt.P := mul_le.2 n1
  have b2 : n * Flt.P < 9223372036854775808 * Flt.P := mul_lt.2 (by omega)
  by_cases h1 : Flt.U x < 9223372036854775808 * Flt.P
  · have o2 : FloatKind.f64.format.order x 4890909195324358656 = some .lt := by rw [Int.compare_eq_lt.2 h1] at e2; exact e2
    by_cases h2 : Flt.U x < -9223372036854775808 * Flt.P
    · have o3 : FloatKind.f64.format.order x 14114281232179134464 = some .lt := by rw [Int.compare_eq_lt.2 h2] at e3; exact e3
      rw [Int.compare_eq_lt.2 (by omega)]
      exact refExact_low x n o1 o2 o3 w
    · have o3 : FloatKind.f64.format.order x 14114281232179134464 = some .gt ∨ FloatKind.f64.format.order x 14114281232179134464 = some .eq := by
        rcases Int.lt_or_eq_of_le (Int.not_lt.1 h2) with h | h
        · rw [Int.compare_eq_gt.2 h] at e3; exact Or.inl e3
        · rw [Int.compare_eq_eq.2 h.symm] at e3; exact Or.inr e3
      obtain ⟨s, m, p, M, hr, lo, hi, ht, hW, hle⟩ := Flt.whole_part hx hf
      have hM : signed s M 0 = signed s (m * 2 ^ p.toNat / 2 ^ (-p).toNat) 0 := by
        rw [hr, Flt.toInt_part] at ht
        exact (Option.some.inj ht).symm
      have hM2 : M = m * 2 ^ p.toNat / 2 ^ (-p).toNat := by
        cases s
        · simp only [signed, Nat.shiftLeft_zero, Bool.false_eq_true, if_false] at hM; omega
        · simp only [signed, Nat.shiftLeft_zero, if_true] at hM; omega
      have hgt := (Flt.part_bounds m lo).2
      rw [← hM2] at hgt
      have hU := Flt.U_of hr
      have hrg : -9223372036854775808 ≤ signed s M 0 ∧ signed s M 0 ≤ 9223372036854775807 := by
        rw [hU] at h1 h2
        have a1 : ((M : Int) * Flt.P) ≤ ((m * 2 ^ (p + 1074).toNat : Nat) : Int) := by
          have := Int.ofNat_le.2 hle
          rw [Int.natCast_mul M] at this
          exact this
        have eu : Flt.unit s m p = if s then -((m * 2 ^ (p + 1074).toNat : Nat) : Int) else ((m * 2 ^ (p + 1074).toNat : Nat) : Int) := by
          unfold Flt.unit signed; simp only [Nat.shiftLeft_eq]
        rw [eu] at h1 h2
        generalize ((m * 2 ^ (p + 1074).toNat : Nat) : Int) = V at *
        unfold signed
        simp only [Nat.shiftLeft_zero]
        cases s
        · simp only [Bool.false_eq_true, if_false] at *
          have : (M : Int) * Flt.P < 9223372036854775808 * Flt.P := by omega
          have := mul_lt.1 this
          omega
        · simp only [if_true] at *
          have : (M : Int) * Flt.P ≤ 9223372036854775808 * Flt.P := by
            have : -9223372036854775808 * Flt.P = -(9223372036854775808 * Flt.P) := Int.neg_mul _ _
            omega
          have := mul_le.1 this
          omega
      have ht' : (Ieee.double.read x).toInt .zero = some (signed s M 0) := ht
      obtain ⟨q, p', hq, hp, pl, pf, pU⟩ := Flt.frac_of hx hf ht'
      have o3' : FloatKind.f64.format.order p' 0 = some (compare (Flt.unit s m p) (signed s M 1074)) := by
        show double.order p' 0 = _
        rw [Flt.order_U pl (by decide) pf (by decide), Flt.U_zero, pU, hU, Flt.signed_P]
        have : ∀ a b : Int, compare (a - b) 0 = compare a b := fun a b => by
          rcases Int.lt_trichotomy a b with h | h | h
          · rw [Int.compare_eq_lt.2 h, Int.compare_eq_lt.2 (by omega)]
          · rw [Int.compare_eq_eq.2 h, Int.compare_eq_eq.2 (by omega)]
          · rw [Int.compare_eq_gt.2 h, Int.compare_eq_gt.2 (by omega)]
        rw [this]
      have := refExact_mid x p' q _ n _ o1 o2 o3 (cv_int ht' hrg.1 hrg.2) hq hp o3' w
      rw [Flt.exact_value n hle hgt, ← hU] at this
      exact this
  · have o2 : FloatKind.f64.format.order x 4890909195324358656 = some .gt ∨ FloatKind.f64.format.order x 4890909195324358656 = some .eq := by
      rcases Int.lt_or_eq_of_le (Int.not_lt.1 h1) with h | h
      · rw [Int.compare_eq_gt.2 h] at e2; exact Or.inl e2
      · rw [Int.compare_eq_eq.2 h.symm] at e2; exact Or.inr e2
    rw [Int.compare_eq_gt.2 (by omega)]
    exact refExact_high x n o1 o2 w
end Go.Proofs.YtgljglindgbjaaaGreatDoor


/- The library's Round walked, over plain facts on the bits. -/
namespace Go.Proofs.YtgljglindgbjaaaGreatDoor
open Go.RowKit

/-- below a half -/
theorem round_w0 (x : Nat) (X E S : Int) (hb : ∀ w, (callFunc 24 #[.float .f64 x]).run Tryz.prog w = .ok (.value (.int .u64 X)) w)
    (e1 : bits .and .u64 (X / 4503599627370496) 2047 = E) (d1 : decide (E < 1023) = true) (e2 : bits .and .u64 X 9223372036854775808 = S) (d2 : (E == 1022) = false) (w : World) :
    Calls Tryz.prog 178 #[.float .f64 x] w fun e w' => e = .returned (.float .f64 S.toNat) ∧ w' = w := by
  have hf := f64frombits
  go_enter Tryz.func178, Tryz.ntmps178
  go_wp2
  go_ret
  exact ⟨rfl, rfl⟩

/-- below one -/
theorem round_w1 (x : Nat) (X E S T : Int) (hb : ∀ w, (callFunc 24 #[.float .f64 x]).run Tryz.prog w = .ok (.value (.int .u64 X)) w)
    (e1 : bits .and .u64 (X / 4503599627370496) 2047 = E) (d1 : decide (E < 1023) = true) (e2 : bits .and .u64 X 9223372036854775808 = S) (d2 : (E == 1022) = true) (e3 : bits .or .u64 S 4607182418800017408 = T) (w : World) :
    Calls Tryz.prog 178 #[.float .f64 x] w fun e w' => e = .returned (.float .f64 T.toNat) ∧ w' = w := by
  have hf := f64frombits
  go_enter Tryz.func178, Tryz.ntmps178
  go_wp2
  go_ret
  exact ⟨rfl, rfl⟩

/-- without a fraction -/
theorem round_w3 (x : Nat) (X E : Int) (hb : ∀ w, (callFunc 24 #[.float .f64 x]).run Tryz.prog w = .ok (.value (.int .u64 X)) w)
    (e1 : bits .and .u64 (X / 4503599627370496) 2047 = E) (d1 : decide (E < 1023) = false) (d3 : decide (E < 1075) = false) (w : World) :
    Calls Tryz.prog 178 #[.float .f64 x] w fun e w' => e = .returned (.float .f64 X.toNat) ∧ w' = w := by
  have hf := f64frombits
  go_enter Tryz.func178, Tryz.ntmps178
  go_wp2
  go_ret
  exact ⟨rfl, rfl⟩

/-- with one -/
theorem round_w2 (x : Nat) (X E H Y M Z : Int) (j : Nat) (hj : j < 64) (hb : ∀ w, (callFunc 24 #[.float .f64 x]).run Tryz.prog w = .ok (.value (.int .u64 X)) w)
    (e1 : bits .and .u64 (X / 4503599627370496) 2047 = E) (d1 : decide (E < 1023) = false) (d3 : decide (E < 1075) = true) (e2 : IntKind.u64.wrap (E - 1023) = (j : Int))
    (e3 : 2251799813685248 / 2 ^ j = H) (e4 : IntKind.u64.wrap (X + H) = Y) (e5 : 4503599627370495 / 2 ^ j = M) (e6 : bits .andNot .u64 Y M = Z) (w : World) :
    Calls Tryz.prog 178 #[.float .f64 x] w fun e w' => e = .returned (.float .f64 Z.toNat) ∧ w' = w := by
  have hf := f64frombits
  go_enter Tryz.func178, Tryz.ntmps178
  go_wp2
  go_ret
  exact ⟨rfl, rfl⟩
end Go.Proofs.YtgljglindgbjaaaGreatDoor


