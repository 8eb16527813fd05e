/- The program's Exact on a finite float: how the float's value lies to the whole number. -/
import Derived.Test.YtihkabgoaejcgaaDoorX1
namespace Go.Proofs.YtihkabgoaejcgaaDoor
open Go.RowKit Ieee
open Flt (ordI exactV)

theorem rd_hi : double.read 4890909195324358656 = .number false 4503599627370496 11 := by decide
theorem rd_lo : double.read 14114281232179134464 = .number true 4503599627370496 11 := by decide

theorem pow_split : (4503599627370496 : Nat) * 2 ^ ((11 : Int) + 1074).toNat = 9223372036854775808 * 2 ^ 1074 := by
  generalize hK : (1074 : Nat) = K
  rw [show ((11 : Int) + 1074).toNat = 11 + K by omega, Nat.pow_add]
  omega

theorem swap_compare (a b : Int) : compare b a = (compare a b).swap := by
  rcases Int.lt_trichotomy a b with h | h | h
  · rw [Int.compare_eq_lt.2 h, Int.compare_eq_gt.2 h]; rfl
  · subst h; simp
  · rw [Int.compare_eq_gt.2 h, Int.compare_eq_lt.2 h]; rfl

theorem U_hi : Flt.U 4890909195324358656 = 9223372036854775808 * Flt.P := by
  rw [Flt.U_of rd_hi, Flt.unit_whole pow_split, Flt.signed_P]; rfl
theorem U_lo : Flt.U 14114281232179134464 = -9223372036854775808 * Flt.P := by
  rw [Flt.U_of rd_lo, Flt.unit_whole pow_split, Flt.signed_P]; rfl

theorem integral_by (x : Nat) : ∃ G : Bool → Nat → Sem Value, Extern.MathFloor.toIntegral "math.archTrunc" .zero #[.float .f64 x] = (match FloatKind.f64.decode x with | .nan s t => G s t | d => pure (.float .f64 (FloatKind.f64.encode (d.integral .zero)))) := ⟨_, rfl⟩

/-- how a value lies among the ends of int64 -/
theorem mul_lt {a b : Int} : a * Flt.P < b * Flt.P ↔ a < b := by
  constructor
  · intro h; exact Int.lt_of_mul_lt_mul_right h (Int.le_of_lt Flt.P_pos)
  · intro h; exact Int.mul_lt_mul_of_pos_right h Flt.P_pos

theorem mul_le {a b : Int} : a * Flt.P ≤ b * Flt.P ↔ a ≤ b := by
  have := mul_lt (a := b) (b := a)
  omega

theorem compare_P (a b : Int) : compare (a * Flt.P) (b * Flt.P) = compare a b := Flt.compare_mul Flt.P_pos

/-- a float made an int64, where it lies among them -/
theorem cv_int {z : Nat} {v : Int} (hz : (double.read z).toInt .zero = some v) (h1 : -9223372036854775808 ≤ v) (h2 : v ≤ 9223372036854775807) (w : World) : (convert 24 2 (.float .f64 z)).run Tryd.prog w = .ok (.int .i64 v) w :=
  run_convert_float_int w 24 2 .f64 .i64 z _ (by rw [Tryd.underlying24]; rfl) Tryd.underlying2 (by
    have hz' : (FloatKind.f64.decode z).toInt .zero = some v := hz
    unfold floatToIntVal
    rw [hz']
    exact if_pos ⟨h1, h2⟩)

theorem exact_val (x : Nat) (n : Int) (hx : x < 18446744073709551616) (hf : Flt.fin x = true) (n1 : -9223372036854775808 ≤ n) (n2 : n ≤ 9223372036854775807) (w : World) :
    Calls Tryd.prog 30 #[.float .f64 x, .int .i64 n] w fun e w' => e = .returned (.int .i64 (ordI (compare (Flt.U x) (n * Flt.P)))) ∧ w' = w := by
  have hP := Flt.P_pos
  have o1 : FloatKind.f64.format.order x x = some .eq := by
    show double.order x x = _
    rw [Flt.order_U hx hx hf hf]; simp
  have e2 : double.order x 4890909195324358656 = some (compare (Flt.U x) (9223372036854775808 * Flt.P)) := by
    rw [Flt.order_U hx (by decide) hf (by decide), U_hi]
  have e3 : double.order x 14114281232179134464 = some (compare (Flt.U x) (-9223372036854775808 * Flt.P)) := by
    rw [Flt.order_U hx (by decide) hf (by decide), U_lo]
  have b1 : -9223372036854775808 * Flt.P ≤ n * Flt.P := mul_le.2 n1
  have b2 : n * Flt.P < 9223372036854775808 * Flt.P := mul_lt.2 (by omega)
  by_cases h1 : Flt.U x < 9223372036854775808 * Flt.P
  · have o2 : FloatKind.f64.format.order x 4890909195324358656 = some .lt := by rw [Int.compare_eq_lt.2 h1] at e2; exact e2
    by_cases h2 : Flt.U x < -9223372036854775808 * Flt.P
    · have o3 : FloatKind.f64.format.order x 14114281232179134464 = some .lt := by rw [Int.compare_eq_lt.2 h2] at e3; exact e3
      rw [Int.compare_eq_lt.2 (by omega)]
      exact exact_low x n o1 o2 o3 w
    · have o3 : FloatKind.f64.format.order x 14114281232179134464 = some .gt ∨ FloatKind.f64.format.order x 14114281232179134464 = some .eq := by
        rcases Int.lt_or_eq_of_le (Int.not_lt.1 h2) with h | h
        · rw [Int.compare_eq_gt.2 h] at e3; exact Or.inl e3
        · rw [Int.compare_eq_eq.2 h.symm] at e3; exact Or.inr e3
      obtain ⟨s, m, p, M, hr, lo, hi, ht, hW, hle⟩ := Flt.whole_part hx hf
      have hM : signed s M 0 = signed s (m * 2 ^ p.toNat / 2 ^ (-p).toNat) 0 := by
        rw [hr, Flt.toInt_part] at ht
        exact (Option.some.inj ht).symm
      have hM2 : M = m * 2 ^ p.toNat / 2 ^ (-p).toNat := by
        cases s
        · simp only [signed, Nat.shiftLeft_zero, Bool.false_eq_true, if_false] at hM; omega
        · simp only [signed, Nat.shiftLeft_zero, if_true] at hM; omega
      have hgt := (Flt.part_bounds m lo).2
      rw [← hM2] at hgt
      have hU := Flt.U_of hr
      have hrg : -9223372036854775808 ≤ signed s M 0 ∧ signed s M 0 ≤ 9223372036854775807 := by
        rw [hU] at h1 h2
        have a1 : ((M : Int) * Flt.P) ≤ ((m * 2 ^ (p + 1074).toNat : Nat) : Int) := by
          have := Int.ofNat_le.2 hle
          rw [Int.natCast_mul M] at this
          exact this
        have eu : Flt.unit s m p = if s then -((m * 2 ^ (p + 1074).toNat : Nat) : Int) else ((m * 2 ^ (p + 1074).toNat : Nat) : Int) := by
          unfold Flt.unit signed; simp only [Nat.shiftLeft_eq]
        rw [eu] at h1 h2
        generalize ((m * 2 ^ (p + 1074).toNat : Nat) : Int) = V at *
        unfold signed
        simp only [Nat.shiftLeft_zero]
        cases s
        · simp only [Bool.false_eq_true, if_false] at *
          have : (M : Int) * Flt.P < 9223372036854775808 * Flt.P := by omega
          have := mul_lt.1 this
          omega
        · simp only [if_true] at *
          have : (M : Int) * Flt.P ≤ 9223372036854775808 * Flt.P := by
            have : -9223372036854775808 * Flt.P = -(9223372036854775808 * Flt.P) := Int.neg_mul _ _
            omega
          have := mul_le.1 this
          omega
      have oz := Flt.order_whole hr lo hW
      have zz : double.order (double.nearest s M 0) (double.nearest s M 0) = some .eq := by
        rw [Flt.order_U hW.lt hW.lt hW.fin hW.fin]; simp
      have t0 : Extern.MathFloor.toIntegral "math.archTrunc" .zero #[.float .f64 x] = pure (.float .f64 (double.nearest s M 0)) := by
        obtain ⟨G, hG⟩ := integral_by x
        have hdc : FloatKind.f64.decode x = .number s m p := hr
        rw [hr] at hi
        rw [hG, hdc]
        show pure (Value.float .f64 (FloatKind.f64.encode ((Datum.number s m p).integral .zero))) = _
        rw [hi]
        rfl
      have oz2 := oz.2
      rw [swap_compare (Flt.unit s m p) (signed s M 1074)] at oz2
      have := exact_mid x _ _ n _ o1 o2 o3 t0 (cv_int hW.toInt hrg.1 hrg.2) zz oz.1 oz2 w
      rw [Flt.exact_value n hle hgt, ← hU] at this
      exact this
  · have o2 : FloatKind.f64.format.order x 4890909195324358656 = some .gt ∨ FloatKind.f64.format.order x 4890909195324358656 = some .eq := by
      rcases Int.lt_or_eq_of_le (Int.not_lt.1 h1) with h | h
      · rw [Int.compare_eq_gt.2 h] at e2; exact Or.inl e2
      · rw [Int.compare_eq_eq.2 h.symm] at e2; exact Or.inr e2
    rw [Int.compare_eq_gt.2 (by omega)]
    exact exact_high x n o1 o2 w
end Go.Proofs.YtihkabgoaejcgaaDoor
