/- Exact: the program's and the document's tell the same. -/
import Derived.Test.YtmmldghlellehaaDoorE2
import Derived.Test.YtmmldghlellehaaDoorFltF
namespace Go.Proofs.YtmmldghlellehaaDoor
open Go.RowKit Ieee

theorem rd_hi : double.read 4890909195324358656 = .number false 4503599627370496 11 := by decide
theorem rd_lo : double.read 14114281232179134464 = .number true 4503599627370496 11 := by decide

theorem pow_split : (4503599627370496 : Nat) * 2 ^ ((11 : Int) + 1074).toNat = 9223372036854775808 * 2 ^ 1074 := by
  generalize hK : (1074 : Nat) = K
  rw [show ((11 : Int) + 1074).toNat = 11 + K by omega, Nat.pow_add]
  omega

theorem natAbs_signed (s : Bool) (M : Nat) : (signed s M 0).natAbs = M := by cases s <;> simp [signed]

theorem swap_compare (a b : Int) : compare b a = (compare a b).swap := by
  rcases Int.lt_trichotomy a b with h | h | h
  · rw [Int.compare_eq_lt.2 h, Int.compare_eq_gt.2 h]; rfl
  · subst h; simp
  · rw [Int.compare_eq_gt.2 h, Int.compare_eq_lt.2 h]; rfl

/-- the nearest float of a float's whole part lies to it as the whole part does -/
theorem near_whole {x : Nat} {s t : Bool} {m M : Nat} {p : Int} (hr : double.read x = .number s m p) (lo : -1074 ≤ p) (hW : Flt.Whole t M (double.nearest t M 0)) :
    ∃ q, floatOfInt .f64 (signed t M 0) = q ∧ q < 18446744073709551616 ∧ Flt.fin q = true ∧ double.order x q = some (compare (Flt.unit s m p) (signed t M 1074)) := by
  by_cases h0 : M = 0
  · subst h0
    have hw := Flt.whole_small false (M := 0) (by omega)
    have e : floatOfInt .f64 (signed t 0 0) = double.nearest false 0 0 := by cases t <;> rfl
    refine ⟨_, e, hw.lt, hw.fin, ?_⟩
    rw [(Flt.order_whole hr lo hw).1]
    have z1 : ∀ t, signed t 0 1074 = 0 := fun t => by cases t <;> simp [signed]
    rw [z1, z1]
  · have hs : decide (signed t M 0 < 0) = t := by
      cases t
      · rw [decide_eq_false_iff_not]; simp only [signed, Nat.shiftLeft_zero, Bool.false_eq_true, if_false]; omega
      · rw [decide_eq_true_eq]; simp only [signed, Nat.shiftLeft_zero, if_true]; omega
    refine ⟨_, by rw [foi, hs, natAbs_signed], hW.lt, hW.fin, (Flt.order_whole hr lo hW).1⟩

theorem range_whole {s : Bool} {m M : Nat} {p : Int} (hle : M * 2 ^ 1074 ≤ m * 2 ^ (p + 1074).toNat) (h1 : Flt.unit s m p < signed false 9223372036854775808 1074) (h2 : signed true 9223372036854775808 1074 ≤ Flt.unit s m p) : -9223372036854775808 ≤ signed s M 0 ∧ signed s M 0 ≤ 9223372036854775807 := by
  unfold Flt.unit signed at *
  simp only [Nat.shiftLeft_eq] at *
  have hP := Nat.two_pow_pos 1074
  generalize 2 ^ 1074 = P at *
  generalize m * 2 ^ (p + 1074).toNat = U at *
  rw [Nat.pow_zero, Nat.mul_one]
  cases s
  · simp only [Bool.false_eq_true, if_false, if_true] at *
    have : M * P < 9223372036854775808 * P := by omega
    have := Nat.lt_of_mul_lt_mul_right this
    omega
  · simp only [Bool.false_eq_true, if_false, if_true] at *
    have : M * P ≤ 9223372036854775808 * P := by omega
    have := Nat.le_of_mul_le_mul_right this hP
    omega

theorem integral_by (x : Nat) : ∃ G : Bool → Nat → Sem Value, Extern.MathFloor.toIntegral "math.archTrunc" .zero #[.float .f64 x] = (match FloatKind.f64.decode x with | .nan s t => G s t | d => pure (.float .f64 (FloatKind.f64.encode (d.integral .zero)))) := ⟨_, rfl⟩

theorem exact_both (x : Nat) (n : Int) (hx : x < 18446744073709551616) : ∃ r, (∀ w, Calls Tryd.prog 30 #[.float .f64 x, .int .i64 n] w fun e w' => e = .returned (.int .i64 r) ∧ w' = w) ∧ ∀ w, Calls Tryd.prog 31 #[.float .f64 x, .int .i64 n] w fun e w' => e = .returned (.int .i64 r) ∧ w' = w := by
  by_cases hf : Flt.fin x = true
  · obtain ⟨s, m, p, M, hr, lo, hi, ht, hW, hle⟩ := Flt.whole_part hx hf
    have o1 : FloatKind.f64.format.order x x = some .eq := by
      show double.order x x = _
      unfold Format.order; rw [hr, Flt.order_unit _ _ _ _ lo lo]; simp
    have e2 : double.order x 4890909195324358656 = some (compare (Flt.unit s m p) (signed false 9223372036854775808 1074)) := by
      unfold Format.order; rw [hr, rd_hi, Flt.order_unit _ _ _ _ lo (by omega), Flt.unit_whole pow_split]
    have e3 : double.order x 14114281232179134464 = some (compare (Flt.unit s m p) (signed true 9223372036854775808 1074)) := by
      unfold Format.order; rw [hr, rd_lo, Flt.order_unit _ _ _ _ lo (by omega), Flt.unit_whole pow_split]
    by_cases h1 : Flt.unit s m p < signed false 9223372036854775808 1074
    · have o2 : FloatKind.f64.format.order x 4890909195324358656 = some .lt := by rw [Int.compare_eq_lt.2 h1] at e2; exact e2
      by_cases h2 : Flt.unit s m p < signed true 9223372036854775808 1074
      · have o3 : FloatKind.f64.format.order x 14114281232179134464 = some .lt := by rw [Int.compare_eq_lt.2 h2] at e3; exact e3
        exact ⟨_, exact_low x n o1 o2 o3, refExact_low x n o1 o2 o3⟩
      · have o3 : FloatKind.f64.format.order x 14114281232179134464 = some .gt ∨ FloatKind.f64.format.order x 14114281232179134464 = some .eq := by
          rcases Int.lt_or_eq_of_le (Int.not_lt.1 h2) with h | h
          · rw [Int.compare_eq_gt.2 h] at e3; exact Or.inl e3
          · rw [Int.compare_eq_eq.2 h.symm] at e3; exact Or.inr e3
        have hrg := range_whole hle h1 (Int.not_lt.1 h2)
        obtain ⟨q, hq, ql, qf, qo⟩ := near_whole hr lo hW
        obtain ⟨d, hd, hdo⟩ := Flt.sub_order hx ql hf qf
        have oz := Flt.order_whole hr lo hW
        have zz : double.order (double.nearest s M 0) (double.nearest s M 0) = some .eq := by
          obtain ⟨m', p', hr', lo', _⟩ := hW.read
          unfold Format.order; rw [hr', Flt.order_unit _ _ _ _ lo' lo']; simp
        have t0 : Extern.MathFloor.toIntegral "math.archTrunc" .zero #[.float .f64 x] = pure (.float .f64 (double.nearest s M 0)) := by
          obtain ⟨G, hG⟩ := integral_by x
          have hdc : FloatKind.f64.decode x = .number s m p := hr
          rw [hr] at hi
          rw [hG, hdc]
          show pure (Value.float .f64 (FloatKind.f64.encode ((Datum.number s m p).integral .zero))) = _
          rw [hi]
          rfl
        have cz : ∀ z, (double.read z).toInt .zero = some (signed s M 0) → ∀ w, (convert 24 2 (.float .f64 z)).run Tryd.prog w = .ok (.int .i64 (signed s M 0)) w := fun z hz w => run_convert_float_int w 24 2 .f64 .i64 z _ (by rw [Tryd.underlying24]; rfl) Tryd.underlying2 (by
          have hz' : (FloatKind.f64.decode z).toInt .zero = some (signed s M 0) := hz
          unfold floatToIntVal
          rw [hz']
          exact if_pos hrg)
        have oz2 := oz.2
        rw [swap_compare (Flt.unit s m p) (signed s M 1074)] at oz2
        exact ⟨_, exact_mid x _ _ n _ o1 o2 o3 t0 (cz _ hW.toInt) zz oz.1 oz2, refExact_mid x d q _ n _ o1 o2 o3 (cz _ ht) hq hd (hdo.trans qo)⟩
    · have o2 : FloatKind.f64.format.order x 4890909195324358656 = some .gt ∨ FloatKind.f64.format.order x 4890909195324358656 = some .eq := by
        rcases Int.lt_or_eq_of_le (Int.not_lt.1 h1) with h | h
        · rw [Int.compare_eq_gt.2 h] at e2; exact Or.inl e2
        · rw [Int.compare_eq_eq.2 h.symm] at e2; exact Or.inr e2
      exact ⟨_, exact_high x n o1 o2, refExact_high x n o1 o2⟩
  · rcases Flt.read_not (by simpa using hf) with ⟨s, hr⟩ | ⟨s, t, hr⟩
    · have o1 : FloatKind.f64.format.order x x = some .eq := by
        show double.order x x = _
        unfold Format.order; rw [hr]; simp [Datum.order]
      have e2 : double.order x 4890909195324358656 = some (if s then .lt else .gt) := by
        unfold Format.order; rw [hr, rd_hi]; rfl
      have e3 : double.order x 14114281232179134464 = some (if s then .lt else .gt) := by
        unfold Format.order; rw [hr, rd_lo]; rfl
      cases s
      · exact ⟨_, exact_high x n o1 (Or.inl e2), refExact_high x n o1 (Or.inl e2)⟩
      · exact ⟨_, exact_low x n o1 e2 e3, refExact_low x n o1 e2 e3⟩
    · have o1 : FloatKind.f64.format.order x x = none := by
        show double.order x x = _
        unfold Format.order; rw [hr]; rfl
      exact ⟨_, exact_nan x n o1, refExact_nan x n o1⟩

end Go.Proofs.YtmmldghlellehaaDoor
