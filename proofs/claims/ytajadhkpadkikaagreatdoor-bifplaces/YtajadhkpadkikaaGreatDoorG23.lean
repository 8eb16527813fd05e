import Derived.Test.YtajadhkpadkikaaGreatDoorG11
import Derived.Test.YtajadhkpadkikaaGreatDoorG22
/- The program's Exact walked, over plain facts on the float: its order against the ends of the whole numbers, what is left of it when it is made whole. -/
namespace Go.Proofs.YtajadhkpadkikaaGreatDoor
open Go.RowKit
open Flt (ordI exactV)


theorem isNaN_int (x : Int) (w : World) : Calls Tryz.prog 202 #[.int .i64 x] w fun e w' => e = .returned (.bool false) ∧ w' = w := by
  go_enter Tryz.func202, Tryz.ntmps202
  go_wp2
  go_ret
  exact ⟨rfl, rfl⟩

theorem compare_ints (x y : Int) (w : World) : Calls Tryz.prog 166 #[.int .i64 x, .int .i64 y] w fun e w' => e = .returned (.int .i64 (if x < y then -1 else if y < x then 1 else 0)) ∧ w' = w := by
  rcases Int.lt_trichotomy x y with h | h | h
  · have d : decide (x < y) = true := by simpa using h
    rw [if_pos h]
    clear h
    go_enter Tryz.func166, Tryz.ntmps166
    go_wp2_with (go_at_call 202; refine (isNaN_int _ _).mono ?_; rintro e w' ⟨rfl, rfl⟩)
    go_ret
    exact ⟨rfl, rfl⟩
  · subst h
    rw [if_neg (by omega), if_neg (by omega)]
    go_enter Tryz.func166, Tryz.ntmps166
    go_wp2_with (go_at_call 202; refine (isNaN_int _ _).mono ?_; rintro e w' ⟨rfl, rfl⟩)
    go_ret
    exact ⟨rfl, rfl⟩
  · have d : decide (x < y) = false := by rw [decide_eq_false_iff_not]; omega
    have d2 : decide (y < x) = true := by simpa using h
    rw [if_neg (by omega), if_pos h]
    clear h
    go_enter Tryz.func166, Tryz.ntmps166
    go_wp2_with (go_at_call 202; refine (isNaN_int _ _).mono ?_; rintro e w' ⟨rfl, rfl⟩)
    go_ret
    exact ⟨rfl, rfl⟩

set_option maxRecDepth 100000 in
theorem trunc_to (x y : Nat) (hr : Extern.MathFloor.toIntegral "math.archTrunc" .zero #[.float .f64 x] = pure (.float .f64 y)) (w : World) : Calls Tryz.prog 164 #[.float .f64 x] w fun e w' => e = .returned (.float .f64 y) ∧ w' = w := by
  have hx : ∀ w, (callFunc 200 #[.float .f64 x]).run Tryz.prog w = .ok (.value (.float .f64 y)) w := fun w => by
    rw [run_callFunc_extern Tryz.func200 (by kernel_rfl) (by kernel_rfl) (by kernel_rfl) (e := Extern.MathFloor.toIntegral "math.archTrunc" .zero) (by kernel_rfl), hr]
    rfl
  clear hr
  go_enter Tryz.func164, Tryz.ntmps164
  go_wp2
  go_ret
  exact ⟨rfl, rfl⟩

theorem exact_nan (x : Nat) (n : Int) (o1 : FloatKind.f64.format.order x x = none) (w : World) : Calls Tryz.prog 137 #[.float .f64 x, .int .i64 n] w fun e w' => e = .returned (.int .i64 2) ∧ w' = w := by
  go_enter Tryz.func137, Tryz.ntmps137
  go_wp2_with (go_at_call 165; go_in)
  go_ret
  exact ⟨rfl, rfl⟩

theorem exact_high (x : Nat) (n : Int) (o1 : FloatKind.f64.format.order x x = some .eq) (o2 : FloatKind.f64.format.order x 4890909195324358656 = some .gt ∨ FloatKind.f64.format.order x 4890909195324358656 = some .eq) (w : World) : Calls Tryz.prog 137 #[.float .f64 x, .int .i64 n] w fun e w' => e = .returned (.int .i64 1) ∧ w' = w := by
  rcases o2 with o2 | o2
  all_goals
    go_enter Tryz.func137, Tryz.ntmps137
    go_wp2_with (go_at_call 165; go_in)
    go_ret
    exact ⟨rfl, rfl⟩

theorem exact_low (x : Nat) (n : Int) (o1 : FloatKind.f64.format.order x x = some .eq) (o2 : FloatKind.f64.format.order x 4890909195324358656 = some .lt) (o3 : FloatKind.f64.format.order x 14114281232179134464 = some .lt) (w : World) : Calls Tryz.prog 137 #[.float .f64 x, .int .i64 n] w fun e w' => e = .returned (.int .i64 (-1)) ∧ w' = w := by
  go_enter Tryz.func137, Tryz.ntmps137
  go_wp2_with (go_at_call 165; go_in)
  go_ret
  exact ⟨rfl, rfl⟩



theorem hidE {p : Prop} (h : p) : Hid p := h

theorem compare_floats (x y : Nat) (o : Ordering) (h1 : FloatKind.f64.format.order x x = some .eq) (h2 : FloatKind.f64.format.order y y = some .eq) (h3 : FloatKind.f64.format.order x y = some o) (h4 : FloatKind.f64.format.order y x = some o.swap) (w : World) :
    Calls Tryz.prog 167 #[.float .f64 x, .float .f64 y] w fun e w' => e = .returned (.int .i64 (ordI o)) ∧ w' = w := by
  cases o
  all_goals
    simp only [Ordering.swap] at h4
    go_enter Tryz.func167, Tryz.ntmps167
    go_wp2
    go_ret
    exact ⟨rfl, rfl⟩

theorem exact_mid (x z : Nat) (v n : Int) (o : Ordering) (o1 : FloatKind.f64.format.order x x = some .eq) (o2 : FloatKind.f64.format.order x 4890909195324358656 = some .lt) (o3 : FloatKind.f64.format.order x 14114281232179134464 = some .gt ∨ FloatKind.f64.format.order x 14114281232179134464 = some .eq)
    (t0 : Extern.MathFloor.toIntegral "math.archTrunc" .zero #[.float .f64 x] = pure (.float .f64 z)) (c0 : ∀ w, (convert 22 2 (.float .f64 z)).run Tryz.prog w = .ok (.int .i64 v) w)
    (h2 : FloatKind.f64.format.order z z = some .eq) (h3 : FloatKind.f64.format.order x z = some o) (h4 : FloatKind.f64.format.order z x = some o.swap) (w : World) : Calls Tryz.prog 137 #[.float .f64 x, .int .i64 n] w fun e w' => e = .returned (.int .i64 (exactV v n o)) ∧ w' = w := by
  have CF := hidE (compare_floats x z o o1 h2 h3 h4)
  clear h2 h3 h4
  have T0 := hidE t0
  clear t0
  rcases Int.lt_trichotomy v n with h | h | h
  · have ev : exactV v n o = -1 := by rw [exactV, if_pos h]
    have cv : (if v < n then (-1 : Int) else if n < v then 1 else 0) = -1 := by rw [if_pos h]
    rw [ev]
    clear h ev
    rcases o3 with o3 | o3
    all_goals
      go_enter Tryz.func137, Tryz.ntmps137
      go_wp2_with (first
        | (go_at_call 165; go_in)
        | (go_at_call 164; refine (trunc_to _ _ T0.out _).mono ?_; rintro e w' ⟨rfl, rfl⟩)
        | (go_at_call 166; refine (compare_ints _ _ _).mono ?_; rw [cv]; rintro e w' ⟨rfl, rfl⟩))
      go_ret
      exact ⟨rfl, rfl⟩
  · subst h
    have ev : exactV v v o = ordI o := by rw [exactV, if_neg (by omega), if_neg (by omega)]
    have cv : (if v < v then (-1 : Int) else if v < v then 1 else 0) = 0 := by rw [if_neg (by omega), if_neg (by omega)]
    rw [ev]
    clear ev
    rcases o3 with o3 | o3
    all_goals
      go_enter Tryz.func137, Tryz.ntmps137
      go_wp2_with (first
        | (go_at_call 165; go_in)
        | (go_at_call 164; refine (trunc_to _ _ T0.out _).mono ?_; rintro e w' ⟨rfl, rfl⟩)
        | (go_at_call 166; refine (compare_ints _ _ _).mono ?_; rw [cv]; rintro e w' ⟨rfl, rfl⟩)
        | (go_at_call 167; refine (CF.out _).mono ?_; rintro e w' ⟨rfl, rfl⟩))
      go_ret
      exact ⟨rfl, rfl⟩
  · have ev : exactV v n o = 1 := by rw [exactV, if_neg (by omega), if_pos h]
    have cv : (if v < n then (-1 : Int) else if n < v then 1 else 0) = 1 := by rw [if_neg (by omega), if_pos h]
    rw [ev]
    clear h ev
    rcases o3 with o3 | o3
    all_goals
      go_enter Tryz.func137, Tryz.ntmps137
      go_wp2_with (first
        | (go_at_call 165; go_in)
        | (go_at_call 164; refine (trunc_to _ _ T0.out _).mono ?_; rintro e w' ⟨rfl, rfl⟩)
        | (go_at_call 166; refine (compare_ints _ _ _).mono ?_; rw [cv]; rintro e w' ⟨rfl, rfl⟩))
      go_ret
      exact ⟨rfl, rfl⟩

end Go.Proofs.YtajadhkpadkikaaGreatDoor


/- The program's Exact on a finite float: how the float's value lies to the whole number. -/
namespace Go.Proofs.YtajadhkpadkikaaGreatDoor
open Go.RowKit Ieee
open Flt (ordI exactV)

theorem rd_hi : double.read 4890909195324358656 = .number false 4503599627370496 11 := by decide
theorem rd_lo : double.read 14114281232179134464 = .number true 4503599627370496 11 := by decide

theorem pow_split : (4503599627370496 : Nat) * 2 ^ ((11 : Int) + 1074).toNat = 9223372036854775808 * 2 ^ 1074 := by
  generalize hK : (1074 : Nat) = K
  rw [show ((11 : Int) + 1074).toNat = 11 + K by omega, Nat.pow_add]
  omega

theorem swap_compare (a b : Int) : compare b a = (compare a b).swap := by
  rcases Int.lt_trichotomy a b with h | h | h
  · rw [Int.compare_eq_lt.2 h, Int.compare_eq_gt.2 h]; rfl
  · subst h; simp
  · rw [Int.compare_eq_gt.2 h, Int.compare_eq_lt.2 h]; rfl

theorem U_hi : Flt.U 4890909195324358656 = 9223372036854775808 * Flt.P := by
  rw [Flt.U_of rd_hi, Flt.unit_whole pow_split, Flt.signed_P]; rfl
theorem U_lo : Flt.U 14114281232179134464 = -9223372036854775808 * Flt.P := by
  rw [Flt.U_of rd_lo, Flt.unit_whole pow_split, Flt.signed_P]; rfl

theorem integral_by (x : Nat) : ∃ G : Bool → Nat → Sem Value, Extern.MathFloor.toIntegral "math.archTrunc" .zero #[.float .f64 x] = (match FloatKind.f64.decode x with | .nan s t => G s t | d => pure (.float .f64 (FloatKind.f64.encode (d.integral .zero)))) := ⟨_, rfl⟩

/-- how a value lies among the ends of int64 -/
theorem mul_lt {a b : Int} : a * Flt.P < b * Flt.P ↔ a < b := by
  constructor
  · intro h; exact Int.lt_of_mul_lt_mul_right h (Int.le_of_lt Flt.P_pos)
  · intro h; exact Int.mul_lt_mul_of_pos_right h Flt.P_pos

theorem mul_le {a b : Int} : a * Flt.P ≤ b * Flt.P ↔ a ≤ b := by
  have := mul_lt (a := b) (b := a)
  omega

theorem compare_P (a b : Int) : compare (a * Flt.P) (b * Flt.P) = compare a b := Flt.compare_mul Flt.P_pos

/-- a float made an int64, where it lies among them -/
theorem cv_int {z : Nat} {v : Int} (hz : (double.read z).toInt .zero = some v) (h1 : -9223372036854775808 ≤ v) (h2 : v ≤ 9223372036854775807) (w : World) : (convert 22 2 (.float .f64 z)).run Tryz.prog w = .ok (.int .i64 v) w :=
  run_convert_float_int w 22 2 .f64 .i64 z _ (by rw [Tryz.underlying22]; rfl) Tryz.underlying2 (by
    have hz' : (FloatKind.f64.decode z).toInt .zero = some v := hz
    unfold floatToIntVal
    rw [hz']
    exact if_pos ⟨h1, h2⟩)

theorem exact_val (x : Nat) (n : Int) (hx : x < 18446744073709551616) (hf : Flt.fin x = true) (n1 : -9223372036854775808 ≤ n) (n2 : n ≤ 9223372036854775807) (w : World) :
    Calls Tryz.prog 137 #[.float .f64 x, .int .i64 n] w fun e w' => e = .returned (.int .i64 (ordI (compare (Flt.U x) (n * Flt.P)))) ∧ w' = w := by
  have hP := Flt.P_pos
  have o1 : FloatKind.f64.format.order x x = some .eq := by
    show double.order x x = _
    rw [Flt.order_U hx hx hf hf]; simp
  have e2 : double.order x 4890909195324358656 = some (compare (Flt.U x) (9223372036854775808 * Flt.P)) := by
    rw [Flt.order_U hx (by decide) hf (by decide), U_hi]
  have e3 : double.order x 14114281232179134464 = some (compare (Flt.U x) (-9223372036854775808 * Flt.P)) := by
    rw [Flt.order_U hx (by decide) hf (by decide), U_lo]
  have b1 : -9223372036854775808 * Flt.P ≤ n * Flt.P := mul_le.2 n1
  have b2 : n * Flt.P < 9223372036854775808 * Flt.P := mul_lt.2 (by omega)
  by_cases h1 : Flt.U x < 9223372036854775808 * Flt.P
  · have o2 : FloatKind.f64.format.order x 4890909195324358656 = some .lt := by rw [Int.compare_eq_lt.2 h1] at e2; exact e2
    by_cases h2 : Flt.U x < -9223372036854775808 * Flt.P
    · have o3 : FloatKind.f64.format.order x 14114281232179134464 = some .lt := by rw [Int.compare_eq_lt.2 h2] at e3; exact e3
      rw [Int.compare_eq_lt.2 (by omega)]
      exact exact_low x n o1 o2 o3 w
    · have o3 : FloatKind.f64.format.order x 14114281232179134464 = some .gt ∨ FloatKind.f64.format.order x 14114281232179134464 = some .eq := by
        rcases Int.lt_or_eq_of_le (Int.not_lt.1 h2) with h | h
        · rw [Int.compare_eq_gt.2 h] at e3; exact Or.inl e3
        · rw [Int.compare_eq_eq.2 h.symm] at e3; exact Or.inr e3
      obtain ⟨s, m, p, M, hr, lo, hi, ht, hW, hle⟩ := Flt.whole_part hx hf
      have hM : signed s M 0 = signed s (m * 2 ^ p.toNat / 2 ^ (-p).toNat) 0 := by
        rw [hr, Flt.toInt_part] at ht
        exact (Option.some.inj ht).symm
      have hM2 : M = m * 2 ^ p.toNat / 2 ^ (-p).toNat := by
        cases s
        · simp only [signed, Nat.shiftLeft_zero, Bool.false_eq_true, if_false] at hM; omega
        · simp only [signed, Nat.shiftLeft_zero, if_true] at hM; omega
      have hgt := (Flt.part_bounds m lo).2
      rw [← hM2] at hgt
      have hU := Flt.U_of hr
      have hrg : -9223372036854775808 ≤ signed s M 0 ∧ signed s M 0 ≤ 9223372036854775807 := by
        rw [hU] at h1 h2
        have a1 : ((M : Int) * Flt.P) ≤ ((m * 2 ^ (p + 1074).toNat : Nat) : Int) := by
          have := Int.ofNat_le.2 hle
          rw [Int.natCast_mul M] at this
          exact this
        have eu : Flt.unit s m p = if s then -((m * 2 ^ (p + 1074).toNat : Nat) : Int) else ((m * 2 ^ (p + 1074).toNat : Nat) : Int) := by
          unfold Flt.unit signed; simp only [Nat.shiftLeft_eq]
        rw [eu] at h1 h2
        generalize ((m * 2 ^ (p + 1074).toNat : Nat) : Int) = V at *
        unfold signed
        simp only [Nat.shiftLeft_zero]
        cases s
        · simp only [Bool.false_eq_true, if_false] at *
          have : (M : Int) * Flt.P < 9223372036854775808 * Flt.P := by omega
          have := mul_lt.1 this
          omega
        · simp only [if_true] at *
          have : (M : Int) * Flt.P ≤ 9223372036854775808 * Flt.P := by
            have : -9223372036854775808 * Flt.P = -(9223372036854775808 * Flt.P) := Int.neg_mul _ _
            omega
          have := mul_le.1 this
          omega
      have oz := Flt.order_whole hr lo hW
      have zz : double.order (double.nearest s M 0) (double.nearest s M 0) = some .eq := by
        rw [Flt.order_U hW.lt hW.lt hW.fin hW.fin]; simp
      have t0 : Extern.MathFloor.toIntegral "math.archTrunc" .zero #[.float .f64 x] = pure (.float .f64 (double.nearest s M 0)) := by
        obtain ⟨G, hG⟩ := integral_by x
        have hdc : FloatKind.f64.decode x = .number s m p := hr
        rw [hr] at hi
        rw [hG, hdc]
        show pure (Value.float .f64 (FloatKind.f64.encode ((Datum.number s m p).integral .zero))) = _
        rw [hi]
        rfl
      have oz2 := oz.2
      rw [swap_compare (Flt.unit s m p) (signed s M 1074)] at oz2
      have := exact_mid x _ _ n _ o1 o2 o3 t0 (cv_int hW.toInt hrg.1 hrg.2) zz oz.1 oz2 w
      rw [Flt.exact_value n hle hgt, ← hU] at this
      exact this
  · have o2 : FloatKind.f64.format.order x 4890909195324358656 = some .gt ∨ FloatKind.f64.format.order x 4890909195324358656 = some .eq := by
      rcases Int.lt_or_eq_of_le (Int.not_lt.1 h1) with h | h
      · rw [Int.compare_eq_gt.2 h] at e2; exact Or.inl e2
      · rw [Int.compare_eq_eq.2 h.symm] at e2; exact Or.inr e2
    rw [Int.compare_eq_gt.2 (by omega)]
    exact exact_high x n o1 o2 w
end Go.Proofs.YtajadhkpadkikaaGreatDoor


