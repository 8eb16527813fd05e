import Derived.Test.YtgljglindgbjaaaGreatDoorG03
import Derived.Test.YtgljglindgbjaaaGreatDoorG11
import Derived.Test.YtgljglindgbjaaaGreatDoorG06
import Derived.Deep.DrawnRows
/- The program's Exact walked, over plain facts on the float: its order against the ends of the whole numbers, what is left of it when it is made whole. -/
namespace Go.Proofs.YtgljglindgbjaaaGreatDoor
open Go.RowKit
open Flt (ordI exactV)


theorem isNaN_int (x : Int) (w : World) : Calls Tryz.prog 220 #[.int .i64 x] w fun e w' => e = .returned (.bool false) ∧ w' = w := by
  go_enter Tryz.func220, Tryz.ntmps220
  go_wp2
  go_ret
  exact ⟨rfl, rfl⟩

theorem compare_ints (x y : Int) (w : World) : Calls Tryz.prog 183 #[.int .i64 x, .int .i64 y] w fun e w' => e = .returned (.int .i64 (if x < y then -1 else if y < x then 1 else 0)) ∧ w' = w := by
  rcases Int.lt_trichotomy x y with h | h | h
  · have d : decide (x < y) = true := by simpa using h
    rw [if_pos h]
    clear h
    go_enter Tryz.func183, Tryz.ntmps183
    go_wp2_with (go_at_call 220; refine (isNaN_int _ _).mono ?_; rintro e w' ⟨rfl, rfl⟩)
    go_ret
    exact ⟨rfl, rfl⟩
  · subst h
    rw [if_neg (by omega), if_neg (by omega)]
    go_enter Tryz.func183, Tryz.ntmps183
    go_wp2_with (go_at_call 220; refine (isNaN_int _ _).mono ?_; rintro e w' ⟨rfl, rfl⟩)
    go_ret
    exact ⟨rfl, rfl⟩
  · have d : decide (x < y) = false := by rw [decide_eq_false_iff_not]; omega
    have d2 : decide (y < x) = true := by simpa using h
    rw [if_neg (by omega), if_pos h]
    clear h
    go_enter Tryz.func183, Tryz.ntmps183
    go_wp2_with (go_at_call 220; refine (isNaN_int _ _).mono ?_; rintro e w' ⟨rfl, rfl⟩)
    go_ret
    exact ⟨rfl, rfl⟩

set_option maxRecDepth 100000 in
theorem trunc_to (x y : Nat) (hr : Extern.MathFloor.toIntegral "math.archTrunc" .zero #[.float .f64 x] = pure (.float .f64 y)) (w : World) : Calls Tryz.prog 181 #[.float .f64 x] w fun e w' => e = .returned (.float .f64 y) ∧ w' = w := by
  have hx : ∀ w, (callFunc 218 #[.float .f64 x]).run Tryz.prog w = .ok (.value (.float .f64 y)) w := fun w => by
    rw [run_callFunc_extern Tryz.func218 (by kernel_rfl) (by kernel_rfl) (by kernel_rfl) (e := Extern.MathFloor.toIntegral "math.archTrunc" .zero) (by kernel_rfl), hr]
    rfl
  clear hr
  go_enter Tryz.func181, Tryz.ntmps181
  go_wp2
  go_ret
  exact ⟨rfl, rfl⟩

theorem exact_nan (x : Nat) (n : Int) (o1 : FloatKind.f64.format.order x x = none) (w : World) : Calls Tryz.prog 154 #[.float .f64 x, .int .i64 n] w fun e w' => e = .returned (.int .i64 2) ∧ w' = w := by
  go_enter Tryz.func154, Tryz.ntmps154
  go_wp2_with (go_at_call 182; go_in)
  go_ret
  exact ⟨rfl, rfl⟩

theorem exact_high (x : Nat) (n : Int) (o1 : FloatKind.f64.format.order x x = some .eq) (o2 : FloatKind.f64.format.order x 4890909195324358656 = some .gt ∨ FloatKind.f64.format.order x 4890909195324358656 = some .eq) (w : World) : Calls Tryz.prog 154 #[.float .f64 x, .int .i64 n] w fun e w' => e = .returned (.int .i64 1) ∧ w' = w := by
  rcases o2 with o2 | o2
  all_goals
    go_enter Tryz.func154, Tryz.ntmps154
    go_wp2_with (go_at_call 182; go_in)
    go_ret
    exact ⟨rfl, rfl⟩

theorem exact_low (x : Nat) (n : Int) (o1 : FloatKind.f64.format.order x x = some .eq) (o2 : FloatKind.f64.format.order x 4890909195324358656 = some .lt) (o3 : FloatKind.f64.format.order x 14114281232179134464 = some .lt) (w : World) : Calls Tryz.prog 154 #[.float .f64 x, .int .i64 n] w fun e w' => e = .returned (.int .i64 (-1)) ∧ w' = w := by
  go_enter Tryz.func154, Tryz.ntmps154
  go_wp2_with (go_at_call 182; go_in)
  go_ret
  exact ⟨rfl, rfl⟩



theorem hidE {p : Prop} (h : p) : Hid p := h

theorem compare_floats (x y : Nat) (o : Ordering) (h1 : FloatKind.f64.format.order x x = some .eq) (h2 : FloatKind.f64.format.order y y = some .eq) (h3 : FloatKind.f64.format.order x y = some o) (h4 : FloatKind.f64.format.order y x = some o.swap) (w : World) :
    Calls Tryz.prog 184 #[.float .f64 x, .float .f64 y] w fun e w' => e = .returned (.int .i64 (ordI o)) ∧ w' = w := by
  cases o
  all_goals
    simp only [Ordering.swap] at h4
    go_enter Tryz.func184, Tryz.ntmps184
    go_wp2
    go_ret
    exact ⟨rfl, rfl⟩

theorem exact_mid (x z : Nat) (v n : Int) (o : Ordering) (o1 : FloatKind.f64.format.order x x = some .eq) (o2 : FloatKind.f64.format.order x 4890909195324358656 = some .lt) (o3 : FloatKind.f64.format.order x 14114281232179134464 = some .gt ∨ FloatKind.f64.format.order x 14114281232179134464 = some .eq)
    (t0 : Extern.MathFloor.toIntegral "math.archTrunc" .zero #[.float .f64 x] = pure (.float .f64 z)) (c0 : ∀ w, (convert 25 2 (.float .f64 z)).run Tryz.prog w = .ok (.int .i64 v) w)
    (h2 : FloatKind.f64.format.order z z = some .eq) (h3 : FloatKind.f64.format.order x z = some o) (h4 : FloatKind.f64.format.order z x = some o.swap) (w : World) : Calls Tryz.prog 154 #[.float .f64 x, .int .i64 n] w fun e w' => e = .returned (.int .i64 (exactV v n o)) ∧ w' = w := by
  have CF := hidE (compare_floats x z o o1 h2 h3 h4)
  clear h2 h3 h4
  have T0 := hidE t0
  clear t0
  rcases Int.lt_trichotomy v n with h | h | h
  · have ev : exactV v n o = -1 := by rw [exactV, if_pos h]
    have cv : (if v < n then (-1 : Int) else if n < v then 1 else 0) = -1 := by rw [if_pos h]
    rw [ev]
    clear h ev
    rcases o3 with o3 | o3
    all_goals
      go_enter Tryz.func154, Tryz.ntmps154
      go_wp2_with (first
        | (go_at_call 182; go_in)
        | (go_at_call 181; refine (trunc_to _ _ T0.out _).mono ?_; rintro e w' ⟨rfl, rfl⟩)
        | (go_at_call 183; refine (compare_ints _ _ _).mono ?_; rw [cv]; rintro e w' ⟨rfl, rfl⟩))
      go_ret
      exact ⟨rfl, rfl⟩
  · subst h
    have ev : exactV v v o = ordI o := by rw [exactV, if_neg (by omega), if_neg (by omega)]
    have cv : (if v < v then (-1 : Int) else if v < v then 1 else 0) = 0 := by rw [if_neg (by omega), if_neg (by omega)]
    rw [ev]
    clear ev
    rcases o3 with o3 | o3
    all_goals
      go_enter Tryz.func154, Tryz.ntmps154
      go_wp2_with (first
        | (go_at_call 182; go_in)
        | (go_at_call 181; refine (trunc_to _ _ T0.out _).mono ?_; rintro e w' ⟨rfl, rfl⟩)
        | (go_at_call 183; refine (compare_ints _ _ _).mono ?_; rw [cv]; rintro e w' ⟨rfl, rfl⟩)
        | (go_at_call 184; refine (CF.out _).mono ?_; rintro e w' ⟨rfl, rfl⟩))
      go_ret
      exact ⟨rfl, rfl⟩
  · have ev : exactV v n o = 1 := by rw [exactV, if_neg (by omega), if_pos h]
    have cv : (if v < n then (-1 : Int) else if n < v then 1 else 0) = 1 := by rw [if_neg (by omega), if_pos h]
    rw [ev]
    clear h ev
    rcases o3 with o3 | o3
    all_goals
      go_enter Tryz.func154, Tryz.ntmps154
      go_wp2_with (first
        | (go_at_call 182; go_in)
        | (go_at_call 181; refine (trunc_to _ _ T0.out _).mono ?_; rintro e w' ⟨rfl, rfl⟩)
        | (go_at_call 183; refine (compare_ints _ _ _).mono ?_; rw [cv]; rintro e w' ⟨rfl, rfl⟩))
      go_ret
      exact ⟨rfl, rfl⟩

end Go.Proofs.YtgljglindgbjaaaGreatDoor


/- The program's Exact on a finite float: how the float's value lies to the whole number. -/
namespace Go.Proofs.YtgljglindgbjaaaGreatDoor
open Go.RowKit Ieee
open Flt (ordI exactV)

theorem rd_hi : double.read 4890909195324358656 = .number false 4503599627370496 11 := by decide
theorem rd_lo : double.read 14114281232179134464 = .number true 4503599627370496 11 := by decide

theorem pow_split : (4503599627370496 : Nat) * 2 ^ ((11 : Int) + 1074).toNat = 9223372036854775808 * 2 ^ 1074 := by
  generalize hK : (1074 : Nat) = K
  rw [show ((11 : Int) + 1074).toNat = 11 + K by omega, Nat.pow_add]
  omega

theorem swap_compare (a b : Int) : compare b a = (compare a b).swap := by
  rcases Int.lt_trichotomy a b with h | h | h
  · rw [Int.compare_eq_lt.2 h, Int.compare_eq_gt.2 h]; rfl
  · subst h; simp
  · rw [Int.compare_eq_gt.2 h, Int.compare_eq_lt.2 h]; rfl

theorem U_hi : Flt.U 4890909195324358656 = 9223372036854775808 * Flt.P := by
  rw [Flt.U_of rd_hi, Flt.unit_whole pow_split, Flt.signed_P]; rfl
theorem U_lo : Flt.U 14114281232179134464 = -9223372036854775808 * Flt.P := by
  rw [Flt.U_of rd_lo, Flt.unit_whole pow_split, Flt.signed_P]; rfl

theorem integral_by (x : Nat) : ∃ G : Bool → Nat → Sem Value, Extern.MathFloor.toIntegral "math.archTrunc" .zero #[.float .f64 x] = (match FloatKind.f64.decode x with | .nan s t => G s t | d => pure (.float .f64 (FloatKind.f64.encode (d.integral .zero)))) := ⟨_, rfl⟩

/-- how a value lies among the ends of int64 -/
theorem mul_lt {a b : Int} : a * Flt.P < b * Flt.P ↔ a < b := by
  constructor
  · intro h; exact Int.lt_of_mul_lt_mul_right h (Int.le_of_lt Flt.P_pos)
  · intro h; exact Int.mul_lt_mul_of_pos_right h Flt.P_pos

theorem mul_le {a b : Int} : a * Flt.P ≤ b * Flt.P ↔ a ≤ b := by
  have := mul_lt (a := b) (b := a)
  omega

theorem compare_P (a b : Int) : compare (a * Flt.P) (b * Flt.P) = compare a b := Flt.compare_mul Flt.P_pos

/-- a float made an int64, where it lies among them -/
theorem cv_int {z : Nat} {v : Int} (hz : (double.read z).toInt .zero = some v) (h1 : -9223372036854775808 ≤ v) (h2 : v ≤ 9223372036854775807) (w : World) : (convert 25 2 (.float .f64 z)).run Tryz.prog w = .ok (.int .i64 v) w :=
  run_convert_float_int w 25 2 .f64 .i64 z _ (by rw [Tryz.underlying25]; rfl) Tryz.underlying2 (by
    have hz' : (FloatKind.f64.decode z).toInt .zero = some v := hz
    unfold floatToIntVal
    rw [hz']
    exact if_pos ⟨h1, h2⟩)

theorem exact_val (x : Nat) (n : Int) (hx : x < 18446744073709551616) (hf : Flt.fin x = true) (n1 : -9223372036854775808 ≤ n) (n2 : n ≤ 9223372036854775807) (w : World) :
    Calls Tryz.prog 154 #[.float .f64 x, .int .i64 n] w fun e w' => e = .returned (.int .i64 (ordI (compare (Flt.U x) (n * Flt.P)))) ∧ w' = w := by
  have hP := Flt.P_pos
  have o1 : FloatKind.f64.format.order x x = some .eq := by
    show double.order x x = _
    rw [Flt.order_U hx hx hf hf]; simp
  have e2 : double.order x 4890909195324358656 = some (compare (Flt.U x) (9223372036854775808 * Flt.P)) := by
    rw [Flt.order_U hx (by decide) hf (by decide), U_hi]
  have e3 : double.order x 14114281232179134464 = some (compare (Flt.U x) (-9223372036854775808 * Flt.P)) := by
    rw [Flt.order_U hx (by decide) hf (by decide), U_lo]
  have b1 : -9223372036854775808 * Flt.P ≤ n * Flt.P := mul_le.2 n1
  have b2 : n * Flt.P < 9223372036854775808 * Flt.P := mul_lt.2 (by omega)
  by_cases h1 : Flt.U x < 9223372036854775808 * Flt.P
  · have o2 : FloatKind.f64.format.order x 4890909195324358656 = some .lt := by rw [Int.compare_eq_lt.2 h1] at e2; exact e2
    by_cases h2 : Flt.U x < -9223372036854775808 * Flt.P
    · have o3 : FloatKind.f64.format.order x 14114281232179134464 = some .lt := by rw [Int.compare_eq_lt.2 h2] at e3; exact e3
      rw [Int.compare_eq_lt.2 (by omega)]
      exact exact_low x n o1 o2 o3 w
    · have o3 : FloatKind.f64.format.order x 14114281232179134464 = some .gt ∨ FloatKind.f64.format.order x 14114281232179134464 = some .eq := by
        rcases Int.lt_or_eq_of_le (Int.not_lt.1 h2) with h | h
        · rw [Int.compare_eq_gt.2 h] at e3; exact Or.inl e3
        · rw [Int.compare_eq_eq.2 h.symm] at e3; exact Or.inr e3
      obtain ⟨s, m, p, M, hr, lo, hi, ht, hW, hle⟩ := Flt.whole_part hx hf
      have hM : signed s M 0 = signed s (m * 2 ^ p.toNat / 2 ^ (-p).toNat) 0 := by
        rw [hr, Flt.toInt_part] at ht
        exact (Option.some.inj ht).symm
      have hM2 : M = m * 2 ^ p.toNat / 2 ^ (-p).toNat := by
        cases s
        · simp only [signed, Nat.shiftLeft_zero, Bool.false_eq_true, if_false] at hM; omega
        · simp only [signed, Nat.shiftLeft_zero, if_true] at hM; omega
      have hgt := (Flt.part_bounds m lo).2
      rw [← hM2] at hgt
      have hU := Flt.U_of hr
      have hrg : -9223372036854775808 ≤ signed s M 0 ∧ signed s M 0 ≤ 9223372036854775807 := by
        rw [hU] at h1 h2
        have a1 : ((M : Int) * Flt.P) ≤ ((m * 2 ^ (p + 1074).toNat : Nat) : Int) := by
          have := Int.ofNat_le.2 hle
          rw [Int.natCast_mul M] at this
          exact this
        have eu : Flt.unit s m p = if s then -((m * 2 ^ (p + 1074).toNat : Nat) : Int) else ((m * 2 ^ (p + 1074).toNat : Nat) : Int) := by
          unfold Flt.unit signed; simp only [Nat.shiftLeft_eq]
        rw [eu] at h1 h2
        generalize ((m * 2 ^ (p + 1074).toNat : Nat) : Int) = V at *
        unfold signed
        simp only [Nat.shiftLeft_zero]
        cases s
        · simp only [Bool.false_eq_true, if_false] at *
          have : (M : Int) * Flt.P < 9223372036854775808 * Flt.P := by omega
          have := mul_lt.1 this
          omega
        · simp only [if_true] at *
          have : (M : Int) * Flt.P ≤ 9223372036854775808 * Flt.P := by
            have : -9223372036854775808 * Flt.P = -(9223372036854775808 * Flt.P) := Int.neg_mul _ _
            omega
          have := mul_le.1 this
          omega
      have oz := Flt.order_whole hr lo hW
      have zz : double.order (double.nearest s M 0) (double.nearest s M 0) = some .eq := by
        rw [Flt.order_U hW.lt hW.lt hW.fin hW.fin]; simp
      have t0 : Extern.MathFloor.toIntegral "math.archTrunc" .zero #[.float .f64 x] = pure (.float .f64 (double.nearest s M 0)) := by
        obtain ⟨G, hG⟩ := integral_by x
        have hdc : FloatKind.f64.decode x = .number s m p := hr
        rw [hr] at hi
        rw [hG, hdc]
        show pure (Value.float .f64 (FloatKind.f64.encode ((Datum.number s m p).integral .zero))) = _
        rw [hi]
        rfl
      have oz2 := oz.2
      rw [swap_compare (Flt.unit s m p) (signed s M 1074)] at oz2
      have := exact_mid x _ _ n _ o1 o2 o3 t0 (cv_int hW.toInt hrg.1 hrg.2) zz oz.1 oz2 w
      rw [Flt.exact_value n hle hgt, ← hU] at this
      exact this
  · have o2 : FloatKind.f64.format.order x 4890909195324358656 = some .gt ∨ FloatKind.f64.format.order x 4890909195324358656 = some .eq := by
      rcases Int.lt_or_eq_of_le (Int.not_lt.1 h1) with h | h
      · rw [Int.compare_eq_gt.2 h] at e2; exact Or.inl e2
      · rw [Int.compare_eq_eq.2 h.symm] at e2; exact Or.inr e2
    rw [Int.compare_eq_gt.2 (by omega)]
    exact exact_high x n o1 o2 w
end Go.Proofs.YtgljglindgbjaaaGreatDoor


/- Cmp and Same of right numbers: by their values; by their fields. -/
namespace Go.Proofs.YtgljglindgbjaaaGreatDoor
open Go.RowKit
open Flt (ordI exactV)
attribute [local go_sem] store_float
attribute [local go_sem ↓] Go.wp_at_zero Go.wp_at_succ

/-- a right number's value in units -/
def valU (k n : Int) (f : Nat) : Int := if k = 1 then n * Flt.P else Flt.U f

theorem valU_1 (n : Int) (f : Nat) : valU 1 n f = n * Flt.P := rfl
theorem valU_2 (n : Int) (f : Nat) : valU 2 n f = Flt.U f := rfl

/-- behind the first call of two that are handed boxed terms -/
theorem after2 {w w1 : World} {o1 : Obj} {t2 : TypeId} {b0 b1 b2 b3 b4 : Value}
    (hb : Below ((w.alloc o1).alloc (.cells #[b0, b1, b2, b3, b4] t2)).heap.size ((w.alloc o1).alloc (.cells #[b0, b1, b2, b3, b4] t2)) w1) :
    Box w1 (w.heap.size + 1) b0 b1 b2 b3 b4 ∧ Below w.heap.size w w1 := by
  have e1 : (w.alloc o1).heap.size = w.heap.size + 1 := by simp
  refine ⟨?_, ((below_new w o1).alloc (by simp) _).trans (hb.mono (by simp; omega))⟩
  rw [← e1]; exact (Box.new _ _ _ _ _ _ _).keep hb

theorem ord_neg (a b : Int) : -ordI (compare a b) = ordI (compare b a) := by
  rw [swap_compare b a]; cases compare b a <;> rfl

theorem compare_i (x y : Int) : (if x < y then (-1 : Int) else if y < x then 1 else 0) = ordI (compare (x * Flt.P) (y * Flt.P)) := by
  rw [compare_P]
  rcases Int.lt_trichotomy x y with h | h | h
  · rw [if_pos h, Int.compare_eq_lt.2 h]; rfl
  · subst h; rw [if_neg (by omega), if_neg (by omega)]; simp [ordI]
  · rw [if_neg (by omega), if_pos h, Int.compare_eq_gt.2 h]; rfl
theorem below_a1 {w w2 : World} (h : Below w.heap.size w w2) (o : Obj) : Below w.heap.size w (w2.alloc o) := h.alloc h.size o
theorem below_a2 {w w2 : World} (h : Below w.heap.size w w2) (o o' : Obj) : Below w.heap.size w ((w2.alloc o).alloc o') := (below_a1 h o).alloc (below_a1 h o).size o'
theorem below_a3 {w w2 : World} (h : Below w.heap.size w w2) (o o' o'' : Obj) : Below w.heap.size w (((w2.alloc o).alloc o').alloc o'') := (below_a2 h o o').alloc (below_a2 h o o').size o''

theorem int_wide {n : Int} {f l : Nat} {s : ByteArray} (h : rightB 1 n f s l = true) : -576460752303423488 ≤ n ∧ n ≤ 576460752303423487 := by
  simp only [rightB, Bool.and_eq_true, Bool.or_eq_true, beq_iff_eq] at h
  rcases h.1.1 with ⟨⟨_, hn⟩, _⟩ | ⟨⟨h2, _⟩, _⟩
  · exact whB_yes hn
  · exact absurd h2 (by omega)

theorem flt_fin {n : Int} {f l : Nat} {s : ByteArray} (h : rightB 2 n f s l = true) : Flt.fin f = true := by
  simp only [rightB, Bool.and_eq_true, Bool.or_eq_true, beq_iff_eq] at h
  rcases h.1.1 with ⟨⟨h2, _⟩, _⟩ | ⟨_, hn⟩
  · exact absurd h2 (by omega)
  · exact hn

set_option maxHeartbeats 1000000 in
theorem cmp_11 (n n' : Int) (f f' : Nat) (s s' : ByteArray) (a a' : Option Addr) (l c l' c' : Nat) (hf : f < 18446744073709551616) (hf' : f' < 18446744073709551616) (h : rightB 1 n f s l = true) (h' : rightB 1 n' f' s' l' = true) (w : World) :
    Calls Tryz.prog 286 #[.agg #[.int .i64 1, .int .i64 n, .float .f64 f, .string s, .slice a l c], .agg #[.int .i64 1, .int .i64 n', .float .f64 f', .string s', .slice a' l' c']] w fun e w' =>
      e = .returned (.int .i64 (ordI (compare (valU 1 n f) (valU 1 n' f')))) ∧ Below w.heap.size w w' := by
  rw [valU_1, valU_1, ← compare_i n n']
  have HR := hid h
  have HR' := hid h'
  clear h h'
  go_enter Tryz.func286, Tryz.ntmps286
  go_wp2_with fail
  refine (valueOf_yes 1 n f s a l c hf HR.out _).mono ?_
  rintro e w1 ⟨rfl, hb1⟩
  obtain ⟨⟨c0, c1, c2, c3, c4, _, _, _, _, _, lt⟩, hW⟩ := after2 hb1
  clear hb1
  go_wp2_with fail
  refine (valueOf_yes 1 n' f' s' a' l' c' hf' HR'.out _).mono ?_
  rintro e w2 ⟨rfl, hb2⟩
  clear c0 c1 c2 c3 c4 lt
  obtain ⟨⟨x0, x1, x2, ltx⟩, hk, hW2⟩ := later3 hW hb2
  clear hb2 hk hW
  go_wp2_with (go_at_call 183; refine (compare_ints _ _ _).mono ?_; rintro e w' ⟨rfl, rfl⟩)
  all_goals
    go_ret
    exact ⟨rfl, by
      (repeat (first | refine Below.drew ?_ | refine below_drewN ?_ _))
      (first | exact below_a1 hW2 _ | exact below_a2 hW2 _ _ | exact below_a3 hW2 _ _ _)⟩

set_option maxHeartbeats 1000000 in
theorem cmp_21 (n n' : Int) (f f' : Nat) (s s' : ByteArray) (a a' : Option Addr) (l c l' c' : Nat) (hf : f < 18446744073709551616) (hf' : f' < 18446744073709551616) (h : rightB 2 n f s l = true) (h' : rightB 1 n' f' s' l' = true) (w : World) :
    Calls Tryz.prog 286 #[.agg #[.int .i64 2, .int .i64 n, .float .f64 f, .string s, .slice a l c], .agg #[.int .i64 1, .int .i64 n', .float .f64 f', .string s', .slice a' l' c']] w fun e w' =>
      e = .returned (.int .i64 (ordI (compare (valU 2 n f) (valU 1 n' f')))) ∧ Below w.heap.size w w' := by
  have hw := int_wide h'
  have EX := hidE (exact_val f n' hf (flt_fin h) (by omega) (by omega))
  rw [valU_2, valU_1]
  clear hw
  have HR := hid h
  have HR' := hid h'
  clear h h'
  go_enter Tryz.func286, Tryz.ntmps286
  go_wp2_with fail
  refine (valueOf_yes 2 n f s a l c hf HR.out _).mono ?_
  rintro e w1 ⟨rfl, hb1⟩
  obtain ⟨⟨c0, c1, c2, c3, c4, _, _, _, _, _, lt⟩, hW⟩ := after2 hb1
  clear hb1
  go_wp2_with fail
  refine (valueOf_yes 1 n' f' s' a' l' c' hf' HR'.out _).mono ?_
  rintro e w2 ⟨rfl, hb2⟩
  clear c0 c1 c2 c3 c4 lt
  obtain ⟨⟨x0, x1, x2, ltx⟩, hk, hW2⟩ := later3 hW hb2
  clear hb2 hk hW
  go_wp2_with fail
  go_region_with (first | (go_at_call 146; refine (real_at _ _ _ _).mono ?_; rintro e w' ⟨rfl, rfl⟩) | (go_at_call 154; refine (EX.out _).mono ?_; rintro e w' ⟨rfl, rfl⟩))
  all_goals go_wp2
  all_goals
    go_ret
    exact ⟨rfl, by
      (repeat (first | refine Below.drew ?_ | refine below_drewN ?_ _))
      (first | exact below_a1 hW2 _ | exact below_a2 hW2 _ _ | exact below_a3 hW2 _ _ _)⟩

set_option maxHeartbeats 1000000 in
theorem cmp_12 (n n' : Int) (f f' : Nat) (s s' : ByteArray) (a a' : Option Addr) (l c l' c' : Nat) (hf : f < 18446744073709551616) (hf' : f' < 18446744073709551616) (h : rightB 1 n f s l = true) (h' : rightB 2 n' f' s' l' = true) (w : World) :
    Calls Tryz.prog 286 #[.agg #[.int .i64 1, .int .i64 n, .float .f64 f, .string s, .slice a l c], .agg #[.int .i64 2, .int .i64 n', .float .f64 f', .string s', .slice a' l' c']] w fun e w' =>
      e = .returned (.int .i64 (ordI (compare (valU 1 n f) (valU 2 n' f')))) ∧ Below w.heap.size w w' := by
  have hw := int_wide h
  have EX := hidE (exact_val f' n hf' (flt_fin h') (by omega) (by omega))
  rw [valU_2, valU_1, ← ord_neg]
  have hob : ∃ o : Int, ordI (compare (Flt.U f') (n * Flt.P)) = o ∧ -1 ≤ o ∧ o ≤ 1 := ⟨_, rfl, by cases compare (Flt.U f') (n * Flt.P) <;> decide, by cases compare (Flt.U f') (n * Flt.P) <;> decide⟩
  obtain ⟨o, ho, o1, o2⟩ := hob
  rw [ho] at EX ⊢
  have hng : IntKind.i64.wrap (-o) = -o := by rw [IntKind.wrap_i64]; omega
  clear ho hw
  have HR := hid h
  have HR' := hid h'
  clear h h'
  go_enter Tryz.func286, Tryz.ntmps286
  go_wp2_with fail
  refine (valueOf_yes 1 n f s a l c hf HR.out _).mono ?_
  rintro e w1 ⟨rfl, hb1⟩
  obtain ⟨⟨c0, c1, c2, c3, c4, _, _, _, _, _, lt⟩, hW⟩ := after2 hb1
  clear hb1
  go_wp2_with fail
  refine (valueOf_yes 2 n' f' s' a' l' c' hf' HR'.out _).mono ?_
  rintro e w2 ⟨rfl, hb2⟩
  clear c0 c1 c2 c3 c4 lt
  obtain ⟨⟨x0, x1, x2, ltx⟩, hk, hW2⟩ := later3 hW hb2
  clear hb2 hk hW
  go_wp2_with fail
  go_region_with (first | (go_at_call 146; refine (real_at _ _ _ _).mono ?_; rintro e w' ⟨rfl, rfl⟩) | (go_at_call 154; refine (EX.out _).mono ?_; rintro e w' ⟨rfl, rfl⟩))
  all_goals go_wp2
  all_goals
    go_ret
    exact ⟨rfl, by
      (repeat (first | refine Below.drew ?_ | refine below_drewN ?_ _))
      (first | exact below_a1 hW2 _ | exact below_a2 hW2 _ _ | exact below_a3 hW2 _ _ _)⟩

set_option maxHeartbeats 1000000 in
theorem cmp_22 (n n' : Int) (f f' : Nat) (s s' : ByteArray) (a a' : Option Addr) (l c l' c' : Nat) (hf : f < 18446744073709551616) (hf' : f' < 18446744073709551616) (h : rightB 2 n f s l = true) (h' : rightB 2 n' f' s' l' = true) (w : World) :
    Calls Tryz.prog 286 #[.agg #[.int .i64 2, .int .i64 n, .float .f64 f, .string s, .slice a l c], .agg #[.int .i64 2, .int .i64 n', .float .f64 f', .string s', .slice a' l' c']] w fun e w' =>
      e = .returned (.int .i64 (ordI (compare (valU 2 n f) (valU 2 n' f')))) ∧ Below w.heap.size w w' := by
  have k1 := flt_fin h
  have k2 := flt_fin h'
  have EX := hidE (compare_floats f f' (compare (Flt.U f) (Flt.U f')) (by show Ieee.double.order f f = _; rw [Flt.order_U hf hf k1 k1]; simp) (by show Ieee.double.order f' f' = _; rw [Flt.order_U hf' hf' k2 k2]; simp) (Flt.order_U hf hf' k1 k2) (by show Ieee.double.order f' f = _; rw [Flt.order_U hf' hf k2 k1, swap_compare]))
  rw [valU_2, valU_2]
  clear k1 k2
  have HR := hid h
  have HR' := hid h'
  clear h h'
  go_enter Tryz.func286, Tryz.ntmps286
  go_wp2_with fail
  refine (valueOf_yes 2 n f s a l c hf HR.out _).mono ?_
  rintro e w1 ⟨rfl, hb1⟩
  obtain ⟨⟨c0, c1, c2, c3, c4, _, _, _, _, _, lt⟩, hW⟩ := after2 hb1
  clear hb1
  go_wp2_with fail
  refine (valueOf_yes 2 n' f' s' a' l' c' hf' HR'.out _).mono ?_
  rintro e w2 ⟨rfl, hb2⟩
  clear c0 c1 c2 c3 c4 lt
  obtain ⟨⟨x0, x1, x2, ltx⟩, hk, hW2⟩ := later3 hW hb2
  clear hb2 hk hW
  go_wp2_with fail
  go_region_with (first | (go_at_call 146; refine (real_at _ _ _ _).mono ?_; rintro e w' ⟨rfl, rfl⟩) | (go_at_call 184; refine (EX.out _).mono ?_; rintro e w' ⟨rfl, rfl⟩))
  all_goals go_wp2
  all_goals
    go_ret
    exact ⟨rfl, by
      (repeat (first | refine Below.drew ?_ | refine below_drewN ?_ _))
      (first | exact below_a1 hW2 _ | exact below_a2 hW2 _ _ | exact below_a3 hW2 _ _ _)⟩

theorem right_kind {k n : Int} {f : Nat} {s : ByteArray} {l : Nat} (h : rightB k n f s l = true) : k = 1 ∨ k = 2 := by
  simp only [rightB, Bool.and_eq_true, Bool.or_eq_true, beq_iff_eq] at h
  rcases h.1.1 with ⟨⟨h2, _⟩, _⟩ | ⟨⟨h2, _⟩, _⟩
  · exact Or.inl h2
  · exact Or.inr h2

theorem cmp_any (k n k' n' : Int) (f f' : Nat) (s s' : ByteArray) (a a' : Option Addr) (l c l' c' : Nat) (hf : f < 18446744073709551616) (hf' : f' < 18446744073709551616) (h : rightB k n f s l = true) (h' : rightB k' n' f' s' l' = true) (w : World) :
    Calls Tryz.prog 286 #[.agg #[.int .i64 k, .int .i64 n, .float .f64 f, .string s, .slice a l c], .agg #[.int .i64 k', .int .i64 n', .float .f64 f', .string s', .slice a' l' c']] w fun e w' =>
      e = .returned (.int .i64 (ordI (compare (valU k n f) (valU k' n' f')))) ∧ Below w.heap.size w w' := by
  rcases right_kind h with rfl | rfl <;> rcases right_kind h' with rfl | rfl
  · exact cmp_11 n n' f f' s s' a a' l c l' c' hf hf' h h' w
  · exact cmp_12 n n' f f' s s' a a' l c l' c' hf hf' h h' w
  · exact cmp_21 n n' f f' s s' a a' l c l' c' hf hf' h h' w
  · exact cmp_22 n n' f f' s s' a a' l c l' c' hf hf' h h' w

end Go.Proofs.YtgljglindgbjaaaGreatDoor


