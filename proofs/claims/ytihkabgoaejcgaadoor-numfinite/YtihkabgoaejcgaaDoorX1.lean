/- The program's Exact walked, over plain facts on the float: its order against the ends of the whole numbers, what is left of it when it is made whole. -/
import Derived.Test.YtihkabgoaejcgaaDoorW1
import Derived.Test.YtihkabgoaejcgaaDoorFltH
namespace Go.Proofs.YtihkabgoaejcgaaDoor
open Go.RowKit
open Flt (ordI exactV)


theorem isNaN_int (x : Int) (w : World) : Calls Tryd.prog 76 #[.int .i64 x] w fun e w' => e = .returned (.bool false) ∧ w' = w := by
  go_enter Tryd.func76, Tryd.ntmps76
  go_wp2
  go_ret
  exact ⟨rfl, rfl⟩

theorem compare_ints (x y : Int) (w : World) : Calls Tryd.prog 60 #[.int .i64 x, .int .i64 y] w fun e w' => e = .returned (.int .i64 (if x < y then -1 else if y < x then 1 else 0)) ∧ w' = w := by
  rcases Int.lt_trichotomy x y with h | h | h
  · have d : decide (x < y) = true := by simpa using h
    rw [if_pos h]
    clear h
    go_enter Tryd.func60, Tryd.ntmps60
    go_wp2_with (go_at_call 76; refine (isNaN_int _ _).mono ?_; rintro e w' ⟨rfl, rfl⟩)
    go_ret
    exact ⟨rfl, rfl⟩
  · subst h
    rw [if_neg (by omega), if_neg (by omega)]
    go_enter Tryd.func60, Tryd.ntmps60
    go_wp2_with (go_at_call 76; refine (isNaN_int _ _).mono ?_; rintro e w' ⟨rfl, rfl⟩)
    go_ret
    exact ⟨rfl, rfl⟩
  · have d : decide (x < y) = false := by rw [decide_eq_false_iff_not]; omega
    have d2 : decide (y < x) = true := by simpa using h
    rw [if_neg (by omega), if_pos h]
    clear h
    go_enter Tryd.func60, Tryd.ntmps60
    go_wp2_with (go_at_call 76; refine (isNaN_int _ _).mono ?_; rintro e w' ⟨rfl, rfl⟩)
    go_ret
    exact ⟨rfl, rfl⟩

set_option maxRecDepth 100000 in
theorem trunc_to (x y : Nat) (hr : Extern.MathFloor.toIntegral "math.archTrunc" .zero #[.float .f64 x] = pure (.float .f64 y)) (w : World) : Calls Tryd.prog 59 #[.float .f64 x] w fun e w' => e = .returned (.float .f64 y) ∧ w' = w := by
  have hx : ∀ w, (callFunc 74 #[.float .f64 x]).run Tryd.prog w = .ok (.value (.float .f64 y)) w := fun w => by
    rw [run_callFunc_extern Tryd.func74 (by kernel_rfl) (by kernel_rfl) (by kernel_rfl) (e := Extern.MathFloor.toIntegral "math.archTrunc" .zero) (by kernel_rfl), hr]
    rfl
  clear hr
  go_enter Tryd.func59, Tryd.ntmps59
  go_wp2
  go_ret
  exact ⟨rfl, rfl⟩

theorem exact_nan (x : Nat) (n : Int) (o1 : FloatKind.f64.format.order x x = none) (w : World) : Calls Tryd.prog 30 #[.float .f64 x, .int .i64 n] w fun e w' => e = .returned (.int .i64 2) ∧ w' = w := by
  go_enter Tryd.func30, Tryd.ntmps30
  go_wp2_with (go_at_call 58; go_in)
  go_ret
  exact ⟨rfl, rfl⟩

theorem exact_high (x : Nat) (n : Int) (o1 : FloatKind.f64.format.order x x = some .eq) (o2 : FloatKind.f64.format.order x 4890909195324358656 = some .gt ∨ FloatKind.f64.format.order x 4890909195324358656 = some .eq) (w : World) : Calls Tryd.prog 30 #[.float .f64 x, .int .i64 n] w fun e w' => e = .returned (.int .i64 1) ∧ w' = w := by
  rcases o2 with o2 | o2
  all_goals
    go_enter Tryd.func30, Tryd.ntmps30
    go_wp2_with (go_at_call 58; go_in)
    go_ret
    exact ⟨rfl, rfl⟩

theorem exact_low (x : Nat) (n : Int) (o1 : FloatKind.f64.format.order x x = some .eq) (o2 : FloatKind.f64.format.order x 4890909195324358656 = some .lt) (o3 : FloatKind.f64.format.order x 14114281232179134464 = some .lt) (w : World) : Calls Tryd.prog 30 #[.float .f64 x, .int .i64 n] w fun e w' => e = .returned (.int .i64 (-1)) ∧ w' = w := by
  go_enter Tryd.func30, Tryd.ntmps30
  go_wp2_with (go_at_call 58; go_in)
  go_ret
  exact ⟨rfl, rfl⟩



theorem hidE {p : Prop} (h : p) : Hid p := h

theorem compare_floats (x y : Nat) (o : Ordering) (h1 : FloatKind.f64.format.order x x = some .eq) (h2 : FloatKind.f64.format.order y y = some .eq) (h3 : FloatKind.f64.format.order x y = some o) (h4 : FloatKind.f64.format.order y x = some o.swap) (w : World) :
    Calls Tryd.prog 61 #[.float .f64 x, .float .f64 y] w fun e w' => e = .returned (.int .i64 (ordI o)) ∧ w' = w := by
  cases o
  all_goals
    simp only [Ordering.swap] at h4
    go_enter Tryd.func61, Tryd.ntmps61
    go_wp2
    go_ret
    exact ⟨rfl, rfl⟩

theorem exact_mid (x z : Nat) (v n : Int) (o : Ordering) (o1 : FloatKind.f64.format.order x x = some .eq) (o2 : FloatKind.f64.format.order x 4890909195324358656 = some .lt) (o3 : FloatKind.f64.format.order x 14114281232179134464 = some .gt ∨ FloatKind.f64.format.order x 14114281232179134464 = some .eq)
    (t0 : Extern.MathFloor.toIntegral "math.archTrunc" .zero #[.float .f64 x] = pure (.float .f64 z)) (c0 : ∀ w, (convert 24 2 (.float .f64 z)).run Tryd.prog w = .ok (.int .i64 v) w)
    (h2 : FloatKind.f64.format.order z z = some .eq) (h3 : FloatKind.f64.format.order x z = some o) (h4 : FloatKind.f64.format.order z x = some o.swap) (w : World) : Calls Tryd.prog 30 #[.float .f64 x, .int .i64 n] w fun e w' => e = .returned (.int .i64 (exactV v n o)) ∧ w' = w := by
  have CF := hidE (compare_floats x z o o1 h2 h3 h4)
  clear h2 h3 h4
  have T0 := hidE t0
  clear t0
  rcases Int.lt_trichotomy v n with h | h | h
  · have ev : exactV v n o = -1 := by rw [exactV, if_pos h]
    have cv : (if v < n then (-1 : Int) else if n < v then 1 else 0) = -1 := by rw [if_pos h]
    rw [ev]
    clear h ev
    rcases o3 with o3 | o3
    all_goals
      go_enter Tryd.func30, Tryd.ntmps30
      go_wp2_with (first
        | (go_at_call 58; go_in)
        | (go_at_call 59; refine (trunc_to _ _ T0.out _).mono ?_; rintro e w' ⟨rfl, rfl⟩)
        | (go_at_call 60; refine (compare_ints _ _ _).mono ?_; rw [cv]; rintro e w' ⟨rfl, rfl⟩))
      go_ret
      exact ⟨rfl, rfl⟩
  · subst h
    have ev : exactV v v o = ordI o := by rw [exactV, if_neg (by omega), if_neg (by omega)]
    have cv : (if v < v then (-1 : Int) else if v < v then 1 else 0) = 0 := by rw [if_neg (by omega), if_neg (by omega)]
    rw [ev]
    clear ev
    rcases o3 with o3 | o3
    all_goals
      go_enter Tryd.func30, Tryd.ntmps30
      go_wp2_with (first
        | (go_at_call 58; go_in)
        | (go_at_call 59; refine (trunc_to _ _ T0.out _).mono ?_; rintro e w' ⟨rfl, rfl⟩)
        | (go_at_call 60; refine (compare_ints _ _ _).mono ?_; rw [cv]; rintro e w' ⟨rfl, rfl⟩)
        | (go_at_call 61; refine (CF.out _).mono ?_; rintro e w' ⟨rfl, rfl⟩))
      go_ret
      exact ⟨rfl, rfl⟩
  · have ev : exactV v n o = 1 := by rw [exactV, if_neg (by omega), if_pos h]
    have cv : (if v < n then (-1 : Int) else if n < v then 1 else 0) = 1 := by rw [if_neg (by omega), if_pos h]
    rw [ev]
    clear h ev
    rcases o3 with o3 | o3
    all_goals
      go_enter Tryd.func30, Tryd.ntmps30
      go_wp2_with (first
        | (go_at_call 58; go_in)
        | (go_at_call 59; refine (trunc_to _ _ T0.out _).mono ?_; rintro e w' ⟨rfl, rfl⟩)
        | (go_at_call 60; refine (compare_ints _ _ _).mono ?_; rw [cv]; rintro e w' ⟨rfl, rfl⟩))
      go_ret
      exact ⟨rfl, rfl⟩

end Go.Proofs.YtihkabgoaejcgaaDoor
