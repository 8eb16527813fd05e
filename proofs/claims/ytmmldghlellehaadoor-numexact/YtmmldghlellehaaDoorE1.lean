/- Exact walked, the program's and the document's, over plain facts on the float: its order against the ends of the whole numbers, what is left of it when it is made whole. -/
import Derived.Test.YtmmldghlellehaaDoorV3
namespace Go.Proofs.YtmmldghlellehaaDoor
open Go.RowKit

theorem isNaN_int (x : Int) (w : World) : Calls Tryd.prog 76 #[.int .i64 x] w fun e w' => e = .returned (.bool false) ∧ w' = w := by
  go_enter Tryd.func76, Tryd.ntmps76
  go_wp2
  go_ret
  exact ⟨rfl, rfl⟩

theorem compare_ints (x y : Int) (w : World) : Calls Tryd.prog 60 #[.int .i64 x, .int .i64 y] w fun e w' => e = .returned (.int .i64 (if x < y then -1 else if y < x then 1 else 0)) ∧ w' = w := by
  rcases Int.lt_trichotomy x y with h | h | h
  · have d : decide (x < y) = true := by simpa using h
    rw [if_pos h]
    clear h
    go_enter Tryd.func60, Tryd.ntmps60
    go_wp2_with (go_at_call 76; refine (isNaN_int _ _).mono ?_; rintro e w' ⟨rfl, rfl⟩)
    go_ret
    exact ⟨rfl, rfl⟩
  · subst h
    rw [if_neg (by omega), if_neg (by omega)]
    go_enter Tryd.func60, Tryd.ntmps60
    go_wp2_with (go_at_call 76; refine (isNaN_int _ _).mono ?_; rintro e w' ⟨rfl, rfl⟩)
    go_ret
    exact ⟨rfl, rfl⟩
  · have d : decide (x < y) = false := by rw [decide_eq_false_iff_not]; omega
    have d2 : decide (y < x) = true := by simpa using h
    rw [if_neg (by omega), if_pos h]
    clear h
    go_enter Tryd.func60, Tryd.ntmps60
    go_wp2_with (go_at_call 76; refine (isNaN_int _ _).mono ?_; rintro e w' ⟨rfl, rfl⟩)
    go_ret
    exact ⟨rfl, rfl⟩

set_option maxRecDepth 100000 in
theorem trunc_to (x y : Nat) (hr : Extern.MathFloor.toIntegral "math.archTrunc" .zero #[.float .f64 x] = pure (.float .f64 y)) (w : World) : Calls Tryd.prog 59 #[.float .f64 x] w fun e w' => e = .returned (.float .f64 y) ∧ w' = w := by
  have hx : ∀ w, (callFunc 74 #[.float .f64 x]).run Tryd.prog w = .ok (.value (.float .f64 y)) w := fun w => by
    rw [run_callFunc_extern Tryd.func74 (by kernel_rfl) (by kernel_rfl) (by kernel_rfl) (e := Extern.MathFloor.toIntegral "math.archTrunc" .zero) (by kernel_rfl), hr]
    rfl
  clear hr
  go_enter Tryd.func59, Tryd.ntmps59
  go_wp2
  go_ret
  exact ⟨rfl, rfl⟩

theorem exact_nan (x : Nat) (n : Int) (o1 : FloatKind.f64.format.order x x = none) (w : World) : Calls Tryd.prog 30 #[.float .f64 x, .int .i64 n] w fun e w' => e = .returned (.int .i64 2) ∧ w' = w := by
  go_enter Tryd.func30, Tryd.ntmps30
  go_wp2_with (go_at_call 58; go_in)
  go_ret
  exact ⟨rfl, rfl⟩

theorem exact_high (x : Nat) (n : Int) (o1 : FloatKind.f64.format.order x x = some .eq) (o2 : FloatKind.f64.format.order x 4890909195324358656 = some .gt ∨ FloatKind.f64.format.order x 4890909195324358656 = some .eq) (w : World) : Calls Tryd.prog 30 #[.float .f64 x, .int .i64 n] w fun e w' => e = .returned (.int .i64 1) ∧ w' = w := by
  rcases o2 with o2 | o2
  all_goals
    go_enter Tryd.func30, Tryd.ntmps30
    go_wp2_with (go_at_call 58; go_in)
    go_ret
    exact ⟨rfl, rfl⟩

theorem exact_low (x : Nat) (n : Int) (o1 : FloatKind.f64.format.order x x = some .eq) (o2 : FloatKind.f64.format.order x 4890909195324358656 = some .lt) (o3 : FloatKind.f64.format.order x 14114281232179134464 = some .lt) (w : World) : Calls Tryd.prog 30 #[.float .f64 x, .int .i64 n] w fun e w' => e = .returned (.int .i64 (-1)) ∧ w' = w := by
  go_enter Tryd.func30, Tryd.ntmps30
  go_wp2_with (go_at_call 58; go_in)
  go_ret
  exact ⟨rfl, rfl⟩

theorem refExact_nan (x : Nat) (n : Int) (o1 : FloatKind.f64.format.order x x = none) (w : World) : Calls Tryd.prog 31 #[.float .f64 x, .int .i64 n] w fun e w' => e = .returned (.int .i64 2) ∧ w' = w := by
  go_enter Tryd.func31, Tryd.ntmps31
  go_wp2
  go_ret
  exact ⟨rfl, rfl⟩

theorem refExact_high (x : Nat) (n : Int) (o1 : FloatKind.f64.format.order x x = some .eq) (o2 : FloatKind.f64.format.order x 4890909195324358656 = some .gt ∨ FloatKind.f64.format.order x 4890909195324358656 = some .eq) (w : World) : Calls Tryd.prog 31 #[.float .f64 x, .int .i64 n] w fun e w' => e = .returned (.int .i64 1) ∧ w' = w := by
  rcases o2 with o2 | o2
  all_goals
    go_enter Tryd.func31, Tryd.ntmps31
    go_wp2
    go_ret
    exact ⟨rfl, rfl⟩

theorem refExact_low (x : Nat) (n : Int) (o1 : FloatKind.f64.format.order x x = some .eq) (o2 : FloatKind.f64.format.order x 4890909195324358656 = some .lt) (o3 : FloatKind.f64.format.order x 14114281232179134464 = some .lt) (w : World) : Calls Tryd.prog 31 #[.float .f64 x, .int .i64 n] w fun e w' => e = .returned (.int .i64 (-1)) ∧ w' = w := by
  go_enter Tryd.func31, Tryd.ntmps31
  go_wp2
  go_ret
  exact ⟨rfl, rfl⟩
end Go.Proofs.YtmmldghlellehaaDoor
