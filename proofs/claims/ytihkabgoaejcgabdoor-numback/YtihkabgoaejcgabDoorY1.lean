/- The library's Nextafter walked. -/
import Derived.Test.YtihkabgoaejcgabDoorX1
namespace Go.Proofs.YtihkabgoaejcgabDoor
open Go.RowKit

/-- away from nothing -/
theorem next_out (x y : Nat) (X Z : Int) (a : Ordering) (ha : a ≠ .eq) (hb : ∀ w, (callFunc 24 #[.float .f64 x]).run Tryd.prog w = .ok (.value (.int .u64 X)) w) (e1 : IntKind.u64.wrap (X + 1) = Z)
    (o1 : FloatKind.f64.format.order x x = some .eq) (o2 : FloatKind.f64.format.order y y = some .eq) (o3 : FloatKind.f64.format.order x y = some a) (o4 : FloatKind.f64.format.order x 0 = some a.swap) (o5 : FloatKind.f64.format.order y x = some a.swap) (w : World) :
    Calls Tryd.prog 25 #[.float .f64 x, .float .f64 y] w fun e w' => e = .returned (.float .f64 Z.toNat) ∧ w' = w := by
  have hf := f64frombits
  cases a
  case eq => exact absurd rfl ha
  all_goals
    simp only [Ordering.swap] at o4 o5
    go_enter Tryd.func25, Tryd.ntmps25
    go_wp2_with (go_at_call 44; go_in)
    go_ret
    exact ⟨rfl, rfl⟩

/-- towards it -/
theorem next_in (x y : Nat) (X Z : Int) (a : Ordering) (ha : a ≠ .eq) (hb : ∀ w, (callFunc 24 #[.float .f64 x]).run Tryd.prog w = .ok (.value (.int .u64 X)) w) (e1 : IntKind.u64.wrap (X - 1) = Z)
    (o1 : FloatKind.f64.format.order x x = some .eq) (o2 : FloatKind.f64.format.order y y = some .eq) (o3 : FloatKind.f64.format.order x y = some a) (o4 : FloatKind.f64.format.order x 0 = some a) (o5 : FloatKind.f64.format.order y x = some a.swap) (w : World) :
    Calls Tryd.prog 25 #[.float .f64 x, .float .f64 y] w fun e w' => e = .returned (.float .f64 Z.toNat) ∧ w' = w := by
  have hf := f64frombits
  cases a
  case eq => exact absurd rfl ha
  all_goals
    simp only [Ordering.swap] at o5
    go_enter Tryd.func25, Tryd.ntmps25
    go_wp2_with (go_at_call 44; go_in)
    go_ret
    exact ⟨rfl, rfl⟩

/-- from it -/
theorem next_zero (y : Nat) (S T : Int) (o2 : FloatKind.f64.format.order y y = some .eq) (o3 : FloatKind.f64.format.order 0 y = some .lt ∨ FloatKind.f64.format.order 0 y = some .gt) (e1 : bits .and .u64 (y : Int) 9223372036854775808 = S) (e2 : bits .or .u64 1 S = T) (w : World) :
    Calls Tryd.prog 25 #[.float .f64 0, .float .f64 y] w fun e w' => e = .returned (.float .f64 T.toNat) ∧ w' = w := by
  have hf := f64frombits
  have hb := f64bits
  have o1 : FloatKind.f64.format.order 0 0 = some .eq := Flt.order_zero_zero
  have e0 : bits .andNot .u64 1 9223372036854775808 = 1 := by decide
  rcases o3 with o3 | o3
  all_goals
    go_enter Tryd.func25, Tryd.ntmps25
    go_wp2_with (first | (go_at_call 44; go_in) | (go_at_call 50; go_in))
    go_ret
    exact ⟨rfl, rfl⟩
end Go.Proofs.YtihkabgoaejcgabDoor
