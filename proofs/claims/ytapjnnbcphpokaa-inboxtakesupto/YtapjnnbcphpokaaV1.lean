/- How numbers are made, or refused, by the document's own reckoning. -/
import Derived.Test.YtapjnnbcphpokaaW1
namespace Go.Proofs.Ytapjnnbcphpokaa
open Go.RowKit
attribute [local go_sem] store_float

theorem refFinite_any (x : Nat) (w : World) : Calls Try.prog 57 #[.float .f64 x] w fun e w' => e = .returned (.bool (Flt.fin x)) ∧ Below w.heap.size w w' := by
  cases hb : Flt.fin x
  · have hs := fun t w => sub_nan t x hb w
    have ho : ∀ t y, (FloatKind.f64.format.order (Flt.nanOf t) y) = none := fun t y => Flt.nanOf_order t y
    go_enter Try.func57, Try.ntmps57
    go_wp2
    go_ret
    exact ⟨rfl, (Below.refl _ _).drew⟩
  · have hs := fun t w => sub_fin t x hb w
    have ho : (FloatKind.f64.format.order 0 0) = some .eq := Flt.order_zero_zero
    go_enter Try.func57, Try.ntmps57
    go_wp2
    go_ret
    exact ⟨rfl, Below.refl _ _⟩

end Go.Proofs.Ytapjnnbcphpokaa
