/- The document's Op walked: its boxes. -/
import Derived.Test.YtihkabgoaejcgaaDoorQ1
import Derived.Deep.DrawnRows
namespace Go.Proofs.YtihkabgoaejcgaaDoor
open Go.RowKit
attribute [local go_sem] store_float
attribute [local go_sem ↓] Go.wp_at_zero Go.wp_at_succ

theorem afterABC {w w1 : World} {t1 t2 t3 : TypeId} {a0 a1 a2 a3 a4 b0 b1 b2 b3 b4 c0 c1 c2 c3 c4 : Value}
    (hb : Below (((w.alloc (.cells #[a0, a1, a2, a3, a4] t1)).alloc (.cells #[b0, b1, b2, b3, b4] t2)).alloc (.cells #[c0, c1, c2, c3, c4] t3)).heap.size (((w.alloc (.cells #[a0, a1, a2, a3, a4] t1)).alloc (.cells #[b0, b1, b2, b3, b4] t2)).alloc (.cells #[c0, c1, c2, c3, c4] t3)) w1) :
    Box w1 w.heap.size a0 a1 a2 a3 a4 ∧ Box w1 (w.heap.size + 1) b0 b1 b2 b3 b4 ∧ Box w1 (w.heap.size + 1 + 1) c0 c1 c2 c3 c4 ∧ Below w.heap.size w w1 := by
  have e1 : (w.alloc (.cells #[a0, a1, a2, a3, a4] t1)).heap.size = w.heap.size + 1 := by simp
  have e2 : ((w.alloc (.cells #[a0, a1, a2, a3, a4] t1)).alloc (.cells #[b0, b1, b2, b3, b4] t2)).heap.size = w.heap.size + 1 + 1 := by simp
  refine ⟨(((Box.new w t1 a0 a1 a2 a3 a4).alloc _).alloc _).keep hb, ?_, ?_, (((below_new w _).alloc (by simp) _).alloc (by simp; omega) _).trans (hb.mono (by simp; omega))⟩
  · rw [← e1]; exact ((Box.new _ _ _ _ _ _ _).alloc _).keep hb
  · rw [← e2]; exact (Box.new _ _ _ _ _ _ _).keep hb

theorem drew_then {w1 w2 : World} (hb : Below w1.drew.heap.size w1.drew w2) : Below w1.heap.size w1 w2 := ⟨hb.os, hb.tape, hb.output, hb.size, hb.block⟩

theorem div_bounds {a b : Int} (a1 : -576460752303423488 ≤ a) (a2 : a ≤ 576460752303423487) (_b1 : -576460752303423488 ≤ b) (_b2 : b ≤ 576460752303423487) (_b0 : b ≠ 0) : -576460752303423488 ≤ a.tdiv b ∧ a.tdiv b ≤ 576460752303423488 := by
  have h1 := Int.natAbs_tdiv_le_natAbs a b
  omega

end Go.Proofs.YtihkabgoaejcgaaDoor
