/- EtherOrder: how it begins. -/
import Derived.Test.YtapjnnbcphpokaaGreatLE2
namespace Go.Proofs.YtapjnnbcphpokaaGreat
open Go.RowKit Go.Lib Go.Maps

theorem af_none {ab q : Nat} (h : AF ab (fun _ => Value.slice none 0 0) q) : q = ab := by
  rcases h with h | ⟨i, _, e⟩
  · exact h
  · simp [Value.ownBlock] at e
theorem ef_none {eb q : Nat} (h : EF (.map none) (fun _ _ => none) eb q) : q = eb := by
  rcases h with h | h | ⟨a, b, l, e, _⟩
  · exact h
  · cases h
  · cases e
theorem oi_new (w w1 : World) (hb : Below w.heap.size w w1) (t : TypeId) : OI w (((w1.alloc (.cells #[.map none, .int .i64 0] 55)).alloc (.cells #[.slice none 0 0, .slice none 0 0, .slice none 0 0, .slice none 0 0] t)).alloc (.cells #[.slice none 0 0, .slice none 0 0, .slice none 0 0, .slice none 0 0] t)) w1.heap.size (w1.heap.size + 1) (w1.heap.size + 1 + 1) (.map none) (fun _ _ => none) 0 (fun _ => .slice none 0 0) (fun _ => .slice none 0 0) (fun _ => []) (fun _ => []) (fun _ => []) := by
  have hs := hb.size
  have e1 : (w1.alloc (.cells #[.map none, .int .i64 0] 55)).heap.size = w1.heap.size + 1 := by simp
  have a1 := AR.new (w1.alloc (.cells #[.map none, .int .i64 0] 55)) w.heap.size (by rw [e1]; omega) t
  have e2 : ((w1.alloc (.cells #[.map none, .int .i64 0] 55)).alloc (.cells #[.slice none 0 0, .slice none 0 0, .slice none 0 0, .slice none 0 0] t)).heap.size = w1.heap.size + 1 + 1 := by simp
  have a2 := AR.new ((w1.alloc (.cells #[.map none, .int .i64 0] 55)).alloc (.cells #[.slice none 0 0, .slice none 0 0, .slice none 0 0, .slice none 0 0] t)) w.heap.size (by rw [e2]; omega) t
  rw [e1] at a1
  rw [e2] at a2
  refine ⟨((eo_new w w1 hb).keep (below_new _ _)).keep (below_new _ _), a1.keep (below_new _ _), a2, ?_, ?_, ?_, LI.start⟩
  · intro q h1 h2; have := af_none h1; have := af_none h2; omega
  · intro q h1 h2; have := af_none h1; have := ef_none h2; omega
  · intro q h1 h2; have := af_none h1; have := ef_none h2; omega
end Go.Proofs.YtapjnnbcphpokaaGreat
