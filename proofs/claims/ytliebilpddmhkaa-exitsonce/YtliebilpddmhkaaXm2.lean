/- exits.message of an exit signal. -/
import Derived.Test.YtliebilpddmhkaaXm1
namespace Go.Proofs.Ytliebilpddmhkaa
open Go.RowKit Go.Lib Go.Deep
attribute [local go_sem] store_float f64bits
attribute [local go_sem ↓] Go.wp_at_zero Go.wp_at_succ

theorem one_cells (w : World) (v0 v1 v2 v3 v4 : Value) (t : TypeId) : ∀ j u, [v0, v1, v2, v3, v4][j]? = some u → (w.alloc (.cells #[v0, v1, v2, v3, v4] t)).cell? ((⟨w.heap.size, 0, none⟩ : Addr).add j) = some u := World.news_of_block ((MapKept.heap_alloc w _).1)

/-- What message needs of its arguments. -/
structure MsgIn (x0 : Int) (t : Tr) (ad : Addr) (w : World) : Prop where
  fr : Tr.InAll w 0 ad [aTr ⟨#[69, 88, 73, 84]⟩, pTr x0]
  tin : t.In w 0
  sm : Small t
  cn : cnT t ≤ 800000000
  ok : errT t = 0
  lo : 0 ≤ x0
  hi : x0 ≤ 1099511627776

theorem err_exit : errT (aTr ⟨#[69, 88, 73, 84]⟩) = 0 := by decide
theorem err_sys : errT sysT = 0 := by decide
theorem err_pid {x0 : Int} (h0 : 0 ≤ x0) (h1 : x0 ≤ 1099511627776) : errT (pTr x0) = 0 := by
  simp [errT, pTr, meas, measAll, own, allT, allAll, goodT, h0, h1, ByteArray.toList_eq]
theorem leaf_small (k n : Int) (f : Nat) (s : ByteArray) (a : Option Addr) (c : Nat) : Small (.mk k n f s a c []) := by unfold Small SmallAll; exact ⟨by simp, trivial⟩
theorem MsgIn.all {x0 : Int} {t : Tr} {ad : Addr} {w w' : World} (h : MsgIn x0 t ad w) (hb : Below w.heap.size w w') : ∀ u, u ∈ [aTr ⟨#[69, 88, 73, 84]⟩, pTr x0] ++ [t] → u.In w' 0 ∧ Small u ∧ errT u = 0 := by
  have h3 := h.fr
  unfold Tr.InAll Tr.InAll at h3
  intro u hu
  simp at hu
  rcases hu with rfl | rfl | rfl
  · exact ⟨in_below hb h3.2.1, leaf_small _ _ _ _ _ _, err_exit⟩
  · exact ⟨in_below hb h3.2.2.2.1, leaf_small _ _ _ _ _ _, err_pid h.lo h.hi⟩
  · exact ⟨in_below hb h.tin, h.sm, h.ok⟩
theorem sys_in (w : World) : sysT.In w 0 := by
  unfold sysT aTr Tr.In
  exact ⟨⟨by decide, by decide, by decide, by decide, Nat.le_refl _, Nat.zero_le _, fun _ => rfl⟩, fun ad h => by simp at h⟩
theorem MsgIn.alls {x0 : Int} {t : Tr} {ad : Addr} {w w' : World} (h : MsgIn x0 t ad w) (hb : Below w.heap.size w w') : ∀ u, u ∈ [aTr ⟨#[69, 88, 73, 84]⟩, pTr x0] ++ [sysT] → u.In w' 0 ∧ Small u ∧ errT u = 0 := by
  intro u hu
  rcases List.mem_append.1 hu with hu | hu
  · exact h.all hb u (List.mem_append.2 (.inl hu))
  · obtain rfl : u = sysT := by simpa using hu
    exact ⟨sys_in _, leaf_small _ _ _ _ _ _, err_sys⟩
theorem err_msgs {x0 : Int} (h0 : 0 ≤ x0) (h1 : x0 ≤ 1099511627776) : errT (msgOf x0 sysT) = 0 := by
  simp [errT, msgOf, sysT, aTr, pTr, meas, measAll, own, allT, allAll, goodT, h0, h1, ByteArray.toList_eq]
  decide
theorem cn_fs (x0 : Int) (t : Tr) : cnA ([aTr ⟨#[69, 88, 73, 84]⟩, pTr x0] ++ [t]) = 2 + cnT t := by simp [cnA, cnT, aTr, pTr]; omega
end Go.Proofs.Ytliebilpddmhkaa
