/- TreeRows. -/
import Derived.Test.YtejjffgolipdmaaAvC1
import Derived.Test.YtejjffgolipdmaaAvC4
import Derived.Deep.Cut
namespace Go.Proofs.Ytejjffgolipdmaa
open Go.RowKit Go.Shelf
attribute [local go_sem] Oper.semAt_some
attribute [local go_sem ↓] Go.wp_at_zero Go.wp_at_succ

theorem Rise.pre {a b : List KV} (h : Rise b) (hp : a <+: b) : Rise a := h.sublist hp.sublist
theorem Rise.flt {l : List KV} {p : KV → Bool} (h : Rise l) : Rise (l.filter p) := h.filter _

theorem not_rise {q : List KV} {last v xk xv : Int} (h : xk ≤ last) : ¬ Rise (q ++ [(last, v)] ++ [(xk, xv)]) := by
  intro hr
  have h1 := (List.pairwise_append.1 hr).2.2 (last, v) (by simp) (xk, xv) (by simp)
  simp only at h1
  omega

theorem two_cells {W : World} {a b : Nat} {u v x y : Value} (c1 : W.cell? ⟨a, 0, none⟩ = some u) (c2 : W.frozen? ⟨a, 0, none⟩ = false) (c3 : W.cell? ⟨b, 0, none⟩ = some v) (c4 : W.frozen? ⟨b, 0, none⟩ = false) (hne : a ≠ b) :
    (((W.setCell ⟨a, 0, none⟩ x).setCell ⟨b, 0, none⟩ y).cell? ⟨a, 0, none⟩ = some x ∧ ((W.setCell ⟨a, 0, none⟩ x).setCell ⟨b, 0, none⟩ y).frozen? ⟨a, 0, none⟩ = false) ∧ (((W.setCell ⟨a, 0, none⟩ x).setCell ⟨b, 0, none⟩ y).cell? ⟨b, 0, none⟩ = some y ∧ ((W.setCell ⟨a, 0, none⟩ x).setCell ⟨b, 0, none⟩ y).frozen? ⟨b, 0, none⟩ = false) :=
  ⟨⟨(World.cell?_setCell_other _ _ _ _ (ne_blk _ _ _ _ (Ne.symm hne))).trans (World.cell?_setCell_same _ _ _ c1), by rw [World.frozen?_setCell, World.frozen?_setCell]; exact c2⟩, World.cell?_setCell_same _ _ _ (u := v) (by rw [World.cell?_setCell_other _ _ _ _ (ne_blk _ _ _ _ hne)]; exact c3), by rw [World.frozen?_setCell, World.frozen?_setCell]; exact c4⟩

theorem tmod_bd (n : Int) : n.tmod 20001 ≤ 20000 ∧ -20000 ≤ n.tmod 20001 := by
  have h1 := Int.tmod_lt_of_pos n (show (0 : Int) < 20001 by decide)
  have h2 := Int.lt_tmod_of_pos n (show (0 : Int) < 20001 by decide)
  omega

theorem TB.cut {D : Nat → Prop} {w : World} {tb : Nat} {L : List KV} (h : TB w tb D L) : TB w tb (fun k => D k ∧ k < w.heap.size) L := by
  obtain ⟨p, t, h1, h2, h3, h4, h5, h6, h7⟩ := h
  exact ⟨p, t, h1, h2.cut (fun k hk hl => ⟨hk, hl⟩), h3, h4, h5, h6, fun h => h7 h.1⟩

theorem TB.norm {D : Nat → Prop} {w : World} {tb : Nat} {L : List KV} (h : TB w tb D L) : TB w tb (fun k => k < w.heap.size ∧ k ≠ tb) L := by
  obtain ⟨p, t, h1, h2, h3, h4, h5, h6, h7⟩ := h
  exact ⟨p, t, h1, h2.cut (fun k hk hl => ⟨hl, fun e => h7 (e ▸ hk)⟩), h3, h4, h5, h6, fun h => h.2 rfl⟩

end Go.Proofs.Ytejjffgolipdmaa
