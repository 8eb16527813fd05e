import Derived.Test.YtogahhbckfnllaaG46
import Derived.Test.YtogahhbckfnllaaG42
import Derived.Test.YtogahhbckfnllaaRows
import Derived.ChangeSlices
import Derived.ProofKit
import Derived.OpenShut
/- A row of acts with a term each that is handed in, opened. -/
namespace Go.Proofs.Ytogahhbckfnllaa
open Go.ChangeShapes Go.WideShapes Go.ChangeAt Go.WideMaps Go.WideElems Go.RowKit Go.Deep

theorem addp (b o m : Nat) : (⟨b, o, none⟩ : Addr).add m = ⟨b, o + m, none⟩ := by unfold Addr.add; split <;> simp_all

theorem tact_size : Try.prog.cellsOf 38 = 6 := by kernel_rfl
theorem tint_size : Try.prog.cellsOf 3 = 1 := by kernel_rfl
theorem tterm_size : Try.prog.cellsOf 36 = 5 := by kernel_rfl

set_option maxRecDepth 100000 in
theorem open_tact {H : Type} {enc : TypeId × Value → H} {w : World} {base : Nat} {spare : Nat → Bool} {held : Bool} {fuel : Nat} {cs : List Value} {x : DataW H × List MemPlace} (h : DataW.trod enc Try.prog w base spare held fuel 38 cs = some x) :
    ∃ (op : Int) (t : Tr), cs = .int .i64 op :: t.cells ∧ t.In w base := by
  obtain ⟨xs, n, hn, hx, hlen, hxl, hf⟩ := DataW.trod_struct Try.underlying38 h
  rw [tact_size] at hlen
  match xs, hxl, cs, hlen with
  | [y0, y1], _, [v0, v1, v2, v3, v4, v5], _ =>
    have g0 := hf 0 _ rfl
    have g1 := hf 1 _ rfl
    simp [tint_size, tterm_size] at g0 g1
    obtain ⟨k, e0, _, w0⟩ := DataW.trod_int Try.underlying3 g0
    obtain ⟨t, e1, h1, _⟩ := open_bulk termType _ _ _ g1
    obtain rfl : v0 = .int .i64 k := by simpa using e0
    exact ⟨k, t, by rw [e1], h1⟩

theorem open_tarow {H : Type} {enc : TypeId × Value → H} {w : World} {spare : Nat → Bool} {held : Bool} {fuel : Nat} {cs : List Value} {x : DataW H × List MemPlace} (h : DataW.trod enc Try.prog w 0 spare held fuel 22 cs = some x) :
    ∃ (q : Option Addr) (c : Nat) (l : List (Int × Tr)), cs = [.slice q l.length c] ∧ AR w q l ∧ l.length ≤ maxLen := by
  rcases DataW.trod_slice Try.underlying22 h with ⟨e4, _⟩ | ⟨a, len, cap, elems, rest, q, hq, e4, hy4, hb, hl, hm, hel, hx4, _, _⟩
  · exact ⟨none, 0, [], e4, fun j x hj => by simp at hj, Nat.zero_le _⟩
  · have each : ∀ i, i < len → ∃ t : Int × Tr, (∀ j, j < 6 → w.cell? ((a.add (i * 6)).add j) = (Value.int .i64 t.1 :: t.2.cells)[j]?) ∧ t.2.In w 0 := by
      intro i hi
      have hb := hx4 i hi
      have hsome : elems[i]? = some (elems[i]'(by omega)) := List.getElem?_eq_getElem (by omega)
      rw [hsome, tact_size, Option.bind_eq_some_iff] at hb
      obtain ⟨cs', hc, ht⟩ := hb
      obtain ⟨op, t, ht1, ht2⟩ := open_tact ht
      refine ⟨(op, t), fun j hj => ?_, ht2⟩
      have := (World.cells?_some hc).2.2 j hj
      rw [this, ht1]
    obtain ⟨tf, htf⟩ : ∃ tf : Nat → Int × Tr, ∀ i, i < len → (∀ j, j < 6 → w.cell? ((a.add (i * 6)).add j) = (Value.int .i64 (tf i).1 :: (tf i).2.cells)[j]?) ∧ (tf i).2.In w 0 := by
      refine ⟨fun i => if h : i < len then Classical.choose (each i h) else (0, .mk 0 0 0 ⟨#[]⟩ none 0 []), fun i hi => ?_⟩
      simp only [hi, dif_pos]
      exact Classical.choose_spec (each i hi)
    refine ⟨some a, cap, (List.range len).map tf, by rw [e4]; simp, fun j t hj => ?_, by simpa using (by omega : len ≤ maxLen)⟩
    have hj' : j < len := by
      rcases Nat.lt_or_ge j len with h | h
      · exact h
      · rw [List.getElem?_eq_none (by simpa using h)] at hj; simp at hj
    rw [List.getElem?_map, List.getElem?_range hj'] at hj
    obtain rfl : tf j = t := by simpa using hj
    have cc := (htf j hj').1
    have z0 := cc 0 (by omega)
    have zz := (htf 0 (by omega)).1 0 (by omega)
    simp only [List.getElem?_cons_zero] at z0 zz
    have hsp := World.cell?_spot zz
    obtain ⟨blk, off, spot⟩ := a
    have hspot : spot = none := by simpa [Addr.add] using hsp
    subst hspot
    refine ⟨blk, off, rfl, ?_, fun i hi => ?_, (htf j hj').2⟩
    · rw [addp, addp] at z0; exact z0
    · have := cc (i + 1) (by omega)
      rw [addp, addp, List.getElem?_cons_succ] at this
      rw [show off + j * 6 + 1 + i = off + j * 6 + (i + 1) by omega]
      exact this
end Go.Proofs.Ytogahhbckfnllaa


