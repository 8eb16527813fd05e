import Derived.Test.YtpcpdehnppfbfaaGreatG45
import Derived.Test.YtpcpdehnppfbfaaGreatRows
import Derived.ChangeSlices
import Derived.ProofKit
import Derived.OpenShut
import Derived.WalkLawsBesides
import Derived.ChangeAt
import Derived.ChangeSame
import Derived.Deep.SlicePairs
/- A row of signals that is handed in, opened. -/
namespace Go.Proofs.YtpcpdehnppfbfaaGreat
open Go.ChangeShapes Go.WideShapes Go.ChangeAt Go.WideMaps Go.WideElems Go.RowKit Go.Deep

def RowD {α : Type} (sz : Nat) (enc : α → List Value) (w : World) (q : Option Addr) (l : List α) : Prop :=
  ∀ (j : Nat) (x : α), l[j]? = some x → ∃ b o, q = some ⟨b, o, none⟩ ∧ b < w.heap.size ∧ ∀ i, i < sz → w.cell? ⟨b, o + j * sz + i, none⟩ = (enc x)[i]?
theorem addp (b o m : Nat) : (⟨b, o, none⟩ : Addr).add m = ⟨b, o + m, none⟩ := by unfold Addr.add; split <;> simp_all
section
variable {H : Type} {enc : TypeId × Value → H} {P : Program} {w : World} {base : Nat} {spare : Nat → Bool} {held : Bool}
theorem weightsAll_mem {e : TypeId} : ∀ {l : List (DataW H)} {d : DataW H}, d ∈ l → ∀ x, x ∈ d.weights P e → x ∈ DataW.weightsAll P e l
  | [], _, h, _, _ => by simp at h
  | u :: r, d, h, x, hx => by
    unfold DataW.weightsAll
    rcases List.mem_cons.1 h with rfl | h
    · exact List.mem_append_left _ hx
    · exact List.mem_append_right _ (weightsAll_mem h x hx)
/-- All weights within the reach. -/
def Within (P : Program) (t : TypeId) (d : DataW H) : Prop := ∀ q, q ∈ d.weights P t → q ≤ reachBytes
/-- A row, element by element. -/
theorem open_rowsB {α : Type} {bs : Nat} {e u : TypeId} {sz : Nat} {encv : α → List Value} {Good Fit : α → Prop} (hby : bs ≤ P.bytesOf e) (hu : P.underlying u = some (.slice e)) (hsz : P.cellsOf e = sz) (hpos : 0 < sz) (henc : ∀ x, (encv x).length = sz)
    (each : ∀ (fuel : Nat) (cs : List Value) (y : DataW H × List MemPlace), DataW.trod enc P w base spare held fuel e cs = some y → ∃ x, cs = encv x ∧ Good x ∧ (Within P e y.1 → Fit x))
    {fuel : Nat} {cs : List Value} {y : DataW H × List MemPlace} (h : DataW.trod enc P w base spare held fuel u cs = some y) :
    ∃ (q : Option Addr) (c : Nat) (l : List α), cs = [.slice q l.length c] ∧ RowD sz encv w q l ∧ l.length ≤ maxLen ∧ (∀ x ∈ l, Good x) ∧ (Within P u y.1 → l.length * bs ≤ 140737488355328 ∧ ∀ x ∈ l, Fit x) := by
  rcases DataW.trod_slice hu h with ⟨e4, _⟩ | ⟨a, len, cap, elems, rest, q, hq, e4, hy4, hb, hl, hm, hel, hx4, _, _⟩
  · exact ⟨none, 0, [], e4, fun j x hj => by simp at hj, Nat.zero_le _, fun x hx => by simp at hx, fun _ => ⟨by simp, fun x hx => by simp at hx⟩⟩
  · have one : ∀ i, i < len → ∃ t : α, (∀ j, j < sz → w.cell? ((a.add (i * sz)).add j) = (encv t)[j]?) ∧ Good t ∧ (Within P u y.1 → Fit t) := by
      intro i hi
      have hb := hx4 i hi
      have hsome : elems[i]? = some (elems[i]'(by omega)) := List.getElem?_eq_getElem (by omega)
      rw [hsome, hsz, Option.bind_eq_some_iff] at hb
      obtain ⟨cs', hc, ht⟩ := hb
      obtain ⟨t, ht1, ht2, ht3⟩ := each q cs' _ ht
      refine ⟨t, fun j hj => ?_, ht2, fun hall => ht3 (fun z hz => hall z ?_)⟩
      · have := (World.cells?_some hc).2.2 j hj
        rw [this, ht1]
      · rw [hy4]
        simp only [DataW.weights, hu, List.mem_cons, List.mem_append]
        exact .inr (.inl (weightsAll_mem (List.mem_map_of_mem (List.getElem_mem _)) z hz))
    rcases Nat.eq_zero_or_pos len with h0 | h0
    · subst h0
      exact ⟨some a, cap, [], e4, fun j x hj => by simp at hj, Nat.zero_le _, fun x hx => by simp at hx, fun _ => ⟨by simp, fun x hx => by simp at hx⟩⟩
    obtain ⟨d, -⟩ := one 0 h0
    obtain ⟨tf, htf⟩ : ∃ tf : Nat → α, ∀ i, i < len → (∀ j, j < sz → w.cell? ((a.add (i * sz)).add j) = (encv (tf i))[j]?) ∧ Good (tf i) ∧ (Within P u y.1 → Fit (tf i)) := by
      refine ⟨fun i => if h : i < len then Classical.choose (one i h) else d, fun i hi => ?_⟩
      simp only [hi, dif_pos]
      exact Classical.choose_spec (one i hi)
    have hget : ∀ (j : Nat) (t : α), ((List.range len).map tf)[j]? = some t → j < len ∧ tf j = t := by
      intro j t hj
      have hj' : j < len := by
        rcases Nat.lt_or_ge j len with h | h
        · exact h
        · rw [List.getElem?_eq_none (by simpa using h)] at hj; simp at hj
      rw [List.getElem?_map, List.getElem?_range hj'] at hj
      exact ⟨hj', by simpa using hj⟩
    refine ⟨some a, cap, (List.range len).map tf, by rw [e4]; simp, fun j t hj => ?_, by simpa using (by omega : len ≤ maxLen), fun x hx => ?_, fun hall => ⟨?_, fun x hx => ?_⟩⟩
    · obtain ⟨hj', rfl⟩ := hget j t hj
      have cc := (htf j hj').1
      have z0 := cc 0 hpos
      have zz := (htf 0 h0).1 0 hpos
      have hl0 : 0 < (encv (tf 0)).length := by rw [henc]; exact hpos
      rw [List.getElem?_eq_getElem hl0] at zz
      have hsp := World.cell?_spot zz
      obtain ⟨blk, off, spot⟩ := a
      have hspot : spot = none := by simpa [Addr.add] using hsp
      subst hspot
      have hlt := World.block_lt_of_cell? w _ zz
      rw [addp, addp] at hlt
      refine ⟨blk, off, rfl, hlt, fun i hi => ?_⟩
      have := cc i hi
      rw [addp, addp] at this
      exact this
    · obtain ⟨i, hi⟩ := List.mem_iff_getElem?.1 hx
      obtain ⟨hj', rfl⟩ := hget i x hi
      exact (htf i hj').2.1
    · have h9 := hall ((elems.length + rest.length) * P.bytesOf e) (by
        rw [hy4]
        simp only [DataW.weights, hu, List.mem_cons, List.length_map]
        exact .inl trivial)
      have h8 : (elems.length + rest.length) * bs ≤ (elems.length + rest.length) * P.bytesOf e := Nat.mul_le_mul_left _ hby
      have h85 : len * bs ≤ (elems.length + rest.length) * bs := Nat.mul_le_mul_right _ (by omega)
      have h7 : reachBytes = 140737488351232 := rfl
      rw [List.length_map, List.length_range]
      omega
    · obtain ⟨i, hi⟩ := List.mem_iff_getElem?.1 hx
      obtain ⟨hj', rfl⟩ := hget i x hi
      exact (htf i hj').2.2 hall
end
set_option maxRecDepth 100000
theorem szw_sig : Tryz.prog.cellsOf 30 = 12 := by kernel_rfl
theorem szw_term : Tryz.prog.cellsOf 28 = 5 := by kernel_rfl
theorem szw_int : Tryz.prog.cellsOf 3 = 1 := by kernel_rfl
theorem szw_bool : Tryz.prog.cellsOf 4 = 1 := by kernel_rfl
theorem szw_str : Tryz.prog.cellsOf 9 = 1 := by kernel_rfl
section
variable {H : Type} {enc : TypeId × Value → H} {w : World} {spare : Nat → Bool} {held : Bool}
theorem open_sgw (fuel : Nat) (cs : List Value) (y : DataW H × List MemPlace) (h : DataW.trod enc Tryz.prog w 0 spare held fuel 30 cs = some y) :
    ∃ x : SG, cs = x.cells ∧ (x.t.In w 0 ∧ wfi x.x0 ∧ wfi x.x1) ∧ (Within Tryz.prog 30 y.1 → True) := by
  obtain ⟨xs, n, hn, hx, hlen, hxl, hf⟩ := DataW.trod_struct Tryz.underlying30 h
  rw [szw_sig] at hlen
  match xs, hxl, cs, hlen with
  | [y0, y1, y2, y3, y4, y5, y6, y7], _, [v0, v1, v2, v3, v4, v5, v6, v7, v8, v9, v10, v11], _ =>
    have g0 := hf 0 _ rfl
    have g1 := hf 1 _ rfl
    have g2 := hf 2 _ rfl
    have g3 := hf 3 _ rfl
    have g4 := hf 4 _ rfl
    have g5 := hf 5 _ rfl
    have g6 := hf 6 _ rfl
    have g7 := hf 7 _ rfl
    simp [szw_int, szw_bool, szw_str, szw_term] at g0 g1 g2 g3 g4 g5 g6 g7
    obtain ⟨a0, e0, _, w0⟩ := DataW.trod_int Tryz.underlying3 g0
    obtain ⟨a1, e1, _, w1⟩ := DataW.trod_int Tryz.underlying3 g1
    obtain ⟨a2, e2, _, _⟩ := DataW.trod_int Tryz.underlying3 g2
    obtain ⟨a3, e3, _, _⟩ := DataW.trod_int Tryz.underlying3 g3
    obtain ⟨a4, e4, _, _⟩ := DataW.trod_int Tryz.underlying3 g4
    obtain ⟨a5, e5, _⟩ := DataW.trod_bool Tryz.underlying4 g5
    obtain ⟨a6, e6, _, _⟩ := DataW.trod_string Tryz.underlying9 g6
    obtain ⟨⟨k, m, f, s, ta, tc, ks⟩, e7, hin⟩ := open_term termType n _ _ g7
    simp only [List.cons.injEq, and_true] at e0 e1 e2 e3 e4 e5 e6
    subst e0 e1 e2 e3 e4 e5 e6
    simp [Tr.cells] at e7
    obtain ⟨rfl, rfl, rfl, rfl, rfl⟩ := e7
    exact ⟨⟨a0, a1, a2, a3, a4, a5, a6, .mk k m f s ta tc ks⟩, rfl, ⟨hin, w0, w1⟩, fun _ => trivial⟩
theorem open_srow {fuel : Nat} {cs : List Value} {y : DataW H × List MemPlace} (h : DataW.trod enc Tryz.prog w 0 spare held fuel 22 cs = some y) :
    ∃ (q : Option Addr) (c : Nat) (l : List SG), cs = [.slice q l.length c] ∧ SRow w q l ∧ (∀ s ∈ l, s.t.In w 0 ∧ wfi s.x0 ∧ wfi s.x1) ∧ (Within Tryz.prog 22 y.1 → l.length ≤ 1099511627776) := by
  obtain ⟨q, c, l, e, hr, -, hg, hfit⟩ := open_rowsB (bs := 128) (by exact of_decide_eq_true (by kernel_rfl)) Tryz.underlying22 szw_sig (by omega) SG.len open_sgw h
  exact ⟨q, c, l, e, hr, hg, fun hw => by have := (hfit hw).1; omega⟩
end
end Go.Proofs.YtpcpdehnppfbfaaGreat


