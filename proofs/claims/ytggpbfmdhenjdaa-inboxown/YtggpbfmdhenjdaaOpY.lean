import Derived.Test.YtggpbfmdhenjdaaG36
import Derived.ProofKit
import Derived.OpenShut
/- A row of terms that is handed in, opened: it fits, and its length goes by its weight. -/
namespace Go.Proofs.Ytggpbfmdhenjdaa
open Go.ChangeShapes Go.WideShapes Go.ChangeAt Go.WideMaps Go.WideElems Go.RowKit Go.Deep

section
variable {H : Type} {enc : TypeId × Value → H} {P : Program} {w : World} {base : Nat} {spare : Nat → Bool} {held : Bool}

theorem open_row_sizedB {e u : TypeId} (T : TermType P e) (hby : 64 ≤ P.bytesOf e) (hu : P.underlying u = some (.slice e)) {fuel : Nat} {cs : List Value} {x : DataW H × List MemPlace} (h : DataW.trod enc P w base spare held fuel u cs = some x) :
    ∃ (a : Option Addr) (c : Nat) (kids : List Tr), cs = [.slice a kids.length c] ∧ (Tr.mk 0 0 0 ⟨#[]⟩ a c kids).In w base ∧ ((∀ q, q ∈ x.1.weights P u → q ≤ reachBytes) → SmallW (.mk 7 0 0 ⟨#[]⟩ a c kids) ∧ kids.length * 64 ≤ 140737488355328) := by
  rcases DataW.trod_slice hu h with ⟨e4, _⟩ | ⟨a, len, cap, elems, rest, q, hq, e4, hy4, hb, hl, hm, hel, hx4, _, _⟩
  · refine ⟨none, 0, [], e4, ?_, fun _ => ⟨by simp [SmallW, SmallWAll], by simp⟩⟩
    unfold Tr.In
    exact ⟨⟨by decide, by decide, by decide, by show (0 : Nat) ≤ maxLen; exact Nat.zero_le _, Nat.le_refl _, Nat.zero_le _, fun _ => rfl⟩, fun ad h => by simp at h⟩
  · have each : ∀ i, i < len → ∃ t : Tr, (∀ j, j < 5 → w.cell? ((a.add (i * 5)).add j) = t.cells[j]?) ∧ t.In w base ∧ ((∀ q, q ∈ x.1.weights P u → q ≤ reachBytes) → SmallW t) := by
      intro i hi
      have hb := hx4 i hi
      have hsome : elems[i]? = some (elems[i]'(by omega)) := List.getElem?_eq_getElem (by omega)
      rw [hsome, T.size, Option.bind_eq_some_iff] at hb
      obtain ⟨cs', hc, ht⟩ := hb
      obtain ⟨t, ht1, ht2, ht3⟩ := open_sized T (by omega) q cs' _ ht
      refine ⟨t, fun j hj => ?_, ht2, fun hall => ht3 (fun z hz => hall z ?_)⟩
      · have := (World.cells?_some hc).2.2 j hj
        rw [this, ht1]
      · rw [hy4]
        simp only [DataW.weights, hu, List.mem_cons, List.mem_append]
        exact .inr (.inl (weightsAll_mem (List.mem_map_of_mem (List.getElem_mem _)) z hz))
    obtain ⟨tf, htf⟩ : ∃ tf : Nat → Tr, ∀ i, i < len → (∀ j, j < 5 → w.cell? ((a.add (i * 5)).add j) = (tf i).cells[j]?) ∧ (tf i).In w base ∧ ((∀ q, q ∈ x.1.weights P u → q ≤ reachBytes) → SmallW (tf i)) := by
      refine ⟨fun i => if h : i < len then Classical.choose (each i h) else .mk 0 0 0 ⟨#[]⟩ none 0 [], fun i hi => ?_⟩
      simp only [hi, dif_pos]
      exact Classical.choose_spec (each i hi)
    refine ⟨some a, cap, (List.range len).map tf, by rw [e4]; simp, ?_, fun hall => ?_⟩
    · unfold Tr.In
      refine ⟨⟨by decide, by decide, by decide, by show (0 : Nat) ≤ maxLen; exact Nat.zero_le _, by simpa using hl, hm, fun h => by simp at h⟩, fun ad had => ?_⟩
      obtain rfl : a = ad := by simpa using had
      refine ⟨hb, inAll_of fun j t hj => ?_⟩
      have hj' : j < len := by
        rcases Nat.lt_or_ge j len with h | h
        · exact h
        · rw [List.getElem?_eq_none (by simpa using h)] at hj; simp at hj
      rw [List.getElem?_map, List.getElem?_range hj'] at hj
      obtain rfl : tf j = t := by simpa using hj
      exact ⟨(htf j hj').1, (htf j hj').2.1⟩
    · have h9 := hall ((elems.length + rest.length) * P.bytesOf e) (by
        rw [hy4]
        simp only [DataW.weights, hu, List.mem_cons, List.length_map]
        exact .inl trivial)
      have h8 : (elems.length + rest.length) * 64 ≤ (elems.length + rest.length) * P.bytesOf e := Nat.mul_le_mul_left _ hby
      have h7 : reachBytes = 140737488351232 := rfl
      refine ⟨?_, by rw [List.length_map, List.length_range]; omega⟩
      simp only [SmallW]
      refine ⟨by rw [List.length_map, List.length_range]; omega, smallWAll_of fun t ht => ?_⟩
      obtain ⟨i, hi, rfl⟩ := List.mem_map.1 ht
      exact (htf i (by simpa using hi)).2.2 hall
end
end Go.Proofs.Ytggpbfmdhenjdaa


