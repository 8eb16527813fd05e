import Derived.Test.YtmijabhnbmmmfaaGreatG37
import Derived.ProofKit
import Derived.OpenShut
/- Whatever row of terms and number it is given, HeapFull (promise P402) returns true, and its arguments read as before; no condition. -/
namespace Go.Proofs.YtmijabhnbmmmfaaGreat
open Go.ChangeShapes Go.WideShapes Go.ChangeAt Go.WideMaps Go.WideElems Go.RowKit

theorem heapFull_own : ownKnob Tryz.prog.godebug = none := by kernel_rfl
theorem heapFull_laidOut : laidOutB Tryz.prog = true := by kernel_rfl

theorem open_row {H : Type} {enc : TypeId × Value → H} {P : Program} {w : World} {base : Nat} {spare : Nat → Bool} {held : Bool} {e u : TypeId} (T : TermType P e) (hu : P.underlying u = some (.slice e)) {fuel : Nat} {cs : List Value} {x : DataW H × List MemPlace} (h : DataW.trod enc P w base spare held fuel u cs = some x) :
    ∃ (a : Option Addr) (c : Nat) (kids : List Tr), cs = [.slice a kids.length c] ∧ (Tr.mk 0 0 0 ⟨#[]⟩ a c kids).In w base := by
  rcases DataW.trod_slice hu h with ⟨e4, _⟩ | ⟨a, len, cap, elems, rest, q, hq, e4, _, hb, hl, hm, hel, hx4, _, _⟩
  · refine ⟨none, 0, [], e4, ?_⟩
    unfold Tr.In
    exact ⟨⟨by decide, by decide, by decide, by show (0 : Nat) ≤ maxLen; exact Nat.zero_le _, Nat.le_refl _, Nat.zero_le _, fun _ => rfl⟩, fun ad h => by simp at h⟩
  · have each : ∀ i, i < len → ∃ t : Tr, (∀ j, j < 5 → w.cell? ((a.add (i * 5)).add j) = t.cells[j]?) ∧ t.In w base := by
      intro i hi
      have hb := hx4 i hi
      have hsome : elems[i]? = some (elems[i]'(by omega)) := List.getElem?_eq_getElem (by omega)
      rw [hsome, T.size, Option.bind_eq_some_iff] at hb
      obtain ⟨cs', hc, ht⟩ := hb
      obtain ⟨t, ht1, ht2⟩ := open_term T q cs' _ ht
      refine ⟨t, fun j hj => ?_, ht2⟩
      have := (World.cells?_some hc).2.2 j hj
      rw [this, ht1]
    obtain ⟨tf, htf⟩ : ∃ tf : Nat → Tr, ∀ i, i < len → (∀ j, j < 5 → w.cell? ((a.add (i * 5)).add j) = (tf i).cells[j]?) ∧ (tf i).In w base := by
      refine ⟨fun i => if h : i < len then Classical.choose (each i h) else .mk 0 0 0 ⟨#[]⟩ none 0 [], fun i hi => ?_⟩
      simp only [hi, dif_pos]
      exact Classical.choose_spec (each i hi)
    refine ⟨some a, cap, (List.range len).map tf, by rw [e4]; simp, ?_⟩
    unfold Tr.In
    refine ⟨⟨by decide, by decide, by decide, by show (0 : Nat) ≤ maxLen; exact Nat.zero_le _, by simpa using hl, hm, fun h => by simp at h⟩, fun ad had => ?_⟩
    obtain rfl : a = ad := by simpa using had
    refine ⟨hb, inAll_of fun j t hj => ?_⟩
    have hj' : j < len := by
      rcases Nat.lt_or_ge j len with h | h
      · exact h
      · rw [List.getElem?_eq_none (by simpa using h)] at hj; simp at hj
    rw [List.getElem?_map, List.getElem?_range hj'] at hj
    obtain rfl : tf j = t := by simpa using hj
    exact htf j hj'

set_option maxRecDepth 100000 in
theorem heapFull_lifted (os : Os) (started : os.Started) (H : Type) (enc : TypeId × Value → H) :
    ReturnsInHanded {} Tryz.checked os 6 .any (Rows.heapFullSpec.pre6 enc Tryz.prog Tryz.f6 Rows.heapFullRow.domain false) (Rows.heapFullSpec.post enc Tryz.prog Tryz.f6 false true false false) := by
  refine returnsInHanded_of_change (C := Tryz.checked) heapFull_own started (by kernel_rfl) Tryz.func6
    (ChangeSpec.witness6 (enc := enc) (C := Tryz.checked) false ⟨#[], #[.slice none 0 0, .int .i64 0], []⟩ 8 (by kernel_rfl) (by kernel_rfl) (by kernel_rfl) (by kernel_rfl)) ?_
  intro W base args ds gs before hval0 hW _ _
  have hval : ∀ (j : Nat) t v, Tryz.f6.params[j]? = some t → args[j]? = some v → Value.okWide Tryz.prog W .any base t v := hval0
  have hW' := hW
  obtain ⟨p, q, hA0, hV, rfl, _, _⟩ := hW
  have hA : DataW.TrodAll enc Tryz.prog W 0 (fun _ => true) true Tryz.f6.params.toList args.toList ds p := hA0
  rw [Tryz.params6] at hA hval
  obtain ⟨v0, v1, d0, d1, p0, p1, rfl, rfl, rfl, h0, h1⟩ := trodAll_two hA
  obtain ⟨rfl, rfl⟩ := trodVars_none hV
  obtain ⟨a0, len, cap, rfl⟩ := okWide_slice Tryz.underlying42 (hval 0 42 v0 rfl rfl)
  obtain ⟨n1, rfl⟩ := okWide_int Tryz.underlying3 (hval 1 3 v1 rfl rfl)
  have h0k := h0
  obtain ⟨fuel, hf⟩ := h0
  clear hA0 hval0
  simp only [List.append_nil] at hW'
  have hlt0 : ∀ x ∈ p0, x.block < W.heap.size := fun x hx => by simpa using hW'.lt x (by simp [hx])
  have hlt1 : ∀ x ∈ p1, x.block < W.heap.size := fun x hx => by simpa using hW'.lt x (by simp [hx])
  have e1 : Rows.heapFullSpec.fn H ([d0, d1] ++ []) = { results := [.lit (.bool true)], args := [d0, d1] } := by simp [Rows.heapFullSpec]
  have fin : ∀ e W', (e = Ending.returned (.bool true) ∧ Below W.heap.size W W') →
      ∃ v, e = Ending.returned v ∧ Rows.heapFullSpec.post enc Tryz.checked.prog Tryz.f6 false true false false W #[.slice a0 len cap, .int .i64 n1] v W' := by
    rintro e W' ⟨rfl, hb⟩
    refine ⟨_, rfl, _, _, _, [], p0 ++ p1, [], hW', ?_, ?_, ?_, hb.frame _, fun h => by cases h⟩
    · rw [e1]; exact trodAll_mk1 (shut_bool Tryz.underlying4 true)
    · rw [e1]; exact trodAll_mk2 (Below.trod heapFull_laidOut (by kernel_rfl) (of_decide_eq_true (by kernel_rfl)) h0k hb hlt0) (Below.trod heapFull_laidOut (by kernel_rfl) (of_decide_eq_true (by kernel_rfl)) h1 hb hlt1)
    · rw [e1]; rfl
  obtain ⟨a, c, kids, hcs, hin⟩ := open_row termType Tryz.underlying42 hf
  simp [Value.cells] at hcs
  obtain ⟨rfl, rfl, rfl⟩ := hcs
  exact (heapFull_any a0 cap kids n1 W hin).mono fin

theorem heapFull_holds : Rows.HeapFullSaid :=
  OpenClaim.holds_of_wide 6 Tryz.f6 rfl rfl rfl rfl rfl rfl rfl ⟨rfl, rfl, rfl, rfl, rfl⟩ rfl rfl rfl rfl rfl (by kernel_rfl) Tryz.func6 (by kernel_rfl)
    (of_decide_eq_true (by kernel_rfl)) (by unfold Func.isWrapper; rw [if_neg (of_decide_eq_false (by kernel_rfl))]; exact ⟨rfl, rfl⟩)
    (fun os started H enc _ => heapFull_lifted os started H enc)
#print axioms heapFull_holds
end Go.Proofs.YtmijabhnbmmmfaaGreat


