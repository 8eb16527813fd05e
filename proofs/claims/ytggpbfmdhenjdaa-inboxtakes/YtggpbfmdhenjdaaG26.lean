import Derived.Test.YtggpbfmdhenjdaaG23
import Derived.Test.YtggpbfmdhenjdaaG04
import Derived.SizedLaws
import Derived.WalkLawsBesides
import Derived.LaidMore
import Derived.OpenShut
import Derived.Stop.Joined
import Derived.ChangeAt
import Derived.ChangeSame
import Derived.ProofKit
/- A term that is handed in, opened: a tree whose rows are no longer than the reading's reach. -/
namespace Go.Proofs.Ytggpbfmdhenjdaa
open Go.Deep Go.ChangeShapes Go.WideShapes

theorem smallWAll_of {kids : List Tr} (h : ∀ t, t ∈ kids → SmallW t) : SmallWAll kids := by
  induction kids with
  | nil => simp [SmallWAll]
  | cons u r ih => simp only [SmallWAll]; exact ⟨h u (by simp), ih (fun t ht => h t (by simp [ht]))⟩

section
variable {H : Type} {enc : TypeId × Value → H} {P : Program} {w : World} {base : Nat} {spare : Nat → Bool} {held : Bool}

theorem weightsAll_mem {e : TypeId} : ∀ {l : List (DataW H)} {d : DataW H}, d ∈ l → ∀ x, x ∈ d.weights P e → x ∈ DataW.weightsAll P e l
  | [], _, h, _, _ => by simp at h
  | u :: r, d, h, x, hx => by
    unfold DataW.weightsAll
    rcases List.mem_cons.1 h with rfl | h
    · exact List.mem_append_left _ hx
    · exact List.mem_append_right _ (weightsAll_mem h x hx)

theorem open_sized {e : TypeId} (T : TermType P e) (hby : 1 ≤ P.bytesOf e) : ∀ (fuel : Nat) (cs : List Value) (x : DataW H × List MemPlace), DataW.trod enc P w base spare held fuel e cs = some x →
    ∃ t : Tr, cs = t.cells ∧ t.In w base ∧ ((∀ q, q ∈ x.1.weights P e → q ≤ reachBytes) → SmallW t) := by
  intro fuel
  induction fuel using Nat.strongRecOn with
  | ind fuel ih =>
  intro cs x h
  obtain ⟨xs, n, hn, hx, hlen, hxl, hf⟩ := DataW.trod_struct T.under h
  rw [T.size] at hlen
  match xs, hxl, cs, hlen with
  | [y0, y1, y2, y3, y4], _, [v0, v1, v2, v3, v4], _ =>
    have g0 := hf 0 T.f0 rfl
    have g1 := hf 1 T.f1 rfl
    have g2 := hf 2 T.f2 rfl
    have g3 := hf 3 T.f3 rfl
    have g4 := hf 4 T.f4 rfl
    simp [T.o0, T.o1, T.o2, T.o3, T.o4, T.c0, T.c1, T.c2, T.c3, T.c4] at g0 g1 g2 g3 g4
    obtain ⟨k, e0, _, w0⟩ := DataW.trod_int T.u0 g0
    obtain ⟨m, e1, _, w1⟩ := DataW.trod_int T.u1 g1
    obtain ⟨f, e2, _, w2⟩ := trod_float T.u2 g2
    obtain ⟨s, e3, _, w3⟩ := DataW.trod_string T.u3 g3
    obtain rfl : v0 = .int .i64 k := by simpa using e0
    obtain rfl : v1 = .int .i64 m := by simpa using e1
    obtain rfl : v2 = .float .f64 f := by simpa using e2
    obtain rfl : v3 = .string s := by simpa using e3
    have hsub : ∀ q, q ∈ y4.1.weights P T.f4.type → q ∈ x.1.weights P e := by
      intro q hq
      rw [hx]
      simp only [DataW.weights, T.under, List.map_cons, List.map_nil, DataW.weightsEach, List.mem_append]
      simp [hq]
    rcases DataW.trod_slice T.u4 g4 with ⟨e4, _⟩ | ⟨a, len, cap, elems, rest, q, hq, e4, hy4, hb, hl, hm, hel, hx4, _, _⟩
    · obtain rfl : v4 = .slice none 0 0 := by simpa using e4
      refine ⟨.mk k m f s none 0 [], rfl, ?_, fun _ => by simp [SmallW, SmallWAll]⟩
      unfold Tr.In
      exact ⟨⟨w0, w1, w2, w3, Nat.le_refl _, Nat.zero_le _, fun _ => rfl⟩, fun ad h => by simp at h⟩
    · obtain rfl : v4 = .slice (some a) len cap := by simpa using e4
      have each : ∀ i, i < len → ∃ t : Tr, (∀ j, j < 5 → w.cell? ((a.add (i * 5)).add j) = t.cells[j]?) ∧ t.In w base ∧ ((∀ q, q ∈ x.1.weights P e → q ≤ reachBytes) → SmallW t) := by
        intro i hi
        have hb := hx4 i hi
        have hsome : elems[i]? = some (elems[i]'(by omega)) := List.getElem?_eq_getElem (by omega)
        rw [hsome, T.size, Option.bind_eq_some_iff] at hb
        obtain ⟨cs', hc, ht⟩ := hb
        obtain ⟨t, ht1, ht2, ht3⟩ := ih q (by omega) cs' _ ht
        refine ⟨t, fun j hj => ?_, ht2, fun hall => ht3 (fun z hz => hall z (hsub z ?_))⟩
        · have := (World.cells?_some hc).2.2 j hj
          rw [this, ht1]
        · rw [hy4]
          simp only [DataW.weights, T.u4, List.mem_cons, List.mem_append]
          exact .inr (.inl (weightsAll_mem (List.mem_map_of_mem (List.getElem_mem _)) z hz))
      obtain ⟨tf, htf⟩ : ∃ tf : Nat → Tr, ∀ i, i < len → (∀ j, j < 5 → w.cell? ((a.add (i * 5)).add j) = (tf i).cells[j]?) ∧ (tf i).In w base ∧ ((∀ q, q ∈ x.1.weights P e → q ≤ reachBytes) → SmallW (tf i)) := by
        refine ⟨fun i => if h : i < len then Classical.choose (each i h) else .mk 0 0 0 ⟨#[]⟩ none 0 [], fun i hi => ?_⟩
        simp only [hi, dif_pos]
        exact Classical.choose_spec (each i hi)
      refine ⟨.mk k m f s (some a) cap ((List.range len).map tf), by simp [Tr.cells], ?_, fun hall => ?_⟩
      · unfold Tr.In
        refine ⟨⟨w0, w1, w2, w3, by simpa using hl, hm, fun h => by simp at h⟩, fun ad had => ?_⟩
        obtain rfl : a = ad := by simpa using had
        refine ⟨hb, inAll_of fun j t hj => ?_⟩
        have hj' : j < len := by
          rcases Nat.lt_or_ge j len with h | h
          · exact h
          · rw [List.getElem?_eq_none (by simpa using h)] at hj; simp at hj
        rw [List.getElem?_map, List.getElem?_range hj'] at hj
        obtain rfl : tf j = t := by simpa using hj
        exact ⟨(htf j hj').1, (htf j hj').2.1⟩
      · simp only [SmallW]
        refine ⟨?_, smallWAll_of fun t ht => ?_⟩
        · have h9 := hall ((elems.length + rest.length) * P.bytesOf e) (hsub _ (by
            rw [hy4]
            simp only [DataW.weights, T.u4, List.mem_cons, List.length_map]
            exact .inl trivial))
          have h8 : elems.length + rest.length ≤ (elems.length + rest.length) * P.bytesOf e := Nat.le_mul_of_pos_right _ hby
          have h7 : reachBytes = 140737488351232 := rfl
          rw [List.length_map, List.length_range]
          omega
        · obtain ⟨i, hi, rfl⟩ := List.mem_map.1 ht
          exact (htf i (by simpa using hi)).2.2 hall
end
end Go.Proofs.Ytggpbfmdhenjdaa
namespace Go.Proofs.Ytggpbfmdhenjdaa
open Go.ChangeShapes Go.WideShapes Go.ChangeAt Go.WideMaps Go.WideElems Go.RowKit

set_option maxRecDepth 100000
theorem laidOut : laidOutB Try.prog = true := by kernel_rfl
theorem termCells : Try.prog.cellTypes Try.prog.depth 27 = some [3, 2, 25, 9, 22] := by kernel_rfl
theorem termSize : Try.prog.cellsOf 27 = 5 := by kernel_rfl

theorem value_of_cell {P : Program} {W : World} {r : Reach} {base : Nat} {t : TypeId} {d : TypeDesc} {v : Value} (hd : P.underlying t = some d) (h1 : ∀ fs, d ≠ .struct fs) (h2 : ∀ n e, d ≠ .array n e) (h : Cell.okWide P W r base t v) : Value.okWide P W r base t v := by
  unfold Value.okWide
  rw [hd]
  cases d <;> first | exact h | exact absurd rfl (h1 _) | exact absurd rfl (h2 _ _)

theorem float_lt {P : Program} {W : World} {r : Reach} {base : Nat} {t : TypeId} {f : Nat} (ht : P.underlying t = some (.float .f64)) (h : Value.okWide P W r base t (.float .f64 f)) : f < 2 ^ 64 := by
  simp only [Value.okWide, ht, Cell.okWide, Cell.ok] at h
  simpa [FloatKind.has] using h

theorem term_form {W : World} {base : Nat} {v : Value} (h : Value.okWide Try.prog W .any base 27 v) :
    ∃ (k n : Int) (f : Nat) (s : ByteArray) (a : Option Addr) (l c : Nat), v = .agg #[.int .i64 k, .int .i64 n, .float .f64 f, .string s, .slice a l c] ∧ f < 18446744073709551616 := by
  simp only [Value.okWide, Try.underlying27] at h
  obtain ⟨cs, rfl, hsz, ts, hts, _, hc⟩ := h
  obtain rfl := Option.some.inj (termCells.symm.trans hts)
  rw [termSize] at hsz
  obtain ⟨l⟩ := cs
  match l, hsz with
  | [c0, c1, c2, c3, c4], _ =>
    obtain ⟨u0, e0, g0⟩ := hc 0 c0 rfl
    obtain ⟨u1, e1, g1⟩ := hc 1 c1 rfl
    obtain ⟨u2, e2, g2⟩ := hc 2 c2 rfl
    obtain ⟨u3, e3, g3⟩ := hc 3 c3 rfl
    obtain ⟨u4, e4, g4⟩ := hc 4 c4 rfl
    obtain rfl : 3 = u0 := Option.some.inj e0
    obtain rfl : 2 = u1 := Option.some.inj e1
    obtain rfl : 25 = u2 := Option.some.inj e2
    obtain rfl : 9 = u3 := Option.some.inj e3
    obtain rfl : 22 = u4 := Option.some.inj e4
    have v0 : Value.okWide Try.prog W .any base 3 c0 := value_of_cell Try.underlying3 (by simp) (by simp) g0
    have v1 : Value.okWide Try.prog W .any base 2 c1 := value_of_cell Try.underlying2 (by simp) (by simp) g1
    have v2 : Value.okWide Try.prog W .any base 25 c2 := value_of_cell Try.underlying25 (by simp) (by simp) g2
    have v3 : Value.okWide Try.prog W .any base 9 c3 := value_of_cell Try.underlying9 (by simp) (by simp) g3
    have v4 : Value.okWide Try.prog W .any base 22 c4 := value_of_cell Try.underlying22 (by simp) (by simp) g4
    obtain ⟨k, rfl⟩ := okWide_int Try.underlying3 v0
    obtain ⟨n, rfl⟩ := okWide_int Try.underlying2 v1
    obtain ⟨f, rfl⟩ := okWide_float Try.underlying25 v2
    obtain ⟨s, rfl⟩ := okWide_string Try.underlying9 v3
    obtain ⟨a, l, c, rfl⟩ := okWide_slice Try.underlying22 v4
    exact ⟨k, n, f, s, a, l, c, rfl, float_lt Try.underlying25 v2⟩


theorem open_val {H : Type} {enc : TypeId × Value → H} {W : World} {base : Nat} {v : Value} {d : DataW H} {ps : List MemPlace} (hv : Value.okWide Try.prog W .any base 27 v) (h : DataW.Trod enc Try.prog W 0 (fun _ => true) true 27 v d ps) :
    ∃ t : Tr, v = t.val ∧ t.In W 0 ∧ ((∀ q, q ∈ d.weights Try.prog 27 → q ≤ reachBytes) → SmallW t) := by
  obtain ⟨k, n, f, s, a, l, c, rfl, _⟩ := term_form hv
  obtain ⟨fuel, hf⟩ := h
  obtain ⟨t, h1, h2, h3⟩ := open_sized termType (of_decide_eq_true (by kernel_rfl)) fuel _ _ hf
  refine ⟨t, ?_, h2, h3⟩
  unfold Tr.val
  rw [← h1]
  rfl
end Go.Proofs.Ytggpbfmdhenjdaa


/- A row of terms that is handed in, opened: it fits, and its length goes by its weight. -/
namespace Go.Proofs.Ytggpbfmdhenjdaa
open Go.ChangeShapes Go.WideShapes Go.ChangeAt Go.WideMaps Go.WideElems Go.RowKit Go.Deep

section
variable {H : Type} {enc : TypeId × Value → H} {P : Program} {w : World} {base : Nat} {spare : Nat → Bool} {held : Bool}

theorem open_row_sizedB {e u : TypeId} (T : TermType P e) (hby : 64 ≤ P.bytesOf e) (hu : P.underlying u = some (.slice e)) {fuel : Nat} {cs : List Value} {x : DataW H × List MemPlace} (h : DataW.trod enc P w base spare held fuel u cs = some x) :
    ∃ (a : Option Addr) (c : Nat) (kids : List Tr), cs = [.slice a kids.length c] ∧ (Tr.mk 0 0 0 ⟨#[]⟩ a c kids).In w base ∧ ((∀ q, q ∈ x.1.weights P u → q ≤ reachBytes) → SmallW (.mk 7 0 0 ⟨#[]⟩ a c kids) ∧ kids.length * 64 ≤ 140737488355328) := by
  rcases DataW.trod_slice hu h with ⟨e4, _⟩ | ⟨a, len, cap, elems, rest, q, hq, e4, hy4, hb, hl, hm, hel, hx4, _, _⟩
  · refine ⟨none, 0, [], e4, ?_, fun _ => ⟨by simp [SmallW, SmallWAll], by simp⟩⟩
    unfold Tr.In
    exact ⟨⟨by decide, by decide, by decide, by show (0 : Nat) ≤ maxLen; exact Nat.zero_le _, Nat.le_refl _, Nat.zero_le _, fun _ => rfl⟩, fun ad h => by simp at h⟩
  · have each : ∀ i, i < len → ∃ t : Tr, (∀ j, j < 5 → w.cell? ((a.add (i * 5)).add j) = t.cells[j]?) ∧ t.In w base ∧ ((∀ q, q ∈ x.1.weights P u → q ≤ reachBytes) → SmallW t) := by
      intro i hi
      have hb := hx4 i hi
      have hsome : elems[i]? = some (elems[i]'(by omega)) := List.getElem?_eq_getElem (by omega)
      rw [hsome, T.size, Option.bind_eq_some_iff] at hb
      obtain ⟨cs', hc, ht⟩ := hb
      obtain ⟨t, ht1, ht2, ht3⟩ := open_sized T (by omega) q cs' _ ht
      refine ⟨t, fun j hj => ?_, ht2, fun hall => ht3 (fun z hz => hall z ?_)⟩
      · have := (World.cells?_some hc).2.2 j hj
        rw [this, ht1]
      · rw [hy4]
        simp only [DataW.weights, hu, List.mem_cons, List.mem_append]
        exact .inr (.inl (weightsAll_mem (List.mem_map_of_mem (List.getElem_mem _)) z hz))
    obtain ⟨tf, htf⟩ : ∃ tf : Nat → Tr, ∀ i, i < len → (∀ j, j < 5 → w.cell? ((a.add (i * 5)).add j) = (tf i).cells[j]?) ∧ (tf i).In w base ∧ ((∀ q, q ∈ x.1.weights P u → q ≤ reachBytes) → SmallW (tf i)) := by
      refine ⟨fun i => if h : i < len then Classical.choose (each i h) else .mk 0 0 0 ⟨#[]⟩ none 0 [], fun i hi => ?_⟩
      simp only [hi, dif_pos]
      exact Classical.choose_spec (each i hi)
    refine ⟨some a, cap, (List.range len).map tf, by rw [e4]; simp, ?_, fun hall => ?_⟩
    · unfold Tr.In
      refine ⟨⟨by decide, by decide, by decide, by show (0 : Nat) ≤ maxLen; exact Nat.zero_le _, by simpa using hl, hm, fun h => by simp at h⟩, fun ad had => ?_⟩
      obtain rfl : a = ad := by simpa using had
      refine ⟨hb, inAll_of fun j t hj => ?_⟩
      have hj' : j < len := by
        rcases Nat.lt_or_ge j len with h | h
        · exact h
        · rw [List.getElem?_eq_none (by simpa using h)] at hj; simp at hj
      rw [List.getElem?_map, List.getElem?_range hj'] at hj
      obtain rfl : tf j = t := by simpa using hj
      exact ⟨(htf j hj').1, (htf j hj').2.1⟩
    · have h9 := hall ((elems.length + rest.length) * P.bytesOf e) (by
        rw [hy4]
        simp only [DataW.weights, hu, List.mem_cons, List.length_map]
        exact .inl trivial)
      have h8 : (elems.length + rest.length) * 64 ≤ (elems.length + rest.length) * P.bytesOf e := Nat.mul_le_mul_left _ hby
      have h7 : reachBytes = 140737488351232 := rfl
      refine ⟨?_, by rw [List.length_map, List.length_range]; omega⟩
      simp only [SmallW]
      refine ⟨by rw [List.length_map, List.length_range]; omega, smallWAll_of fun t ht => ?_⟩
      obtain ⟨i, hi, rfl⟩ := List.mem_map.1 ht
      exact (htf i (by simpa using hi)).2.2 hall
end
end Go.Proofs.Ytggpbfmdhenjdaa


