import Derived.Test.YtecgddiohoeboaaDoorG39
import Derived.SizedLaws
import Derived.WalkLawsBesides
import Derived.LaidMore
import Derived.OpenShut
import Derived.Stop.Joined
import Derived.ChangeAt
import Derived.ChangeSame
import Derived.Test.YtecgddiohoeboaaDoorG09
import Derived.Lib.LaidU8
import Derived.ProofKit
/- A term that is read out of memory is a tree whose rows are no longer than the reading's reach. -/
namespace Go.Proofs.YtecgddiohoeboaaDoor
open Go.Deep Go.ChangeShapes Go.WideShapes

theorem smallAll_of {kids : List Tr} (h : ∀ t, t ∈ kids → Small t) : SmallAll kids := by
  induction kids with
  | nil => simp [SmallAll]
  | cons u r ih => simp only [SmallAll]; exact ⟨h u (by simp), ih (fun t ht => h t (by simp [ht]))⟩

section
variable {H : Type} {enc : TypeId × Value → H} {P : Program} {w : World} {base : Nat} {spare : Nat → Bool} {held : Bool}

theorem weightsAll_mem {e : TypeId} : ∀ {l : List (DataW H)} {d : DataW H}, d ∈ l → ∀ x, x ∈ d.weights P e → x ∈ DataW.weightsAll P e l
  | [], _, h, _, _ => by simp at h
  | u :: r, d, h, x, hx => by
    unfold DataW.weightsAll
    rcases List.mem_cons.1 h with rfl | h
    · exact List.mem_append_left _ hx
    · exact List.mem_append_right _ (weightsAll_mem h x hx)

theorem open_sized {e : TypeId} (T : TermType P e) (hby : 1 ≤ P.bytesOf e) : ∀ (fuel : Nat) (cs : List Value) (x : DataW H × List MemPlace), DataW.trod enc P w base spare held fuel e cs = some x →
    ∃ t : Tr, cs = t.cells ∧ t.In w base ∧ ((∀ q, q ∈ x.1.weights P e → q ≤ reachBytes) → Small t) := by
  intro fuel
  induction fuel using Nat.strongRecOn with
  | ind fuel ih =>
  intro cs x h
  obtain ⟨xs, n, hn, hx, hlen, hxl, hf⟩ := DataW.trod_struct T.under h
  rw [T.size] at hlen
  match xs, hxl, cs, hlen with
  | [y0, y1, y2, y3, y4], _, [v0, v1, v2, v3, v4], _ =>
    have g0 := hf 0 T.f0 rfl
    have g1 := hf 1 T.f1 rfl
    have g2 := hf 2 T.f2 rfl
    have g3 := hf 3 T.f3 rfl
    have g4 := hf 4 T.f4 rfl
    simp [T.o0, T.o1, T.o2, T.o3, T.o4, T.c0, T.c1, T.c2, T.c3, T.c4] at g0 g1 g2 g3 g4
    obtain ⟨k, e0, _, w0⟩ := DataW.trod_int T.u0 g0
    obtain ⟨m, e1, _, w1⟩ := DataW.trod_int T.u1 g1
    obtain ⟨f, e2, _, w2⟩ := trod_float T.u2 g2
    obtain ⟨s, e3, _, w3⟩ := DataW.trod_string T.u3 g3
    obtain rfl : v0 = .int .i64 k := by simpa using e0
    obtain rfl : v1 = .int .i64 m := by simpa using e1
    obtain rfl : v2 = .float .f64 f := by simpa using e2
    obtain rfl : v3 = .string s := by simpa using e3
    have hsub : ∀ q, q ∈ y4.1.weights P T.f4.type → q ∈ x.1.weights P e := by
      intro q hq
      rw [hx]
      simp only [DataW.weights, T.under, List.map_cons, List.map_nil, DataW.weightsEach, List.mem_append]
      simp [hq]
    rcases DataW.trod_slice T.u4 g4 with ⟨e4, _⟩ | ⟨a, len, cap, elems, rest, q, hq, e4, hy4, hb, hl, hm, hel, hx4, _, _⟩
    · obtain rfl : v4 = .slice none 0 0 := by simpa using e4
      refine ⟨.mk k m f s none 0 [], rfl, ?_, fun _ => by simp [Small, SmallAll]⟩
      unfold Tr.In
      exact ⟨⟨w0, w1, w2, w3, Nat.le_refl _, Nat.zero_le _, fun _ => rfl⟩, fun ad h => by simp at h⟩
    · obtain rfl : v4 = .slice (some a) len cap := by simpa using e4
      have each : ∀ i, i < len → ∃ t : Tr, (∀ j, j < 5 → w.cell? ((a.add (i * 5)).add j) = t.cells[j]?) ∧ t.In w base ∧ ((∀ q, q ∈ x.1.weights P e → q ≤ reachBytes) → Small t) := by
        intro i hi
        have hb := hx4 i hi
        have hsome : elems[i]? = some (elems[i]'(by omega)) := List.getElem?_eq_getElem (by omega)
        rw [hsome, T.size, Option.bind_eq_some_iff] at hb
        obtain ⟨cs', hc, ht⟩ := hb
        obtain ⟨t, ht1, ht2, ht3⟩ := ih q (by omega) cs' _ ht
        refine ⟨t, fun j hj => ?_, ht2, fun hall => ht3 (fun z hz => hall z (hsub z ?_))⟩
        · have := (World.cells?_some hc).2.2 j hj
          rw [this, ht1]
        · rw [hy4]
          simp only [DataW.weights, T.u4, List.mem_cons, List.mem_append]
          exact .inr (.inl (weightsAll_mem (List.mem_map_of_mem (List.getElem_mem _)) z hz))
      obtain ⟨tf, htf⟩ : ∃ tf : Nat → Tr, ∀ i, i < len → (∀ j, j < 5 → w.cell? ((a.add (i * 5)).add j) = (tf i).cells[j]?) ∧ (tf i).In w base ∧ ((∀ q, q ∈ x.1.weights P e → q ≤ reachBytes) → Small (tf i)) := by
        refine ⟨fun i => if h : i < len then Classical.choose (each i h) else .mk 0 0 0 ⟨#[]⟩ none 0 [], fun i hi => ?_⟩
        simp only [hi, dif_pos]
        exact Classical.choose_spec (each i hi)
      refine ⟨.mk k m f s (some a) cap ((List.range len).map tf), by simp [Tr.cells], ?_, fun hall => ?_⟩
      · unfold Tr.In
        refine ⟨⟨w0, w1, w2, w3, by simpa using hl, hm, fun h => by simp at h⟩, fun ad had => ?_⟩
        obtain rfl : a = ad := by simpa using had
        refine ⟨hb, inAll_of fun j t hj => ?_⟩
        have hj' : j < len := by
          rcases Nat.lt_or_ge j len with h | h
          · exact h
          · rw [List.getElem?_eq_none (by simpa using h)] at hj; simp at hj
        rw [List.getElem?_map, List.getElem?_range hj'] at hj
        obtain rfl : tf j = t := by simpa using hj
        exact ⟨(htf j hj').1, (htf j hj').2.1⟩
      · simp only [Small]
        refine ⟨?_, smallAll_of fun t ht => ?_⟩
        · have h9 := hall ((elems.length + rest.length) * P.bytesOf e) (hsub _ (by
            rw [hy4]
            simp only [DataW.weights, T.u4, List.mem_cons, List.length_map]
            exact .inl trivial))
          have h8 : elems.length + rest.length ≤ (elems.length + rest.length) * P.bytesOf e := Nat.le_mul_of_pos_right _ hby
          have h7 : reachBytes = 140737488351232 := rfl
          rw [List.length_map, List.length_range]
          omega
        · obtain ⟨i, hi, rfl⟩ := List.mem_map.1 ht
          exact (htf i (by simpa using hi)).2.2 hall
end
end Go.Proofs.YtecgddiohoeboaaDoor


/- A term that is handed in, opened. -/
namespace Go.Proofs.YtecgddiohoeboaaDoor
open Go.ChangeShapes Go.WideShapes Go.ChangeAt Go.WideMaps Go.WideElems Go.RowKit

set_option maxRecDepth 100000
theorem laidOut : laidOutB Tryd.prog = true := by kernel_rfl
theorem termCells : Tryd.prog.cellTypes Tryd.prog.depth 44 = some [3, 2, 33, 9, 42] := by kernel_rfl
theorem termSize : Tryd.prog.cellsOf 44 = 5 := by kernel_rfl

theorem value_of_cell {P : Program} {W : World} {r : Reach} {base : Nat} {t : TypeId} {d : TypeDesc} {v : Value} (hd : P.underlying t = some d) (h1 : ∀ fs, d ≠ .struct fs) (h2 : ∀ n e, d ≠ .array n e) (h : Cell.okWide P W r base t v) : Value.okWide P W r base t v := by
  unfold Value.okWide
  rw [hd]
  cases d <;> first | exact h | exact absurd rfl (h1 _) | exact absurd rfl (h2 _ _)

theorem float_lt {P : Program} {W : World} {r : Reach} {base : Nat} {t : TypeId} {f : Nat} (ht : P.underlying t = some (.float .f64)) (h : Value.okWide P W r base t (.float .f64 f)) : f < 2 ^ 64 := by
  simp only [Value.okWide, ht, Cell.okWide, Cell.ok] at h
  simpa [FloatKind.has] using h

theorem term_form {W : World} {base : Nat} {v : Value} (h : Value.okWide Tryd.prog W .any base 44 v) :
    ∃ (k n : Int) (f : Nat) (s : ByteArray) (a : Option Addr) (l c : Nat), v = .agg #[.int .i64 k, .int .i64 n, .float .f64 f, .string s, .slice a l c] ∧ f < 18446744073709551616 := by
  simp only [Value.okWide, Tryd.underlying44] at h
  obtain ⟨cs, rfl, hsz, ts, hts, _, hc⟩ := h
  obtain rfl := Option.some.inj (termCells.symm.trans hts)
  rw [termSize] at hsz
  obtain ⟨l⟩ := cs
  match l, hsz with
  | [c0, c1, c2, c3, c4], _ =>
    obtain ⟨u0, e0, g0⟩ := hc 0 c0 rfl
    obtain ⟨u1, e1, g1⟩ := hc 1 c1 rfl
    obtain ⟨u2, e2, g2⟩ := hc 2 c2 rfl
    obtain ⟨u3, e3, g3⟩ := hc 3 c3 rfl
    obtain ⟨u4, e4, g4⟩ := hc 4 c4 rfl
    obtain rfl : 3 = u0 := Option.some.inj e0
    obtain rfl : 2 = u1 := Option.some.inj e1
    obtain rfl : 33 = u2 := Option.some.inj e2
    obtain rfl : 9 = u3 := Option.some.inj e3
    obtain rfl : 42 = u4 := Option.some.inj e4
    have v0 : Value.okWide Tryd.prog W .any base 3 c0 := value_of_cell Tryd.underlying3 (by simp) (by simp) g0
    have v1 : Value.okWide Tryd.prog W .any base 2 c1 := value_of_cell Tryd.underlying2 (by simp) (by simp) g1
    have v2 : Value.okWide Tryd.prog W .any base 33 c2 := value_of_cell Tryd.underlying33 (by simp) (by simp) g2
    have v3 : Value.okWide Tryd.prog W .any base 9 c3 := value_of_cell Tryd.underlying9 (by simp) (by simp) g3
    have v4 : Value.okWide Tryd.prog W .any base 42 c4 := value_of_cell Tryd.underlying42 (by simp) (by simp) g4
    obtain ⟨k, rfl⟩ := okWide_int Tryd.underlying3 v0
    obtain ⟨n, rfl⟩ := okWide_int Tryd.underlying2 v1
    obtain ⟨f, rfl⟩ := okWide_float Tryd.underlying33 v2
    obtain ⟨s, rfl⟩ := okWide_string Tryd.underlying9 v3
    obtain ⟨a, l, c, rfl⟩ := okWide_slice Tryd.underlying42 v4
    exact ⟨k, n, f, s, a, l, c, rfl, float_lt Tryd.underlying33 v2⟩


theorem open_val {H : Type} {enc : TypeId × Value → H} {W : World} {base : Nat} {v : Value} {d : DataW H} {ps : List MemPlace} (hv : Value.okWide Tryd.prog W .any base 44 v) (h : DataW.Trod enc Tryd.prog W 0 (fun _ => true) true 44 v d ps) :
    ∃ t : Tr, v = t.val ∧ t.In W 0 ∧ ((∀ q, q ∈ d.weights Tryd.prog 44 → q ≤ reachBytes) → Small t) := by
  obtain ⟨k, n, f, s, a, l, c, rfl, _⟩ := term_form hv
  obtain ⟨fuel, hf⟩ := h
  obtain ⟨t, h1, h2, h3⟩ := open_sized termType (of_decide_eq_true (by kernel_rfl)) fuel _ _ hf
  refine ⟨t, ?_, h2, h3⟩
  unfold Tr.val
  rw [← h1]
  rfl
end Go.Proofs.YtecgddiohoeboaaDoor


/- What the rows' condition on the tables gives the walks; and that the start-up's own heap meets it. -/
namespace Go.Proofs.YtecgddiohoeboaaDoor
open Go.ChangeShapes Go.WideShapes Go.ChangeAt Go.WideMaps Go.WideElems Go.RowKit Go.Lib

theorem own : ownKnob Tryd.prog.godebug = none := by kernel_rfl

def laid6 : List (String × DataW Unit) := [("unicode/utf8.acceptRanges", Rows.laid_unicode_utf8_acceptRanges), ("math.pow10tab", Rows.laid_math_pow10tab), ("math.pow10postab32", Rows.laid_math_pow10postab32), ("math.pow10negtab32", Rows.laid_math_pow10negtab32), ("exitwave/lex.signs", Rows.laid_exitwave_lex_signs), ("unicode/utf8.first", Rows.laid_unicode_utf8_first)]

/-- The start-up's heap, the pinned table in its place. -/
noncomputable def doorW (os : Os) : World :=
  { World.doorLaid Tryd.prog 400 os with heap := (World.doorLaid Tryd.prog 400 os).heap.modify 5 fun
    | .cells _ t fz => .cells (Lib.firstTab.map fun z => Value.int .u8 z).toArray t fz
    | o => o }

set_option maxRecDepth 1000000 in
theorem door_met (os : Os) (args : Array Value) : laidMetH Tryd.prog laid6 ((doorW os).forCall (fun _ _ => 0) ⟨#[], args, []⟩).memory :=
  laidMetH_of_parts3 (fuel := 8) (laidMet_of_run' 8 (by kernel_rfl) (by kernel_rfl)) (by kernel_rfl) (by kernel_rfl)

theorem gPost : Tryd.prog.globalNamed "math.pow10postab32" = some 2 := by kernel_rfl
theorem tPost : (Tryd.prog.globals[2]?).map (·.type) = some 101 := by kernel_rfl
theorem gTab : Tryd.prog.globalNamed "math.pow10tab" = some 3 := by kernel_rfl
theorem tTab : (Tryd.prog.globals[3]?).map (·.type) = some 102 := by kernel_rfl
theorem gSig : Tryd.prog.globalNamed "exitwave/lex.signs" = some 1 := by kernel_rfl
theorem tSig : (Tryd.prog.globals[1]?).map (·.type) = some 80 := by kernel_rfl

theorem trod_flt {H : Type} {enc : TypeId × Value → H} {P : Program} {w : World} {base : Nat} {spare : Nat → Bool} {held : Bool} {fuel : Nat} {t : TypeId} {cs : List Value} {x : DataW H × List MemPlace} {k : FloatKind} (ht : P.underlying t = some (.float k)) (h : DataW.trod enc P w base spare held fuel t cs = some x) : ∃ n, cs = [.float k n] ∧ x = (.lit (.float k n), []) := by
  cases fuel with
  | zero => simp [DataW.trod] at h
  | succ n =>
    unfold DataW.trod at h
    rw [ht] at h
    split at h <;> simp_all

theorem reads_float {W : World} {name : String} {g n : Nat} {t : TypeId} {ds : List (DataW Unit)} (h : VarReads Tryd.prog W name (.agg ds)) (hg : Tryd.prog.globalNamed name = some g) (ht : (Tryd.prog.globals[g]?).map (·.type) = some t)
    (hu : Tryd.prog.underlying t = some (.array n 33)) (i : Nat) (hi : i < n) (x : Nat) (hx : ds[i]? = some (.lit (.float .f64 x))) : W.cell? ⟨g, i, none⟩ = some (.float .f64 x) := by
  obtain ⟨g', t', cs, fuel, p, hg', hty, hvar, hd⟩ := h
  obtain rfl := Option.some.inj (hg.symm.trans hg')
  obtain rfl := Option.some.inj (ht.symm.trans hty)
  obtain ⟨fuel', d, q, h1, h2⟩ := array_elem hu hd i hi
  have hc : Tryd.prog.cellsOf 33 = 1 := by kernel_rfl
  rw [hc] at h2
  rw [hx] at h1
  cases h1
  obtain ⟨z, hz, he⟩ := trod_flt Tryd.underlying33 h2
  have hv := World.var?_cell hg' hvar i
  cases he
  have h3 : cs.toList[i]? = some (.float .f64 x) := by
    have := congrArg (·[0]?) hz
    simpa [List.getElem?_take, List.getElem?_drop] using this
  rw [hv, ← Array.getElem?_toList, h3]

theorem reads_string {W : World} {name : String} {g n : Nat} {t : TypeId} {ds : List (DataW Unit)} (h : VarReads Tryd.prog W name (.agg ds)) (hg : Tryd.prog.globalNamed name = some g) (ht : (Tryd.prog.globals[g]?).map (·.type) = some t)
    (hu : Tryd.prog.underlying t = some (.array n 9)) (i : Nat) (hi : i < n) (l : List UInt8) (hx : ds[i]? = some (.lit (.string l))) : W.cell? ⟨g, i, none⟩ = some (.string ⟨l.toArray⟩) := by
  obtain ⟨g', t', cs, fuel, p, hg', hty, hvar, hd⟩ := h
  obtain rfl := Option.some.inj (hg.symm.trans hg')
  obtain rfl := Option.some.inj (ht.symm.trans hty)
  obtain ⟨fuel', d, q, h1, h2⟩ := array_elem hu hd i hi
  have hc : Tryd.prog.cellsOf 9 = 1 := by kernel_rfl
  rw [hc] at h2
  rw [hx] at h1
  cases h1
  obtain ⟨z, hz, he, _⟩ := DataW.trod_string Tryd.underlying9 h2
  have hv := World.var?_cell hg' hvar i
  have hl : l = z.data.toList := by
    have := congrArg Prod.fst he
    simpa using this
  have h3 : cs.toList[i]? = some (.string z) := by
    have := congrArg (·[0]?) hz
    simpa [List.getElem?_take, List.getElem?_drop] using this
  rw [hv, ← Array.getElem?_toList, h3, hl]

theorem lexTab {W : World} (h : laidMetH Tryd.prog laid6 W) : LexTab W := by
  rw [MakeChecks.laidMetH_plain _ _ _ (by kernel_rfl)] at h
  have r1 := Lib.laidMet.reads h (.head _)
  have r2 := Lib.laidMet.reads h (.tail _ (.head _))
  have r3 := Lib.laidMet.reads h (.tail _ (.tail _ (.head _)))
  have r5 := Lib.laidMet.reads h (.tail _ (.tail _ (.tail _ (.tail _ (.head _)))))
  have r6 := Lib.laidMet.reads h (.tail _ (.tail _ (.tail _ (.tail _ (.tail _ (.head _))))))
  have e1 : (Rows.laid_unicode_utf8_acceptRanges : DataW Unit) = acceptData := by kernel_rfl
  have e6 : Rows.laid_unicode_utf8_first = firstData := by kernel_rfl
  rw [e1] at r1
  rw [e6] at r6
  refine ⟨utf8Tabs_of_reads (ρ := Tryd.lays197_ren) { Tryd.lays197 with } ⟨by kernel_rfl, by kernel_rfl, by kernel_rfl, by kernel_rfl, by kernel_rfl, by kernel_rfl, by kernel_rfl⟩ r6 r1, ⟨?_, ?_⟩, ?_⟩
  · exact reads_float r3 gPost tPost Tryd.underlying101 0 (by omega) _ rfl
  · intro k x hk
    have hk16 : k < 16 := (List.getElem?_eq_some_iff.1 hk).1
    refine reads_float r2 gTab tTab Tryd.underlying102 k (by omega) x ?_
    match k, hk16, hk with
    | 0, _, hk => cases hk; rfl
    | 1, _, hk => cases hk; rfl
    | 2, _, hk => cases hk; rfl
    | 3, _, hk => cases hk; rfl
    | 4, _, hk => cases hk; rfl
    | 5, _, hk => cases hk; rfl
    | 6, _, hk => cases hk; rfl
    | 7, _, hk => cases hk; rfl
    | 8, _, hk => cases hk; rfl
    | 9, _, hk => cases hk; rfl
    | 10, _, hk => cases hk; rfl
    | 11, _, hk => cases hk; rfl
    | 12, _, hk => cases hk; rfl
    | 13, _, hk => cases hk; rfl
    | 14, _, hk => cases hk; rfl
    | 15, _, hk => cases hk; rfl
  · intro j v hj
    have hj27 : j < 27 := (List.getElem?_eq_some_iff.1 hj).1
    match j, hj27, hj with
    | 0, _, hj => cases hj; exact reads_string r5 gSig tSig Tryd.underlying80 0 (by omega) _ rfl
    | 1, _, hj => cases hj; exact reads_string r5 gSig tSig Tryd.underlying80 1 (by omega) _ rfl
    | 2, _, hj => cases hj; exact reads_string r5 gSig tSig Tryd.underlying80 2 (by omega) _ rfl
    | 3, _, hj => cases hj; exact reads_string r5 gSig tSig Tryd.underlying80 3 (by omega) _ rfl
    | 4, _, hj => cases hj; exact reads_string r5 gSig tSig Tryd.underlying80 4 (by omega) _ rfl
    | 5, _, hj => cases hj; exact reads_string r5 gSig tSig Tryd.underlying80 5 (by omega) _ rfl
    | 6, _, hj => cases hj; exact reads_string r5 gSig tSig Tryd.underlying80 6 (by omega) _ rfl
    | 7, _, hj => cases hj; exact reads_string r5 gSig tSig Tryd.underlying80 7 (by omega) _ rfl
    | 8, _, hj => cases hj; exact reads_string r5 gSig tSig Tryd.underlying80 8 (by omega) _ rfl
    | 9, _, hj => cases hj; exact reads_string r5 gSig tSig Tryd.underlying80 9 (by omega) _ rfl
    | 10, _, hj => cases hj; exact reads_string r5 gSig tSig Tryd.underlying80 10 (by omega) _ rfl
    | 11, _, hj => cases hj; exact reads_string r5 gSig tSig Tryd.underlying80 11 (by omega) _ rfl
    | 12, _, hj => cases hj; exact reads_string r5 gSig tSig Tryd.underlying80 12 (by omega) _ rfl
    | 13, _, hj => cases hj; exact reads_string r5 gSig tSig Tryd.underlying80 13 (by omega) _ rfl
    | 14, _, hj => cases hj; exact reads_string r5 gSig tSig Tryd.underlying80 14 (by omega) _ rfl
    | 15, _, hj => cases hj; exact reads_string r5 gSig tSig Tryd.underlying80 15 (by omega) _ rfl
    | 16, _, hj => cases hj; exact reads_string r5 gSig tSig Tryd.underlying80 16 (by omega) _ rfl
    | 17, _, hj => cases hj; exact reads_string r5 gSig tSig Tryd.underlying80 17 (by omega) _ rfl
    | 18, _, hj => cases hj; exact reads_string r5 gSig tSig Tryd.underlying80 18 (by omega) _ rfl
    | 19, _, hj => cases hj; exact reads_string r5 gSig tSig Tryd.underlying80 19 (by omega) _ rfl
    | 20, _, hj => cases hj; exact reads_string r5 gSig tSig Tryd.underlying80 20 (by omega) _ rfl
    | 21, _, hj => cases hj; exact reads_string r5 gSig tSig Tryd.underlying80 21 (by omega) _ rfl
    | 22, _, hj => cases hj; exact reads_string r5 gSig tSig Tryd.underlying80 22 (by omega) _ rfl
    | 23, _, hj => cases hj; exact reads_string r5 gSig tSig Tryd.underlying80 23 (by omega) _ rfl
    | 24, _, hj => cases hj; exact reads_string r5 gSig tSig Tryd.underlying80 24 (by omega) _ rfl
    | 25, _, hj => cases hj; exact reads_string r5 gSig tSig Tryd.underlying80 25 (by omega) _ rfl
    | 26, _, hj => cases hj; exact reads_string r5 gSig tSig Tryd.underlying80 26 (by omega) _ rfl
end Go.Proofs.YtecgddiohoeboaaDoor


