import Derived.Test.YtpcpdehnppfbfaaGreatG12
import Derived.Test.YtpcpdehnppfbfaaGreatG13
import Derived.Deep.SlicePairs
/- slices.SortedFunc(maps.Keys(lanes), compareEnds), of any number of lanes: all of them, rising. -/
namespace Go.Proofs.YtpcpdehnppfbfaaGreat
open Go.RowKit Go.Maps Go.Sort Go.Shelf
attribute [local go_sem] Oper.semAt_some

set_option maxHeartbeats 1000000 in
theorem sorted_rise {w : World} {Bm : Nat} {mv : Value} {f : Int → Int → Option Lane} (hBm : Bm < w.heap.size) (hc : w.cell? ⟨Bm, 0, none⟩ = some mv) {N : Nat} (hN : N ≤ 1000000) (hmany : ∀ ks, LKeys f ks → ks.length ≤ 1000000)
    (hm : (mv = .map none ∧ ∀ a b, f a b = none) ∨ ∃ mb n, mv = .map (some mb) ∧ EM w mb n (fun a b => (f a b).map Lane.rb) ∧ n ≤ N) :
    Calls Tryz.prog SF #[.func (.func K1) #[] #[.pointer (some ⟨Bm, 0, none⟩)], .func (.func 25) #[] #[]] w fun e w' => ∃ (q : Option Addr) (c : Nat) (ks : List (Int × Int)), e = .returned (.slice q ks.length c) ∧ LKeys f ks ∧ Rise ks ∧ w'.ownsRow w.heap.size KT 2 (.slice q ks.length c) ks.length (kvs ks) ∧ Below w.heap.size w w' := by
  have CA := hidb (collect_any hBm hc hN hm)
  have HMY := hidb hmany
  clear hBm hc hm hmany
  go_enter Tryz.func23, Tryz.ntmps23
  go_wp2_with (first
    | (go_at_call 37; refine CA.out.mono ?_; rintro e w1 ⟨v, ks, rfl, hk, ho, hb⟩; obtain ⟨q, c, rfl⟩ := own_sl ho; have HK := hidb hk; have HO := hidb ho; have HB := hidb hb; have SO := hidb (sort_ends ho rfl (by have := HMY.out ks hk; omega) hk.1); clear hk ho hb CA; generalize hL : ks.length = L at *; have HL := hidb hL; clear hL)
    | (go_at_call 38; refine SO.out.mono ?_; rintro e w2 ⟨rfl, l', hp, hr, hs, hb2⟩; have HP := hidb hp; have HR := hidb hr; have HS := hidb hs; have HB2 := hidb hb2; clear hp hr hs hb2))
  go_ret
  have hlen : l'.length = L := HP.out.length_eq.trans HL.out
  subst hlen
  refine ⟨q, c, l', rfl, ?_, HR.out, ?_, ?_⟩
  · obtain ⟨k1, k2, k3⟩ := HK.out
    exact ⟨HP.out.nodup_iff.2 k1, fun a b ha hb => by rw [HP.out.mem_iff]; exact k2 a b ha hb, fun x hx => k3 x (HP.out.mem_iff.1 hx)⟩
  · exact HS.out
  · exact HB.out.trans (HB2.out.below HB.out.size (fun k e => (row_lt HO.out k e).2))
end Go.Proofs.YtpcpdehnppfbfaaGreat


/- A term that is read out of memory is a tree: its five fields, and behind its slice the terms that it has, each a tree again. -/
namespace Go.Proofs.YtpcpdehnppfbfaaGreat
open Go.Deep Go.ChangeShapes Go.WideShapes

/-- A term as it lies: kind, number, float's bits, text, the slice's address and room, the elements. -/
inductive Tr where
  | mk (k n : Int) (f : Nat) (s : ByteArray) (a : Option Addr) (c : Nat) (kids : List Tr)

def Tr.cells : Tr → List Value
  | .mk k n f s a c kids => [.int .i64 k, .int .i64 n, .float .f64 f, .string s, .slice a kids.length c]

def Tr.kids : Tr → List Tr
  | .mk _ _ _ _ _ _ kids => kids

/-- The numbers of one term fit. -/
def Tr.fit : Tr → Prop
  | .mk k n f s a c kids => (Lit.int .i64 k).wf = true ∧ (Lit.int .i64 n).wf = true ∧ (Lit.float .f64 f).wf = true ∧ s.size ≤ maxLen ∧ kids.length ≤ c ∧ c ≤ maxLen ∧ (a = none → c = 0)

mutual
/-- The tree lies in a world, from block 'base' on. -/
def Tr.In (w : World) (base : Nat) : Tr → Prop
  | .mk k n f s a c kids => Tr.fit (.mk k n f s a c kids) ∧ ∀ ad, a = some ad → base ≤ ad.block ∧ Tr.InAll w base ad kids
def Tr.InAll (w : World) (base : Nat) (a : Addr) : List Tr → Prop
  | [] => True
  | t :: r => (∀ i, i < 5 → w.cell? (a.add i) = t.cells[i]?) ∧ Tr.In w base t ∧ Tr.InAll w base (a.add 5) r
end

section
variable {H : Type} {enc : TypeId × Value → H} {P : Program} {w : World} {base : Nat} {spare : Nat → Bool} {held : Bool}

theorem trod_float {t : TypeId} {k : FloatKind} {fuel : Nat} {cs : List Value} {x : DataW H × List MemPlace} (ht : P.underlying t = some (.float k)) (h : DataW.trod enc P w base spare held fuel t cs = some x) :
    ∃ b, cs = [.float k b] ∧ x = (.lit (.float k b), []) ∧ (Lit.float k b).wf = true := by
  cases fuel with
  | zero => simp [DataW.trod] at h
  | succ n =>
    unfold DataW.trod at h
    rw [ht] at h
    split at h <;> simp_all

/-- The type of a term in a program: a struct of five one-cell fields, the last a slice of itself. -/
structure TermType (P : Program) (e : TypeId) where
  (f0 f1 f2 f3 f4 : Field)
  under : P.underlying e = some (.struct #[f0, f1, f2, f3, f4])
  size : P.cellsOf e = 5
  o0 : f0.offset = 0
  o1 : f1.offset = 1
  o2 : f2.offset = 2
  o3 : f3.offset = 3
  o4 : f4.offset = 4
  c0 : P.cellsOf f0.type = 1
  c1 : P.cellsOf f1.type = 1
  c2 : P.cellsOf f2.type = 1
  c3 : P.cellsOf f3.type = 1
  c4 : P.cellsOf f4.type = 1
  u0 : P.underlying f0.type = some (.int .i64)
  u1 : P.underlying f1.type = some (.int .i64)
  u2 : P.underlying f2.type = some (.float .f64)
  u3 : P.underlying f3.type = some .string
  u4 : P.underlying f4.type = some (.slice e)

theorem inAll_of {kids : List Tr} : ∀ {a : Addr}, (∀ (j : Nat) (t : Tr), kids[j]? = some t → (∀ i, i < 5 → w.cell? ((a.add (j * 5)).add i) = t.cells[i]?) ∧ t.In w base) → Tr.InAll w base a kids := by
  induction kids with
  | nil => intro a _; unfold Tr.InAll; trivial
  | cons t r ih =>
    intro a h
    unfold Tr.InAll
    refine ⟨fun i hi => ?_, (h 0 t rfl).2, ih fun j u hu => ?_⟩
    · have := (h 0 t rfl).1 i hi
      rw [add_add] at this
      simpa using this
    · have g := h (j + 1) u (by simpa using hu)
      refine ⟨fun i hi => ?_, g.2⟩
      have := g.1 i hi
      rw [add_add] at this ⊢
      rw [add_add]
      rw [← this]
      congr 2
      omega

/-- What is read as a term is a tree that lies there. -/
theorem open_term {e : TypeId} (T : TermType P e) : ∀ (fuel : Nat) (cs : List Value) (x : DataW H × List MemPlace), DataW.trod enc P w base spare held fuel e cs = some x →
    ∃ t : Tr, cs = t.cells ∧ t.In w base := by
  intro fuel
  induction fuel using Nat.strongRecOn with
  | ind fuel ih =>
  intro cs x h
  obtain ⟨xs, n, hn, hx, hlen, hxl, hf⟩ := DataW.trod_struct T.under h
  rw [T.size] at hlen
  match xs, hxl, cs, hlen with
  | [y0, y1, y2, y3, y4], _, [v0, v1, v2, v3, v4], _ =>
    have g0 := hf 0 T.f0 rfl
    have g1 := hf 1 T.f1 rfl
    have g2 := hf 2 T.f2 rfl
    have g3 := hf 3 T.f3 rfl
    have g4 := hf 4 T.f4 rfl
    simp [T.o0, T.o1, T.o2, T.o3, T.o4, T.c0, T.c1, T.c2, T.c3, T.c4] at g0 g1 g2 g3 g4
    obtain ⟨k, e0, _, w0⟩ := DataW.trod_int T.u0 g0
    obtain ⟨m, e1, _, w1⟩ := DataW.trod_int T.u1 g1
    obtain ⟨f, e2, _, w2⟩ := trod_float T.u2 g2
    obtain ⟨s, e3, _, w3⟩ := DataW.trod_string T.u3 g3
    obtain rfl : v0 = .int .i64 k := by simpa using e0
    obtain rfl : v1 = .int .i64 m := by simpa using e1
    obtain rfl : v2 = .float .f64 f := by simpa using e2
    obtain rfl : v3 = .string s := by simpa using e3
    rcases DataW.trod_slice T.u4 g4 with ⟨e4, _⟩ | ⟨a, len, cap, elems, rest, q, hq, e4, _, hb, hl, hm, hel, hx4, _, _⟩
    · obtain rfl : v4 = .slice none 0 0 := by simpa using e4
      refine ⟨.mk k m f s none 0 [], rfl, ?_⟩
      unfold Tr.In
      exact ⟨⟨w0, w1, w2, w3, Nat.le_refl _, Nat.zero_le _, fun _ => rfl⟩, fun ad h => by simp at h⟩
    · obtain rfl : v4 = .slice (some a) len cap := by simpa using e4
      have each : ∀ i, i < len → ∃ t : Tr, (∀ j, j < 5 → w.cell? ((a.add (i * 5)).add j) = t.cells[j]?) ∧ t.In w base := by
        intro i hi
        have hb := hx4 i hi
        have hsome : elems[i]? = some (elems[i]'(by omega)) := List.getElem?_eq_getElem (by omega)
        rw [hsome, T.size, Option.bind_eq_some_iff] at hb
        obtain ⟨cs', hc, ht⟩ := hb
        obtain ⟨t, ht1, ht2⟩ := ih q (by omega) cs' _ ht
        refine ⟨t, fun j hj => ?_, ht2⟩
        have := (World.cells?_some hc).2.2 j hj
        rw [this, ht1]
      obtain ⟨tf, htf⟩ : ∃ tf : Nat → Tr, ∀ i, i < len → (∀ j, j < 5 → w.cell? ((a.add (i * 5)).add j) = (tf i).cells[j]?) ∧ (tf i).In w base := by
        refine ⟨fun i => if h : i < len then Classical.choose (each i h) else .mk 0 0 0 ⟨#[]⟩ none 0 [], fun i hi => ?_⟩
        simp only [hi, dif_pos]
        exact Classical.choose_spec (each i hi)
      refine ⟨.mk k m f s (some a) cap ((List.range len).map tf), by simp [Tr.cells], ?_⟩
      unfold Tr.In
      refine ⟨⟨w0, w1, w2, w3, by simpa using hl, hm, fun h => by simp at h⟩, fun ad had => ?_⟩
      obtain rfl : a = ad := by simpa using had
      refine ⟨hb, inAll_of fun j t hj => ?_⟩
      have hj' : j < len := by
        rcases Nat.lt_or_ge j len with h | h
        · exact h
        · rw [List.getElem?_eq_none (by simpa using h)] at hj; simp at hj
      rw [List.getElem?_map, List.getElem?_range hj'] at hj
      obtain rfl : tf j = t := by simpa using hj
      exact htf j hj'
end
end Go.Proofs.YtpcpdehnppfbfaaGreat


