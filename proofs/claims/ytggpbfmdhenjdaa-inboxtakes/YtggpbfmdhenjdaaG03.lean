import Derived.Deep.SlicePairs
import Derived.Below
import Derived.Laws.World
/- A term that is read out of memory is a tree: its five fields, and behind its slice the terms that it has, each a tree again. -/
namespace Go.Proofs.Ytggpbfmdhenjdaa
open Go.Deep Go.ChangeShapes Go.WideShapes

/-- A term as it lies: kind, number, float's bits, text, the slice's address and room, the elements. -/
inductive Tr where
  | mk (k n : Int) (f : Nat) (s : ByteArray) (a : Option Addr) (c : Nat) (kids : List Tr)

def Tr.cells : Tr → List Value
  | .mk k n f s a c kids => [.int .i64 k, .int .i64 n, .float .f64 f, .string s, .slice a kids.length c]

def Tr.kids : Tr → List Tr
  | .mk _ _ _ _ _ _ kids => kids

/-- The numbers of one term fit. -/
def Tr.fit : Tr → Prop
  | .mk k n f s a c kids => (Lit.int .i64 k).wf = true ∧ (Lit.int .i64 n).wf = true ∧ (Lit.float .f64 f).wf = true ∧ s.size ≤ maxLen ∧ kids.length ≤ c ∧ c ≤ maxLen ∧ (a = none → c = 0)

mutual
/-- The tree lies in a world, from block 'base' on. -/
def Tr.In (w : World) (base : Nat) : Tr → Prop
  | .mk k n f s a c kids => Tr.fit (.mk k n f s a c kids) ∧ ∀ ad, a = some ad → base ≤ ad.block ∧ Tr.InAll w base ad kids
def Tr.InAll (w : World) (base : Nat) (a : Addr) : List Tr → Prop
  | [] => True
  | t :: r => (∀ i, i < 5 → w.cell? (a.add i) = t.cells[i]?) ∧ Tr.In w base t ∧ Tr.InAll w base (a.add 5) r
end

section
variable {H : Type} {enc : TypeId × Value → H} {P : Program} {w : World} {base : Nat} {spare : Nat → Bool} {held : Bool}

theorem trod_float {t : TypeId} {k : FloatKind} {fuel : Nat} {cs : List Value} {x : DataW H × List MemPlace} (ht : P.underlying t = some (.float k)) (h : DataW.trod enc P w base spare held fuel t cs = some x) :
    ∃ b, cs = [.float k b] ∧ x = (.lit (.float k b), []) ∧ (Lit.float k b).wf = true := by
  cases fuel with
  | zero => simp [DataW.trod] at h
  | succ n =>
    unfold DataW.trod at h
    rw [ht] at h
    split at h <;> simp_all

/-- The type of a term in a program: a struct of five one-cell fields, the last a slice of itself. -/
structure TermType (P : Program) (e : TypeId) where
  (f0 f1 f2 f3 f4 : Field)
  under : P.underlying e = some (.struct #[f0, f1, f2, f3, f4])
  size : P.cellsOf e = 5
  o0 : f0.offset = 0
  o1 : f1.offset = 1
  o2 : f2.offset = 2
  o3 : f3.offset = 3
  o4 : f4.offset = 4
  c0 : P.cellsOf f0.type = 1
  c1 : P.cellsOf f1.type = 1
  c2 : P.cellsOf f2.type = 1
  c3 : P.cellsOf f3.type = 1
  c4 : P.cellsOf f4.type = 1
  u0 : P.underlying f0.type = some (.int .i64)
  u1 : P.underlying f1.type = some (.int .i64)
  u2 : P.underlying f2.type = some (.float .f64)
  u3 : P.underlying f3.type = some .string
  u4 : P.underlying f4.type = some (.slice e)

theorem inAll_of {kids : List Tr} : ∀ {a : Addr}, (∀ (j : Nat) (t : Tr), kids[j]? = some t → (∀ i, i < 5 → w.cell? ((a.add (j * 5)).add i) = t.cells[i]?) ∧ t.In w base) → Tr.InAll w base a kids := by
  induction kids with
  | nil => intro a _; unfold Tr.InAll; trivial
  | cons t r ih =>
    intro a h
    unfold Tr.InAll
    refine ⟨fun i hi => ?_, (h 0 t rfl).2, ih fun j u hu => ?_⟩
    · have := (h 0 t rfl).1 i hi
      rw [add_add] at this
      simpa using this
    · have g := h (j + 1) u (by simpa using hu)
      refine ⟨fun i hi => ?_, g.2⟩
      have := g.1 i hi
      rw [add_add] at this ⊢
      rw [add_add]
      rw [← this]
      congr 2
      omega

/-- What is read as a term is a tree that lies there. -/
theorem open_term {e : TypeId} (T : TermType P e) : ∀ (fuel : Nat) (cs : List Value) (x : DataW H × List MemPlace), DataW.trod enc P w base spare held fuel e cs = some x →
    ∃ t : Tr, cs = t.cells ∧ t.In w base := by
  intro fuel
  induction fuel using Nat.strongRecOn with
  | ind fuel ih =>
  intro cs x h
  obtain ⟨xs, n, hn, hx, hlen, hxl, hf⟩ := DataW.trod_struct T.under h
  rw [T.size] at hlen
  match xs, hxl, cs, hlen with
  | [y0, y1, y2, y3, y4], _, [v0, v1, v2, v3, v4], _ =>
    have g0 := hf 0 T.f0 rfl
    have g1 := hf 1 T.f1 rfl
    have g2 := hf 2 T.f2 rfl
    have g3 := hf 3 T.f3 rfl
    have g4 := hf 4 T.f4 rfl
    simp [T.o0, T.o1, T.o2, T.o3, T.o4, T.c0, T.c1, T.c2, T.c3, T.c4] at g0 g1 g2 g3 g4
    obtain ⟨k, e0, _, w0⟩ := DataW.trod_int T.u0 g0
    obtain ⟨m, e1, _, w1⟩ := DataW.trod_int T.u1 g1
    obtain ⟨f, e2, _, w2⟩ := trod_float T.u2 g2
    obtain ⟨s, e3, _, w3⟩ := DataW.trod_string T.u3 g3
    obtain rfl : v0 = .int .i64 k := by simpa using e0
    obtain rfl : v1 = .int .i64 m := by simpa using e1
    obtain rfl : v2 = .float .f64 f := by simpa using e2
    obtain rfl : v3 = .string s := by simpa using e3
    rcases DataW.trod_slice T.u4 g4 with ⟨e4, _⟩ | ⟨a, len, cap, elems, rest, q, hq, e4, _, hb, hl, hm, hel, hx4, _, _⟩
    · obtain rfl : v4 = .slice none 0 0 := by simpa using e4
      refine ⟨.mk k m f s none 0 [], rfl, ?_⟩
      unfold Tr.In
      exact ⟨⟨w0, w1, w2, w3, Nat.le_refl _, Nat.zero_le _, fun _ => rfl⟩, fun ad h => by simp at h⟩
    · obtain rfl : v4 = .slice (some a) len cap := by simpa using e4
      have each : ∀ i, i < len → ∃ t : Tr, (∀ j, j < 5 → w.cell? ((a.add (i * 5)).add j) = t.cells[j]?) ∧ t.In w base := by
        intro i hi
        have hb := hx4 i hi
        have hsome : elems[i]? = some (elems[i]'(by omega)) := List.getElem?_eq_getElem (by omega)
        rw [hsome, T.size, Option.bind_eq_some_iff] at hb
        obtain ⟨cs', hc, ht⟩ := hb
        obtain ⟨t, ht1, ht2⟩ := ih q (by omega) cs' _ ht
        refine ⟨t, fun j hj => ?_, ht2⟩
        have := (World.cells?_some hc).2.2 j hj
        rw [this, ht1]
      obtain ⟨tf, htf⟩ : ∃ tf : Nat → Tr, ∀ i, i < len → (∀ j, j < 5 → w.cell? ((a.add (i * 5)).add j) = (tf i).cells[j]?) ∧ (tf i).In w base := by
        refine ⟨fun i => if h : i < len then Classical.choose (each i h) else .mk 0 0 0 ⟨#[]⟩ none 0 [], fun i hi => ?_⟩
        simp only [hi, dif_pos]
        exact Classical.choose_spec (each i hi)
      refine ⟨.mk k m f s (some a) cap ((List.range len).map tf), by simp [Tr.cells], ?_⟩
      unfold Tr.In
      refine ⟨⟨w0, w1, w2, w3, by simpa using hl, hm, fun h => by simp at h⟩, fun ad had => ?_⟩
      obtain rfl : a = ad := by simpa using had
      refine ⟨hb, inAll_of fun j t hj => ?_⟩
      have hj' : j < len := by
        rcases Nat.lt_or_ge j len with h | h
        · exact h
        · rw [List.getElem?_eq_none (by simpa using h)] at hj; simp at hj
      rw [List.getElem?_map, List.getElem?_range hj'] at hj
      obtain rfl : tf j = t := by simpa using hj
      exact htf j hj'
end
end Go.Proofs.Ytggpbfmdhenjdaa


/- Terms that are trees: measured as the program does, and as the document says: the same. -/
namespace Go.Proofs.Ytggpbfmdhenjdaa
open Go.Deep Go.RowKit

theorem Tr.ind {Q : Tr → Prop} (h : ∀ k n f s a c kids, (∀ t, t ∈ kids → Q t) → Q (.mk k n f s a c kids)) : ∀ t, Q t
  | .mk k n f s a c kids => h k n f s a c kids (fun t _ => Tr.ind h t)

/-- The words of a term itself. -/
def own (k : Int) (len : Nat) : Int :=
  if k = 1 ∨ k = 3 ∨ k = 6 then 0 else if k = 2 ∨ k = 4 then 2 else if k = 8 then 2 * len else if k = 5 then 2 + len else 1 + len

theorem own_nonneg (k : Int) (len : Nat) : 0 ≤ own k len := by
  unfold own; repeat' split
  all_goals omega

abbrev St := Int × Int × Bool

mutual
/-- The program's walk over a term: words so far, depth so far, whether something is wrong. -/
def over (good : Tr → Bool) : Tr → Int → St → Bool × St
  | .mk k n f s a c kids, d, st =>
    if st.1 + own k kids.length > 65536 ∨ max st.2.1 d > 200 then (false, (st.1 + own k kids.length, max st.2.1 d, st.2.2))
    else overAll good kids (d + 1) (st.1 + own k kids.length, max st.2.1 d, st.2.2 || !good (.mk k n f s a c kids))
def overAll (good : Tr → Bool) : List Tr → Int → St → Bool × St
  | [], _, st => (true, st)
  | t :: r, d, st => if (over good t d st).1 then overAll good r d (over good t d st).2 else (false, (over good t d st).2)
end

mutual
/-- The document's measure: the words, or -1. -/
def meas : Tr → Int → Int → Int
  | .mk k _ _ _ _ _ kids, depth, most => if depth < 1 ∨ own k kids.length > most then -1 else measAll kids (depth - 1) most (own k kids.length)
def measAll : List Tr → Int → Int → Int → Int
  | [], _, _, n => n
  | t :: r, depth, most, n => if meas t depth (most - n) < 0 then -1 else measAll r depth most (n + meas t depth (most - n))
end

mutual
/-- The document's depth. -/
def deep : Tr → Int
  | .mk _ _ _ _ _ _ kids => deepAll kids 0 + 1
def deepAll : List Tr → Int → Int
  | [], m => m
  | t :: r, m => deepAll r (if m < deep t then deep t else m)
end

mutual
def allT (good : Tr → Bool) : Tr → Bool
  | .mk k n f s a c kids => good (.mk k n f s a c kids) && allAll good kids
def allAll (good : Tr → Bool) : List Tr → Bool
  | [] => true
  | t :: r => allT good t && allAll good r
end

theorem deepAll_max (kids : List Tr) : ∀ m, m ≤ deepAll kids m ∧ ∀ m', m' ≤ m → deepAll kids m = max m (deepAll kids m') := by
  induction kids with
  | nil => intro m; simp only [deepAll]; exact ⟨Int.le_refl _, fun m' h => by omega⟩
  | cons t r ih =>
    intro m
    simp only [deepAll]
    have g := ih (if m < deep t then deep t else m)
    refine ⟨?_, fun m' hm' => ?_⟩
    · have g1 := g.1
      refine Int.le_trans ?_ g1
      split <;> omega
    · have g' := (ih (if m' < deep t then deep t else m')).1
      by_cases h1 : m < deep t
      · have h2 : m' < deep t := by omega
        simp only [h1, h2, if_true] at g g' ⊢
        omega
      · simp only [h1, if_false] at g ⊢
        have := g.2 (if m' < deep t then deep t else m') (by split <;> omega)
        rw [this]

theorem deepAll_nonneg (kids : List Tr) : 0 ≤ deepAll kids 0 := (deepAll_max kids 0).1

theorem deep_pos (t : Tr) : 1 ≤ deep t := by
  cases t with | mk k n f s a c kids => simp only [deep]; have := deepAll_nonneg kids; omega

/-- What the walk and the measure say of one term. -/
def Agree (good : Tr → Bool) (t : Tr) : Prop :=
  ∀ (d W D : Int) (bad : Bool), 1 ≤ d → D ≤ 200 → d - 1 ≤ D → W ≤ 65536 →
    (meas t (201 - d) (65536 - W) < 0 ∧ (over good t d (W, D, bad)).1 = false) ∨
    (0 ≤ meas t (201 - d) (65536 - W) ∧ W + meas t (201 - d) (65536 - W) ≤ 65536 ∧ d - 1 + deep t ≤ 200 ∧
      over good t d (W, D, bad) = (true, (W + meas t (201 - d) (65536 - W), max D (d - 1 + deep t), bad || !allT good t)))

theorem agree_all (good : Tr → Bool) (kids : List Tr) (hk : ∀ t, t ∈ kids → Agree good t) : ∀ (d W D most n : Int) (bad : Bool), 1 ≤ d → D ≤ 200 → d - 1 ≤ D → W ≤ 65536 → 0 ≤ n → most - n = 65536 - W →
    (measAll kids (201 - d) most n < 0 ∧ (overAll good kids d (W, D, bad)).1 = false) ∨
    (0 ≤ measAll kids (201 - d) most n ∧ W + (measAll kids (201 - d) most n - n) ≤ 65536 ∧ d - 1 + deepAll kids 0 ≤ 200 ∧
      overAll good kids d (W, D, bad) = (true, (W + (measAll kids (201 - d) most n - n), max D (d - 1 + deepAll kids 0), bad || !allAll good kids))) := by
  induction kids with
  | nil =>
    intro d W D most n bad h1 h2 h3 h4 h5 h6
    right
    simp only [measAll, overAll, deepAll, allAll]
    refine ⟨h5, by omega, by omega, ?_⟩
    have e1 : W + (n - n) = W := by omega
    have e2 : max D (d - 1 + 0) = D := by omega
    rw [e1, e2]; simp
  | cons t r ih =>
    intro d W D most n bad h1 h2 h3 h4 h5 h6
    simp only [measAll, overAll, deepAll, allAll]
    rw [h6]
    rcases hk t (List.mem_cons_self ..) d W D bad h1 h2 h3 h4 with ⟨g1, g2⟩ | ⟨g1, g2, g3, g4⟩
    · left
      rw [if_pos g1]
      simp [g2]
    · rw [if_neg (by omega), g4]
      have ht := deep_pos t
      have hmax : max D (d - 1 + deep t) ≤ 200 := by omega
      have hlow : d - 1 ≤ max D (d - 1 + deep t) := by omega
      rcases ih (fun u hu => hk u (List.mem_cons_of_mem _ hu)) d (W + meas t (201 - d) (65536 - W)) (max D (d - 1 + deep t)) most (n + meas t (201 - d) (65536 - W)) (bad || !allT good t) h1 hmax hlow g2 (by omega) (by omega) with ⟨q1, q2⟩ | ⟨q1, q2, q3, q4⟩
      · left
        exact ⟨q1, by simpa using q2⟩
      · right
        have h0 : (if (0 : Int) < deep t then deep t else 0) = deep t := if_pos (by omega)
        have hd := (deepAll_max r (deep t)).2 0 (by omega)
        have h7 := deepAll_nonneg r
        rw [h0, hd]
        refine ⟨q1, by omega, by omega, ?_⟩
        simp only [if_true]
        rw [q4]
        have e1 : W + meas t (201 - d) (65536 - W) + (measAll r (201 - d) most (n + meas t (201 - d) (65536 - W)) - (n + meas t (201 - d) (65536 - W))) = W + (measAll r (201 - d) most (n + meas t (201 - d) (65536 - W)) - n) := by omega
        have e2 : max (max D (d - 1 + deep t)) (d - 1 + deepAll r 0) = max D (d - 1 + max (deep t) (deepAll r 0)) := by omega
        rw [e1, e2]
        cases bad <;> cases allT good t <;> cases allAll good r <;> rfl

theorem agree (good : Tr → Bool) : ∀ t, Agree good t := by
  refine Tr.ind fun k n f s a c kids hk => ?_
  intro d W D bad h1 h2 h3 h4
  simp only [meas, over, deep, allT]
  have ho := own_nonneg k kids.length
  by_cases h : 201 - d < 1 ∨ own k kids.length > 65536 - W
  · left
    rw [if_pos h, if_pos (by omega)]
    exact ⟨by omega, rfl⟩
  · rw [if_neg h, if_neg (by omega)]
    have e : 201 - d - 1 = 201 - (d + 1) := by omega
    rw [e]
    have hm : max D d ≤ 200 := by omega
    have h7 := deepAll_nonneg kids
    rcases agree_all good kids hk (d + 1) (W + own k kids.length) (max D d) (65536 - W) (own k kids.length) (bad || !good (.mk k n f s a c kids)) (by omega) hm (by omega) (by omega) ho (by omega) with ⟨q1, q2⟩ | ⟨q1, q2, q3, q4⟩
    · exact Or.inl ⟨q1, q2⟩
    · right
      refine ⟨q1, by omega, by omega, ?_⟩
      rw [q4]
      have e1 : W + own k kids.length + (measAll kids (201 - (d + 1)) (65536 - W) (own k kids.length) - own k kids.length) = W + measAll kids (201 - (d + 1)) (65536 - W) (own k kids.length) := by omega
      have e2 : max (max D d) (d + 1 - 1 + deepAll kids 0) = max D (d - 1 + (deepAll kids 0 + 1)) := by omega
      rw [e1, e2]
      cases bad <;> cases good (.mk k n f s a c kids) <;> cases allAll good kids <;> rfl

/-- From the start: depth 1, no words. -/
theorem agree_start (good : Tr → Bool) (t : Tr) :
    (meas t 200 65536 < 0 ∧ (over good t 1 (0, 0, false)).1 = false) ∨
    (0 ≤ meas t 200 65536 ∧ meas t 200 65536 ≤ 65536 ∧ deep t ≤ 200 ∧ over good t 1 (0, 0, false) = (true, (meas t 200 65536, deep t, !allT good t))) := by
  have ht := deep_pos t
  rcases agree good t 1 0 0 false (by omega) (by omega) (by omega) (by omega) with ⟨g1, g2⟩ | ⟨g1, g2, g3, g4⟩
  · exact Or.inl ⟨g1, g2⟩
  · right
    have e1 : (0 : Int) + meas t (201 - 1) (65536 - 0) = meas t 200 65536 := by simp
    have e2 : max (0 : Int) (1 - 1 + deep t) = deep t := by omega
    rw [e1] at g2
    rw [e1, e2] at g4
    exact ⟨g1, g2, by omega, by simpa using g4⟩

/-- An element of what lies there. -/
theorem inAll_get {w : World} {base : Nat} {kids : List Tr} : ∀ {a : Addr}, Tr.InAll w base a kids → ∀ (j : Nat) (t : Tr), kids[j]? = some t → (∀ i, i < 5 → w.cell? (a.add (j * 5 + i)) = t.cells[i]?) ∧ t.In w base := by
  induction kids with
  | nil => intro a _ j t h; simp at h
  | cons u r ih =>
    intro a h j t hj
    unfold Tr.InAll at h
    cases j with
    | zero =>
      obtain rfl : u = t := by simpa using hj
      exact ⟨fun i hi => by simpa using h.1 i hi, h.2.1⟩
    | succ j =>
      have g := ih h.2.2 j t (by simpa using hj)
      refine ⟨fun i hi => ?_, g.2⟩
      rw [← g.1 i hi, add_add]
      congr 2
      omega

/-- What lies in a world lies in any that holds the same cells. -/
theorem in_keeps {w w' : World} {base : Nat} (hw : ∀ p v, w.cell? p = some v → w'.cell? p = some v) : ∀ t : Tr, t.In w base → t.In w' base := by
  refine Tr.ind fun k n f s a c kids hk h => ?_
  unfold Tr.In at h ⊢
  refine ⟨h.1, fun ad had => ⟨(h.2 ad had).1, inAll_of fun j t hj => ?_⟩⟩
  have g := inAll_get (h.2 ad had).2 j t hj
  refine ⟨fun i hi => ?_, hk t (List.mem_of_getElem? hj) g.2⟩
  rw [add_add]
  have e := g.1 i hi
  have hl : i < t.cells.length := by cases t; simpa [Tr.cells] using hi
  rw [List.getElem?_eq_getElem hl] at e ⊢
  exact hw _ _ e

theorem in_below {w w' : World} {base : Nat} (h : Below w.heap.size w w') {t : Tr} (ht : t.In w base) : t.In w' base :=
  in_keeps (fun p v hv => by rw [h.cell (World.block_lt_of_cell? w p hv)]; exact hv) t ht
end Go.Proofs.Ytggpbfmdhenjdaa


