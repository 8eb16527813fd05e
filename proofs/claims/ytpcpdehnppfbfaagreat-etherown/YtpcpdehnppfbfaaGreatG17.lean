import Derived.Test.YtpcpdehnppfbfaaGreatG04
import Derived.Test.YtpcpdehnppfbfaaGreatG16
/- What term.copyAll goes by: rows that are copied, those that wait. -/
namespace Go.Proofs.YtpcpdehnppfbfaaGreat
open Go.RowKit Go.Lib

mutual
def cnT : Tr → Nat
  | .mk _ _ _ _ _ _ kids => 1 + cnA kids
def cnA : List Tr → Nat
  | [] => 0
  | t :: r => cnT t + cnA r
end

/-- The slice of a term whose elements were copied to block g. -/
def cpV (t : Tr) (g : Nat) : Value := if t.kids.length = 0 then .slice none 0 0 else .slice (some ⟨g, 0, none⟩) t.kids.length t.kids.length
def cpCells (t : Tr) (g : Nat) : List Value := match t with | .mk k n f s a c kids => [.int .i64 k, .int .i64 n, .float .f64 f, .string s, cpV (.mk k n f s a c kids) g]

def rowCells : List Tr → List Nat → List Value
  | t :: ts, g :: ch => cpCells t g ++ rowCells ts ch
  | t :: ts, [] => t.cells ++ rowCells ts []
  | [], _ => []

theorem cells_len (t : Tr) : t.cells.length = 5 := by cases t; rfl
theorem cpCells_len (t : Tr) (g : Nat) : (cpCells t g).length = 5 := by cases t; rfl
theorem rowCells_len : ∀ (ts : List Tr) (ch : List Nat), (rowCells ts ch).length = ts.length * 5
  | [], _ => by simp [rowCells]
  | t :: ts, [] => by simp [rowCells, cells_len, rowCells_len ts []]; omega
  | t :: ts, g :: ch => by simp [rowCells, cpCells_len, rowCells_len ts ch]; omega
theorem rowCells_one : ∀ (ts : List Tr) (ch : List Nat), ∀ u ∈ rowCells ts ch, u.oneCell' = true
  | [], _ => by simp [rowCells]
  | t :: ts, [] => by
    intro u hu
    simp only [rowCells, List.mem_append] at hu
    rcases hu with hu | hu
    · obtain ⟨k, n, f, s, a, c, kids⟩ := t
      simp [Tr.cells] at hu
      rcases hu with rfl | rfl | rfl | rfl | rfl <;> rfl
    · exact rowCells_one ts [] u hu
  | t :: ts, g :: ch => by
    intro u hu
    simp only [rowCells, List.mem_append] at hu
    rcases hu with hu | hu
    · obtain ⟨k, n, f, s, a, c, kids⟩ := t
      simp [cpCells, cpV] at hu
      rcases hu with rfl | rfl | rfl | rfl | rfl
      · rfl
      · rfl
      · rfl
      · rfl
      · split <;> rfl
    · exact rowCells_one ts ch u hu

/-- A cell of a row, where the element is not yet done. -/
theorem rowCells_raw : ∀ (ts : List Tr) (ch : List Nat) (i j : Nat) (t : Tr), ts[i]? = some t → ch.length ≤ i → j < 5 → (rowCells ts ch)[i * 5 + j]? = t.cells[j]?
  | [], _, i, j, t, h, _, _ => by simp at h
  | u :: ts, [], 0, j, t, h, _, hj => by
    obtain rfl : u = t := by simpa using h
    simp only [rowCells]
    rw [List.getElem?_append_left (by rw [cells_len]; omega)]
    congr 1; omega
  | u :: ts, [], i + 1, j, t, h, _, hj => by
    simp only [rowCells]
    rw [List.getElem?_append_right (by rw [cells_len]; omega), cells_len, show (i + 1) * 5 + j - 5 = i * 5 + j by omega]
    exact rowCells_raw ts [] i j t (by simpa using h) (by simp) hj
  | u :: ts, g :: ch, 0, j, t, h, hl, hj => by simp at hl
  | u :: ts, g :: ch, i + 1, j, t, h, hl, hj => by
    simp only [rowCells]
    rw [List.getElem?_append_right (by rw [cpCells_len]; omega), cpCells_len, show (i + 1) * 5 + j - 5 = i * 5 + j by omega]
    exact rowCells_raw ts ch i j t (by simpa using h) (by simpa using hl) hj
theorem rowCells_done : ∀ (ts : List Tr) (ch : List Nat) (i j g : Nat) (t : Tr), ts[i]? = some t → ch[i]? = some g → j < 5 → (rowCells ts ch)[i * 5 + j]? = (cpCells t g)[j]?
  | [], _, i, j, g, t, h, _, _ => by simp at h
  | u :: ts, [], i, j, g, t, h, hc, hj => by simp at hc
  | u :: ts, h' :: ch, 0, j, g, t, h, hc, hj => by
    obtain rfl : u = t := by simpa using h
    obtain rfl : h' = g := by simpa using hc
    simp only [rowCells]
    rw [List.getElem?_append_left (by rw [cpCells_len]; omega)]
    congr 1; omega
  | u :: ts, h' :: ch, i + 1, j, g, t, h, hc, hj => by
    simp only [rowCells]
    rw [List.getElem?_append_right (by rw [cpCells_len]; omega), cpCells_len, show (i + 1) * 5 + j - 5 = i * 5 + j by omega]
    exact rowCells_done ts ch i j g t (by simpa using h) (by simpa using hc) hj

/-- One more is done: its slice's cell is written. -/
theorem rowCells_next : ∀ (ts : List Tr) (ch : List Nat) (t : Tr) (g : Nat), ts[ch.length]? = some t → (rowCells ts ch).set (ch.length * 5 + 4) (cpV t g) = rowCells ts (ch ++ [g])
  | [], _, t, g, h => by simp at h
  | u :: ts, [], t, g, h => by
    obtain rfl : u = t := by simpa using h
    obtain ⟨k, n, f, s, a, c, kids⟩ := u
    simp [rowCells, Tr.cells, cpCells]
  | u :: ts, h' :: ch, t, g, h => by
    simp only [rowCells, List.cons_append, List.length_cons]
    rw [List.set_append_right _ _ (by rw [cpCells_len]; omega), cpCells_len, show (ch.length + 1) * 5 + 4 - 5 = ch.length * 5 + 4 by omega, rowCells_next ts ch t g (by simpa using h)]

mutual
/-- The same term, wherever it lies. -/
def Sm : Tr → Tr → Prop
  | .mk k n f s _ _ ks, .mk k' n' f' s' _ _ ks' => k = k' ∧ n = n' ∧ f = f' ∧ s = s' ∧ SmA ks ks'
def SmA : List Tr → List Tr → Prop
  | [], [] => True
  | t :: r, t' :: r' => Sm t t' ∧ SmA r r'
  | [], _ :: _ => False
  | _ :: _, [] => False
end

theorem smA_len : ∀ {l l' : List Tr}, SmA l l' → l.length = l'.length
  | [], [], _ => rfl
  | _ :: r, _ :: r', h => by unfold SmA at h; simp [smA_len h.2]
  | [], _ :: _, h => by unfold SmA at h; exact h.elim
  | _ :: _, [], h => by unfold SmA at h; exact h.elim

/-- Which rows there are: of each block, what it was copied from, and the blocks of those that are done. -/
abbrev RM := Nat → Option (List Tr × List Nat)

structure CP (w0 w : World) (R : RM) (cur : Nat → Prop) (wait : List (Nat × List Tr)) (W : Value) : Prop where
  blk : ∀ g ts ch, R g = some (ts, ch) → w.heap[g]? = some (.cells (rowCells ts ch).toArray TT) ∧ w0.heap.size ≤ g
  src : ∀ g ts ch, R g = some (ts, ch) → ch.length ≤ ts.length ∧ 0 < ts.length ∧ ts.length ≤ 400000 ∧ ∀ t : Tr, t ∈ ts → t.In w0 0 ∧ Small t
  link : ∀ g ts ch, R g = some (ts, ch) → ∀ (i h : Nat) (t : Tr), ch[i]? = some h → ts[i]? = some t → t.kids.length ≠ 0 → ∃ ch', R h = some (t.kids, ch')
  pend : ∀ g ts ch, R g = some (ts, ch) → ch.length = ts.length ∨ cur g ∨ ∃ us, (g, us) ∈ wait
  here : ∀ g ts, (g, ts) ∈ wait → R g = some (ts, []) ∧ ¬ cur g
  once : (wait.map Prod.fst).Nodup
  row : w.ownsRow w0.heap.size TS 1 W wait.length (wait.map fun p => .slice (some ⟨p.1, 0, none⟩) p.2.length p.2.length)
  bel : Below w0.heap.size w0 w

/-- How many terms are still to be done. -/
def toDo (wait : List (Nat × List Tr)) : Nat := (wait.map fun p => cnA p.2).sum

/-- What is done holds the same terms, in new memory. -/
theorem cp_tree {w0 w : World} {R : RM} (blk : ∀ g ts ch, R g = some (ts, ch) → w.heap[g]? = some (.cells (rowCells ts ch).toArray TT) ∧ w0.heap.size ≤ g)
    (src : ∀ g ts ch, R g = some (ts, ch) → ch.length = ts.length ∧ ts.length ≤ 400000 ∧ ∀ t : Tr, t ∈ ts → t.In w0 0)
    (link : ∀ g ts ch, R g = some (ts, ch) → ∀ (i h : Nat) (t : Tr), ch[i]? = some h → ts[i]? = some t → t.kids.length ≠ 0 → ∃ ch', R h = some (t.kids, ch')) :
    ∀ t : Tr, t.In w0 0 → ∀ h, (t.kids.length ≠ 0 → ∃ ch', R h = some (t.kids, ch')) → ∃ t', Sm t t' ∧ t'.cells = cpCells t h ∧ t'.In w w0.heap.size := by
  intro t
  induction t using Tr.ind with
  | h k n f s a c kids ih =>
  intro hin h hk
  have hfit := hin
  unfold Tr.In at hfit
  obtain ⟨⟨f1, f2, f3, f4, f5, f6, f7⟩, _⟩ := hfit
  by_cases h0 : kids.length = 0
  · have e : kids = [] := List.length_eq_zero_iff.1 h0
    subst e
    refine ⟨.mk k n f s none 0 [], ?_, ?_, ?_⟩
    · unfold Sm; exact ⟨rfl, rfl, rfl, rfl, by unfold SmA; trivial⟩
    · simp [Tr.cells, cpCells, cpV, Tr.kids]
    · unfold Tr.In
      exact ⟨⟨f1, f2, f3, f4, Nat.zero_le _, Nat.zero_le _, fun _ => rfl⟩, fun ad e => by cases e⟩
  · obtain ⟨ch', hR⟩ := hk (by simpa [Tr.kids] using h0)
    simp only [Tr.kids] at hR
    obtain ⟨hb, hge⟩ := blk _ _ _ hR
    obtain ⟨hcl, hsm, hsrc⟩ := src _ _ _ hR
    have hkids : ∀ (m : Nat) (rest : List Tr), kids.drop m = rest → ∃ rest', SmA rest rest' ∧ Tr.InAll w w0.heap.size ⟨h, m * 5, none⟩ rest' := by
      intro m rest hd
      induction rest generalizing m with
      | nil => exact ⟨[], by unfold SmA; trivial, by unfold Tr.InAll; trivial⟩
      | cons u r ihr =>
        have hm : kids[m]? = some u := by
          have := List.getElem?_drop (xs := kids) (i := m) (j := 0)
          rw [hd] at this
          simpa using this.symm
        have hmem := List.mem_of_getElem? hm
        have hml : m < kids.length := (List.getElem?_eq_some_iff.1 hm).1
        have hcm : ch'[m]? = some ch'[m] := List.getElem?_eq_getElem (by omega)
        obtain ⟨u', hu1, hu2, hu3⟩ := ih u hmem (hsrc u hmem) ch'[m] (fun hne => link _ _ _ hR m _ u hcm hm hne)
        obtain ⟨r', hr1, hr2⟩ := ihr (m + 1) (by rw [← List.drop_drop, hd]; rfl)
        refine ⟨u' :: r', by unfold SmA; exact ⟨hu1, hr1⟩, ?_⟩
        unfold Tr.InAll
        refine ⟨fun i hi => ?_, hu3, ?_⟩
        · have e1 : (⟨h, m * 5, none⟩ : Addr).add i = ⟨h, m * 5 + i, none⟩ := by unfold Addr.add; split <;> simp_all
          rw [e1, cell_of_row _ _ _ _ _ _ hb, hu2]
          have := rowCells_done kids ch' m i _ u hm hcm hi
          simpa using this
        · have e1 : (⟨h, m * 5, none⟩ : Addr).add 5 = ⟨h, (m + 1) * 5, none⟩ := by unfold Addr.add; simp; omega
          rw [e1]
          exact hr2
    obtain ⟨kids', hs1, hs2⟩ := hkids 0 kids (by simp)
    have hlen := smA_len hs1
    refine ⟨.mk k n f s (some ⟨h, 0, none⟩) kids.length kids', ?_, ?_, ?_⟩
    · unfold Sm; exact ⟨rfl, rfl, rfl, rfl, hs1⟩
    · simp [Tr.cells, cpCells, cpV, Tr.kids, h0, ← hlen]
    · unfold Tr.In
      refine ⟨⟨f1, f2, f3, f4, by omega, by unfold maxLen; omega, fun e => by cases e⟩, fun ad e => ?_⟩
      obtain rfl : (⟨h, 0, none⟩ : Addr) = ad := by simpa using e
      refine ⟨hge, ?_⟩
      simpa using hs2

theorem cp_row {w0 w : World} {R : RM} (blk : ∀ g ts ch, R g = some (ts, ch) → w.heap[g]? = some (.cells (rowCells ts ch).toArray TT) ∧ w0.heap.size ≤ g)
    (src : ∀ g ts ch, R g = some (ts, ch) → ch.length = ts.length ∧ ts.length ≤ 400000 ∧ ∀ t : Tr, t ∈ ts → t.In w0 0)
    (link : ∀ g ts ch, R g = some (ts, ch) → ∀ (i h : Nat) (t : Tr), ch[i]? = some h → ts[i]? = some t → t.kids.length ≠ 0 → ∃ ch', R h = some (t.kids, ch'))
    {g : Nat} {ts : List Tr} {ch : List Nat} (hR : R g = some (ts, ch)) : ∃ ts', SmA ts ts' ∧ Tr.InAll w w0.heap.size ⟨g, 0, none⟩ ts' := by
  obtain ⟨hb, hge⟩ := blk _ _ _ hR
  obtain ⟨hcl, hsm, hsrc⟩ := src _ _ _ hR
  have hkids : ∀ (m : Nat) (rest : List Tr), ts.drop m = rest → ∃ rest', SmA rest rest' ∧ Tr.InAll w w0.heap.size ⟨g, m * 5, none⟩ rest' := by
    intro m rest hd
    induction rest generalizing m with
    | nil => exact ⟨[], by unfold SmA; trivial, by unfold Tr.InAll; trivial⟩
    | cons u r ihr =>
      have hm : ts[m]? = some u := by
        have := List.getElem?_drop (xs := ts) (i := m) (j := 0)
        rw [hd] at this
        simpa using this.symm
      have hmem := List.mem_of_getElem? hm
      have hml : m < ts.length := (List.getElem?_eq_some_iff.1 hm).1
      have hcm : ch[m]? = some ch[m] := List.getElem?_eq_getElem (by omega)
      obtain ⟨u', hu1, hu2, hu3⟩ := cp_tree blk src link u (hsrc u hmem) ch[m] (fun hne => link _ _ _ hR m _ u hcm hm hne)
      obtain ⟨r', hr1, hr2⟩ := ihr (m + 1) (by rw [← List.drop_drop, hd]; rfl)
      refine ⟨u' :: r', by unfold SmA; exact ⟨hu1, hr1⟩, ?_⟩
      unfold Tr.InAll
      refine ⟨fun i hi => ?_, hu3, ?_⟩
      · have e1 : (⟨g, m * 5, none⟩ : Addr).add i = ⟨g, m * 5 + i, none⟩ := by unfold Addr.add; split <;> simp_all
        rw [e1, cell_of_row _ _ _ _ _ _ hb, hu2]
        have := rowCells_done ts ch m i _ u hm hcm hi
        simpa using this
      · have e1 : (⟨g, m * 5, none⟩ : Addr).add 5 = ⟨g, (m + 1) * 5, none⟩ := by unfold Addr.add; simp; omega
        rw [e1]
        exact hr2
  have := hkids 0 ts (by simp)
  simpa using this
end Go.Proofs.YtpcpdehnppfbfaaGreat


/- term.copyAll, step by step. -/
namespace Go.Proofs.YtpcpdehnppfbfaaGreat
open Go.RowKit Go.Lib

def updR (R : RM) (g : Nat) (x : List Tr × List Nat) : RM := fun k => if k = g then some x else R k
theorem updR_same (R : RM) (g : Nat) (x : List Tr × List Nat) : updR R g x g = some x := by simp [updR]
theorem updR_other (R : RM) (g k : Nat) (x : List Tr × List Nat) (h : k ≠ g) : updR R g x k = R k := by simp [updR, h]

variable {w0 w : World} {R : RM} {wait : List (Nat × List Tr)} {W : Value} {g : Nat} {ts : List Tr} {ch : List Nat}

theorem CP.lt {cur : Nat → Prop} (h : CP w0 w R cur wait W) (hR : R g = some (ts, ch)) : g < w.heap.size := (Array.getElem?_eq_some_iff.1 (h.blk g ts ch hR).1).1
/-- The row of those that wait is none of the terms' rows. -/
theorem CP.apart {cur : Nat → Prop} (h : CP w0 w R cur wait W) (hR : R g = some (ts, ch)) : W.ownBlock ≠ some g := by
  intro e
  rcases h.row.2 with ⟨rfl, _⟩ | ⟨q, cap, cur', rfl, _, hq, _⟩
  · simp [Value.ownBlock] at e
  · have e' : q = g := by simpa [Value.ownBlock] using e
    subst e'
    rw [(h.blk q ts ch hR).1] at hq
    simp at hq
    exact absurd hq.2 (by decide)

theorem cp_start (hts : 0 < ts.length) (hl : ts.length ≤ 400000) (hsrc : ∀ t : Tr, t ∈ ts → t.In w0 0 ∧ Small t) :
    CP w0 ((w0.alloc (.cells (rowCells ts []).toArray TT)).alloc (.cells #[.slice (some ⟨w0.heap.size, 0, none⟩) ts.length ts.length] TS)) (fun k => if k = w0.heap.size then some (ts, []) else none) (fun _ => False) [(w0.heap.size, ts)] (.slice (some ⟨w0.heap.size + 1, 0, none⟩) 1 1) := by
  have hR : ∀ g us ch, (fun k => if k = w0.heap.size then some (ts, ([] : List Nat)) else none) g = some (us, ch) → g = w0.heap.size ∧ us = ts ∧ ch = [] := by
    intro g us ch h
    simp only at h
    split at h
    · rename_i e; simp at h; exact ⟨e, h.1.symm, h.2⟩
    · cases h
  refine ⟨fun g us ch h => ?_, fun g us ch h => ?_, fun g us ch h i k t hc => ?_, fun g us ch h => ?_, fun g us h => ?_, by simp, ?_, ?_⟩
  · obtain ⟨rfl, rfl, rfl⟩ := hR g us ch h
    exact ⟨(Below.heap_alloc _ _ _ (by simp)).trans (MapKept.heap_alloc w0 _).1, Nat.le_refl _⟩
  · obtain ⟨rfl, rfl, rfl⟩ := hR g us ch h
    exact ⟨Nat.zero_le _, hts, hl, hsrc⟩
  · obtain ⟨rfl, rfl, rfl⟩ := hR g us ch h
    simp at hc
  · obtain ⟨rfl, rfl, rfl⟩ := hR g us ch h
    exact .inr (.inr ⟨us, by simp⟩)
  · have e : g = w0.heap.size ∧ us = ts := by simpa using h
    obtain ⟨rfl, rfl⟩ := e
    exact ⟨by simp, fun h => h⟩
  · have := World.ownsRow_lit (e := TS) (size := 1) (base := w0.heap.size) (w0.alloc (.cells (rowCells ts []).toArray TT)) #[.slice (some ⟨w0.heap.size, 0, none⟩) ts.length ts.length] 1 (by simp) (by unfold maxLen; omega) (by simp)
    simpa using this
  · exact (below_new w0 _).alloc (by simp) _

theorem row_cut {B n cap : Nat} {q : Option Addr} {xs : List Value} {x : Value} {e : TypeId} (h : w.ownsRow B e 1 (.slice q (n + 1) cap) (n + 1) (xs ++ [x])) : w.ownsRow B e 1 (.slice q n cap) n xs := by
  have hl : xs.length = n := by have := h.1; simp at this; omega
  refine ⟨by omega, ?_⟩
  rcases h.2 with ⟨e1, _⟩ | ⟨g, cap', cur, hv, hB, hb, h1, h2, h3, h4⟩
  · simp at e1
  · have hv' : q = some ⟨g, 0, none⟩ ∧ cap = cap' := by simpa using hv
    obtain ⟨rfl, rfl⟩ := hv'
    refine .inr ⟨g, cap, cur, rfl, hB, hb, by omega, h2, h3, ?_⟩
    have : (cur.toList.take ((n + 1) * 1)).take (n * 1) = (xs ++ [x]).take (n * 1) := by rw [h4]
    rw [List.take_take] at this
    rw [show min (n * 1) ((n + 1) * 1) = n * 1 by omega] at this
    rw [this, List.take_append_of_le_length (by omega), List.take_of_length_le (by omega)]

theorem CP.pop {q : Option Addr} {cap : Nat} (h : CP w0 w R (fun _ => False) (wait ++ [(g, ts)]) (.slice q (wait.length + 1) cap)) : CP w0 w R (fun k => k = g) wait (.slice q wait.length cap) ∧ R g = some (ts, []) := by
  have hR := (h.here g ts (by simp)).1
  refine ⟨⟨h.blk, h.src, h.link, fun k us c hk => ?_, fun k us hk => ?_, ?_, ?_, h.bel⟩, hR⟩
  · rcases h.pend k us c hk with e | e | ⟨us', e⟩
    · exact .inl e
    · exact e.elim
    · rcases List.mem_append.1 e with e | e
      · exact .inr (.inr ⟨us', e⟩)
      · have : k = g ∧ us' = ts := by simpa using e
        exact .inr (.inl this.1)
  · refine ⟨(h.here k us (by simp [hk])).1, fun e => ?_⟩
    have hn := h.once
    rw [List.map_append, List.nodup_append] at hn
    exact hn.2.2 k (List.mem_map.2 ⟨(k, us), hk, rfl⟩) g (by simp) e
  · have hn := h.once
    rw [List.map_append, List.nodup_append] at hn
    exact hn.1
  · have := h.row
    rw [List.map_append, List.length_append] at this
    exact row_cut this

theorem CP.done (h : CP w0 w R (fun k => k = g) wait W) (hR : R g = some (ts, ch)) (hc : ch.length = ts.length) : CP w0 w R (fun _ => False) wait W :=
  ⟨h.blk, h.src, h.link, fun k us c hk => by
    rcases h.pend k us c hk with e | e | e
    · exact .inl e
    · have e' : k = g := e
      subst e'
      rw [hR] at hk
      have : ts = us ∧ ch = c := by simpa using hk
      obtain ⟨rfl, rfl⟩ := this
      exact .inl hc
    · exact .inr (.inr e), fun k us hk => ⟨(h.here k us hk).1, fun h => h⟩, h.once, h.row, h.bel⟩

/-- An element is done: its slice is written, and, where it has elements, a new row lies in block k. -/
theorem CP.set {X : World} {cur : Nat → Prop} (h : CP w0 w R (fun k => k = g) wait W) (hR : R g = some (ts, ch)) {t : Tr} (ht : ts[ch.length]? = some t) (k : Nat) (hX : Below w.heap.size w X) (hk : t.kids.length ≠ 0 → X.heap[k]? = some (.cells (rowCells t.kids []).toArray TT) ∧ w.heap.size ≤ k)
    (hcur : ∀ q, cur q ↔ q = g ∨ (t.kids.length ≠ 0 ∧ q = k)) :
    CP w0 (X.setCell ⟨g, ch.length * 5 + 4, none⟩ (cpV t k)) (if t.kids.length = 0 then updR R g (ts, ch ++ [k]) else updR (updR R g (ts, ch ++ [k])) k (t.kids, [])) cur wait W := by
  have hg := h.lt hR
  have hgb := h.blk g ts ch hR
  obtain ⟨hs1, hs2, hs3, hs4⟩ := h.src g ts ch hR
  have htl : ch.length < ts.length := (List.getElem?_eq_some_iff.1 ht).1
  have htm := List.mem_of_getElem? ht
  have hkg : t.kids.length ≠ 0 → k ≠ g := fun e => by have := (hk e).2; omega
  have hXg : X.heap[g]? = some (.cells (rowCells ts ch).toArray TT) := (hX.block g hg).trans hgb.1
  have hw : (X.setCell ⟨g, ch.length * 5 + 4, none⟩ (cpV t k)).heap[g]? = some (.cells (rowCells ts (ch ++ [k])).toArray TT) := by
    rw [heap_setCell_same X g _ _ TT _ hXg]
    congr 2
    apply Array.ext'
    simp [rowCells_next ts ch t k ht]
  have ho : ∀ q, q ≠ g → q < w.heap.size → (X.setCell ⟨g, ch.length * 5 + 4, none⟩ (cpV t k)).heap[q]? = w.heap[q]? := fun q hq hl => (Below.heap_setCell X ⟨g, ch.length * 5 + 4, none⟩ _ q hq).trans (hX.block q hl)
  -- what the new table says
  have hnew : ∀ q us c, (if t.kids.length = 0 then updR R g (ts, ch ++ [k]) else updR (updR R g (ts, ch ++ [k])) k (t.kids, [])) q = some (us, c) →
      (q = g ∧ us = ts ∧ c = ch ++ [k]) ∨ (t.kids.length ≠ 0 ∧ q = k ∧ us = t.kids ∧ c = []) ∨ (q ≠ g ∧ R q = some (us, c)) := by
    intro q us c hq
    by_cases h0 : t.kids.length = 0
    · rw [if_pos h0] at hq
      by_cases e : q = g
      · subst e; rw [updR_same] at hq; simp at hq; exact .inl ⟨rfl, hq.1.symm, hq.2.symm⟩
      · rw [updR_other _ _ _ _ e] at hq; exact .inr (.inr ⟨e, hq⟩)
    · rw [if_neg h0] at hq
      by_cases e2 : q = k
      · subst e2; rw [updR_same] at hq; simp at hq; exact .inr (.inl ⟨h0, rfl, hq.1.symm, hq.2⟩)
      · rw [updR_other _ _ _ _ e2] at hq
        by_cases e : q = g
        · subst e; rw [updR_same] at hq; simp at hq; exact .inl ⟨rfl, hq.1.symm, hq.2.symm⟩
        · rw [updR_other _ _ _ _ e] at hq; exact .inr (.inr ⟨e, hq⟩)
  have hold : ∀ q us c, q ≠ g → R q = some (us, c) → (if t.kids.length = 0 then updR R g (ts, ch ++ [k]) else updR (updR R g (ts, ch ++ [k])) k (t.kids, [])) q = some (us, c) := by
    intro q us c hq hRq
    have hql := h.lt hRq
    by_cases h0 : t.kids.length = 0
    · rw [if_pos h0, updR_other _ _ _ _ hq]; exact hRq
    · rw [if_neg h0, updR_other _ _ _ _ (by have := (hk h0).2; omega), updR_other _ _ _ _ hq]; exact hRq
  have hgnew : (if t.kids.length = 0 then updR R g (ts, ch ++ [k]) else updR (updR R g (ts, ch ++ [k])) k (t.kids, [])) g = some (ts, ch ++ [k]) := by
    by_cases h0 : t.kids.length = 0
    · rw [if_pos h0, updR_same]
    · rw [if_neg h0, updR_other _ _ _ _ (fun e => hkg h0 e.symm), updR_same]
  have hlinkold : ∀ q us c', R q = some (us, c') → ∃ c'', (if t.kids.length = 0 then updR R g (ts, ch ++ [k]) else updR (updR R g (ts, ch ++ [k])) k (t.kids, [])) q = some (us, c'') := by
    intro q us c' hq
    by_cases e : q = g
    · subst e
      rw [hR] at hq
      have : ts = us ∧ ch = c' := by simpa using hq
      obtain ⟨rfl, rfl⟩ := this
      exact ⟨_, hgnew⟩
    · exact ⟨_, hold q us c' e hq⟩
  refine ⟨fun q us c hq => ?_, fun q us c hq => ?_, fun q us c hq i m u hc hu hne => ?_, fun q us c hq => ?_, fun q us hq => ?_, h.once, ?_, ?_⟩
  · rcases hnew q us c hq with ⟨rfl, rfl, rfl⟩ | ⟨h0, rfl, rfl, rfl⟩ | ⟨hne, hRq⟩
    · exact ⟨hw, hgb.2⟩
    · exact ⟨(Below.heap_setCell X ⟨g, ch.length * 5 + 4, none⟩ _ q (hkg h0)).trans (hk h0).1, Nat.le_trans h.bel.size (hk h0).2⟩
    · have := h.blk q us c hRq
      exact ⟨(ho q hne (h.lt hRq)).trans this.1, this.2⟩
  · rcases hnew q us c hq with ⟨rfl, rfl, rfl⟩ | ⟨h0, rfl, rfl, rfl⟩ | ⟨hne, hRq⟩
    · exact ⟨by simp; omega, hs2, hs3, hs4⟩
    · obtain ⟨hin, hsm⟩ := hs4 t htm
      refine ⟨Nat.zero_le _, by omega, ?_, ?_⟩
      · cases t with | mk _ _ _ _ _ _ kids => unfold Small at hsm; exact hsm.1
      · intro u hu
        cases t with
        | mk k' n' f' s' a' c' kids =>
          simp only [Tr.kids] at hu h0
          obtain ⟨b, o, rfl, hat⟩ := kid_at hin (by omega)
          obtain ⟨j, hj⟩ := List.getElem?_of_mem hu
          have hjl : j < kids.length := (List.getElem?_eq_some_iff.1 hj).1
          obtain ⟨k2, n2, f2, s2, a2, c2, kids2, hu2, hin2, _⟩ := hat j hjl
          rw [hj] at hu2
          obtain rfl : u = .mk k2 n2 f2 s2 a2 c2 kids2 := by simpa using hu2
          unfold Small at hsm
          exact ⟨hin2, smallAll_get hsm.2 hu⟩
    · exact h.src q us c hRq
  · rcases hnew q us c hq with ⟨rfl, rfl, rfl⟩ | ⟨h0, rfl, rfl, rfl⟩ | ⟨hneq, hRq⟩
    · by_cases hi : i < ch.length
      · rw [List.getElem?_append_left hi] at hc
        obtain ⟨c', hc'⟩ := h.link q us ch hR i m u hc hu hne
        exact hlinkold _ _ _ hc'
      · have hi2 : i = ch.length := by
          have := (List.getElem?_eq_some_iff.1 hc).1
          simp at this; omega
        subst hi2
        obtain rfl : m = k := by simp at hc; exact hc.symm
        rw [ht] at hu
        obtain rfl : t = u := by simpa using hu
        exact ⟨[], by rw [if_neg hne, updR_same]⟩
    · simp at hc
    · obtain ⟨c', hc'⟩ := h.link q us c hRq i m u hc hu hne
      exact hlinkold _ _ _ hc'
  · rcases hnew q us c hq with ⟨rfl, rfl, rfl⟩ | ⟨h0, rfl, rfl, rfl⟩ | ⟨hneq, hRq⟩
    · exact .inr (.inl ((hcur q).2 (.inl rfl)))
    · exact .inr (.inl ((hcur q).2 (.inr ⟨h0, rfl⟩)))
    · rcases h.pend q us c hRq with e | e | e
      · exact .inl e
      · exact absurd e hneq
      · exact .inr (.inr e)
  · obtain ⟨hRq, hnc⟩ := h.here q us hq
    have hne : q ≠ g := hnc
    refine ⟨hold q us [] hne hRq, fun e => ?_⟩
    rcases (hcur q).1 e with e | ⟨h0, e⟩
    · exact hne e
    · have := h.lt hRq; have := (hk h0).2; omega
  · exact ownsRow_setCell_other (row_but h.row (But.of_below (S := fun _ => False) hX) (fun _ _ h => h)) (h.apart hR) _
  · exact (h.bel.trans (hX.mono h.bel.size)).setCell hgb.2 _

/-- A new row is laid to those that wait. -/
theorem CP.push {Y w2 : World} {W' : Value} {k : Nat} {us : List Tr} (h : CP w0 w R (fun q => q = g ∨ q = k) wait W) (hkg : k ≠ g) (hRk : R k = some (us, [])) (hY : Below w.heap.size w Y) (hO : w2.ownsRow w0.heap.size TS 1 W' (wait.length + 1) ((wait.map fun p => .slice (some ⟨p.1, 0, none⟩) p.2.length p.2.length) ++ [.slice (some ⟨k, 0, none⟩) us.length us.length]))
    (hG : Y.grownBy w2 W.ownBlock) : CP w0 w2 R (fun q => q = g) (wait ++ [(k, us)]) W' := by
  have hb : But (fun q => W.ownBlock = some q) w w2 := (But.of_below hY).trans (grown_but hG)
  refine ⟨fun q vs c hq => ?_, h.src, h.link, fun q vs c hq => ?_, fun q vs hq => ?_, ?_, ?_, ?_⟩
  · have := h.blk q vs c hq
    exact ⟨(hb.block q (h.lt hq) (h.apart hq)).trans this.1, this.2⟩
  · rcases h.pend q vs c hq with e | e | ⟨vs', e⟩
    · exact .inl e
    · rcases e with e | e
      · exact .inr (.inl e)
      · exact .inr (.inr ⟨us, by rw [e]; simp⟩)
    · exact .inr (.inr ⟨vs', by simp [e]⟩)
  · rcases List.mem_append.1 hq with hq | hq
    · obtain ⟨h1, h2⟩ := h.here q vs hq
      exact ⟨h1, fun e => h2 (.inl e)⟩
    · have e : q = k ∧ vs = us := by simpa using hq
      obtain ⟨rfl, rfl⟩ := e
      exact ⟨hRk, hkg⟩
  · rw [List.map_append, List.nodup_append]
    refine ⟨h.once, by simp, fun a ha b hb2 e => ?_⟩
    obtain ⟨p, hp, rfl⟩ := List.mem_map.1 ha
    have e2 : b = k := by simpa using hb2
    exact (h.here p.1 p.2 hp).2 (.inr (e.trans e2))
  · rw [List.map_append, List.length_append]
    exact hO
  · exact h.bel.trans (hb.below h.bel.size (fun q hq => (row_lt h.row q hq).2))
end Go.Proofs.YtpcpdehnppfbfaaGreat


