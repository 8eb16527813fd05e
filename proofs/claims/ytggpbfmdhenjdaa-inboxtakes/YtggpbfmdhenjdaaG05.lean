import Derived.Test.YtggpbfmdhenjdaaG04
import Derived.Test.YtggpbfmdhenjdaaG02
/- The document's measure of a term, walked: by induction on the tree. -/
namespace Go.Proofs.Ytggpbfmdhenjdaa
open Go.RowKit Go.Deep
attribute [local go_sem ↓] Go.wp_at_zero Go.wp_at_succ

mutual
/-- No term in it has very many elements. -/
def Small : Tr → Prop
  | .mk _ _ _ _ _ _ kids => kids.length ≤ 400000 ∧ SmallAll kids
def SmallAll : List Tr → Prop
  | [] => True
  | t :: r => Small t ∧ SmallAll r
end

theorem smallAll_get {kids : List Tr} (h : SmallAll kids) {t : Tr} (ht : t ∈ kids) : Small t := by
  induction kids with
  | nil => simp at ht
  | cons u r ih =>
    unfold SmallAll at h
    rcases List.mem_cons.1 ht with rfl | ht
    · exact h.1
    · exact ih h.2 ht

/-- What is counted to its end has few parts everywhere. -/
theorem few_small : ∀ (t : Tr) (left deep : Int), left ≤ 300000 → 0 ≤ fewT t left deep → Small t ∧ fewT t left deep ≤ left - 1 := by
  refine Tr.ind fun k n f s a c kids hk => ?_
  have hall : ∀ left deep, left ≤ 300000 → 0 ≤ fewAll kids left deep → SmallAll kids ∧ fewAll kids left deep ≤ left - kids.length := by
    induction kids with
    | nil => intro left deep h h0; simp only [fewAll, SmallAll, List.length_nil] at *; exact ⟨trivial, by omega⟩
    | cons t r ih =>
      intro left deep h h0
      simp only [fewAll] at h0 ⊢
      by_cases hl : left < 0
      · rw [if_pos hl] at h0; omega
      · rw [if_neg hl] at h0 ⊢
        have hn : 0 ≤ fewT t left deep := by
          by_cases hz : fewT t left deep < 0
          · rw [fewAll_stop _ _ _ hz] at h0; omega
          · omega
        have g := hk t (List.mem_cons_self ..) left deep h hn
        have q := ih (fun u hu => hk u (List.mem_cons_of_mem _ hu)) (fewT t left deep) deep (by omega) h0
        simp only [SmallAll, List.length_cons]
        exact ⟨⟨g.1, q.1⟩, by omega⟩
  intro left deep h h0
  simp only [fewT] at h0 ⊢
  by_cases hc : left < 0 ∨ deep < 0
  · rw [if_pos hc] at h0; omega
  · rw [if_neg hc] at h0 ⊢
    have q := hall (left - 1) (deep - 1) (by omega) h0
    simp only [Small]
    exact ⟨⟨by omega, q.1⟩, by omega⟩

set_option maxHeartbeats 800000 in
set_option maxRecDepth 100000 in
theorem own_any (k n : Int) (f : Nat) (s : ByteArray) (a : Option Addr) (l c : Nat) (hl : l ≤ 400000) (w : World) :
    Calls Try.prog 35 #[.agg #[.int .i64 k, .int .i64 n, .float .f64 f, .string s, .slice a l c]] w fun e w' => e = .returned (.int .i64 (own k l)) ∧ Below w.heap.size w w' := by
  by_cases h1 : k = 1
  · subst h1; go_enter Try.func35, Try.ntmps35; go_wp2; go_ret; exact ⟨rfl, (Below.refl _ _).alloc (Nat.le_refl _) _⟩
  by_cases h3 : k = 3
  · subst h3; go_enter Try.func35, Try.ntmps35; go_wp2; go_ret; exact ⟨rfl, (Below.refl _ _).alloc (Nat.le_refl _) _⟩
  by_cases h6 : k = 6
  · subst h6; go_enter Try.func35, Try.ntmps35; go_wp2; go_ret; exact ⟨rfl, (Below.refl _ _).alloc (Nat.le_refl _) _⟩
  by_cases h2 : k = 2
  · subst h2; go_enter Try.func35, Try.ntmps35; go_wp2; go_ret; exact ⟨rfl, (Below.refl _ _).alloc (Nat.le_refl _) _⟩
  by_cases h4 : k = 4
  · subst h4; go_enter Try.func35, Try.ntmps35; go_wp2; go_ret; exact ⟨rfl, (Below.refl _ _).alloc (Nat.le_refl _) _⟩
  have w2 : wrap64 (2 * (l : Int)) = 2 * l := by unfold wrap64; omega
  have w3 : wrap64 (2 + (l : Int)) = 2 + l := by unfold wrap64; omega
  have w4 : wrap64 (1 + (l : Int)) = 1 + l := by unfold wrap64; omega
  by_cases h8 : k = 8
  · subst h8
    go_enter Try.func35, Try.ntmps35; go_wp2; go_ret
    refine ⟨?_, (Below.refl _ _).alloc (Nat.le_refl _) _⟩
    simp [own]
  by_cases h5 : k = 5
  · subst h5
    go_enter Try.func35, Try.ntmps35; go_wp2; go_ret
    refine ⟨?_, (Below.refl _ _).alloc (Nat.le_refl _) _⟩
    simp [own]
  go_enter Try.func35, Try.ntmps35; go_wp2; go_ret
  refine ⟨?_, (Below.refl _ _).alloc (Nat.le_refl _) _⟩
  simp [own, h1, h2, h3, h4, h5, h6, h8]
end Go.Proofs.Ytggpbfmdhenjdaa


/- What term.copyAll goes by: rows that are copied, those that wait. -/
namespace Go.Proofs.Ytggpbfmdhenjdaa
open Go.RowKit Go.Lib

mutual
def cnT : Tr → Nat
  | .mk _ _ _ _ _ _ kids => 1 + cnA kids
def cnA : List Tr → Nat
  | [] => 0
  | t :: r => cnT t + cnA r
end

/-- The slice of a term whose elements were copied to block g. -/
def cpV (t : Tr) (g : Nat) : Value := if t.kids.length = 0 then .slice none 0 0 else .slice (some ⟨g, 0, none⟩) t.kids.length t.kids.length
def cpCells (t : Tr) (g : Nat) : List Value := match t with | .mk k n f s a c kids => [.int .i64 k, .int .i64 n, .float .f64 f, .string s, cpV (.mk k n f s a c kids) g]

def rowCells : List Tr → List Nat → List Value
  | t :: ts, g :: ch => cpCells t g ++ rowCells ts ch
  | t :: ts, [] => t.cells ++ rowCells ts []
  | [], _ => []

theorem cells_len (t : Tr) : t.cells.length = 5 := by cases t; rfl
theorem cpCells_len (t : Tr) (g : Nat) : (cpCells t g).length = 5 := by cases t; rfl
theorem rowCells_len : ∀ (ts : List Tr) (ch : List Nat), (rowCells ts ch).length = ts.length * 5
  | [], _ => by simp [rowCells]
  | t :: ts, [] => by simp [rowCells, cells_len, rowCells_len ts []]; omega
  | t :: ts, g :: ch => by simp [rowCells, cpCells_len, rowCells_len ts ch]; omega
theorem rowCells_one : ∀ (ts : List Tr) (ch : List Nat), ∀ u ∈ rowCells ts ch, u.oneCell' = true
  | [], _ => by simp [rowCells]
  | t :: ts, [] => by
    intro u hu
    simp only [rowCells, List.mem_append] at hu
    rcases hu with hu | hu
    · obtain ⟨k, n, f, s, a, c, kids⟩ := t
      simp [Tr.cells] at hu
      rcases hu with rfl | rfl | rfl | rfl | rfl <;> rfl
    · exact rowCells_one ts [] u hu
  | t :: ts, g :: ch => by
    intro u hu
    simp only [rowCells, List.mem_append] at hu
    rcases hu with hu | hu
    · obtain ⟨k, n, f, s, a, c, kids⟩ := t
      simp [cpCells, cpV] at hu
      rcases hu with rfl | rfl | rfl | rfl | rfl
      · rfl
      · rfl
      · rfl
      · rfl
      · split <;> rfl
    · exact rowCells_one ts ch u hu

/-- A cell of a row, where the element is not yet done. -/
theorem rowCells_raw : ∀ (ts : List Tr) (ch : List Nat) (i j : Nat) (t : Tr), ts[i]? = some t → ch.length ≤ i → j < 5 → (rowCells ts ch)[i * 5 + j]? = t.cells[j]?
  | [], _, i, j, t, h, _, _ => by simp at h
  | u :: ts, [], 0, j, t, h, _, hj => by
    obtain rfl : u = t := by simpa using h
    simp only [rowCells]
    rw [List.getElem?_append_left (by rw [cells_len]; omega)]
    congr 1; omega
  | u :: ts, [], i + 1, j, t, h, _, hj => by
    simp only [rowCells]
    rw [List.getElem?_append_right (by rw [cells_len]; omega), cells_len, show (i + 1) * 5 + j - 5 = i * 5 + j by omega]
    exact rowCells_raw ts [] i j t (by simpa using h) (by simp) hj
  | u :: ts, g :: ch, 0, j, t, h, hl, hj => by simp at hl
  | u :: ts, g :: ch, i + 1, j, t, h, hl, hj => by
    simp only [rowCells]
    rw [List.getElem?_append_right (by rw [cpCells_len]; omega), cpCells_len, show (i + 1) * 5 + j - 5 = i * 5 + j by omega]
    exact rowCells_raw ts ch i j t (by simpa using h) (by simpa using hl) hj
theorem rowCells_done : ∀ (ts : List Tr) (ch : List Nat) (i j g : Nat) (t : Tr), ts[i]? = some t → ch[i]? = some g → j < 5 → (rowCells ts ch)[i * 5 + j]? = (cpCells t g)[j]?
  | [], _, i, j, g, t, h, _, _ => by simp at h
  | u :: ts, [], i, j, g, t, h, hc, hj => by simp at hc
  | u :: ts, h' :: ch, 0, j, g, t, h, hc, hj => by
    obtain rfl : u = t := by simpa using h
    obtain rfl : h' = g := by simpa using hc
    simp only [rowCells]
    rw [List.getElem?_append_left (by rw [cpCells_len]; omega)]
    congr 1; omega
  | u :: ts, h' :: ch, i + 1, j, g, t, h, hc, hj => by
    simp only [rowCells]
    rw [List.getElem?_append_right (by rw [cpCells_len]; omega), cpCells_len, show (i + 1) * 5 + j - 5 = i * 5 + j by omega]
    exact rowCells_done ts ch i j g t (by simpa using h) (by simpa using hc) hj

/-- One more is done: its slice's cell is written. -/
theorem rowCells_next : ∀ (ts : List Tr) (ch : List Nat) (t : Tr) (g : Nat), ts[ch.length]? = some t → (rowCells ts ch).set (ch.length * 5 + 4) (cpV t g) = rowCells ts (ch ++ [g])
  | [], _, t, g, h => by simp at h
  | u :: ts, [], t, g, h => by
    obtain rfl : u = t := by simpa using h
    obtain ⟨k, n, f, s, a, c, kids⟩ := u
    simp [rowCells, Tr.cells, cpCells]
  | u :: ts, h' :: ch, t, g, h => by
    simp only [rowCells, List.cons_append, List.length_cons]
    rw [List.set_append_right _ _ (by rw [cpCells_len]; omega), cpCells_len, show (ch.length + 1) * 5 + 4 - 5 = ch.length * 5 + 4 by omega, rowCells_next ts ch t g (by simpa using h)]

mutual
/-- The same term, wherever it lies. -/
def Sm : Tr → Tr → Prop
  | .mk k n f s _ _ ks, .mk k' n' f' s' _ _ ks' => k = k' ∧ n = n' ∧ f = f' ∧ s = s' ∧ SmA ks ks'
def SmA : List Tr → List Tr → Prop
  | [], [] => True
  | t :: r, t' :: r' => Sm t t' ∧ SmA r r'
  | [], _ :: _ => False
  | _ :: _, [] => False
end

theorem smA_len : ∀ {l l' : List Tr}, SmA l l' → l.length = l'.length
  | [], [], _ => rfl
  | _ :: r, _ :: r', h => by unfold SmA at h; simp [smA_len h.2]
  | [], _ :: _, h => by unfold SmA at h; exact h.elim
  | _ :: _, [], h => by unfold SmA at h; exact h.elim

/-- Which rows there are: of each block, what it was copied from, and the blocks of those that are done. -/
abbrev RM := Nat → Option (List Tr × List Nat)

structure CP (w0 w : World) (R : RM) (cur : Nat → Prop) (wait : List (Nat × List Tr)) (W : Value) : Prop where
  blk : ∀ g ts ch, R g = some (ts, ch) → w.heap[g]? = some (.cells (rowCells ts ch).toArray TT) ∧ w0.heap.size ≤ g
  src : ∀ g ts ch, R g = some (ts, ch) → ch.length ≤ ts.length ∧ 0 < ts.length ∧ ts.length ≤ 400000 ∧ ∀ t : Tr, t ∈ ts → t.In w0 0 ∧ Small t
  link : ∀ g ts ch, R g = some (ts, ch) → ∀ (i h : Nat) (t : Tr), ch[i]? = some h → ts[i]? = some t → t.kids.length ≠ 0 → ∃ ch', R h = some (t.kids, ch')
  pend : ∀ g ts ch, R g = some (ts, ch) → ch.length = ts.length ∨ cur g ∨ ∃ us, (g, us) ∈ wait
  here : ∀ g ts, (g, ts) ∈ wait → R g = some (ts, []) ∧ ¬ cur g
  once : (wait.map Prod.fst).Nodup
  row : w.ownsRow w0.heap.size TS 1 W wait.length (wait.map fun p => .slice (some ⟨p.1, 0, none⟩) p.2.length p.2.length)
  bel : Below w0.heap.size w0 w

/-- How many terms are still to be done. -/
def toDo (wait : List (Nat × List Tr)) : Nat := (wait.map fun p => cnA p.2).sum

/-- What is done holds the same terms, in new memory. -/
theorem cp_tree {w0 w : World} {R : RM} (blk : ∀ g ts ch, R g = some (ts, ch) → w.heap[g]? = some (.cells (rowCells ts ch).toArray TT) ∧ w0.heap.size ≤ g)
    (src : ∀ g ts ch, R g = some (ts, ch) → ch.length = ts.length ∧ ts.length ≤ 400000 ∧ ∀ t : Tr, t ∈ ts → t.In w0 0)
    (link : ∀ g ts ch, R g = some (ts, ch) → ∀ (i h : Nat) (t : Tr), ch[i]? = some h → ts[i]? = some t → t.kids.length ≠ 0 → ∃ ch', R h = some (t.kids, ch')) :
    ∀ t : Tr, t.In w0 0 → ∀ h, (t.kids.length ≠ 0 → ∃ ch', R h = some (t.kids, ch')) → ∃ t', Sm t t' ∧ t'.cells = cpCells t h ∧ t'.In w w0.heap.size := by
  intro t
  induction t using Tr.ind with
  | h k n f s a c kids ih =>
  intro hin h hk
  have hfit := hin
  unfold Tr.In at hfit
  obtain ⟨⟨f1, f2, f3, f4, f5, f6, f7⟩, _⟩ := hfit
  by_cases h0 : kids.length = 0
  · have e : kids = [] := List.length_eq_zero_iff.1 h0
    subst e
    refine ⟨.mk k n f s none 0 [], ?_, ?_, ?_⟩
    · unfold Sm; exact ⟨rfl, rfl, rfl, rfl, by unfold SmA; trivial⟩
    · simp [Tr.cells, cpCells, cpV, Tr.kids]
    · unfold Tr.In
      exact ⟨⟨f1, f2, f3, f4, Nat.zero_le _, Nat.zero_le _, fun _ => rfl⟩, fun ad e => by cases e⟩
  · obtain ⟨ch', hR⟩ := hk (by simpa [Tr.kids] using h0)
    simp only [Tr.kids] at hR
    obtain ⟨hb, hge⟩ := blk _ _ _ hR
    obtain ⟨hcl, hsm, hsrc⟩ := src _ _ _ hR
    have hkids : ∀ (m : Nat) (rest : List Tr), kids.drop m = rest → ∃ rest', SmA rest rest' ∧ Tr.InAll w w0.heap.size ⟨h, m * 5, none⟩ rest' := by
      intro m rest hd
      induction rest generalizing m with
      | nil => exact ⟨[], by unfold SmA; trivial, by unfold Tr.InAll; trivial⟩
      | cons u r ihr =>
        have hm : kids[m]? = some u := by
          have := List.getElem?_drop (xs := kids) (i := m) (j := 0)
          rw [hd] at this
          simpa using this.symm
        have hmem := List.mem_of_getElem? hm
        have hml : m < kids.length := (List.getElem?_eq_some_iff.1 hm).1
        have hcm : ch'[m]? = some ch'[m] := List.getElem?_eq_getElem (by omega)
        obtain ⟨u', hu1, hu2, hu3⟩ := ih u hmem (hsrc u hmem) ch'[m] (fun hne => link _ _ _ hR m _ u hcm hm hne)
        obtain ⟨r', hr1, hr2⟩ := ihr (m + 1) (by rw [← List.drop_drop, hd]; rfl)
        refine ⟨u' :: r', by unfold SmA; exact ⟨hu1, hr1⟩, ?_⟩
        unfold Tr.InAll
        refine ⟨fun i hi => ?_, hu3, ?_⟩
        · have e1 : (⟨h, m * 5, none⟩ : Addr).add i = ⟨h, m * 5 + i, none⟩ := by unfold Addr.add; split <;> simp_all
          rw [e1, cell_of_row _ _ _ _ _ _ hb, hu2]
          have := rowCells_done kids ch' m i _ u hm hcm hi
          simpa using this
        · have e1 : (⟨h, m * 5, none⟩ : Addr).add 5 = ⟨h, (m + 1) * 5, none⟩ := by unfold Addr.add; simp; omega
          rw [e1]
          exact hr2
    obtain ⟨kids', hs1, hs2⟩ := hkids 0 kids (by simp)
    have hlen := smA_len hs1
    refine ⟨.mk k n f s (some ⟨h, 0, none⟩) kids.length kids', ?_, ?_, ?_⟩
    · unfold Sm; exact ⟨rfl, rfl, rfl, rfl, hs1⟩
    · simp [Tr.cells, cpCells, cpV, Tr.kids, h0, ← hlen]
    · unfold Tr.In
      refine ⟨⟨f1, f2, f3, f4, by omega, by unfold maxLen; omega, fun e => by cases e⟩, fun ad e => ?_⟩
      obtain rfl : (⟨h, 0, none⟩ : Addr) = ad := by simpa using e
      refine ⟨hge, ?_⟩
      simpa using hs2

theorem cp_row {w0 w : World} {R : RM} (blk : ∀ g ts ch, R g = some (ts, ch) → w.heap[g]? = some (.cells (rowCells ts ch).toArray TT) ∧ w0.heap.size ≤ g)
    (src : ∀ g ts ch, R g = some (ts, ch) → ch.length = ts.length ∧ ts.length ≤ 400000 ∧ ∀ t : Tr, t ∈ ts → t.In w0 0)
    (link : ∀ g ts ch, R g = some (ts, ch) → ∀ (i h : Nat) (t : Tr), ch[i]? = some h → ts[i]? = some t → t.kids.length ≠ 0 → ∃ ch', R h = some (t.kids, ch'))
    {g : Nat} {ts : List Tr} {ch : List Nat} (hR : R g = some (ts, ch)) : ∃ ts', SmA ts ts' ∧ Tr.InAll w w0.heap.size ⟨g, 0, none⟩ ts' := by
  obtain ⟨hb, hge⟩ := blk _ _ _ hR
  obtain ⟨hcl, hsm, hsrc⟩ := src _ _ _ hR
  have hkids : ∀ (m : Nat) (rest : List Tr), ts.drop m = rest → ∃ rest', SmA rest rest' ∧ Tr.InAll w w0.heap.size ⟨g, m * 5, none⟩ rest' := by
    intro m rest hd
    induction rest generalizing m with
    | nil => exact ⟨[], by unfold SmA; trivial, by unfold Tr.InAll; trivial⟩
    | cons u r ihr =>
      have hm : ts[m]? = some u := by
        have := List.getElem?_drop (xs := ts) (i := m) (j := 0)
        rw [hd] at this
        simpa using this.symm
      have hmem := List.mem_of_getElem? hm
      have hml : m < ts.length := (List.getElem?_eq_some_iff.1 hm).1
      have hcm : ch[m]? = some ch[m] := List.getElem?_eq_getElem (by omega)
      obtain ⟨u', hu1, hu2, hu3⟩ := cp_tree blk src link u (hsrc u hmem) ch[m] (fun hne => link _ _ _ hR m _ u hcm hm hne)
      obtain ⟨r', hr1, hr2⟩ := ihr (m + 1) (by rw [← List.drop_drop, hd]; rfl)
      refine ⟨u' :: r', by unfold SmA; exact ⟨hu1, hr1⟩, ?_⟩
      unfold Tr.InAll
      refine ⟨fun i hi => ?_, hu3, ?_⟩
      · have e1 : (⟨g, m * 5, none⟩ : Addr).add i = ⟨g, m * 5 + i, none⟩ := by unfold Addr.add; split <;> simp_all
        rw [e1, cell_of_row _ _ _ _ _ _ hb, hu2]
        have := rowCells_done ts ch m i _ u hm hcm hi
        simpa using this
      · have e1 : (⟨g, m * 5, none⟩ : Addr).add 5 = ⟨g, (m + 1) * 5, none⟩ := by unfold Addr.add; simp; omega
        rw [e1]
        exact hr2
  have := hkids 0 ts (by simp)
  simpa using this
end Go.Proofs.Ytggpbfmdhenjdaa


