import Derived.Test.YtpcpdehnppfbfaaGreatG20
import Derived.Lib.SmallJoins
import Derived.Test.YtpcpdehnppfbfaaGreatG16
/- TRows of terms that are a call's own. -/
namespace Go.Proofs.YtpcpdehnppfbfaaGreat
open Go.RowKit Go.Deep

/-- A row of terms that is the call's own; none of them lies in the row's own block. -/
def TRows (w : World) (base : Nat) (v : Value) (ds : List Tr) : Prop :=
  w.ownsRow base 28 5 v ds.length (ds.flatMap Tr.cells) ∧ ∀ t, t ∈ ds → t.In w base ∧ t.On (fun b => v.ownBlock ≠ some b ∧ b < w.heap.size ∧ base ≤ b)


theorem flat_get : ∀ (ds : List Tr) (j : Nat) (t : Tr), ds[j]? = some t → ∀ i, i < 5 → (ds.flatMap Tr.cells)[j * 5 + i]? = t.cells[i]? := by
  intro ds
  induction ds with
  | nil => intro j t h; simp at h
  | cons u r ih =>
    intro j t h i hi
    have hu : u.cells.length = 5 := by cases u; rfl
    simp only [List.flatMap_cons]
    rcases j with _ | j
    · obtain rfl : u = t := by simpa using h
      rw [List.getElem?_append_left (by omega)]
      simp
    · rw [List.getElem?_append_right (by omega), hu]
      have e : (j + 1) * 5 + i - 5 = j * 5 + i := by omega
      rw [e]
      exact ih j t (by simpa using h) i hi


theorem flat_len (ds : List Tr) : (ds.flatMap Tr.cells).length = ds.length * 5 := by
  induction ds with
  | nil => rfl
  | cons u r ih =>
    have hu : u.cells.length = 5 := by cases u; rfl
    simp only [List.flatMap_cons, List.length_append, List.length_cons, ih, hu]
    omega


/-- A term of such a row. -/
theorem rows_tree {w : World} {base : Nat} {v : Value} {ds : List Tr} (h : TRows w base v ds) (k n : Int) (f : Nat) (s : ByteArray) (hk : (Lit.int .i64 k).wf = true) (hn : (Lit.int .i64 n).wf = true) (hf : (Lit.float .f64 f).wf = true) (hs : s.size ≤ maxLen) :
    ∃ a c, v = .slice a ds.length c ∧ (Tr.mk k n f s a c ds).In w base := by
  obtain ⟨⟨hlen, ⟨rfl, h0⟩ | ⟨g, cap, cur, rfl, hbg, hobj, hnc, hcm, hcs, htk⟩⟩, hin⟩ := h
  · have e : ds = [] := List.length_eq_zero_iff.1 h0
    subst e
    refine ⟨none, 0, rfl, ?_⟩
    unfold Tr.In
    exact ⟨⟨hk, hn, hf, hs, by simp, by omega, fun _ => rfl⟩, fun ad h => by simp at h⟩
  · refine ⟨some ⟨g, 0, none⟩, cap, rfl, ?_⟩
    unfold Tr.In
    refine ⟨⟨hk, hn, hf, hs, hnc, hcm, fun h => by simp at h⟩, fun ad had => ?_⟩
    obtain rfl : (⟨g, 0, none⟩ : Addr) = ad := by simpa using had
    refine ⟨hbg, inAll_of fun j t hj => ⟨fun i hi => ?_, (hin t (List.mem_of_getElem? hj)).1⟩⟩
    have e : ((⟨g, 0, none⟩ : Addr).add (j * 5)).add i = ⟨g, j * 5 + i, none⟩ := by
      rw [add_add]
      unfold Addr.add
      split
      · rename_i h0; rw [h0]
      · simp
    rw [e, Joins.cell_of_block hobj, ← flat_get ds j t hj i hi, ← htk]
    have hjl := get_lt hj
    rw [List.getElem?_take]
    rw [if_pos (by omega)]
    simp

/-- What lies there lies in its blocks, from the base on. -/
theorem on_in {w : World} {base : Nat} : ∀ t : Tr, t.In w base → t.On (fun b => b < w.heap.size ∧ base ≤ b) := by
  refine Tr.ind fun k n f s a c kids hk h => ?_
  have hall := on_all (.mk k n f s a c kids) h
  unfold Tr.On at hall ⊢
  have h' := h
  unfold Tr.In at h'
  refine ⟨fun h0 ad had => ⟨hall.1 h0 ad had, (h'.2 ad had).1⟩, ?_⟩
  have : ∀ l : List Tr, (∀ t, t ∈ l → t ∈ kids) → Tr.OnAll (fun b => b < w.heap.size ∧ base ≤ b) l := by
    intro l
    induction l with
    | nil => intro _; unfold Tr.OnAll; trivial
    | cons t r ih =>
      intro hl
      unfold Tr.OnAll
      refine ⟨?_, ih fun u hu => hl u (List.mem_cons_of_mem _ hu)⟩
      have ht := hl t (List.mem_cons_self ..)
      obtain ⟨j, hj⟩ := List.getElem?_of_mem ht
      refine hk t ht ?_
      cases a with
      | none =>
        have h0 := h'.1.2.2.2.2.2.2 rfl
        have h1 := h'.1.2.2.2.2.1
        have := get_lt hj
        omega
      | some ad => exact (inAll_get (h'.2 ad rfl).2 j t hj).2
  exact this kids fun t h => h


theorem in_mono {w : World} {base base' : Nat} (hb : base' ≤ base) : ∀ t : Tr, t.In w base → t.In w base' := by
  refine Tr.ind fun k n f s a c kids hk h => ?_
  unfold Tr.In at h ⊢
  refine ⟨h.1, fun ad had => ⟨Nat.le_trans hb (h.2 ad had).1, inAll_of fun j t hj => ?_⟩⟩
  have g := inAll_get (h.2 ad had).2 j t hj
  refine ⟨fun i hi => ?_, hk t (List.mem_of_getElem? hj) g.2⟩
  rw [add_add]
  exact g.1 i hi


theorem rows_nil (w : World) (base : Nat) : TRows w base (.slice none 0 0) [] := ⟨⟨rfl, Or.inl ⟨rfl, rfl⟩⟩, fun t h => by simp at h⟩


theorem ownsRow_block {w w' : World} {base : Nat} {e : TypeId} {v : Value} {n : Nat} {xs : List Value} (h : w.ownsRow base e 5 v n xs) (hb : ∀ g, v.ownBlock = some g → w'.heap[g]? = w.heap[g]?) : w'.ownsRow base e 5 v n xs := by
  obtain ⟨hl, h | ⟨g, cap, cur, rfl, h1, h2, h3, h4, h5, h6⟩⟩ := h
  · exact ⟨hl, Or.inl h⟩
  · exact ⟨hl, Or.inr ⟨g, cap, cur, rfl, h1, (hb g rfl).trans h2, h3, h4, h5, h6⟩⟩


theorem ownsRow_lt {w : World} {base : Nat} {e : TypeId} {v : Value} {n : Nat} {xs : List Value} (h : w.ownsRow base e 5 v n xs) (g : Nat) (hg : v.ownBlock = some g) : base ≤ g ∧ g < w.heap.size := by
  obtain ⟨_, ⟨rfl, _⟩ | ⟨g', cap, cur, rfl, h1, h2, _⟩⟩ := h
  · simp [Value.ownBlock] at hg
  · obtain rfl : g' = g := by simpa [Value.ownBlock] using hg
    refine ⟨h1, ?_⟩
    rcases Nat.lt_or_ge g' w.heap.size with q | q
    · exact q
    · rw [Array.getElem?_eq_none q] at h2; cases h2


/-- Behind a change of blocks ahead of the base, and new ones. -/
theorem TRows.low {w w' : World} {base : Nat} {v : Value} {ds : List Tr} (h : TRows w base v ds) (hs : w.heap.size ≤ w'.heap.size) (hb : ∀ b, base ≤ b → b < w.heap.size → w'.heap[b]? = w.heap[b]?) : TRows w' base v ds := by
  refine ⟨ownsRow_block h.1 (fun g hg => by have := ownsRow_lt h.1 g hg; exact hb g this.1 this.2), fun t ht => ?_⟩
  obtain ⟨h1, h2⟩ := h.2 t ht
  exact ⟨in_on (fun b hS => hb b hS.2.2 hS.2.1) t h1 h2, on_mono (fun b hS => ⟨hS.1, by omega, hS.2.2⟩) t h2⟩


theorem TRows.keep {w w' : World} {base : Nat} {v : Value} {ds : List Tr} (h : TRows w base v ds) (hb : Below w.heap.size w w') : TRows w' base v ds := h.low hb.size (fun b _ hl => hb.block b hl)


theorem TRows.set {w : World} {base : Nat} {v : Value} {ds : List Tr} (h : TRows w base v ds) {p : Addr} (hp : p.block < base) (u : Value) : TRows (w.setCell p u) base v ds :=
  h.low (by simp [World.setCell]) (fun b hb _ => Below.heap_setCell _ _ _ _ (by omega))


/-- Behind an append of one more. -/
theorem TRows.append {w w' : World} {base : Nat} {v v' : Value} {ds : List Tr} {t : Tr} (h : TRows w base v ds) (ho : w'.ownsRow base 28 5 v' (ds.length + 1) (ds.flatMap Tr.cells ++ t.cells)) (hg : w.grownBy w' v.ownBlock) (hv : v'.ownBlock = v.ownBlock ∨ v'.ownBlock = some w.heap.size) (ht : t.In w base) (hn : t.On (fun b => v.ownBlock ≠ some b ∧ b < w.heap.size ∧ base ≤ b)) : TRows w' base v' (ds ++ [t]) := by
  have hall : ∀ u, u ∈ ds ++ [t] → u.In w base ∧ u.On (fun b => v.ownBlock ≠ some b ∧ b < w.heap.size ∧ base ≤ b) := by
    intro u hu
    rcases List.mem_append.1 hu with hu | hu
    · exact h.2 u hu
    · obtain rfl : u = t := by simpa using hu
      exact ⟨ht, hn⟩
  refine ⟨?_, fun u hu => ?_⟩
  · rw [List.length_append, List.flatMap_append]
    simpa using ho
  · obtain ⟨h1, h2⟩ := hall u hu
    refine ⟨in_on (fun b hS => hg.block b hS.2.1 (fun e => hS.1 e.symm)) u h1 h2, on_mono (fun b hS => ⟨?_, by have := hg.size; omega, hS.2.2⟩) u h2⟩
    rcases hv with e | e
    · rw [e]; exact hS.1
    · rw [e]; intro q; have := Option.some.inj q; omega

theorem infoT5 : (Tryz.prog.info? 28).map (fun i => (i.zero, i.size, i.bytes)) = some (some (.agg #[.int .i64 0, .int .i64 0, .float .f64 0, .string ⟨#[]⟩, .slice none 0 0]), 5, 64) := by kernel_rfl


theorem tr_one (t : Tr) : ∀ u ∈ t.cells, u.oneCell' = true := by
  obtain ⟨k, n, f, s, a, c, kids⟩ := t
  intro y hy
  simp only [Tr.cells, List.mem_cons, List.not_mem_nil, or_false] at hy
  rcases hy with rfl | rfl | rfl | rfl | rfl <;> rfl


theorem tr_len (t : Tr) : t.cells.length = 5 := by cases t; rfl


/-- A term that was told lies in no block of a row that was there. -/
theorem told_off {w w' : World} {base : Nat} {v : Value} {ds : List Tr} {t : Tr} (h : TRows w base v ds) (hb : base ≤ w.heap.size) (ht : t.In w' w.heap.size) : t.In w' base ∧ t.On (fun b => v.ownBlock ≠ some b ∧ b < w'.heap.size ∧ base ≤ b) := by
  refine ⟨in_mono hb t ht, on_mono (fun b hS => ⟨fun e => ?_, hS.1, by omega⟩) t (on_in t ht)⟩
  have := ownsRow_lt h.1 b e
  omega


end Go.Proofs.YtpcpdehnppfbfaaGreat


/- The document's measure of a term, walked: by induction on the tree. -/
namespace Go.Proofs.YtpcpdehnppfbfaaGreat
open Go.RowKit Go.Deep
attribute [local go_sem ↓] Go.wp_at_zero Go.wp_at_succ

/-- The box of a parameter of five cells reads as it was laid. -/
theorem box_at {w wr : World} {v0 v1 v2 v3 v4 : Value} {T : TypeId} (h : Below (w.heap.size + 1) (w.alloc (.cells #[v0, v1, v2, v3, v4] T)) wr) :
    wr.cell? ⟨w.heap.size, 0, none⟩ = some v0 ∧ wr.cell? ⟨w.heap.size, 1, none⟩ = some v1 ∧ wr.cell? ⟨w.heap.size, 2, none⟩ = some v2 ∧ wr.cell? ⟨w.heap.size, 3, none⟩ = some v3 ∧ wr.cell? ⟨w.heap.size, 4, none⟩ = some v4 := by
  refine ⟨?_, ?_, ?_, ?_, ?_⟩ <;> (rw [h.cell (by simp), World.cell?_alloc_new]; rfl)

theorem box_below {w wr : World} {o : Obj} (h : Below (w.heap.size + 1) (w.alloc o) wr) : Below w.heap.size w wr := ((Below.refl _ _).alloc (Nat.le_refl _) _).trans (h.mono (Nat.le_succ _))

theorem box_then {w wr wz : World} {o : Obj} (h : Below (w.heap.size + 1) (w.alloc o) wr) (hz : Below wr.heap.size wr wz) : Below (w.heap.size + 1) (w.alloc o) wz := h.trans (hz.mono (by have := h.size; simpa using this))

theorem measAll_bounds (kids : List Tr) (hk : ∀ t, t ∈ kids → ∀ depth most, -1 ≤ meas t depth most ∧ (0 ≤ meas t depth most → meas t depth most ≤ most)) : ∀ depth most n, 0 ≤ n → n ≤ most → -1 ≤ measAll kids depth most n ∧ measAll kids depth most n ≤ most := by
  induction kids with
  | nil => intro depth most n h0 h; simp only [measAll]; omega
  | cons t r ih =>
    intro depth most n h0 h
    simp only [measAll]
    split
    · omega
    · have g := hk t (List.mem_cons_self ..) depth (most - n)
      exact ih (fun u hu => hk u (List.mem_cons_of_mem _ hu)) depth most _ (by omega) (by omega)

theorem meas_bounds : ∀ (t : Tr) (depth most : Int), -1 ≤ meas t depth most ∧ (0 ≤ meas t depth most → meas t depth most ≤ most) := by
  refine Tr.ind fun k n f s a c kids hk => ?_
  intro depth most
  simp only [meas]
  have ho := own_nonneg k kids.length
  split
  · omega
  · have := measAll_bounds kids hk (depth - 1) most (own k kids.length) ho (by omega)
    omega

end Go.Proofs.YtpcpdehnppfbfaaGreat


