import Derived.Test.YtmijabhnbmmmfaaGreatG30
import Derived.Lib.SmallJoins
import Derived.Laws.Rows
/- Grow at terms: the row stays what it was. -/
namespace Go.Proofs.YtmijabhnbmmmfaaGreat
open Go.RowKit Go.Deep

theorem zeroCells_size (z : Array Value) (k : Nat) : (Builtin.zeroCells z k).size = k * z.size := by
  unfold Builtin.zeroCells
  simp

theorem grow_terms (base : Nat) (v : Value) (n m : Nat) (xs : List Value) (w : World) (hown : w.ownsRow base 44 5 v n xs) (hm : m ≤ 65536) (hn : n ≤ 16777216) (hbase : base ≤ w.heap.size) :
    Calls Tryz.prog 54 #[v, .int .i64 m] w fun e w' => ∃ v', e = .returned v' ∧ w'.ownsRow base 44 5 v' n xs ∧ (v'.ownBlock = v.ownBlock ∨ v'.ownBlock = some w.heap.size) ∧ Below w.heap.size w w' := by
  have hmax : maxLen = 9223372036854775807 := rfl
  obtain ⟨hlen, ⟨rfl, rfl⟩ | ⟨g, cap, cur, rfl, hbg, hobj, hnc, hcm, hcs, htk⟩⟩ := hown
  · by_cases h0 : m = 0
    · subst h0
      refine (tgrow_room none 0 0 0 w (by omega) (by omega) (by omega) (by omega)).mono ?_
      rintro e w' ⟨rfl, rfl⟩
      exact ⟨_, rfl, ⟨hlen, Or.inl ⟨rfl, rfl⟩⟩, Or.inl rfl, Below.refl _ _⟩
    · refine (tgrow_grow none 0 0 m [] w (by omega) hm (by omega) (by omega) rfl (fun _ => rfl) (fun a h => by simp at h)).mono ?_
      rintro e w' ⟨G, hG1, hG2, rfl, rfl⟩
      have hx : xs = [] := List.length_eq_zero_iff.1 (by simpa using hlen)
      subst hx
      refine ⟨_, rfl, ⟨rfl, Or.inr ⟨w.heap.size, G, _, rfl, hbase, heap_alloc_new w.drew _, by omega, hG2, ?_, by simp⟩⟩, Or.inr rfl, (Below.refl _ _).drew.alloc (Nat.le_refl _) _⟩
      simp only [Array.size_append, zeroCells_size, zT]
      simp
      omega
  · have hcell : ∀ j v, cur.toList[j]? = some v → w.cell? ((⟨g, 0, none⟩ : Addr).add j) = some v := by
      intro j v hj
      have e : (⟨g, 0, none⟩ : Addr).add j = ⟨g, j, none⟩ := by unfold Addr.add; split <;> simp_all
      rw [e]
      rw [Joins.cell_of_block hobj]
      simpa using hj
    by_cases hr : n + m ≤ cap
    · refine (tgrow_room (some ⟨g, 0, none⟩) n cap m w hnc (by omega) hm hr).mono ?_
      rintro e w' ⟨rfl, rfl⟩
      exact ⟨_, rfl, ⟨hlen, Or.inr ⟨g, cap, cur, rfl, hbg, hobj, hnc, hcm, hcs, htk⟩⟩, Or.inl rfl, Below.refl _ _⟩
    · refine (tgrow_grow (some ⟨g, 0, none⟩) n cap m cur.toList w hnc hm hn (by omega) (by simpa using hcs) (fun h => by simp at h) (fun a ha => (Option.some.inj ha) ▸ hcell)).mono ?_
      rintro e w' ⟨G, hG1, hG2, rfl, rfl⟩
      refine ⟨_, rfl, ⟨hlen, Or.inr ⟨w.heap.size, G, _, rfl, hbase, heap_alloc_new w.drew _, by omega, hG2, ?_, ?_⟩⟩, Or.inr rfl, (Below.refl _ _).drew.alloc (Nat.le_refl _) _⟩
      · simp only [Array.size_append, zeroCells_size, zT]
        simp [hcs]
        omega
      · rw [← htk]
        simp only [Array.toList_append, List.append_assoc]
        rw [List.take_append_of_le_length (by simp [hcs]; omega)]
end Go.Proofs.YtmijabhnbmmmfaaGreat


/- Terms that are the same; rows of terms. -/
namespace Go.Proofs.YtmijabhnbmmmfaaGreat
open Go.RowKit Go.Deep

mutual
/-- The same term, elsewhere. -/
def Same : Tr → Tr → Prop
  | .mk k n f s _ _ ks, .mk k' n' f' s' _ _ ks' => k = k' ∧ n = n' ∧ f = f' ∧ s = s' ∧ SameAll ks ks'
def SameAll : List Tr → List Tr → Prop
  | [], [] => True
  | t :: r, t' :: r' => Same t t' ∧ SameAll r r'
  | [], _ :: _ => False
  | _ :: _, [] => False
end

theorem sameAll_snoc {t t' : Tr} (h : Same t t') : ∀ (l l' : List Tr), SameAll l l' → SameAll (l ++ [t]) (l' ++ [t'])
  | [], [], _ => by simp only [List.nil_append]; unfold SameAll; exact ⟨h, by unfold SameAll; trivial⟩
  | u :: r, u' :: r', hl => by
    unfold SameAll at hl
    simp only [List.cons_append]
    unfold SameAll
    exact ⟨hl.1, sameAll_snoc h r r' hl.2⟩
  | [], _ :: _, hl => by unfold SameAll at hl; exact hl.elim
  | _ :: _, [], hl => by unfold SameAll at hl; exact hl.elim

theorem sameAll_len : ∀ (l l' : List Tr), SameAll l l' → l.length = l'.length
  | [], [], _ => rfl
  | u :: r, u' :: r', hl => by
    unfold SameAll at hl
    simp only [List.length_cons, sameAll_len r r' hl.2]
  | [], _ :: _, hl => by unfold SameAll at hl; exact hl.elim
  | _ :: _, [], hl => by unfold SameAll at hl; exact hl.elim

/-- A row of terms that is the call's own; none of them lies in the row's own block. -/
def Rows (w : World) (base : Nat) (v : Value) (ds : List Tr) : Prop :=
  w.ownsRow base 44 5 v ds.length (ds.flatMap Tr.cells) ∧ ∀ t, t ∈ ds → t.In w base ∧ t.On (fun b => v.ownBlock ≠ some b ∧ b < w.heap.size ∧ base ≤ b)

/-- What lies in blocks that stay lies there still. -/
theorem in_on {w w' : World} {base : Nat} {S : Nat → Prop} (hs : ∀ b, S b → w'.heap[b]? = w.heap[b]?) : ∀ t : Tr, t.In w base → t.On S → t.In w' base := by
  refine Tr.ind fun k n f s a c kids hk h ho => ?_
  unfold Tr.In at h ⊢
  unfold Tr.On at ho
  refine ⟨h.1, fun ad had => ⟨(h.2 ad had).1, inAll_of fun j t hj => ?_⟩⟩
  have g := inAll_get (h.2 ad had).2 j t hj
  have hpos : 0 < kids.length := by have := get_lt hj; omega
  have hS := ho.1 hpos ad had
  refine ⟨fun i hi => ?_, hk t (List.mem_of_getElem? hj) g.2 (onAll_get ho.2 (List.mem_of_getElem? hj))⟩
  rw [add_add]
  rw [← g.1 i hi]
  refine World.cell?_of_block (w := w) ?_
  have e : (ad.add (j * 5 + i)).block = ad.block := by unfold Addr.add; split <;> rfl
  rw [e]
  exact hs _ hS

theorem on_mono {S S' : Nat → Prop} (h : ∀ b, S b → S' b) : ∀ t : Tr, t.On S → t.On S' := by
  refine Tr.ind fun k n f s a c kids hk ho => ?_
  unfold Tr.On at ho ⊢
  refine ⟨fun h0 ad had => h _ (ho.1 h0 ad had), ?_⟩
  have : ∀ l : List Tr, (∀ t, t ∈ l → t ∈ kids) → Tr.OnAll S l → Tr.OnAll S' l := by
    intro l
    induction l with
    | nil => intro _ _; unfold Tr.OnAll; trivial
    | cons t r ih =>
      intro hl hx
      unfold Tr.OnAll at hx ⊢
      exact ⟨hk t (hl t (List.mem_cons_self ..)) hx.1, ih (fun u hu => hl u (List.mem_cons_of_mem _ hu)) hx.2⟩
  exact this kids (fun t h => h) ho.2

theorem flat_get : ∀ (ds : List Tr) (j : Nat) (t : Tr), ds[j]? = some t → ∀ i, i < 5 → (ds.flatMap Tr.cells)[j * 5 + i]? = t.cells[i]? := by
  intro ds
  induction ds with
  | nil => intro j t h; simp at h
  | cons u r ih =>
    intro j t h i hi
    have hu : u.cells.length = 5 := by cases u; rfl
    simp only [List.flatMap_cons]
    rcases j with _ | j
    · obtain rfl : u = t := by simpa using h
      rw [List.getElem?_append_left (by omega)]
      simp
    · rw [List.getElem?_append_right (by omega), hu]
      have e : (j + 1) * 5 + i - 5 = j * 5 + i := by omega
      rw [e]
      exact ih j t (by simpa using h) i hi

theorem flat_len (ds : List Tr) : (ds.flatMap Tr.cells).length = ds.length * 5 := by
  induction ds with
  | nil => rfl
  | cons u r ih =>
    have hu : u.cells.length = 5 := by cases u; rfl
    simp only [List.flatMap_cons, List.length_append, List.length_cons, ih, hu]
    omega

/-- A term of such a row. -/
theorem rows_tree {w : World} {base : Nat} {v : Value} {ds : List Tr} (h : Rows w base v ds) (k n : Int) (f : Nat) (s : ByteArray) (hk : (Lit.int .i64 k).wf = true) (hn : (Lit.int .i64 n).wf = true) (hf : (Lit.float .f64 f).wf = true) (hs : s.size ≤ maxLen) :
    ∃ a c, v = .slice a ds.length c ∧ (Tr.mk k n f s a c ds).In w base := by
  obtain ⟨⟨hlen, ⟨rfl, h0⟩ | ⟨g, cap, cur, rfl, hbg, hobj, hnc, hcm, hcs, htk⟩⟩, hin⟩ := h
  · have e : ds = [] := List.length_eq_zero_iff.1 h0
    subst e
    refine ⟨none, 0, rfl, ?_⟩
    unfold Tr.In
    exact ⟨⟨hk, hn, hf, hs, by simp, by omega, fun _ => rfl⟩, fun ad h => by simp at h⟩
  · refine ⟨some ⟨g, 0, none⟩, cap, rfl, ?_⟩
    unfold Tr.In
    refine ⟨⟨hk, hn, hf, hs, hnc, hcm, fun h => by simp at h⟩, fun ad had => ?_⟩
    obtain rfl : (⟨g, 0, none⟩ : Addr) = ad := by simpa using had
    refine ⟨hbg, inAll_of fun j t hj => ⟨fun i hi => ?_, (hin t (List.mem_of_getElem? hj)).1⟩⟩
    have e : ((⟨g, 0, none⟩ : Addr).add (j * 5)).add i = ⟨g, j * 5 + i, none⟩ := by
      rw [add_add]
      unfold Addr.add
      split
      · rename_i h0; rw [h0]
      · simp
    rw [e, Joins.cell_of_block hobj, ← flat_get ds j t hj i hi, ← htk]
    have hjl := get_lt hj
    rw [List.getElem?_take]
    rw [if_pos (by omega)]
    simp
end Go.Proofs.YtmijabhnbmmmfaaGreat


