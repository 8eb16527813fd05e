import Derived.Test.YtdpfmmbfidknfaaGreatDoorG43
import Derived.Test.YtdpfmmbfidknfaaGreatDoorG44
/- What GramTree asks of a tree, all of it pure. -/
namespace Go.Proofs.YtdpfmmbfidknfaaGreatDoor
open Go.RowKit Go.Lib

theorem tkAt_p (s : ByteArray) (q p : Nat) : (tkOf (tokV s q) p).p = p := by
  obtain ⟨k, x, n, f, e, hv⟩ := tokV_tk s q
  rw [hv]
  rfl
theorem toks_places (s : ByteArray) : ∀ (k p : Nat) (done : List Tk), p ≤ s.size → (∀ t ∈ done, t.p ≤ s.size) →
    (∀ l, toks s k p done = .inl l → ∀ t ∈ l, t.p ≤ s.size) ∧ (∀ er q, toks s k p done = .inr (er, q) → q ≤ s.size)
  | 0, p, done, hp, hd => ⟨fun l h => (by cases h), fun er q h => (by cases h; exact Nat.zero_le _)⟩
  | k + 1, p, done, hp, hd => by
    have h2 := goes_le pBlank s p hp
    unfold toks
    split
    · rename_i hlt
      split
      · exact toks_places s k _ done (goes_le pLine s _ h2) hd
      · split
        · rename_i he
          obtain ⟨h3, h4⟩ := tokE_in s _ hlt (okV_er s _ he)
          refine toks_places s k _ _ h4 ?_
          intro t ht
          rcases List.mem_append.1 ht with ht | ht
          · exact hd t ht
          · simp at ht; subst ht; rw [tkAt_p]; exact h2
        · exact ⟨fun l h => (by cases h), fun er q h => (by cases h; exact h2)⟩
    · refine ⟨fun l h t ht => ?_, fun er q h => (by cases h)⟩
      cases h
      rcases List.mem_append.1 ht with ht | ht
      · exact hd t ht
      · simp at ht; subst ht; exact h2

/-- What a tree has. -/
structure TreeF (ns : List Nd) (r M : Nat) : Prop where
  root : r + 1 = ns.length
  kind : ∃ n, ns[r]? = some n ∧ n.k = 24
  at' : ∀ (i : Nat) (n : Nd), ns[i]? = some n → n.p ≤ M
  inc : ∀ (j : Nat) (n : Nd), ns[j]? = some n → ∀ (a : Nat) (x y : Nat), n.l[a]? = some x → n.l[a + 1]? = some y → x < y
  low : ∀ (j : Nat) (n : Nd), ns[j]? = some n → ∀ (a : Nat) (x : Nat), n.l[a]? = some x → x < j
  one : ∀ i, i < ns.length → (ns.flatMap (·.l)).count i = if i = r then 0 else 1
  cl : CP ns

theorem pair_next {l : List Nat} (h : l.Pairwise (· < ·)) {a x y : Nat} (hx : l[a]? = some x) (hy : l[a + 1]? = some y) : x < y := by
  obtain ⟨hx1, rfl⟩ := List.getElem?_eq_some_iff.1 hx
  obtain ⟨hy1, rfl⟩ := List.getElem?_eq_some_iff.1 hy
  exact List.pairwise_iff_getElem.1 h a (a + 1) hx1 hy1 (by omega)

theorem tree_facts (s : ByteArray) {r : Nat} {st : PS} (h : parseP s = .ok (r, st)) : TreeF st.ns r s.size := by
  unfold parseP at h
  cases hA : allT s with
  | inr e => rw [hA] at h; cases h
  | inl l =>
    rw [hA] at h
    have h : Gm.module (Gm.expr 201) ⟨l, [], 0⟩ = .ok (r, st) := h
    have hpl : ∀ t ∈ l, t.p ≤ s.size := by
      unfold allT at hA
      split at hA
      · cases hA
      · exact (toks_places s _ 0 [] (Nat.zero_le _) (by simp)).1 l hA
    have h1 := tree_places s.size l hpl
    rw [h] at h1
    obtain ⟨hr, hk⟩ := tree_root l h
    have hf := tree_forest l h
    refine ⟨hr, hk, fun i n hi => h1.2.ns n (List.mem_of_getElem? hi), fun j n hj a x y hx hy => pair_next (hf.kid j n hj).1 hx hy, fun j n hj a x hx => ?_, fun i hi => ?_, tree_clauses l h⟩
    · have := (hf.kid j n hj).2 x (List.mem_of_getElem? hx)
      omega
    · have := hf.one i (Nat.zero_le _) (by omega)
      rw [this]
      simp

/-- A row of places is no longer than there are nodes. -/
theorem TreeF.short {ns : List Nd} {r M : Nat} (h : TreeF ns r M) {j : Nat} {n : Nd} (hj : ns[j]? = some n) : n.l.length ≤ ns.length := by
  have hup : ∀ (a x : Nat), n.l[a]? = some x → a ≤ x := by
    intro a
    induction a with
    | zero => intro x _; exact Nat.zero_le _
    | succ a ih =>
      intro x hx
      have ha : a < n.l.length := by have := (List.getElem?_eq_some_iff.1 hx).1; omega
      have h1 := ih _ (List.getElem?_eq_getElem ha)
      have h2 := h.inc j n hj a _ x (List.getElem?_eq_getElem ha) hx
      omega
  rcases Nat.eq_zero_or_pos n.l.length with h0 | h0
  · omega
  · have ha : n.l.length - 1 < n.l.length := by omega
    have h1 := hup _ _ (List.getElem?_eq_getElem ha)
    have h2 := h.low j n hj _ _ (List.getElem?_eq_getElem ha)
    have h3 := (List.getElem?_eq_some_iff.1 hj).1
    omega

theorem parse_err (s : ByteArray) {er : Int} {p : Nat} (h : parseP s = .error (er, p)) : er ≠ 0 ∧ p ≤ s.size := by
  unfold parseP at h
  cases hA : allT s with
  | inr e =>
    rw [hA] at h
    cases h
    refine ⟨allT_err s hA, ?_⟩
    unfold allT at hA
    split at hA
    · cases hA; exact Nat.zero_le _
    · exact (toks_places s _ 0 [] (Nat.zero_le _) (by simp)).2 _ _ hA
  | inl l =>
    rw [hA] at h
    have h : Gm.module (Gm.expr 201) ⟨l, [], 0⟩ = .error (er, p) := h
    have hpl : ∀ t ∈ l, t.p ≤ s.size := by
      unfold allT at hA
      split at hA
      · cases hA
      · exact (toks_places s _ 0 [] (Nat.zero_le _) (by simp)).1 l hA
    have h1 := tree_places s.size l hpl
    rw [h] at h1
    exact h1

/-- How often a place was counted: of the first i nodes, and of the next one the first k places. -/
def cnt (ns : List Nd) (i : Nat) (l : List Nat) (k j : Nat) : Nat := ((ns.take i).flatMap (·.l)).count j + (l.take k).count j
theorem cnt_zero (ns : List Nd) (l : List Nat) (j : Nat) : cnt ns 0 l 0 j = 0 := by simp [cnt]
theorem cnt_step (ns : List Nd) (i : Nat) (l : List Nat) (k j x : Nat) (hx : l[k]? = some x) : cnt ns i l (k + 1) j = cnt ns i l k j + if x = j then 1 else 0 := by
  unfold cnt
  rw [List.take_add_one, hx, List.count_append]
  simp only [Option.toList_some, List.count_singleton]
  by_cases h : x = j <;> simp [h, Nat.add_assoc]
theorem cnt_next (ns : List Nd) (i : Nat) (n : Nd) (hn : ns[i]? = some n) (l' : List Nat) (j : Nat) : cnt ns (i + 1) l' 0 j = cnt ns i n.l n.l.length j := by
  unfold cnt
  rw [List.take_add_one, hn, List.flatMap_append, List.count_append]
  simp
theorem cnt_all (ns : List Nd) (l : List Nat) (j : Nat) : cnt ns ns.length l 0 j = (ns.flatMap (·.l)).count j := by simp [cnt]
theorem cnt_one (ns : List Nd) (i : Nat) (n : Nd) (hn : ns[i]? = some n) (k j : Nat) : cnt ns i n.l k j ≤ (ns.flatMap (·.l)).count j := by
  have h1 : cnt ns i n.l k j ≤ cnt ns i n.l n.l.length j := by
    unfold cnt
    have h2 := List.Sublist.count_le j (List.take_sublist k n.l)
    rw [List.take_length]
    omega
  rw [← cnt_next ns i n hn [] j] at h1
  refine Nat.le_trans h1 ?_
  unfold cnt
  rw [List.take_nil, List.count_nil, Nat.add_zero]
  conv => rhs; rw [← List.take_append_drop (i + 1) ns, List.flatMap_append, List.count_append]
  omega
end Go.Proofs.YtdpfmmbfidknfaaGreatDoor


/- The grammar, reckoned at given sources. -/
namespace Go.Proofs.YtdpfmmbfidknfaaGreatDoor
open Go.RowKit Go.Lib

/-- The first example's source. -/
def src1 : ByteArray := ⟨#[45, 109, 111, 100, 117, 108, 101, 40, 109, 41, 46, 32, 102, 40, 88, 41, 32, 119, 104, 101, 110, 32, 88, 32, 62, 32, 48, 32, 45, 62, 32, 88, 32, 45, 32, 49, 46]⟩
def src2 : ByteArray := ⟨#[45, 109, 111, 100, 117, 108, 101, 40, 109, 41, 46, 32, 102, 40, 41, 32, 45, 62, 32, 49, 32, 43, 46]⟩
def is1 (r : Except (Int × Nat) (Nat × PS)) : Bool := match r with
  | .ok (r, s) => decide (r = 12) && decide (s.ns.length = 13) && (match s.ns[3]? with | some n => decide (n.k = 9) && decide (n.x = ⟨#[62]⟩) | none => false) && (match s.ns[12]? with | some n => decide (n.k = 24) && decide (n.x = ⟨#[109]⟩) | none => false)
  | _ => false
theorem src1_is : is1 (parseP src1) = true := by kernel_rfl
theorem src2_is : parseP src2 = .error (24, 22) := by kernel_rfl
end Go.Proofs.YtdpfmmbfidknfaaGreatDoor


