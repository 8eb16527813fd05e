/- Where a tree lies. -/
import Derived.Test.YtliebilpddmhkaaTwI
namespace Go.Proofs.Ytliebilpddmhkaa
open Go.RowKit Go.Deep

theorem get_lt {α : Type} {l : List α} {i : Nat} {x : α} (h : l[i]? = some x) : i < l.length := by
  rcases Nat.lt_or_ge i l.length with q | q
  · exact q
  · rw [List.getElem?_eq_none q] at h; cases h


mutual
/-- All of a tree lies in blocks of P. -/
def Tr.On (P : Nat → Prop) : Tr → Prop
  | .mk _ _ _ _ a _ kids => (0 < kids.length → ∀ ad, a = some ad → P ad.block) ∧ Tr.OnAll P kids
def Tr.OnAll (P : Nat → Prop) : List Tr → Prop
  | [] => True
  | t :: r => Tr.On P t ∧ Tr.OnAll P r
end

theorem onAll_get {P : Nat → Prop} {kids : List Tr} (h : Tr.OnAll P kids) {t : Tr} (ht : t ∈ kids) : t.On P := by
  induction kids with
  | nil => simp at ht
  | cons u r ih =>
    unfold Tr.OnAll at h
    rcases List.mem_cons.1 ht with rfl | ht
    · exact h.1
    · exact ih h.2 ht

/-- What lies in a world lies in its blocks. -/
theorem on_all {w : World} {base : Nat} : ∀ t : Tr, t.In w base → t.On (fun k => k < w.heap.size) := by
  refine Tr.ind fun k n f s a c kids hk h => ?_
  unfold Tr.In at h
  unfold Tr.On
  refine ⟨fun h0 ad had => ?_, ?_⟩
  · obtain ⟨u, hu⟩ : ∃ u, kids[0]? = some u := ⟨_, List.getElem?_eq_getElem h0⟩
    have q := (inAll_get (h.2 ad had).2 0 u hu).1 0 (by omega)
    cases u with
    | mk =>
      have e : ad.add (0 * 5 + 0) = ad := by unfold Addr.add; simp
      rw [e] at q
      exact World.block_lt_of_cell? w ad (q.trans rfl)
  · have : ∀ l : List Tr, (∀ t, t ∈ l → t ∈ kids) → Tr.OnAll (fun k => k < w.heap.size) l := by
      intro l
      induction l with
      | nil => intro _; unfold Tr.OnAll; trivial
      | cons t r ih =>
        intro hl
        unfold Tr.OnAll
        refine ⟨?_, ih fun u hu => hl u (List.mem_cons_of_mem _ hu)⟩
        have ht := hl t (List.mem_cons_self ..)
        obtain ⟨j, hj⟩ := List.getElem?_of_mem ht
        refine hk t ht ?_
        cases a with
        | none =>
          have h0 := h.1.2.2.2.2.2.2 rfl
          have h1 := h.1.2.2.2.2.1
          have : j < kids.length := by
            rcases Nat.lt_or_ge j kids.length with h | h
            · exact h
            · rw [List.getElem?_eq_none h] at hj; simp at hj
          omega
        | some ad => exact (inAll_get (h.2 ad rfl).2 j t hj).2
    exact this kids fun t h => h


theorem in_on {w w' : World} {base : Nat} {S : Nat → Prop} (hs : ∀ b, S b → w'.heap[b]? = w.heap[b]?) : ∀ t : Tr, t.In w base → t.On S → t.In w' base := by
  refine Tr.ind fun k n f s a c kids hk h ho => ?_
  unfold Tr.In at h ⊢
  unfold Tr.On at ho
  refine ⟨h.1, fun ad had => ⟨(h.2 ad had).1, inAll_of fun j t hj => ?_⟩⟩
  have g := inAll_get (h.2 ad had).2 j t hj
  have hpos : 0 < kids.length := by have := get_lt hj; omega
  have hS := ho.1 hpos ad had
  refine ⟨fun i hi => ?_, hk t (List.mem_of_getElem? hj) g.2 (onAll_get ho.2 (List.mem_of_getElem? hj))⟩
  rw [add_add]
  rw [← g.1 i hi]
  refine World.cell?_of_block (w := w) ?_
  have e : (ad.add (j * 5 + i)).block = ad.block := by unfold Addr.add; split <;> rfl
  rw [e]
  exact hs _ hS

theorem on_mono {S S' : Nat → Prop} (h : ∀ b, S b → S' b) : ∀ t : Tr, t.On S → t.On S' := by
  refine Tr.ind fun k n f s a c kids hk ho => ?_
  unfold Tr.On at ho ⊢
  refine ⟨fun h0 ad had => h _ (ho.1 h0 ad had), ?_⟩
  have : ∀ l : List Tr, (∀ t, t ∈ l → t ∈ kids) → Tr.OnAll S l → Tr.OnAll S' l := by
    intro l
    induction l with
    | nil => intro _ _; unfold Tr.OnAll; trivial
    | cons t r ih =>
      intro hl hx
      unfold Tr.OnAll at hx ⊢
      exact ⟨hk t (hl t (List.mem_cons_self ..)) hx.1, ih (fun u hu => hl u (List.mem_cons_of_mem _ hu)) hx.2⟩
  exact this kids (fun t h => h) ho.2


theorem on_from {w : World} {base : Nat} : ∀ t : Tr, t.In w base → t.On (fun k => base ≤ k) := by
  refine Tr.ind fun k n f s a c kids hk h => ?_
  unfold Tr.In at h
  unfold Tr.On
  refine ⟨fun h0 ad had => (h.2 ad had).1, ?_⟩
  cases a with
  | none =>
    have h0 := h.1.2.2.2.2.2.2 rfl
    have h1 := h.1.2.2.2.2.1
    have hz : kids = [] := List.length_eq_zero_iff.1 (by omega)
    subst hz
    unfold Tr.OnAll
    trivial
  | some ad =>
    have hin := (h.2 ad rfl).2
    have : ∀ l : List Tr, (∀ t, t ∈ l → t ∈ kids) → Tr.OnAll (fun k => base ≤ k) l := by
      intro l
      induction l with
      | nil => intro _; unfold Tr.OnAll; trivial
      | cons t r ih =>
        intro hl
        unfold Tr.OnAll
        refine ⟨?_, ih fun u hu => hl u (List.mem_cons_of_mem _ hu)⟩
        obtain ⟨j, hj⟩ := List.getElem?_of_mem (hl t (List.mem_cons_self ..))
        exact hk t (hl t (List.mem_cons_self ..)) (inAll_get hin j t hj).2
    exact this kids (fun t h => h)

theorem on_and {S S' : Nat → Prop} : ∀ t : Tr, t.On S → t.On S' → t.On (fun k => S k ∧ S' k) := by
  refine Tr.ind fun k n f s a c kids hk h h' => ?_
  unfold Tr.On at h h' ⊢
  refine ⟨fun h0 ad had => ⟨h.1 h0 ad had, h'.1 h0 ad had⟩, ?_⟩
  have : ∀ l : List Tr, (∀ t, t ∈ l → t ∈ kids) → Tr.OnAll S l → Tr.OnAll S' l → Tr.OnAll (fun k => S k ∧ S' k) l := by
    intro l
    induction l with
    | nil => intro _ _ _; unfold Tr.OnAll; trivial
    | cons t r ih =>
      intro hl hx hy
      unfold Tr.OnAll at hx hy ⊢
      exact ⟨hk t (hl t (List.mem_cons_self ..)) hx.1 hy.1, ih (fun u hu => hl u (List.mem_cons_of_mem _ hu)) hx.2 hy.2⟩
  exact this kids (fun t h => h) h.2 h'.2
end Go.Proofs.Ytliebilpddmhkaa
