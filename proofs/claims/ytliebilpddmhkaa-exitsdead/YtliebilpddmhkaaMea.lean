/- The document's measure of a term, walked: by induction on the tree. -/
import Derived.Test.YtliebilpddmhkaaFew2
namespace Go.Proofs.Ytliebilpddmhkaa
open Go.RowKit Go.Deep
attribute [local go_sem ↓] Go.wp_at_zero Go.wp_at_succ

mutual
/-- No term in it has very many elements. -/
def Small : Tr → Prop
  | .mk _ _ _ _ _ _ kids => kids.length ≤ 400000 ∧ SmallAll kids
def SmallAll : List Tr → Prop
  | [] => True
  | t :: r => Small t ∧ SmallAll r
end

theorem smallAll_get {kids : List Tr} (h : SmallAll kids) {t : Tr} (ht : t ∈ kids) : Small t := by
  induction kids with
  | nil => simp at ht
  | cons u r ih =>
    unfold SmallAll at h
    rcases List.mem_cons.1 ht with rfl | ht
    · exact h.1
    · exact ih h.2 ht

/-- What is counted to its end has few parts everywhere. -/
theorem few_small : ∀ (t : Tr) (left deep : Int), left ≤ 300000 → 0 ≤ fewT t left deep → Small t ∧ fewT t left deep ≤ left - 1 := by
  refine Tr.ind fun k n f s a c kids hk => ?_
  have hall : ∀ left deep, left ≤ 300000 → 0 ≤ fewAll kids left deep → SmallAll kids ∧ fewAll kids left deep ≤ left - kids.length := by
    induction kids with
    | nil => intro left deep h h0; simp only [fewAll, SmallAll, List.length_nil] at *; exact ⟨trivial, by omega⟩
    | cons t r ih =>
      intro left deep h h0
      simp only [fewAll] at h0 ⊢
      by_cases hl : left < 0
      · rw [if_pos hl] at h0; omega
      · rw [if_neg hl] at h0 ⊢
        have hn : 0 ≤ fewT t left deep := by
          by_cases hz : fewT t left deep < 0
          · rw [fewAll_stop _ _ _ hz] at h0; omega
          · omega
        have g := hk t (List.mem_cons_self ..) left deep h hn
        have q := ih (fun u hu => hk u (List.mem_cons_of_mem _ hu)) (fewT t left deep) deep (by omega) h0
        simp only [SmallAll, List.length_cons]
        exact ⟨⟨g.1, q.1⟩, by omega⟩
  intro left deep h h0
  simp only [fewT] at h0 ⊢
  by_cases hc : left < 0 ∨ deep < 0
  · rw [if_pos hc] at h0; omega
  · rw [if_neg hc] at h0 ⊢
    have q := hall (left - 1) (deep - 1) (by omega) h0
    simp only [Small]
    exact ⟨⟨by omega, q.1⟩, by omega⟩

set_option maxHeartbeats 800000 in
set_option maxRecDepth 100000 in
theorem own_any (k n : Int) (f : Nat) (s : ByteArray) (a : Option Addr) (l c : Nat) (hl : l ≤ 400000) (w : World) :
    Calls Try.prog 41 #[.agg #[.int .i64 k, .int .i64 n, .float .f64 f, .string s, .slice a l c]] w fun e w' => e = .returned (.int .i64 (own k l)) ∧ Below w.heap.size w w' := by
  by_cases h1 : k = 1
  · subst h1; go_enter Try.func41, Try.ntmps41; go_wp2; go_ret; exact ⟨rfl, (Below.refl _ _).alloc (Nat.le_refl _) _⟩
  by_cases h3 : k = 3
  · subst h3; go_enter Try.func41, Try.ntmps41; go_wp2; go_ret; exact ⟨rfl, (Below.refl _ _).alloc (Nat.le_refl _) _⟩
  by_cases h6 : k = 6
  · subst h6; go_enter Try.func41, Try.ntmps41; go_wp2; go_ret; exact ⟨rfl, (Below.refl _ _).alloc (Nat.le_refl _) _⟩
  by_cases h2 : k = 2
  · subst h2; go_enter Try.func41, Try.ntmps41; go_wp2; go_ret; exact ⟨rfl, (Below.refl _ _).alloc (Nat.le_refl _) _⟩
  by_cases h4 : k = 4
  · subst h4; go_enter Try.func41, Try.ntmps41; go_wp2; go_ret; exact ⟨rfl, (Below.refl _ _).alloc (Nat.le_refl _) _⟩
  have w2 : wrap64 (2 * (l : Int)) = 2 * l := by unfold wrap64; omega
  have w3 : wrap64 (2 + (l : Int)) = 2 + l := by unfold wrap64; omega
  have w4 : wrap64 (1 + (l : Int)) = 1 + l := by unfold wrap64; omega
  by_cases h8 : k = 8
  · subst h8
    go_enter Try.func41, Try.ntmps41; go_wp2; go_ret
    refine ⟨?_, (Below.refl _ _).alloc (Nat.le_refl _) _⟩
    simp [own]
  by_cases h5 : k = 5
  · subst h5
    go_enter Try.func41, Try.ntmps41; go_wp2; go_ret
    refine ⟨?_, (Below.refl _ _).alloc (Nat.le_refl _) _⟩
    simp [own]
  go_enter Try.func41, Try.ntmps41; go_wp2; go_ret
  refine ⟨?_, (Below.refl _ _).alloc (Nat.le_refl _) _⟩
  simp [own, h1, h2, h3, h4, h5, h6, h8]
end Go.Proofs.Ytliebilpddmhkaa
