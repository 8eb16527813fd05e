/- A region that draws its order, where several operations may come up that lay new blocks: each way is gone. -/
import Derived.Test.YtejjffgolipdmaaRgD
namespace Go.Proofs.Ytejjffgolipdmaa

section
variable {P : Program} {md : Region.Mode} {Q : Exit → Act → World → Prop} {S : World → Prop} {D : List Nat}

/-- What an operation that comes up has to keep. -/
def Goes (P : Program) (md : Region.Mode) (l : List Oper) (Q : Exit → Act → World → Prop) (S : World → Prop) (D : List Nat) (fuel : Nat) (listed : Array Bool) (a : Act) (w : World) (i : Nat) : Prop :=
  ∃ oi, l[i]? = some oi ∧ ∀ K : Act → World → Prop, (∀ a' w', (i ∉ D → S w') → wpAnyD P md l.toArray Q S D fuel (listed.setIfInBounds i true) a' w' → K a' w') → if Region.wanted oi (yielded l.toArray a.tmps) = true then Oper.wp P oi a w K Q else K (a.put oi.dst undef) w

theorem wpAnyD_goes {l : List Oper} {is : List Nat} {fuel : Nat} {listed : Array Bool} {a : Act} {w : World} (hr : Region.ready md l.toArray listed = is) (hne : is ≠ [])
    (h : ∀ i ∈ is, Goes P md l Q S D fuel listed a w i) : wpAnyD P md l.toArray Q S D (fuel + 1) listed a w := by
  refine ⟨fun h0 => absurd (hr ▸ h0) hne, fun j hj => ?_⟩
  rw [hr] at hj
  obtain ⟨oi, hi, hk⟩ := h j hj
  have hi' : l.toArray[j]? = some oi := by simpa using hi
  have h := hk (fun a' w' => (j ∉ D → S w') ∧ wpAnyD P md l.toArray Q S D fuel (listed.setIfInBounds j true) a' w') (fun a' w' h1 h2 => ⟨h1, h2⟩)
  unfold wpOp
  simp only [hi']
  split
  · rename_i hw; rw [if_pos hw] at h; exact .inl h
  · rename_i hw; rw [if_neg hw] at h; exact h

theorem wpAnyD_two {l : List Oper} {i j : Nat} {fuel : Nat} {listed : Array Bool} {a : Act} {w : World} (hr : Region.ready md l.toArray listed = [i, j])
    (hi : Goes P md l Q S D fuel listed a w i) (hj : Goes P md l Q S D fuel listed a w j) : wpAnyD P md l.toArray Q S D (fuel + 1) listed a w :=
  wpAnyD_goes hr (by simp) (fun k hk => by
    rcases List.mem_cons.1 hk with rfl | hk
    · exact hi
    · obtain rfl : k = j := by simpa using hk
      exact hj)
theorem wpAnyD_three {l : List Oper} {i j k : Nat} {fuel : Nat} {listed : Array Bool} {a : Act} {w : World} (hr : Region.ready md l.toArray listed = [i, j, k])
    (hi : Goes P md l Q S D fuel listed a w i) (hj : Goes P md l Q S D fuel listed a w j) (hk : Goes P md l Q S D fuel listed a w k) : wpAnyD P md l.toArray Q S D (fuel + 1) listed a w :=
  wpAnyD_goes hr (by simp) (fun m hm => by
    rcases List.mem_cons.1 hm with rfl | hm
    · exact hi
    · rcases List.mem_cons.1 hm with rfl | hm
      · exact hj
      · obtain rfl : m = k := by simpa using hm
        exact hk)
end
end Go.Proofs.Ytejjffgolipdmaa
