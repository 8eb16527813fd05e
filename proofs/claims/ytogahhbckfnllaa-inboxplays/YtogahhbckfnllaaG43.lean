import Derived.Test.YtogahhbckfnllaaG31
import Derived.Test.YtogahhbckfnllaaG29
/- A region that draws its order: an operation that all of D wait for, if by others between; another condition for what is left. -/
namespace Go.Proofs.Ytogahhbckfnllaa
section
variable {P : Program} {ops : Array Oper} {md : Region.Mode} {Q : Exit → Act → World → Prop} {S S2 : World → Prop} {D D2 : List Nat}

/-- Cl holds all that may be carried out ahead of i. -/
def closedB (md : Region.Mode) (ops : Array Oper) (i : Nat) (Cl : List Nat) : Bool := (List.range ops.size).all fun j => ((ops[j]?).map fun o => (j == i) || Cl.contains j || o.after.any fun e => Region.binds md e && !(Cl.contains e.on)).getD true
theorem closedB_spec {i : Nat} {Cl : List Nat} (h : closedB md ops i Cl = true) {j : Nat} {o : Oper} (ho : ops[j]? = some o) (hj : j ≠ i) (hall : ∀ e ∈ o.after, Region.binds md e = true → Cl.contains e.on = true) : Cl.contains j = true := by
  have hlt : j < ops.size := (Array.getElem?_eq_some_iff.1 ho).1
  have h1 := List.all_eq_true.1 h j (List.mem_range.2 hlt)
  rw [ho] at h1
  simp only [Option.map_some, Option.getD_some, Bool.or_eq_true, beq_iff_eq] at h1
  rcases h1 with (h1 | h1) | h1
  · exact absurd h1 hj
  · exact h1
  · obtain ⟨e, he, hb⟩ := Array.any_eq_true'.1 h1
    simp only [Bool.and_eq_true, Bool.not_eq_true'] at hb
    have := hall e he hb.1
    rw [hb.2] at this
    cases this

theorem wpAnyD_firstC {i : Nat} {oi : Oper} {v : Value} {Cl : List Nat} (hi : ops[i]? = some oi) (hsel : ∀ (j : Nat) (o : Oper) cs b, ops[j]? = some o → o.op ≠ .select cs b)
    (hQ : ∀ c a w, Q (.panic c) (a.put oi.dst v) w → Q (.panic c) a w) (hcl : closedB md ops i Cl = true) (hD : ∀ d, d ∈ D → Cl.contains d = false) :
    ∀ (fuel : Nat) (listed : Array Bool) (a : Act) (w : World),
      (∀ j oj, ops[j]? = some oj → j ≠ i → listed.getD j true = false → (∀ e ∈ oj.after, Region.binds md e = true → e.on ≠ i) → oi.apart ops oj = true) →
      (∀ j, listed.getD j false = true → Cl.contains j = true) →
      i ∈ Region.ready md ops listed → YieldsIf P ops S oi v a → S w →
      wpAnyD P md ops Q S D fuel (listed.setIfInBounds i true) (a.put oi.dst v) w → wpAnyD P md ops Q S D (fuel + 1) listed a w := by
  intro fuel
  induction fuel with
  | zero =>
    intro listed a w _ _ hr hy hS H
    refine ⟨fun h => (by rw [h] at hr; cases hr), fun j hj => ?_⟩
    by_cases hji : j = i
    · subst hji; exact hy.wpOp hi hS ⟨fun _ => hS, H⟩
    · have := ready_mono hj hji
      rw [H.1] at this
      cases this
  | succ fuel ih =>
    intro listed a w hfree hlc hr hy hS H
    refine ⟨fun h => (by rw [h] at hr; cases hr), fun j hj => ?_⟩
    by_cases hji : j = i
    · subst hji; exact hy.wpOp hi hS ⟨fun _ => hS, H⟩
    · have h1 := H.2 j (ready_mono hj hji)
      obtain ⟨hjun, oj, hoj, hall⟩ := mem_ready.1 hj
      have hun : ∀ (x : Bool), listed.getD i x = false := fun x => by
        have h0 := (mem_ready.1 hr).1
        rcases Nat.lt_or_ge i listed.size with h' | h'
        · simp [h'] at h0 ⊢; exact h0
        · simp [Array.getElem?_eq_none h'] at h0
      have hjc : Cl.contains j = true := closedB_spec hcl hoj hji (fun e he hb => hlc _ (hall e he hb))
      have hjD : j ∉ D := fun hd => by
        have := hD j hd
        rw [hjc] at this
        cases this
      have hnot : ∀ e ∈ oj.after, Region.binds md e = true → e.on ≠ i := fun e he hb heq => by
        have h1 := hall e he hb
        rw [heq, hun] at h1
        cases h1
      have h2 := wpOp_putIf hoj (hfree j oj hoj hji hjun hnot) (fun cs b => hsel i oi cs b hi) (fun cs b => hsel j oj cs b hoj) hQ hy h1
      have hfree' : ∀ k ok, ops[k]? = some ok → k ≠ i → (listed.setIfInBounds j true).getD k true = false →
          (∀ e ∈ ok.after, Region.binds md e = true → e.on ≠ i) → oi.apart ops ok = true := fun k ok hk hki hun hno => by
        refine hfree k ok hk hki ?_ hno
        by_cases hjk : j = k
        · subst hjk; exact hjun
        · rw [getD_set_ne true hjk] at hun; exact hun
      have hlc' : ∀ k, (listed.setIfInBounds j true).getD k false = true → Cl.contains k = true := fun k hk => by
        by_cases hjk : j = k
        · subst hjk; exact hjc
        · rw [getD_set_ne false hjk] at hk; exact hlc k hk
      refine wpOp_mono (fun a' w' h3 => ⟨h3.2.1, ih (listed.setIfInBounds j true) a' w' hfree' hlc' (ready_mono hr (Ne.symm hji)) h3.1 (h3.2.1 hjD) ?_⟩) h2
      rw [Array.setIfInBounds_comm _ _ hji]
      exact h3.2.2

/-- Are all that have been carried out in Cl? -/
def listedB (listed : Array Bool) (Cl : List Nat) : Bool := (List.range listed.size).all fun j => !(listed.getD j false) || Cl.contains j
theorem listedB_spec {listed : Array Bool} {Cl : List Nat} (h : listedB listed Cl = true) (j : Nat) (hj : listed.getD j false = true) : Cl.contains j = true := by
  rcases Nat.lt_or_ge j listed.size with h' | h'
  · have h1 := List.all_eq_true.1 h j (List.mem_range.2 h')
    rw [hj] at h1
    simpa using h1
  · simp [Array.getElem?_eq_none h'] at hj

theorem wpAnyD_takeC {l : List Oper} {i : Nat} {oi : Oper} {v : Value} {fuel : Nat} {listed : Array Bool} {a : Act} {w : World} (Cl : List Nat) (hi : l[i]? = some oi)
    (hs : Region.noSelect l.toArray = true) (hf : Region.free md l.toArray listed i = true) (hr : (Region.ready md l.toArray listed).contains i = true) (hcl : closedB md l.toArray i Cl = true) (hlc : listedB listed Cl = true) (hD : D.all (fun d => !(Cl.contains d)) = true)
    (hQ : ∀ c a w, Q (.panic c) (a.put oi.dst v) w → Q (.panic c) a w) (hS : S w) (hg : oi.guard = none) (hy : ∀ w, S w → (execOp a.eval oi).run P w = .ok (.value v) w)
    (h : wpAnyD P md l.toArray Q S D fuel (listed.setIfInBounds i true) (a.put oi.dst v) w) : wpAnyD P md l.toArray Q S D (fuel + 1) listed a w :=
  wpAnyD_firstC (by simpa using hi) (Region.noSelect_spec hs) hQ hcl (fun d hd => by simpa using List.all_eq_true.1 hD d hd) fuel listed a w (Region.free_spec (by simpa using hi) hf) (listedB_spec hlc) (by simpa using hr) (.inl ⟨by simp [Region.wanted, hg], hy⟩) hS h

/-- Another condition, where D holds all that is left. -/
theorem wpAnyD_swap : ∀ (fuel : Nat) (listed : Array Bool) (a : Act) (w : World), (∀ i, listed.getD i true = false → i ∈ D) → wpAnyD P md ops Q S2 D2 fuel listed a w → wpAnyD P md ops Q S D fuel listed a w
  | 0, _, _, _, _, h => h
  | fuel + 1, listed, _, _, hl, h => ⟨h.1, fun i hi => wpOp_mono (fun a' w' h' => ⟨fun hn => absurd (hl i (mem_ready.1 hi).1) hn, wpAnyD_swap fuel _ a' w' (fun j hj => by
      by_cases hij : i = j
      · subst hij; exact hl i (mem_ready.1 hi).1
      · rw [getD_set_ne true hij] at hj; exact hl j hj) h'.2⟩) (h.2 i hi)⟩
/-- The same, by a look. -/
theorem wpAnyD_swapB {fuel : Nat} {listed : Array Bool} {a : Act} {w : World} (hl : ((List.range listed.size).all fun i => listed.getD i true || D.contains i) = true) (h : wpAnyD P md ops Q S2 D2 fuel listed a w) : wpAnyD P md ops Q S D fuel listed a w :=
  wpAnyD_swap fuel listed a w (fun i hi => by
    rcases Nat.lt_or_ge i listed.size with h' | h'
    · have h1 := List.all_eq_true.1 hl i (List.mem_range.2 h')
      rw [hi] at h1
      simpa using h1
    · simp [Array.getElem?_eq_none h'] at hi) h
end
end Go.Proofs.Ytogahhbckfnllaa


/- A loop of few rounds, unrolled: each round may leave what it likes (temps, marks of ranges). -/
namespace Go.Proofs.Ytogahhbckfnllaa
open Go.RowKit Go.Shelf

/-- At most n rounds, each after the other. -/
def Un (P : Program) (c : Code) (Q : Exit → Act → World → Prop) : Nat → Act → World → Prop
  | 0 => fun _ _ => False
  | n + 1 => fun a w => c.wp P (Exit.then (Un P c Q n) Q) a w

theorem least_of {p : Nat → Prop} : ∀ n, p n → ∃ m, p m ∧ ∀ k, p k → m ≤ k := by
  intro n
  induction n using Nat.strongRecOn with
  | _ n ih =>
    intro hn
    by_cases h : ∃ k, k < n ∧ p k
    · obtain ⟨k, hk, hp⟩ := h
      exact ih k hk hp
    · exact ⟨n, hn, fun k hp => Nat.le_of_not_lt (fun hk => h ⟨k, hk, hp⟩)⟩

open Classical in
theorem wp_loop_times {P : Program} {c : Code} {Q : Exit → Act → World → Prop} {a : Act} {w : World} (n : Nat) (h : Un P c Q n a w) : (Code.loop c).wp P Q a w := by
  have hl : ∀ a w, (∃ n, Un P c Q n a w) → ∃ m, Un P c Q m a w ∧ ∀ k, Un P c Q k a w → m ≤ k := fun a w ⟨n, h⟩ => least_of (p := fun n => Un P c Q n a w) n h
  refine wp_loop (fun a w => ∃ n, Un P c Q n a w) (fun a w => if h : ∃ n, Un P c Q n a w then Classical.choose (hl a w h) else 0) ⟨n, h⟩ ?_
  intro a w hI
  have hf := (Classical.choose_spec (hl a w hI)).1
  have hm : ∀ a' w' m, Un P c Q m a' w' → (if h : ∃ n, Un P c Q n a' w' then Classical.choose (hl a' w' h) else 0) ≤ m := fun a' w' m hu => by
    rw [dif_pos ⟨m, hu⟩]; exact (Classical.choose_spec (hl a' w' ⟨m, hu⟩)).2 m hu
  rw [dif_pos hI]
  generalize Classical.choose (hl a w hI) = k at *
  cases k with
  | zero => exact hf.elim
  | succ k =>
    refine Code.wp_mono (fun e a' w' q => ?_) hf
    cases e <;> first | exact ⟨⟨k, q⟩, Nat.lt_succ_of_le (hm _ _ _ q)⟩ | exact q
end Go.Proofs.Ytogahhbckfnllaa


