/- Two that link and unlink one another: the protocol, pure. -/
import Derived.KernelRfl
namespace Go.Proofs.YtodelafnboimnaaGreat
namespace PR

/-- How a side stands: 0 none, 1 Linked, 2 Unlinking by id; the last identifier. -/
structure Sd where (st id last : Int)
abbrev Sig := Int × Int

/-- A signal comes. -/
def rcv (s : Sd) (x : Sig) : Sd :=
  if x.1 = 2 then (if s.st = 0 then ⟨1, 0, s.last⟩ else s) else if x.1 = 3 then (if s.st = 1 then ⟨0, 0, s.last⟩ else s) else (if s.st = 2 ∧ s.id = x.2 then ⟨0, 0, s.last⟩ else s)
def run (s : Sd) (l : List Sig) : Sd := l.foldl rcv s
/-- What is answered. -/
def ans (x : Sig) : List Sig := if x.1 = 3 then [(4, x.2)] else []
def ackOf : List Sig → List Sig
  | [] => []
  | x :: r => ans x ++ ackOf r
/-- The identifiers of a lane's acknowledgements; of its unlinks. -/
def acks : List Sig → List Int
  | [] => []
  | x :: r => if x.1 = 4 then x.2 :: acks r else acks r
def us : List Sig → List Int
  | [] => []
  | x :: r => if x.1 = 3 then x.2 :: us r else us r
/-- The last link or unlink of a lane: none, a link (0), an unlink by its identifier. -/
def lst : List Sig → Option Int
  | [] => none
  | x :: r => match lst r with
    | some z => some z
    | none => if x.1 = 2 then some 0 else if x.1 = 3 then some x.2 else none

theorem run_nil (s : Sd) : run s [] = s := rfl
theorem run_cons (s : Sd) (x : Sig) (r : List Sig) : run s (x :: r) = run (rcv s x) r := rfl
theorem run_append (s : Sd) (a b : List Sig) : run s (a ++ b) = run (run s a) b := by simp [run, List.foldl_append]
theorem ackOf_append (a b : List Sig) : ackOf (a ++ b) = ackOf a ++ ackOf b := by
  induction a with
  | nil => rfl
  | cons x r ih => simp [ackOf, ih]
theorem acks_append (a b : List Sig) : acks (a ++ b) = acks a ++ acks b := by
  induction a with
  | nil => rfl
  | cons x r ih => by_cases e : x.1 = 4 <;> simp [acks, e, ih]
theorem us_append (a b : List Sig) : us (a ++ b) = us a ++ us b := by
  induction a with
  | nil => rfl
  | cons x r ih => by_cases e : x.1 = 3 <;> simp [us, e, ih]
theorem lst_snoc (a : List Sig) (x : Sig) : lst (a ++ [x]) = if x.1 = 2 then some 0 else if x.1 = 3 then some x.2 else lst a := by
  induction a with
  | nil => simp [lst]
  | cons y r ih =>
    simp only [List.cons_append, lst, ih]
    by_cases e : x.1 = 2
    · simp [e]
    · by_cases g : x.1 = 3 <;> simp [e, g]
theorem ackOf_four (l : List Sig) : ∀ x ∈ ackOf l, x.1 = 4 := by
  induction l with
  | nil => simp [ackOf]
  | cons y r ih =>
    intro x hx
    simp only [ackOf, ans, List.mem_append] at hx
    rcases hx with hx | hx
    · split at hx
      · simp at hx; rw [hx]
      · simp at hx
    · exact ih x hx
theorem ackOf_mem {l : List Sig} {k : Int} (h : k ∈ us l) : (4, k) ∈ ackOf l := by
  induction l with
  | nil => simp [us] at h
  | cons y r ih =>
    simp only [ackOf, ans, List.mem_append]
    simp only [us] at h
    by_cases e : y.1 = 3
    · simp only [e, if_true, List.mem_cons] at h ⊢
      rcases h with rfl | h
      · left; simp
      · right; exact ih h
    · simp only [e, if_false] at h ⊢
      exact .inr (ih h)

/-- Signals that may be. -/
def Wf (x : Sig) : Prop := (x.1 = 2 ∧ x.2 = 0) ∨ ((x.1 = 3 ∨ x.1 = 4) ∧ 1 ≤ x.2 ∧ x.2 ≤ 1000000)
def Ok (s : Sd) : Prop := (s.st = 0 ∧ s.id = 0) ∨ (s.st = 1 ∧ s.id = 0) ∨ s.st = 2

theorem rcv_ok {s : Sd} (h : Ok s) (x : Sig) : Ok (rcv s x) := by
  unfold rcv
  split
  · split
    · exact .inr (.inl ⟨rfl, rfl⟩)
    · exact h
  · split
    · split
      · exact .inl ⟨rfl, rfl⟩
      · exact h
    · split
      · exact .inl ⟨rfl, rfl⟩
      · exact h
theorem rcv_last (s : Sd) (x : Sig) : (rcv s x).last = s.last := by unfold rcv; repeat' split
                                                                    all_goals rfl

/-- Who is not Unlinking does not become so; acknowledgements do nothing to it. -/
theorem rcv_st {s : Sd} (h : s.st = 0 ∨ s.st = 1) (x : Sig) : (rcv s x).st = 0 ∨ (rcv s x).st = 1 := by
  unfold rcv
  repeat' split
  all_goals (first | exact h | exact .inr rfl | exact .inl rfl)
theorem run_st {s : Sd} (h : s.st = 0 ∨ s.st = 1) (l : List Sig) : (run s l).st = 0 ∨ (run s l).st = 1 := by
  induction l generalizing s with
  | nil => exact h
  | cons x r ih => exact ih (rcv_st h x)
theorem run_acks {s : Sd} (h : s.st = 0 ∨ s.st = 1) (l : List Sig) (hl : ∀ x ∈ l, x.1 = 4) : run s l = s := by
  induction l with
  | nil => rfl
  | cons x r ih =>
    have e : rcv s x = s := by
      have h4 := hl x (by simp)
      unfold rcv
      rw [h4]
      simp only [show ¬ (4 : Int) = 2 by decide, show ¬ (4 : Int) = 3 by decide, if_false]
      rw [if_neg]
      rintro ⟨e, _⟩; omega
    rw [run_cons, e]
    exact ih (fun y hy => hl y (by simp [hy]))
/-- Who is Unlinking stays so till its acknowledgement comes. -/
theorem run_wait {s : Sd} (h : s.st = 2) (l : List Sig) (hl : s.id ∉ acks l) (hw : ∀ x ∈ l, Wf x) : run s l = s := by
  induction l with
  | nil => rfl
  | cons x r ih =>
    have hx := hw x (by simp)
    have e : rcv s x = s := by
      unfold rcv
      split
      · rw [if_neg (by omega)]
      · split
        · rw [if_neg (by omega)]
        · rw [if_neg]
          rintro ⟨_, e⟩
          have h4 : x.1 = 4 := by rcases hx with hx | hx <;> omega
          exact hl (by simp [acks, h4, e])
    rw [run_cons, e]
    refine ih (fun hm => hl ?_) (fun y hy => hw y (by simp [hy]))
    simp only [acks]; split
    · exact List.mem_cons_of_mem _ hm
    · exact hm
/-- Its acknowledgement ends that. -/
theorem run_done {s : Sd} (h : s.st = 2) (l : List Sig) (hl : s.id ∈ acks l) (hw : ∀ x ∈ l, Wf x) : (run s l).st = 0 ∨ (run s l).st = 1 := by
  induction l with
  | nil => simp [acks] at hl
  | cons x r ih =>
    have hx := hw x (by simp)
    rw [run_cons]
    by_cases e : x.1 = 4 ∧ s.id = x.2
    · refine run_st ?_ r
      left
      unfold rcv
      rw [e.1]
      simp [h, e.2]
    · have e2 : rcv s x = s := by
        unfold rcv
        split
        · rw [if_neg (by omega)]
        · split
          · rw [if_neg (by omega)]
          · rw [if_neg]
            rintro ⟨_, e3⟩
            have h4 : x.1 = 4 := by rcases hx with hx | hx <;> omega
            exact e ⟨h4, e3⟩
      rw [e2]
      refine ih ?_ (fun y hy => hw y (by simp [hy]))
      simp only [acks] at hl
      split at hl
      · rename_i h4
        rcases List.mem_cons.1 hl with h5 | h5
        · exact absurd ⟨h4, h5⟩ e
        · exact h5
      · exact hl
/-- Only acknowledgements behind, one of them its own: it ends at none. -/
theorem run_end {s : Sd} (h : s.st = 2) (l : List Sig) (hl : (4, s.id) ∈ l) (h4 : ∀ x ∈ l, x.1 = 4) : (run s l).st = 0 := by
  induction l with
  | nil => simp at hl
  | cons x r ih =>
    have hx := h4 x (by simp)
    rw [run_cons]
    by_cases e : s.id = x.2
    · have e2 : (rcv s x).st = 0 := by unfold rcv; rw [hx]; simp [h, e]
      rw [run_acks (.inl e2) r (fun y hy => h4 y (by simp [hy]))]
      exact e2
    · have e2 : rcv s x = s := by unfold rcv; rw [hx]; simp [e]
      rw [e2]
      refine ih ?_ (fun y hy => h4 y (by simp [hy]))
      rcases List.mem_cons.1 hl with h5 | h5
      · rw [← h5] at e; exact absurd rfl e
      · exact h5
/-- From Linked: the last link or unlink decides. -/
theorem run_linked {s : Sd} (h : s.st = 0 ∨ s.st = 1) (l : List Sig) (hw : ∀ x ∈ l, Wf x) : (run s l).st = match lst l with | none => s.st | some z => if z = 0 then 1 else 0 := by
  induction l generalizing s with
  | nil => rfl
  | cons x r ih =>
    rw [run_cons, ih (rcv_st h x) (fun y hy => hw y (by simp [hy]))]
    have hx := hw x (by simp)
    simp only [lst]
    cases lst r with
    | some z => rfl
    | none =>
      simp only
      rcases hx with ⟨e1, e2⟩ | ⟨e1 | e1, e2, e3⟩
      · simp only [e1, if_true]
        unfold rcv
        rcases h with h | h <;> simp [e1, h]
      · simp only [e1, show ¬ (3 : Int) = 2 by decide, if_false, if_true]
        rw [if_neg (by omega)]
        unfold rcv
        rcases h with h | h <;> simp [e1, h]
      · simp only [e1, show ¬ (4 : Int) = 2 by decide, show ¬ (4 : Int) = 3 by decide, if_false]
        unfold rcv
        rcases h with h | h <;> simp [e1, h]

/-- What holds of a side b with its lane out (q), and the lane in (p). -/
structure Half1 (b : Sd) (q p : List Sig) : Prop where
  ok : Ok b
  wf : ∀ x ∈ q, Wf x
  srt : (acks p ++ us q).Pairwise (· < ·)
  lim : ∀ x ∈ acks p ++ us q, 1 ≤ x ∧ x ≤ b.last
  k1 : ∀ z, lst q = some z → z ≠ 0 → b.st = 2 ∧ b.id = z
  k2 : b.st = 2 → 1 ≤ b.id ∧ (lst q = some b.id ∨ (lst q = none ∧ b.id ∈ acks p))
  last : 0 ≤ b.last

/-- What holds of two, and what is under way: p from the one, q from the other one. -/
structure Inv (a b : Sd) (p q : List Sig) : Prop where
  ha : Half1 a p q
  hb : Half1 b q p
  fin : (run a (q ++ ackOf p)).st = (run b (p ++ ackOf q)).st
  fin2 : (run a (q ++ ackOf p)).st = 0 ∨ (run a (q ++ ackOf p)).st = 1

theorem Inv.swap {a b : Sd} {p q : List Sig} (h : Inv a b p q) : Inv b a q p := ⟨h.hb, h.ha, h.fin.symm, h.fin ▸ h.fin2⟩

theorem inv_start : Inv ⟨0, 0, 0⟩ ⟨0, 0, 0⟩ [] [] := by
  have h : Half1 ⟨0, 0, 0⟩ [] [] := ⟨.inl ⟨rfl, rfl⟩, by simp, by simp [acks, us], by simp [acks, us], by simp [lst], by simp, by simp⟩
  exact ⟨h, h, rfl, .inl rfl⟩

theorem lst_us {q : List Sig} (hw : ∀ x ∈ q, Wf x) : ∀ {z : Int}, lst q = some z → z ≠ 0 → z ∈ us q := by
  induction q with
  | nil => intro z h; simp [lst] at h
  | cons x r ih =>
    intro z h hz
    simp only [lst] at h
    simp only [us]
    cases hr : lst r with
    | some y =>
      rw [hr] at h
      obtain rfl : y = z := by simpa using h
      have := ih (fun y hy => hw y (by simp [hy])) hr hz
      split
      · exact List.mem_cons_of_mem _ this
      · exact this
    | none =>
      rw [hr] at h
      simp only at h
      split at h
      · simp at h; omega
      · split at h
        · rename_i h3
          obtain rfl : x.2 = z := by simpa using h
          simp [h3]
        · simp at h

end PR
end Go.Proofs.YtodelafnboimnaaGreat
