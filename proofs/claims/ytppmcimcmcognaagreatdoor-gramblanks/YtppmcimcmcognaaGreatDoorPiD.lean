import Derived.Test.YtppmcimcmcognaaGreatDoorPgA
/- Places of nodes and faults lie where tokens lie. -/
namespace Go.Proofs.YtppmcimcmcognaaGreatDoor
namespace Gm
/-- No token and no node of a state lies behind M. -/
structure PlS (M : Nat) (s : PS) : Prop where
  ts : ∀ t ∈ s.ts, t.p ≤ M
  ns : ∀ n ∈ s.ns, n.p ≤ M
/-- A step keeps that; what it tells is r; its fault has a number, and does not lie behind M. -/
def RP {α : Type} (M : Nat) (r : α → Prop) : Except (Int × Nat) (α × PS) → Prop
  | .error e => e.1 ≠ 0 ∧ e.2 ≤ M
  | .ok (a, s) => r a ∧ PlS M s
def Pl {α : Type} (M : Nat) (r : α → Prop) (m : PM α) : Prop := ∀ s, PlS M s → RP M r (m s)
abbrev Pn {α : Type} (M : Nat) (m : PM α) : Prop := Pl M (fun _ => True) m
variable {M : Nat}
theorem pl_bind {α β : Type} {r : α → Prop} {q : β → Prop} {m : PM α} {f : α → PM β} (h : Pl M r m) (g : ∀ a, r a → Pl M q (f a)) : Pl M q (m >>= f) := by
  intro s hs
  have h1 := h s hs
  rw [bind_at]
  cases hm : m s with
  | error e => rw [hm] at h1; exact h1
  | ok p =>
    obtain ⟨a, t⟩ := p
    rw [hm] at h1
    exact g a h1.1 t h1.2
theorem pl_pure {α : Type} {r : α → Prop} {a : α} (h : r a) : Pl M r (pure a) := fun _ hs => ⟨h, hs⟩
theorem hd_p {s : PS} (hs : PlS M s) : (hd s).p ≤ M := by
  unfold hd
  cases h : s.ts with
  | nil => exact Nat.zero_le _
  | cons t r => exact hs.ts t (by rw [h]; exact List.mem_cons_self ..)
theorem cut_p {s : PS} (hs : PlS M s) : PlS M (cut s) := ⟨fun t ht => hs.ts t (List.mem_of_mem_tail ht), hs.ns⟩
theorem hd2_p {s : PS} (hs : PlS M s) : (hd2 s).p ≤ M := hd_p (cut_p hs)
theorem pl_here : Pl M (fun t => t.p ≤ M) here := fun _ hs => ⟨hd_p hs, hs⟩
theorem pl_ahead : Pl M (fun t => t.p ≤ M) ahead := fun _ hs => ⟨hd2_p hs, hs⟩
theorem pl_left : Pn M left := fun _ hs => ⟨trivial, hs⟩
theorem pl_next : Pl M (fun t => t.p ≤ M) next := fun _ hs => ⟨hd_p hs, cut_p hs⟩
theorem pl_take (w : ByteArray) : Pn M (take w) := by
  intro s hs
  unfold take
  split
  · exact ⟨trivial, cut_p hs⟩
  · exact ⟨trivial, hs⟩
theorem pl_need (w : ByteArray) : Pn M (need w) := by
  intro s hs
  unfold need
  split
  · exact ⟨trivial, cut_p hs⟩
  · exact ⟨by simp, hd_p hs⟩
theorem pl_needK (k : Int) : Pl M (fun t => t.p ≤ M) (needK k) := by
  intro s hs
  unfold needK
  split
  · exact ⟨hd_p hs, cut_p hs⟩
  · exact ⟨by simp, hd_p hs⟩
theorem pl_giveUp {α : Type} {r : α → Prop} {e : Int} (he : e ≠ 0) : Pl M r (giveUp e) := fun _ hs => ⟨he, hd_p hs⟩
theorem pl_fault {α : Type} {r : α → Prop} {e : Int} {p : Nat} (he : e ≠ 0) (hp : p ≤ M) : Pl M r (fault e p) := fun _ _ => ⟨he, hp⟩
theorem pl_lay (n : Nd) (hp : n.p ≤ M) : Pn M (lay n) := by
  intro s hs
  unfold lay
  split
  · exact ⟨by simp, hp⟩
  · refine ⟨trivial, hs.ts, fun m hm => ?_⟩
    rcases List.mem_append.1 hm with hm | hm
    · exact hs.ns m hm
    · simp at hm; subst hm; exact hp
theorem pl_ite {α : Type} {r : α → Prop} {c : Prop} [Decidable c] {m n : PM α} (h : Pl M r m) (g : Pl M r n) : Pl M r (if c then m else n) := by split <;> assumption
theorem pr_layNone (k : Int) : Pn M (layNone k) := pl_bind pl_here fun _ ht => pl_lay _ ht

variable {e : PM Nat}
theorem pr_more (he : Pn M e) (most : Nat) : ∀ k l, Pn M (more e most k l)
  | 0, l => pl_pure trivial
  | k + 1, l => pl_bind (pl_take _) fun _ _ => pl_ite (pl_ite (pl_giveUp (by decide)) (pl_bind he fun _ _ => pr_more he most k _)) (pl_pure trivial)
theorem pr_exprs (he : Pn M e) (most : Nat) : Pn M (exprs e most) := pl_bind he fun _ _ => pl_bind pl_left fun _ _ => pr_more he _ _ _
theorem pr_group (he : Pn M e) (k : Int) : Pn M (group e k) := pl_bind pl_here fun _ ht => pl_bind (pr_exprs he _) fun _ _ => pl_lay _ ht
theorem pr_body (he : Pn M e) : Pn M (body e) := pr_group he _
theorem pr_guard (he : Pn M e) : Pn M (guard e) := pl_bind (pl_take _) fun _ _ => pl_ite (pr_group he _) (pr_layNone _)
theorem pr_args (he : Pn M e) : Pn M (args e) :=
  pl_bind (pl_need _) fun _ _ => pl_bind (pl_take _) fun _ _ => pl_ite (pl_pure trivial) (pl_bind (pr_exprs he _) fun _ _ => pl_bind (pl_need _) fun _ _ => pl_pure trivial)
theorem pr_tail (he : Pn M e) {p : Nat} (hp : p ≤ M) (x : ByteArray) (l : List Nat) : Pn M (tail e p x l) :=
  pl_bind (pr_guard he) fun _ _ => pl_bind (pl_need _) fun _ _ => pl_bind (pr_body he) fun _ _ => pl_lay _ hp
theorem pr_fclause (he : Pn M e) : Pn M (fclause e) := pl_bind (pl_needK _) fun _ ht => pl_bind (pr_args he) fun _ _ => pr_tail he ht _ _
theorem pr_gclause (he : Pn M e) : Pn M (gclause e) := pl_bind pl_here fun _ ht => pl_bind (pr_args he) fun _ _ => pr_tail he ht _ _
theorem pr_clause (he : Pn M e) : Pn M (clause e) := pl_bind pl_here fun _ ht => pl_bind he fun _ _ => pr_tail he ht _ _
theorem pr_leaf : Pn M leaf := pl_bind pl_next fun _ ht => pl_lay _ ht
theorem pr_cls : Pn M cls := pl_bind pl_here fun _ ht => pl_bind pl_ahead fun _ _ => pl_ite (pl_ite (pl_bind pr_leaf fun _ _ => pl_bind (pl_need _) fun _ _ => pl_pure trivial) (pl_giveUp (by decide))) (pl_lay _ ht)
theorem pr_cclause (he : Pn M e) : Pn M (cclause e) := pl_bind pl_here fun _ ht => pl_bind pr_cls fun _ _ => pl_bind he fun _ _ => pr_tail he ht _ _
theorem pr_moreC {c : PM Nat} (hc : Pn M c) : ∀ k l, Pn M (moreC c k l)
  | 0, _ => pl_pure trivial
  | k + 1, _ => pl_bind (pl_take _) fun _ _ => pl_ite (pl_bind hc fun _ _ => pr_moreC hc k _) (pl_pure trivial)
theorem pr_clauses {c : PM Nat} (hc : Pn M c) : Pn M (clauses c) := pl_bind pl_here fun _ ht => pl_bind hc fun _ _ => pl_bind pl_left fun _ _ => pl_bind (pr_moreC hc _ _) fun _ _ => pl_lay _ ht
theorem pr_clausesBehind {c : PM Nat} (w : ByteArray) (hc : Pn M c) : Pn M (clausesBehind w c) := pl_bind (pl_take _) fun _ _ => pl_ite (pr_clauses hc) (pr_layNone _)
theorem pr_begin (he : Pn M e) : Pn M (begin e) := pl_bind pl_next fun _ ht => pl_bind (pr_exprs he _) fun _ _ => pl_bind (pl_need _) fun _ _ => pl_lay _ ht
theorem pr_choice (he : Pn M e) : Pn M (choice e) := pl_bind pl_next fun _ ht => pl_bind he fun _ _ => pl_bind (pl_need _) fun _ _ => pl_bind (pr_clauses (pr_clause he)) fun _ _ => pl_bind (pl_need _) fun _ _ => pl_lay _ ht
theorem pr_funName {p : Nat} (hp : p ≤ M) : Pn M (funName p) := pl_bind pl_next fun _ _ => pl_bind (pl_need _) fun _ _ => pl_bind (pl_needK _) fun n hn => pl_ite (pl_fault (by decide) hn) (pl_lay _ hp)
theorem pr_fn (he : Pn M e) : Pn M (fn e) := pl_bind pl_next fun _ ht => pl_bind pl_here fun _ _ => pl_ite (pr_funName ht) (pl_bind (pr_clauses (pr_gclause he)) fun _ _ => pl_bind (pl_need _) fun _ _ => pl_lay _ ht)
theorem pr_afterB (he : Pn M e) : Pn M (afterB e) := pl_bind (pl_take _) fun _ _ => pl_ite (pl_bind (pr_body he) fun _ _ => pl_pure trivial) (pl_bind (pr_layNone _) fun _ _ => pl_pure trivial)
theorem pr_tryOf (he : Pn M e) : Pn M (tryOf e) := pl_bind pl_next fun _ ht => pl_bind (pr_body he) fun _ _ => pl_bind (pr_clausesBehind _ (pr_clause he)) fun o ho => pl_bind pl_here fun _ _ => pl_bind (pr_clausesBehind _ (pr_cclause he)) fun c hc => pl_bind pl_here fun _ _ => pl_ite (pl_bind (pr_afterB he) fun a ha => pl_bind (pl_need _) fun _ _ => pl_lay _ ht) (pl_giveUp (by decide))
theorem pr_patience : Pn M patience := pl_bind pl_here fun _ _ => pl_ite (pl_bind pl_next fun _ _ => pl_pure trivial) (pl_ite (pl_bind pl_next fun _ _ => pl_pure trivial) (pl_giveUp (by decide)))
theorem pr_received (he : Pn M e) : Pn M (received e) := pl_bind pl_here fun _ _ => pl_ite (pr_layNone _) (pr_clauses (pr_clause he))
theorem pr_afterR (he : Pn M e) : Pn M (afterR e) := pl_bind (pl_take _) fun _ _ => pl_ite (pl_bind pr_patience fun _ _ => pl_bind (pl_need _) fun _ _ => pl_bind (pr_body he) fun _ _ => pl_pure trivial) (pl_bind (pr_layNone _) fun _ _ => pl_pure trivial)
theorem pr_receive (he : Pn M e) : Pn M (receive e) := pl_bind pl_next fun _ ht => pl_bind (pr_received he) fun _ _ => pl_bind (pr_afterR he) fun _ _ => pl_bind (pl_need _) fun _ _ => pl_lay _ ht
theorem pr_worded (he : Pn M e) : Pn M (worded e) := pl_bind pl_here fun _ _ => pl_ite (pr_begin he) (pl_ite (pr_choice he) (pl_ite (pr_fn he) (pl_ite (pr_tryOf he) (pl_ite (pr_receive he) (pl_giveUp (by decide))))))
theorem pr_tuple (he : Pn M e) : Pn M (tuple e) := pl_bind pl_next fun _ ht => pl_bind pl_here fun _ _ => pl_ite (pl_bind (pl_need _) fun _ _ => pl_lay _ ht) (pl_bind (pr_exprs he _) fun _ _ => pl_bind (pl_need _) fun _ _ => pl_lay _ ht)
theorem pr_list (he : Pn M e) : Pn M (list e) := pl_bind pl_next fun _ ht => pl_bind pl_here fun _ _ => pl_ite (pl_bind (pl_need _) fun _ _ => pl_lay _ ht) (pl_bind (pr_exprs he _) fun _ _ => pl_bind (pl_take _) fun _ _ => pl_ite (pl_bind he fun _ _ => pl_bind (pl_need _) fun _ _ => pl_lay _ ht) (pl_bind (pl_need _) fun _ _ => pl_lay _ ht))
theorem pr_bracketed (he : Pn M e) : Pn M (bracketed e) := pl_bind pl_here fun _ _ => pl_ite (pl_bind pl_next fun _ _ => pl_bind he fun _ _ => pl_bind (pl_need _) fun _ _ => pl_pure trivial) (pl_ite (pr_tuple he) (pl_ite (pr_list he) (pl_giveUp (by decide))))
theorem pr_primary (he : Pn M e) : Pn M (primary e) := pl_bind pl_here fun _ _ => pl_ite pr_leaf (pl_ite (pr_bracketed he) (pl_ite (pr_worded he) (pl_giveUp (by decide))))
theorem pr_called (he : Pn M e) : Pn M (called e) := pl_bind pl_here fun _ ht => pl_bind pl_ahead fun _ _ => pl_ite (pl_bind pl_next fun _ _ => pl_bind (pr_args he) fun _ _ => pl_lay _ ht) (pr_primary he)
theorem pr_applied (he : Pn M e) {p : Nat} (hp : p ≤ M) : ∀ k x, Pn M (applied e p k x)
  | 0, _ => pl_pure trivial
  | k + 1, _ => pl_bind pl_here fun _ _ => pl_ite (pl_bind (pr_args he) fun _ _ => pl_bind (pl_lay _ hp) fun y _ => pr_applied he hp k y) (pl_pure trivial)
theorem pr_call (he : Pn M e) : Pn M (call e) := pl_bind pl_here fun _ ht => pl_bind (pr_called he) fun x _ => pl_bind pl_left fun _ _ => pr_applied he ht _ x
theorem pr_signs : ∀ k l, (∀ t ∈ l, t.p ≤ M) → Pl M (fun l => ∀ t ∈ l, t.p ≤ M) (signs k l)
  | 0, _, h => pl_pure h
  | k + 1, l, h => pl_bind pl_here fun _ ht => pl_ite (pl_bind pl_next fun _ _ => pr_signs k _ (by intro u hu; rcases List.mem_append.1 hu with hu | hu; exact h u hu; simp at hu; subst hu; exact ht)) (pl_pure h)
theorem pr_layOps : ∀ (l : List Tk) (x : Nat), (∀ t ∈ l, t.p ≤ M) → Pn M (layOps l x)
  | [], _, _ => pl_pure trivial
  | t :: r, x, h => pl_bind (pr_layOps r x fun u hu => h u (List.mem_cons_of_mem _ hu)) fun _ _ => pl_lay _ (h t (List.mem_cons_self ..))
theorem pr_unary (he : Pn M e) : Pn M (unary e) := pl_bind pl_left fun _ _ => pl_bind (pr_signs _ _ (by simp)) fun l hl => pl_bind (pr_call he) fun x _ => pr_layOps l x hl
theorem pr_leftward {m : PM Nat} (hm : Pn M m) (sg : Tk → Bool) {p : Nat} (hp : p ≤ M) : ∀ k x, Pn M (leftward m sg p k x)
  | 0, _ => pl_pure trivial
  | k + 1, _ => pl_bind pl_here fun _ _ => pl_ite (pl_bind pl_next fun _ _ => pl_bind hm fun _ _ => pl_bind (pl_lay _ hp) fun z _ => pr_leftward hm sg hp k z) (pl_pure trivial)
theorem pr_mul (he : Pn M e) : Pn M (mul e) := pl_bind pl_here fun _ ht => pl_bind (pr_unary he) fun x _ => pl_bind pl_left fun _ _ => pr_leftward (pr_unary he) _ ht _ x
theorem pr_add (he : Pn M e) : Pn M (add e) := pl_bind pl_here fun _ ht => pl_bind (pr_mul he) fun x _ => pl_bind pl_left fun _ _ => pr_leftward (pr_mul he) _ ht _ x
theorem pr_rightward {m : PM Nat} (hm : Pn M m) (w : ByteArray) : ∀ k, Pn M (rightward m w k)
  | 0 => hm
  | k + 1 => pl_bind pl_here fun _ ht => pl_bind hm fun _ _ => pl_bind (pl_take _) fun _ _ => pl_ite (pl_bind (pr_rightward hm w k) fun _ _ => pl_lay _ ht) (pl_pure trivial)
theorem pr_right {m : PM Nat} (hm : Pn M m) (w : ByteArray) : Pn M (right m w) := pl_bind pl_left fun _ _ => pr_rightward hm w _
theorem pr_compare (he : Pn M e) : Pn M (compare e) := pl_bind pl_here fun _ ht => pl_bind (pr_right (pr_add he) _) fun _ _ => pl_bind pl_here fun _ _ => pl_ite (pl_bind pl_next fun _ _ => pl_bind (pr_right (pr_add he) _) fun _ _ => pl_lay _ ht) (pl_pure trivial)
theorem pr_opened (he : Pn M e) : Pn M (opened e) := pl_bind pl_here fun _ ht => pl_bind (pl_take _) fun _ _ => pl_ite (pl_bind he fun _ _ => pl_lay _ ht) (pl_bind (pr_right (pr_right (pr_compare he) _) _) fun _ _ => pl_bind (pl_take _) fun _ _ => pl_ite (pl_bind he fun _ _ => pl_lay _ ht) (pl_bind (pl_take _) fun _ _ => pl_ite (pl_bind he fun _ _ => pl_lay _ ht) (pl_pure trivial)))
theorem pr_expr : ∀ k, Pn M (expr k)
  | 0 => pl_giveUp (by decide)
  | k + 1 => by
    intro s hs
    simp only [expr]
    split
    · exact ⟨by simp, hd_p hs⟩
    · have h1 := pr_opened (pr_expr k) { s with o := s.o + 1 } ⟨hs.ts, hs.ns⟩
      cases hm : opened (expr k) { s with o := s.o + 1 } with
      | error er => rw [hm] at h1; exact h1
      | ok p =>
        obtain ⟨x, t⟩ := p
        rw [hm] at h1
        exact ⟨trivial, h1.2.ts, h1.2.ns⟩
theorem pr_function (he : Pn M e) : Pn M (functionOf e) := pl_bind pl_here fun _ ht => pl_bind (pr_clauses (pr_fclause he)) fun _ _ => pl_bind (pl_need _) fun _ _ => fun s hs => pl_lay _ ht s hs
theorem pr_functions (he : Pn M e) : ∀ k l, Pn M (functions e k l)
  | 0, _ => pl_pure trivial
  | k + 1, _ => pl_bind pl_here fun _ _ => pl_ite (pl_pure trivial) (pl_bind (pr_function he) fun _ _ => pr_functions he k _)
theorem pr_module (he : Pn M e) : Pn M (module e) := pl_bind pl_here fun _ ht => pl_bind (pl_need _) fun _ _ => pl_bind pl_here fun _ _ => pl_ite (pl_bind pl_next fun _ _ => pl_bind (pl_need _) fun _ _ => pl_bind (pl_needK _) fun _ _ => pl_bind (pl_need _) fun _ _ => pl_bind (pl_need _) fun _ _ => pl_bind pl_left fun _ _ => pl_bind (pr_functions he _ _) fun l hl => pl_lay _ ht) (pl_giveUp (by decide))
end Gm
/-- Where tokens lie no farther than M, nodes and faults don't, and a fault has a number. -/
theorem tree_places (M : Nat) (ts : List Tk) (h : ∀ t ∈ ts, t.p ≤ M) : Gm.RP M (fun _ => True) (Gm.module (Gm.expr 201) ⟨ts, [], 0⟩) :=
  Gm.pr_module (Gm.pr_expr 201) _ ⟨h, by simp⟩
end Go.Proofs.YtppmcimcmcognaaGreatDoor


