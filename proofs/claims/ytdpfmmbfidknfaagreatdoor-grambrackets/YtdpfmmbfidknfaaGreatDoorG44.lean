import Derived.Test.YtdpfmmbfidknfaaGreatDoorG13
import Derived.Test.YtdpfmmbfidknfaaGreatDoorG43
/- Places of nodes and faults lie where tokens lie. -/
namespace Go.Proofs.YtdpfmmbfidknfaaGreatDoor
namespace Gm
/-- No token and no node of a state lies behind M. -/
structure PlS (M : Nat) (s : PS) : Prop where
  ts : ∀ t ∈ s.ts, t.p ≤ M
  ns : ∀ n ∈ s.ns, n.p ≤ M
/-- A step keeps that; what it tells is r; its fault has a number, and does not lie behind M. -/
def RP {α : Type} (M : Nat) (r : α → Prop) : Except (Int × Nat) (α × PS) → Prop
  | .error e => e.1 ≠ 0 ∧ e.2 ≤ M
  | .ok (a, s) => r a ∧ PlS M s
def Pl {α : Type} (M : Nat) (r : α → Prop) (m : PM α) : Prop := ∀ s, PlS M s → RP M r (m s)
abbrev Pn {α : Type} (M : Nat) (m : PM α) : Prop := Pl M (fun _ => True) m
variable {M : Nat}
theorem pl_bind {α β : Type} {r : α → Prop} {q : β → Prop} {m : PM α} {f : α → PM β} (h : Pl M r m) (g : ∀ a, r a → Pl M q (f a)) : Pl M q (m >>= f) := by
  intro s hs
  have h1 := h s hs
  rw [bind_at]
  cases hm : m s with
  | error e => rw [hm] at h1; exact h1
  | ok p =>
    obtain ⟨a, t⟩ := p
    rw [hm] at h1
    exact g a h1.1 t h1.2
theorem pl_pure {α : Type} {r : α → Prop} {a : α} (h : r a) : Pl M r (pure a) := fun _ hs => ⟨h, hs⟩
theorem hd_p {s : PS} (hs : PlS M s) : (hd s).p ≤ M := by
  unfold hd
  cases h : s.ts with
  | nil => exact Nat.zero_le _
  | cons t r => exact hs.ts t (by rw [h]; exact List.mem_cons_self ..)
theorem cut_p {s : PS} (hs : PlS M s) : PlS M (cut s) := ⟨fun t ht => hs.ts t (List.mem_of_mem_tail ht), hs.ns⟩
theorem hd2_p {s : PS} (hs : PlS M s) : (hd2 s).p ≤ M := hd_p (cut_p hs)
theorem pl_here : Pl M (fun t => t.p ≤ M) here := fun _ hs => ⟨hd_p hs, hs⟩
theorem pl_ahead : Pl M (fun t => t.p ≤ M) ahead := fun _ hs => ⟨hd2_p hs, hs⟩
theorem pl_left : Pn M left := fun _ hs => ⟨trivial, hs⟩
theorem pl_next : Pl M (fun t => t.p ≤ M) next := fun _ hs => ⟨hd_p hs, cut_p hs⟩
theorem pl_take (w : ByteArray) : Pn M (take w) := by
  intro s hs
  unfold take
  split
  · exact ⟨trivial, cut_p hs⟩
  · exact ⟨trivial, hs⟩
theorem pl_need (w : ByteArray) : Pn M (need w) := by
  intro s hs
  unfold need
  split
  · exact ⟨trivial, cut_p hs⟩
  · exact ⟨by simp, hd_p hs⟩
theorem pl_needK (k : Int) : Pl M (fun t => t.p ≤ M) (needK k) := by
  intro s hs
  unfold needK
  split
  · exact ⟨hd_p hs, cut_p hs⟩
  · exact ⟨by simp, hd_p hs⟩
theorem pl_giveUp {α : Type} {r : α → Prop} {e : Int} (he : e ≠ 0) : Pl M r (giveUp e) := fun _ hs => ⟨he, hd_p hs⟩
theorem pl_fault {α : Type} {r : α → Prop} {e : Int} {p : Nat} (he : e ≠ 0) (hp : p ≤ M) : Pl M r (fault e p) := fun _ _ => ⟨he, hp⟩
theorem pl_lay (n : Nd) (hp : n.p ≤ M) : Pn M (lay n) := by
  intro s hs
  unfold lay
  split
  · exact ⟨by simp, hp⟩
  · refine ⟨trivial, hs.ts, fun m hm => ?_⟩
    rcases List.mem_append.1 hm with hm | hm
    · exact hs.ns m hm
    · simp at hm; subst hm; exact hp
theorem pl_ite {α : Type} {r : α → Prop} {c : Prop} [Decidable c] {m n : PM α} (h : Pl M r m) (g : Pl M r n) : Pl M r (if c then m else n) := by split <;> assumption
theorem pr_layNone (k : Int) : Pn M (layNone k) := pl_bind pl_here fun _ ht => pl_lay _ ht

variable {e : PM Nat}
theorem pr_more (he : Pn M e) (most : Nat) : ∀ k l, Pn M (more e most k l)
  | 0, l => pl_pure trivial
  | k + 1, l => pl_bind (pl_take _) fun _ _ => pl_ite (pl_ite (pl_giveUp (by decide)) (pl_bind he fun _ _ => pr_more he most k _)) (pl_pure trivial)
theorem pr_exprs (he : Pn M e) (most : Nat) : Pn M (exprs e most) := pl_bind he fun _ _ => pl_bind pl_left fun _ _ => pr_more he _ _ _
theorem pr_group (he : Pn M e) (k : Int) : Pn M (group e k) := pl_bind pl_here fun _ ht => pl_bind (pr_exprs he _) fun _ _ => pl_lay _ ht
theorem pr_body (he : Pn M e) : Pn M (body e) := pr_group he _
theorem pr_guard (he : Pn M e) : Pn M (guard e) := pl_bind (pl_take _) fun _ _ => pl_ite (pr_group he _) (pr_layNone _)
theorem pr_args (he : Pn M e) : Pn M (args e) :=
  pl_bind (pl_need _) fun _ _ => pl_bind (pl_take _) fun _ _ => pl_ite (pl_pure trivial) (pl_bind (pr_exprs he _) fun _ _ => pl_bind (pl_need _) fun _ _ => pl_pure trivial)
theorem pr_tail (he : Pn M e) {p : Nat} (hp : p ≤ M) (x : ByteArray) (l : List Nat) : Pn M (tail e p x l) :=
  pl_bind (pr_guard he) fun _ _ => pl_bind (pl_need _) fun _ _ => pl_bind (pr_body he) fun _ _ => pl_lay _ hp
theorem pr_fclause (he : Pn M e) : Pn M (fclause e) := pl_bind (pl_needK _) fun _ ht => pl_bind (pr_args he) fun _ _ => pr_tail he ht _ _
theorem pr_gclause (he : Pn M e) : Pn M (gclause e) := pl_bind pl_here fun _ ht => pl_bind (pr_args he) fun _ _ => pr_tail he ht _ _
theorem pr_clause (he : Pn M e) : Pn M (clause e) := pl_bind pl_here fun _ ht => pl_bind he fun _ _ => pr_tail he ht _ _
theorem pr_leaf : Pn M leaf := pl_bind pl_next fun _ ht => pl_lay _ ht
theorem pr_cls : Pn M cls := pl_bind pl_here fun _ ht => pl_bind pl_ahead fun _ _ => pl_ite (pl_ite (pl_bind pr_leaf fun _ _ => pl_bind (pl_need _) fun _ _ => pl_pure trivial) (pl_giveUp (by decide))) (pl_lay _ ht)
theorem pr_cclause (he : Pn M e) : Pn M (cclause e) := pl_bind pl_here fun _ ht => pl_bind pr_cls fun _ _ => pl_bind he fun _ _ => pr_tail he ht _ _
theorem pr_moreC {c : PM Nat} (hc : Pn M c) : ∀ k l, Pn M (moreC c k l)
  | 0, _ => pl_pure trivial
  | k + 1, _ => pl_bind (pl_take _) fun _ _ => pl_ite (pl_bind hc fun _ _ => pr_moreC hc k _) (pl_pure trivial)
theorem pr_clauses {c : PM Nat} (hc : Pn M c) : Pn M (clauses c) := pl_bind pl_here fun _ ht => pl_bind hc fun _ _ => pl_bind pl_left fun _ _ => pl_bind (pr_moreC hc _ _) fun _ _ => pl_lay _ ht
theorem pr_clausesBehind {c : PM Nat} (w : ByteArray) (hc : Pn M c) : Pn M (clausesBehind w c) := pl_bind (pl_take _) fun _ _ => pl_ite (pr_clauses hc) (pr_layNone _)
theorem pr_begin (he : Pn M e) : Pn M (begin e) := pl_bind pl_next fun _ ht => pl_bind (pr_exprs he _) fun _ _ => pl_bind (pl_need _) fun _ _ => pl_lay _ ht
theorem pr_choice (he : Pn M e) : Pn M (choice e) := pl_bind pl_next fun _ ht => pl_bind he fun _ _ => pl_bind (pl_need _) fun _ _ => pl_bind (pr_clauses (pr_clause he)) fun _ _ => pl_bind (pl_need _) fun _ _ => pl_lay _ ht
theorem pr_funName {p : Nat} (hp : p ≤ M) : Pn M (funName p) := pl_bind pl_next fun _ _ => pl_bind (pl_need _) fun _ _ => pl_bind (pl_needK _) fun n hn => pl_ite (pl_fault (by decide) hn) (pl_lay _ hp)
theorem pr_fn (he : Pn M e) : Pn M (fn e) := pl_bind pl_next fun _ ht => pl_bind pl_here fun _ _ => pl_ite (pr_funName ht) (pl_bind (pr_clauses (pr_gclause he)) fun _ _ => pl_bind (pl_need _) fun _ _ => pl_lay _ ht)
theorem pr_afterB (he : Pn M e) : Pn M (afterB e) := pl_bind (pl_take _) fun _ _ => pl_ite (pl_bind (pr_body he) fun _ _ => pl_pure trivial) (pl_bind (pr_layNone _) fun _ _ => pl_pure trivial)
theorem pr_tryOf (he : Pn M e) : Pn M (tryOf e) := pl_bind pl_next fun _ ht => pl_bind (pr_body he) fun _ _ => pl_bind (pr_clausesBehind _ (pr_clause he)) fun o ho => pl_bind pl_here fun _ _ => pl_bind (pr_clausesBehind _ (pr_cclause he)) fun c hc => pl_bind pl_here fun _ _ => pl_ite (pl_bind (pr_afterB he) fun a ha => pl_bind (pl_need _) fun _ _ => pl_lay _ ht) (pl_giveUp (by decide))
theorem pr_patience : Pn M patience := pl_bind pl_here fun _ _ => pl_ite (pl_bind pl_next fun _ _ => pl_pure trivial) (pl_ite (pl_bind pl_next fun _ _ => pl_pure trivial) (pl_giveUp (by decide)))
theorem pr_received (he : Pn M e) : Pn M (received e) := pl_bind pl_here fun _ _ => pl_ite (pr_layNone _) (pr_clauses (pr_clause he))
theorem pr_afterR (he : Pn M e) : Pn M (afterR e) := pl_bind (pl_take _) fun _ _ => pl_ite (pl_bind pr_patience fun _ _ => pl_bind (pl_need _) fun _ _ => pl_bind (pr_body he) fun _ _ => pl_pure trivial) (pl_bind (pr_layNone _) fun _ _ => pl_pure trivial)
theorem pr_receive (he : Pn M e) : Pn M (receive e) := pl_bind pl_next fun _ ht => pl_bind (pr_received he) fun _ _ => pl_bind (pr_afterR he) fun _ _ => pl_bind (pl_need _) fun _ _ => pl_lay _ ht
theorem pr_worded (he : Pn M e) : Pn M (worded e) := pl_bind pl_here fun _ _ => pl_ite (pr_begin he) (pl_ite (pr_choice he) (pl_ite (pr_fn he) (pl_ite (pr_tryOf he) (pl_ite (pr_receive he) (pl_giveUp (by decide))))))
theorem pr_tuple (he : Pn M e) : Pn M (tuple e) := pl_bind pl_next fun _ ht => pl_bind pl_here fun _ _ => pl_ite (pl_bind (pl_need _) fun _ _ => pl_lay _ ht) (pl_bind (pr_exprs he _) fun _ _ => pl_bind (pl_need _) fun _ _ => pl_lay _ ht)
theorem pr_list (he : Pn M e) : Pn M (list e) := pl_bind pl_next fun _ ht => pl_bind pl_here fun _ _ => pl_ite (pl_bind (pl_need _) fun _ _ => pl_lay _ ht) (pl_bind (pr_exprs he _) fun _ _ => pl_bind (pl_take _) fun _ _ => pl_ite (pl_bind he fun _ _ => pl_bind (pl_need _) fun _ _ => pl_lay _ ht) (pl_bind (pl_need _) fun _ _ => pl_lay _ ht))
theorem pr_bracketed (he : Pn M e) : Pn M (bracketed e) := pl_bind pl_here fun _ _ => pl_ite (pl_bind pl_next fun _ _ => pl_bind he fun _ _ => pl_bind (pl_need _) fun _ _ => pl_pure trivial) (pl_ite (pr_tuple he) (pl_ite (pr_list he) (pl_giveUp (by decide))))
theorem pr_primary (he : Pn M e) : Pn M (primary e) := pl_bind pl_here fun _ _ => pl_ite pr_leaf (pl_ite (pr_bracketed he) (pl_ite (pr_worded he) (pl_giveUp (by decide))))
theorem pr_called (he : Pn M e) : Pn M (called e) := pl_bind pl_here fun _ ht => pl_bind pl_ahead fun _ _ => pl_ite (pl_bind pl_next fun _ _ => pl_bind (pr_args he) fun _ _ => pl_lay _ ht) (pr_primary he)
theorem pr_applied (he : Pn M e) {p : Nat} (hp : p ≤ M) : ∀ k x, Pn M (applied e p k x)
  | 0, _ => pl_pure trivial
  | k + 1, _ => pl_bind pl_here fun _ _ => pl_ite (pl_bind (pr_args he) fun _ _ => pl_bind (pl_lay _ hp) fun y _ => pr_applied he hp k y) (pl_pure trivial)
theorem pr_call (he : Pn M e) : Pn M (call e) := pl_bind pl_here fun _ ht => pl_bind (pr_called he) fun x _ => pl_bind pl_left fun _ _ => pr_applied he ht _ x
theorem pr_signs : ∀ k l, (∀ t ∈ l, t.p ≤ M) → Pl M (fun l => ∀ t ∈ l, t.p ≤ M) (signs k l)
  | 0, _, h => pl_pure h
  | k + 1, l, h => pl_bind pl_here fun _ ht => pl_ite (pl_bind pl_next fun _ _ => pr_signs k _ (by intro u hu; rcases List.mem_append.1 hu with hu | hu; exact h u hu; simp at hu; subst hu; exact ht)) (pl_pure h)
theorem pr_layOps : ∀ (l : List Tk) (x : Nat), (∀ t ∈ l, t.p ≤ M) → Pn M (layOps l x)
  | [], _, _ => pl_pure trivial
  | t :: r, x, h => pl_bind (pr_layOps r x fun u hu => h u (List.mem_cons_of_mem _ hu)) fun _ _ => pl_lay _ (h t (List.mem_cons_self ..))
theorem pr_unary (he : Pn M e) : Pn M (unary e) := pl_bind pl_left fun _ _ => pl_bind (pr_signs _ _ (by simp)) fun l hl => pl_bind (pr_call he) fun x _ => pr_layOps l x hl
theorem pr_leftward {m : PM Nat} (hm : Pn M m) (sg : Tk → Bool) {p : Nat} (hp : p ≤ M) : ∀ k x, Pn M (leftward m sg p k x)
  | 0, _ => pl_pure trivial
  | k + 1, _ => pl_bind pl_here fun _ _ => pl_ite (pl_bind pl_next fun _ _ => pl_bind hm fun _ _ => pl_bind (pl_lay _ hp) fun z _ => pr_leftward hm sg hp k z) (pl_pure trivial)
theorem pr_mul (he : Pn M e) : Pn M (mul e) := pl_bind pl_here fun _ ht => pl_bind (pr_unary he) fun x _ => pl_bind pl_left fun _ _ => pr_leftward (pr_unary he) _ ht _ x
theorem pr_add (he : Pn M e) : Pn M (add e) := pl_bind pl_here fun _ ht => pl_bind (pr_mul he) fun x _ => pl_bind pl_left fun _ _ => pr_leftward (pr_mul he) _ ht _ x
theorem pr_rightward {m : PM Nat} (hm : Pn M m) (w : ByteArray) : ∀ k, Pn M (rightward m w k)
  | 0 => hm
  | k + 1 => pl_bind pl_here fun _ ht => pl_bind hm fun _ _ => pl_bind (pl_take _) fun _ _ => pl_ite (pl_bind (pr_rightward hm w k) fun _ _ => pl_lay _ ht) (pl_pure trivial)
theorem pr_right {m : PM Nat} (hm : Pn M m) (w : ByteArray) : Pn M (right m w) := pl_bind pl_left fun _ _ => pr_rightward hm w _
theorem pr_compare (he : Pn M e) : Pn M (compare e) := pl_bind pl_here fun _ ht => pl_bind (pr_right (pr_add he) _) fun _ _ => pl_bind pl_here fun _ _ => pl_ite (pl_bind pl_next fun _ _ => pl_bind (pr_right (pr_add he) _) fun _ _ => pl_lay _ ht) (pl_pure trivial)
theorem pr_opened (he : Pn M e) : Pn M (opened e) := pl_bind pl_here fun _ ht => pl_bind (pl_take _) fun _ _ => pl_ite (pl_bind he fun _ _ => pl_lay _ ht) (pl_bind (pr_right (pr_right (pr_compare he) _) _) fun _ _ => pl_bind (pl_take _) fun _ _ => pl_ite (pl_bind he fun _ _ => pl_lay _ ht) (pl_bind (pl_take _) fun _ _ => pl_ite (pl_bind he fun _ _ => pl_lay _ ht) (pl_pure trivial)))
theorem pr_expr : ∀ k, Pn M (expr k)
  | 0 => pl_giveUp (by decide)
  | k + 1 => by
    intro s hs
    simp only [expr]
    split
    · exact ⟨by simp, hd_p hs⟩
    · have h1 := pr_opened (pr_expr k) { s with o := s.o + 1 } ⟨hs.ts, hs.ns⟩
      cases hm : opened (expr k) { s with o := s.o + 1 } with
      | error er => rw [hm] at h1; exact h1
      | ok p =>
        obtain ⟨x, t⟩ := p
        rw [hm] at h1
        exact ⟨trivial, h1.2.ts, h1.2.ns⟩
theorem pr_function (he : Pn M e) : Pn M (functionOf e) := pl_bind pl_here fun _ ht => pl_bind (pr_clauses (pr_fclause he)) fun _ _ => pl_bind (pl_need _) fun _ _ => fun s hs => pl_lay _ ht s hs
theorem pr_functions (he : Pn M e) : ∀ k l, Pn M (functions e k l)
  | 0, _ => pl_pure trivial
  | k + 1, _ => pl_bind pl_here fun _ _ => pl_ite (pl_pure trivial) (pl_bind (pr_function he) fun _ _ => pr_functions he k _)
theorem pr_module (he : Pn M e) : Pn M (module e) := pl_bind pl_here fun _ ht => pl_bind (pl_need _) fun _ _ => pl_bind pl_here fun _ _ => pl_ite (pl_bind pl_next fun _ _ => pl_bind (pl_need _) fun _ _ => pl_bind (pl_needK _) fun _ _ => pl_bind (pl_need _) fun _ _ => pl_bind (pl_need _) fun _ _ => pl_bind pl_left fun _ _ => pl_bind (pr_functions he _ _) fun l hl => pl_lay _ ht) (pl_giveUp (by decide))
end Gm
/-- Where tokens lie no farther than M, nodes and faults don't, and a fault has a number. -/
theorem tree_places (M : Nat) (ts : List Tk) (h : ∀ t ∈ ts, t.p ≤ M) : Gm.RP M (fun _ => True) (Gm.module (Gm.expr 201) ⟨ts, [], 0⟩) :=
  Gm.pr_module (Gm.pr_expr 201) _ ⟨h, by simp⟩
end Go.Proofs.YtdpfmmbfidknfaaGreatDoor


/- A clause has its patterns, a guard and a body. -/
namespace Go.Proofs.YtdpfmmbfidknfaaGreatDoor

/-- Each clause's row ends with a guard and a body, and its number is that of its patterns. -/
def CP (ns : List Nd) : Prop := ∀ (j : Nat) (n : Nd), ns[j]? = some n → n.k = 21 → ∃ (pre : List Nat) (g b : Nat) (ng nb : Nd), n.l = pre ++ [g, b] ∧ n.n = ((pre.length : Nat) : Int) ∧ ns[g]? = some ng ∧ ng.k = 22 ∧ ns[b]? = some nb ∧ nb.k = 19
theorem CP.snoc {ns : List Nd} (h : CP ns) {n : Nd} (hn : n.k = 21 → ∃ (pre : List Nat) (g b : Nat) (ng nb : Nd), n.l = pre ++ [g, b] ∧ n.n = ((pre.length : Nat) : Int) ∧ ns[g]? = some ng ∧ ng.k = 22 ∧ ns[b]? = some nb ∧ nb.k = 19) : CP (ns ++ [n]) := by
  have up : ∀ i m, ns[i]? = some m → (ns ++ [n])[i]? = some m := fun i m hi => by
    rw [List.getElem?_append_left (List.getElem?_eq_some_iff.1 hi).1]; exact hi
  intro j m hj hk
  by_cases hl : j < ns.length
  · rw [List.getElem?_append_left hl] at hj
    obtain ⟨pre, g, b, ng, nb, h1, h2, h3, h4, h5, h6⟩ := h j m hj hk
    exact ⟨pre, g, b, ng, nb, h1, h2, up _ _ h3, h4, up _ _ h5, h6⟩
  · rw [List.getElem?_append_right (by omega)] at hj
    have hj0 : j - ns.length = 0 := by
      cases hd : j - ns.length with
      | zero => rfl
      | succ d => simp [hd] at hj
    rw [hj0] at hj
    simp at hj
    subst hj
    obtain ⟨pre, g, b, ng, nb, h1, h2, h3, h4, h5, h6⟩ := hn hk
    exact ⟨pre, g, b, ng, nb, h1, h2, up _ _ h3, h4, up _ _ h5, h6⟩

namespace Gm
theorem pinv {α β : Type} {m : PM α} {f : α → PM β} {s s' : PS} {x : β} (h : (m >>= f) s = .ok (x, s')) : ∃ a s1, m s = .ok (a, s1) ∧ f a s1 = .ok (x, s') := by
  rw [bind_at] at h
  cases hm : m s with
  | error er => simp [hm] at h
  | ok p => obtain ⟨a, s1⟩ := p; simp only [hm] at h; exact ⟨a, s1, rfl, h⟩
theorem lay_is {n : Nd} {s s' : PS} {x : Nat} (h : lay n s = .ok (x, s')) : x = s.ns.length ∧ s'.ns = s.ns ++ [n] := by
  simp only [lay] at h
  split at h
  · cases h
  · cases h; exact ⟨rfl, rfl⟩
theorem lay_kind {n : Nd} {s s' : PS} {x : Nat} (h : lay n s = .ok (x, s')) : ∃ m, s'.ns[x]? = some m ∧ m.k = n.k := by
  obtain ⟨h1, h2⟩ := lay_is h
  exact ⟨n, by rw [h1, h2]; simp, rfl⟩
theorem group_kind {e : PM Nat} {k : Int} {s s' : PS} {x : Nat} (h : group e k s = .ok (x, s')) : ∃ m, s'.ns[x]? = some m ∧ m.k = k := by
  obtain ⟨_, _, _, h⟩ := pinv h
  obtain ⟨_, _, _, h⟩ := pinv h
  exact lay_kind h
theorem guard_kind {e : PM Nat} {s s' : PS} {x : Nat} (h : guard e s = .ok (x, s')) : ∃ m, s'.ns[x]? = some m ∧ m.k = 22 := by
  obtain ⟨b, _, _, h⟩ := pinv h
  cases b with
  | true => exact group_kind h
  | false =>
    obtain ⟨_, _, _, h⟩ := pinv (m := here) (f := fun t => lay ⟨22, ⟨#[]⟩, 0, 0, [], t.p⟩) h
    exact lay_kind h

def Cp {α : Type} (m : PM α) : Prop := ∀ s a s', CP s.ns → m s = .ok (a, s') → CP s'.ns
theorem cp_bind {α β : Type} {m : PM α} {f : α → PM β} (h : Cp m) (g : ∀ a, Cp (f a)) : Cp (m >>= f) := by
  intro s b s' hs hb
  obtain ⟨a, t, h1, h2⟩ := pinv hb
  exact g a t b s' (h s a t hs h1) h2
theorem cp_still {α : Type} {m : PM α} (h : ∀ s a s', m s = .ok (a, s') → s'.ns = s.ns) : Cp m := fun s a s' hs hm => by rw [h s a s' hm]; exact hs
theorem cp_pure {α : Type} {a : α} : Cp (pure a) := cp_still fun _ _ _ h => by cases h; rfl
theorem cp_here : Cp here := cp_still fun _ _ _ h => by cases h; rfl
theorem cp_ahead : Cp ahead := cp_still fun _ _ _ h => by cases h; rfl
theorem cp_left : Cp left := cp_still fun _ _ _ h => by cases h; rfl
theorem cp_next : Cp next := cp_still fun _ _ _ h => by cases h; rfl
theorem cp_take (w : ByteArray) : Cp (take w) := cp_still fun s a s' h => by
  simp only [take] at h
  split at h <;> cases h <;> rfl
theorem cp_need (w : ByteArray) : Cp (need w) := cp_still fun s a s' h => by
  simp only [need] at h
  split at h
  · cases h; rfl
  · cases h
theorem cp_needK (k : Int) : Cp (needK k) := cp_still fun s a s' h => by
  simp only [needK] at h
  split at h
  · cases h; rfl
  · cases h
theorem cp_giveUp {α : Type} {e : Int} : Cp (giveUp e : PM α) := fun _ _ _ _ h => by cases h
theorem cp_fault {α : Type} {e : Int} {p : Nat} : Cp (fault e p : PM α) := fun _ _ _ _ h => by cases h
theorem cp_lay (n : Nd) (hn : n.k ≠ 21) : Cp (lay n) := fun s x s' hs h => by
  rw [(lay_is h).2]
  exact hs.snoc fun he => absurd he hn
theorem cp_ite {α : Type} {c : Prop} [Decidable c] {m n : PM α} (h : Cp m) (g : Cp n) : Cp (if c then m else n) := by split <;> assumption
theorem leafKind_ne (k : Int) : leafKind k ≠ 21 := by
  unfold leafKind
  repeat' split
  all_goals decide
theorem cq_layNone (k : Int) (hk : k ≠ 21) : Cp (layNone k) := cp_bind cp_here fun _ => cp_lay _ hk

variable {e : PM Nat}
theorem cq_more (he : Cp e) (most : Nat) : ∀ k l, Cp (more e most k l)
  | 0, _ => cp_pure
  | k + 1, _ => cp_bind (cp_take _) fun _ => cp_ite (cp_ite (cp_giveUp) (cp_bind he fun _ => cq_more he most k _)) (cp_pure)
theorem cq_exprs (he : Cp e) (most : Nat) : Cp (exprs e most) := cp_bind he fun _ => cp_bind cp_left fun _ => cq_more he _ _ _
theorem cq_group (he : Cp e) {k : Int} (hk : k ≠ 21) : Cp (group e k) := cp_bind cp_here fun _ => cp_bind (cq_exprs he _) fun _ => cp_lay _ hk
theorem cq_body (he : Cp e) : Cp (body e) := cq_group he (by decide)
theorem cq_guard (he : Cp e) : Cp (guard e) := cp_bind (cp_take _) fun _ => cp_ite (cq_group he (by decide)) (cq_layNone _ (by decide))
theorem cq_args (he : Cp e) : Cp (args e) :=
  cp_bind (cp_need _) fun _ => cp_bind (cp_take _) fun _ => cp_ite (cp_pure) (cp_bind (cq_exprs he _) fun _ => cp_bind (cp_need _) fun _ => cp_pure)
theorem cq_tail (hr : Rt e) (he : Cp e) (p : Nat) (x : ByteArray) (l : List Nat) : Cp (tail e p x l) := by
  intro s a s' hs h
  obtain ⟨g, s1, h1, h⟩ := pinv h
  obtain ⟨_, s2, h2, h⟩ := pinv h
  obtain ⟨c, s3, h3, h⟩ := pinv h
  have c1 := cq_guard he s g s1 hs h1
  have c2 := cp_need _ s1 _ s2 c1 h2
  have c3 := cq_body he s2 c s3 c2 h3
  obtain ⟨ng, k1, k2⟩ := guard_kind h1
  obtain ⟨nb, k3, k4⟩ := group_kind h3
  have e2 : s2.ns = s1.ns := by
    simp only [need] at h2
    split at h2
    · cases h2; rfl
    · cases h2
  obtain ⟨b, hb, _⟩ := rt_body hr s2 s2 c s3 (Fo.start s2) h3
  have k5 : s3.ns[g]? = some ng := by
    have hlt := (List.getElem?_eq_some_iff.1 k1).1
    rw [hb, e2, List.getElem?_append_left hlt]; exact k1
  obtain ⟨_, hs'⟩ := lay_is h
  rw [hs']
  exact c3.snoc (fun _ => ⟨l, g, c, ng, nb, rfl, rfl, k5, k2, k3, k4⟩)
theorem cq_fclause (hr : Rt e) (he : Cp e) : Cp (fclause e) := cp_bind (cp_needK _) fun _ => cp_bind (cq_args he) fun _ => cq_tail hr he _ _ _
theorem cq_gclause (hr : Rt e) (he : Cp e) : Cp (gclause e) := cp_bind cp_here fun _ => cp_bind (cq_args he) fun _ => cq_tail hr he _ _ _
theorem cq_clause (hr : Rt e) (he : Cp e) : Cp (clause e) := cp_bind cp_here fun _ => cp_bind he fun _ => cq_tail hr he _ _ _
theorem cq_leaf : Cp leaf := cp_bind cp_next fun _ => cp_lay _ (leafKind_ne _)
theorem cq_cls : Cp cls := cp_bind cp_here fun _ => cp_bind cp_ahead fun _ => cp_ite (cp_ite (cp_bind cq_leaf fun _ => cp_bind (cp_need _) fun _ => cp_pure) (cp_giveUp)) (cp_lay _ (by simp))
theorem cq_cclause (hr : Rt e) (he : Cp e) : Cp (cclause e) := cp_bind cp_here fun _ => cp_bind cq_cls fun _ => cp_bind he fun _ => cq_tail hr he _ _ _
theorem cq_moreC {c : PM Nat} (hc : Cp c) : ∀ k l, Cp (moreC c k l)
  | 0, _ => cp_pure
  | k + 1, _ => cp_bind (cp_take _) fun _ => cp_ite (cp_bind hc fun _ => cq_moreC hc k _) (cp_pure)
theorem cq_clauses {c : PM Nat} (hc : Cp c) : Cp (clauses c) := cp_bind cp_here fun _ => cp_bind hc fun _ => cp_bind cp_left fun _ => cp_bind (cq_moreC hc _ _) fun _ => cp_lay _ (by simp)
theorem cq_clausesBehind {c : PM Nat} (w : ByteArray) (hc : Cp c) : Cp (clausesBehind w c) := cp_bind (cp_take _) fun _ => cp_ite (cq_clauses hc) (cq_layNone _ (by decide))
theorem cq_begin (he : Cp e) : Cp (begin e) := cp_bind cp_next fun _ => cp_bind (cq_exprs he _) fun _ => cp_bind (cp_need _) fun _ => cp_lay _ (by simp)
theorem cq_choice (hr : Rt e) (he : Cp e) : Cp (choice e) := cp_bind cp_next fun _ => cp_bind he fun _ => cp_bind (cp_need _) fun _ => cp_bind (cq_clauses (cq_clause hr he)) fun _ => cp_bind (cp_need _) fun _ => cp_lay _ (by simp)
theorem cq_funName (p : Nat) : Cp (funName p) := cp_bind cp_next fun _ => cp_bind (cp_need _) fun _ => cp_bind (cp_needK _) fun _ => cp_ite (cp_fault) (cp_lay _ (by simp))
theorem cq_fn (hr : Rt e) (he : Cp e) : Cp (fn e) := cp_bind cp_next fun _ => cp_bind cp_here fun _ => cp_ite (cq_funName _) (cp_bind (cq_clauses (cq_gclause hr he)) fun _ => cp_bind (cp_need _) fun _ => cp_lay _ (by simp))
theorem cq_afterB (he : Cp e) : Cp (afterB e) := cp_bind (cp_take _) fun _ => cp_ite (cp_bind (cq_body he) fun _ => cp_pure) (cp_bind (cq_layNone _ (by decide)) fun _ => cp_pure)
theorem cq_tryOf (hr : Rt e) (he : Cp e) : Cp (tryOf e) := cp_bind cp_next fun _ => cp_bind (cq_body he) fun _ => cp_bind (cq_clausesBehind _ (cq_clause hr he)) fun _ => cp_bind cp_here fun _ => cp_bind (cq_clausesBehind _ (cq_cclause hr he)) fun _ => cp_bind cp_here fun _ => cp_ite (cp_bind (cq_afterB he) fun _ => cp_bind (cp_need _) fun _ => cp_lay _ (by simp)) (cp_giveUp)
theorem cq_patience : Cp patience := cp_bind cp_here fun _ => cp_ite (cp_bind cp_next fun _ => cp_pure) (cp_ite (cp_bind cp_next fun _ => cp_pure) (cp_giveUp))
theorem cq_received (hr : Rt e) (he : Cp e) : Cp (received e) := cp_bind cp_here fun _ => cp_ite (cq_layNone _ (by decide)) (cq_clauses (cq_clause hr he))
theorem cq_afterR (he : Cp e) : Cp (afterR e) := cp_bind (cp_take _) fun _ => cp_ite (cp_bind cq_patience fun _ => cp_bind (cp_need _) fun _ => cp_bind (cq_body he) fun _ => cp_pure) (cp_bind (cq_layNone _ (by decide)) fun _ => cp_pure)
theorem cq_receive (hr : Rt e) (he : Cp e) : Cp (receive e) := cp_bind cp_next fun _ => cp_bind (cq_received hr he) fun _ => cp_bind (cq_afterR he) fun _ => cp_bind (cp_need _) fun _ => cp_lay _ (by simp)
theorem cq_worded (hr : Rt e) (he : Cp e) : Cp (worded e) := cp_bind cp_here fun _ => cp_ite (cq_begin he) (cp_ite (cq_choice hr he) (cp_ite (cq_fn hr he) (cp_ite (cq_tryOf hr he) (cp_ite (cq_receive hr he) (cp_giveUp)))))
theorem cq_tuple (he : Cp e) : Cp (tuple e) := cp_bind cp_next fun _ => cp_bind cp_here fun _ => cp_ite (cp_bind (cp_need _) fun _ => cp_lay _ (by simp)) (cp_bind (cq_exprs he _) fun _ => cp_bind (cp_need _) fun _ => cp_lay _ (by simp))
theorem cq_list (he : Cp e) : Cp (list e) := cp_bind cp_next fun _ => cp_bind cp_here fun _ => cp_ite (cp_bind (cp_need _) fun _ => cp_lay _ (by simp)) (cp_bind (cq_exprs he _) fun _ => cp_bind (cp_take _) fun _ => cp_ite (cp_bind he fun _ => cp_bind (cp_need _) fun _ => cp_lay _ (by simp)) (cp_bind (cp_need _) fun _ => cp_lay _ (by simp)))
theorem cq_bracketed (_ : Rt e) (he : Cp e) : Cp (bracketed e) := cp_bind cp_here fun _ => cp_ite (cp_bind cp_next fun _ => cp_bind he fun _ => cp_bind (cp_need _) fun _ => cp_pure) (cp_ite (cq_tuple he) (cp_ite (cq_list he) (cp_giveUp)))
theorem cq_primary (hr : Rt e) (he : Cp e) : Cp (primary e) := cp_bind cp_here fun _ => cp_ite cq_leaf (cp_ite (cq_bracketed hr he) (cp_ite (cq_worded hr he) (cp_giveUp)))
theorem cq_called (hr : Rt e) (he : Cp e) : Cp (called e) := cp_bind cp_here fun _ => cp_bind cp_ahead fun _ => cp_ite (cp_bind cp_next fun _ => cp_bind (cq_args he) fun _ => cp_lay _ (by simp)) (cq_primary hr he)
theorem cq_applied (he : Cp e) (p : Nat) : ∀ k x, Cp (applied e p k x)
  | 0, x => cp_pure
  | k + 1, x => cp_bind cp_here fun _ => cp_ite (cp_bind (cq_args he) fun _ => cp_bind (cp_lay _ (by simp)) fun _ => cq_applied he p k _) (cp_pure)
theorem cq_call (hr : Rt e) (he : Cp e) : Cp (call e) := cp_bind cp_here fun _ => cp_bind (cq_called hr he) fun _ => cp_bind cp_left fun _ => cq_applied he _ _ _
theorem cq_signs : ∀ k l, Cp (signs k l)
  | 0, _ => cp_pure
  | k + 1, _ => cp_bind cp_here fun _ => cp_ite (cp_bind cp_next fun _ => cq_signs k _) (cp_pure)
theorem cq_layOps : ∀ l x, Cp (layOps l x)
  | [], x => cp_pure
  | t :: r, x => cp_bind (cq_layOps r x) fun _ => cp_lay _ (by simp)
theorem cq_unary (hr : Rt e) (he : Cp e) : Cp (unary e) := cp_bind cp_left fun _ => cp_bind (cq_signs _ _) fun _ => cp_bind (cq_call hr he) fun _ => cq_layOps _ _
theorem cq_leftward {m : PM Nat} (hm : Cp m) (sg : Tk → Bool) (p : Nat) : ∀ k x, Cp (leftward m sg p k x)
  | 0, x => cp_pure
  | k + 1, x => cp_bind cp_here fun _ => cp_ite (cp_bind cp_next fun _ => cp_bind hm fun _ => cp_bind (cp_lay _ (by simp)) fun _ => cq_leftward hm sg p k _) (cp_pure)
theorem cq_mul (hr : Rt e) (he : Cp e) : Cp (mul e) := cp_bind cp_here fun _ => cp_bind (cq_unary hr he) fun _ => cp_bind cp_left fun _ => cq_leftward (cq_unary hr he) _ _ _ _
theorem cq_add (hr : Rt e) (he : Cp e) : Cp (add e) := cp_bind cp_here fun _ => cp_bind (cq_mul hr he) fun _ => cp_bind cp_left fun _ => cq_leftward (cq_mul hr he) _ _ _ _
theorem cq_rightward {m : PM Nat} (hm : Cp m) (w : ByteArray) : ∀ k, Cp (rightward m w k)
  | 0 => hm
  | k + 1 => cp_bind cp_here fun _ => cp_bind hm fun _ => cp_bind (cp_take _) fun _ => cp_ite (cp_bind (cq_rightward hm w k) fun _ => cp_lay _ (by simp)) (cp_pure)
theorem cq_right {m : PM Nat} (hm : Cp m) (w : ByteArray) : Cp (right m w) := cp_bind cp_left fun _ => cq_rightward hm w _
theorem cq_compare (hr : Rt e) (he : Cp e) : Cp (compare e) := cp_bind cp_here fun _ => cp_bind (cq_right (cq_add hr he) _) fun _ => cp_bind cp_here fun _ => cp_ite (cp_bind cp_next fun _ => cp_bind (cq_right (cq_add hr he) _) fun _ => cp_lay _ (by simp)) (cp_pure)
theorem cq_opened (hr : Rt e) (he : Cp e) : Cp (opened e) := cp_bind cp_here fun _ => cp_bind (cp_take _) fun _ => cp_ite (cp_bind he fun _ => cp_lay _ (by simp)) (cp_bind (cq_right (cq_right (cq_compare hr he) _) _) fun _ => cp_bind (cp_take _) fun _ => cp_ite (cp_bind he fun _ => cp_lay _ (by simp)) (cp_bind (cp_take _) fun _ => cp_ite (cp_bind he fun _ => cp_lay _ (by simp)) (cp_pure)))
theorem cq_expr : ∀ k, Cp (expr k)
  | 0 => cp_giveUp
  | k + 1 => by
    intro s a s' hs hm
    simp only [expr] at hm
    split at hm
    · cases hm
    · cases ho : opened (expr k) { s with o := s.o + 1 } with
      | error er => simp [ho] at hm
      | ok p =>
        obtain ⟨x, t⟩ := p
        simp only [ho] at hm
        cases hm
        exact cq_opened (rt_expr k) (cq_expr k) { s with o := s.o + 1 } _ t hs ho
theorem cq_function (hr : Rt e) (he : Cp e) : Cp (functionOf e) := cp_bind cp_here fun _ => cp_bind (cq_clauses (cq_fclause hr he)) fun _ => cp_bind (cp_need _) fun _ => fun s x s' hf hm => cp_lay _ (by simp) s x s' hf hm
theorem cq_functions (hr : Rt e) (he : Cp e) : ∀ k l, Cp (functions e k l)
  | 0, _ => cp_pure
  | k + 1, _ => cp_bind cp_here fun _ => cp_ite (cp_pure) (cp_bind (cq_function hr he) fun _ => cq_functions hr he k _)
theorem cq_module (hr : Rt e) (he : Cp e) : Cp (module e) := cp_bind cp_here fun _ => cp_bind (cp_need _) fun _ => cp_bind cp_here fun _ => cp_ite (cp_bind cp_next fun _ => cp_bind (cp_need _) fun _ => cp_bind (cp_needK _) fun _ => cp_bind (cp_need _) fun _ => cp_bind (cp_need _) fun _ => cp_bind cp_left fun _ => cp_bind (cq_functions hr he _ _) fun _ => cp_lay _ (by simp)) (cp_giveUp)
end Gm
theorem tree_clauses (ts : List Tk) {r : Nat} {s : PS} (h : Gm.module (Gm.expr 201) ⟨ts, [], 0⟩ = .ok (r, s)) : CP s.ns :=
  Gm.cq_module (Gm.rt_expr 201) (Gm.cq_expr 201) _ r s (fun j n hj => by simp at hj) h
/-- The root is the last node, a module. -/
theorem tree_root (ts : List Tk) {r : Nat} {s : PS} (h : Gm.module (Gm.expr 201) ⟨ts, [], 0⟩ = .ok (r, s)) : r + 1 = s.ns.length ∧ ∃ n, s.ns[r]? = some n ∧ n.k = 24 := by
  obtain ⟨t, s1, h1, h⟩ := Gm.pinv h
  obtain ⟨_, s2, h2, h⟩ := Gm.pinv h
  obtain ⟨u, s3, h3, h⟩ := Gm.pinv h
  split at h
  · obtain ⟨_, s4, _, h⟩ := Gm.pinv h
    obtain ⟨_, s5, _, h⟩ := Gm.pinv h
    obtain ⟨n, s6, _, h⟩ := Gm.pinv h
    obtain ⟨_, s7, _, h⟩ := Gm.pinv h
    obtain ⟨_, s8, _, h⟩ := Gm.pinv h
    obtain ⟨k, s9, _, h⟩ := Gm.pinv h
    obtain ⟨l, s10, _, h⟩ := Gm.pinv h
    obtain ⟨h11, h12⟩ := Gm.lay_is h
    obtain ⟨m, h13, h14⟩ := Gm.lay_kind h
    exact ⟨by rw [h11, h12]; simp, m, h13, h14⟩
  · cases h
end Go.Proofs.YtdpfmmbfidknfaaGreatDoor


