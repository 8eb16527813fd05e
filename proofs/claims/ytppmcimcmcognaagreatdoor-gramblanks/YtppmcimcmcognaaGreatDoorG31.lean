import Derived.Test.YtppmcimcmcognaaGreatDoorPiC
import Derived.Test.YtppmcimcmcognaaGreatDoorG28
import Derived.Test.YtppmcimcmcognaaGreatDoorPiD
/- A clause has its patterns, a guard and a body. -/
namespace Go.Proofs.YtppmcimcmcognaaGreatDoor

/-- Each clause's row ends with a guard and a body, and its number is that of its patterns. -/
def CP (ns : List Nd) : Prop := ∀ (j : Nat) (n : Nd), ns[j]? = some n → n.k = 21 → ∃ (pre : List Nat) (g b : Nat) (ng nb : Nd), n.l = pre ++ [g, b] ∧ n.n = ((pre.length : Nat) : Int) ∧ ns[g]? = some ng ∧ ng.k = 22 ∧ ns[b]? = some nb ∧ nb.k = 19
theorem CP.snoc {ns : List Nd} (h : CP ns) {n : Nd} (hn : n.k = 21 → ∃ (pre : List Nat) (g b : Nat) (ng nb : Nd), n.l = pre ++ [g, b] ∧ n.n = ((pre.length : Nat) : Int) ∧ ns[g]? = some ng ∧ ng.k = 22 ∧ ns[b]? = some nb ∧ nb.k = 19) : CP (ns ++ [n]) := by
  have up : ∀ i m, ns[i]? = some m → (ns ++ [n])[i]? = some m := fun i m hi => by
    rw [List.getElem?_append_left (List.getElem?_eq_some_iff.1 hi).1]; exact hi
  intro j m hj hk
  by_cases hl : j < ns.length
  · rw [List.getElem?_append_left hl] at hj
    obtain ⟨pre, g, b, ng, nb, h1, h2, h3, h4, h5, h6⟩ := h j m hj hk
    exact ⟨pre, g, b, ng, nb, h1, h2, up _ _ h3, h4, up _ _ h5, h6⟩
  · rw [List.getElem?_append_right (by omega)] at hj
    have hj0 : j - ns.length = 0 := by
      cases hd : j - ns.length with
      | zero => rfl
      | succ d => simp [hd] at hj
    rw [hj0] at hj
    simp at hj
    subst hj
    obtain ⟨pre, g, b, ng, nb, h1, h2, h3, h4, h5, h6⟩ := hn hk
    exact ⟨pre, g, b, ng, nb, h1, h2, up _ _ h3, h4, up _ _ h5, h6⟩

namespace Gm
theorem pinv {α β : Type} {m : PM α} {f : α → PM β} {s s' : PS} {x : β} (h : (m >>= f) s = .ok (x, s')) : ∃ a s1, m s = .ok (a, s1) ∧ f a s1 = .ok (x, s') := by
  rw [bind_at] at h
  cases hm : m s with
  | error er => simp [hm] at h
  | ok p => obtain ⟨a, s1⟩ := p; simp only [hm] at h; exact ⟨a, s1, rfl, h⟩
theorem lay_is {n : Nd} {s s' : PS} {x : Nat} (h : lay n s = .ok (x, s')) : x = s.ns.length ∧ s'.ns = s.ns ++ [n] := by
  simp only [lay] at h
  split at h
  · cases h
  · cases h; exact ⟨rfl, rfl⟩
theorem lay_kind {n : Nd} {s s' : PS} {x : Nat} (h : lay n s = .ok (x, s')) : ∃ m, s'.ns[x]? = some m ∧ m.k = n.k := by
  obtain ⟨h1, h2⟩ := lay_is h
  exact ⟨n, by rw [h1, h2]; simp, rfl⟩
theorem group_kind {e : PM Nat} {k : Int} {s s' : PS} {x : Nat} (h : group e k s = .ok (x, s')) : ∃ m, s'.ns[x]? = some m ∧ m.k = k := by
  obtain ⟨_, _, _, h⟩ := pinv h
  obtain ⟨_, _, _, h⟩ := pinv h
  exact lay_kind h
theorem guard_kind {e : PM Nat} {s s' : PS} {x : Nat} (h : guard e s = .ok (x, s')) : ∃ m, s'.ns[x]? = some m ∧ m.k = 22 := by
  obtain ⟨b, _, _, h⟩ := pinv h
  cases b with
  | true => exact group_kind h
  | false =>
    obtain ⟨_, _, _, h⟩ := pinv (m := here) (f := fun t => lay ⟨22, ⟨#[]⟩, 0, 0, [], t.p⟩) h
    exact lay_kind h

def Cp {α : Type} (m : PM α) : Prop := ∀ s a s', CP s.ns → m s = .ok (a, s') → CP s'.ns
theorem cp_bind {α β : Type} {m : PM α} {f : α → PM β} (h : Cp m) (g : ∀ a, Cp (f a)) : Cp (m >>= f) := by
  intro s b s' hs hb
  obtain ⟨a, t, h1, h2⟩ := pinv hb
  exact g a t b s' (h s a t hs h1) h2
theorem cp_still {α : Type} {m : PM α} (h : ∀ s a s', m s = .ok (a, s') → s'.ns = s.ns) : Cp m := fun s a s' hs hm => by rw [h s a s' hm]; exact hs
theorem cp_pure {α : Type} {a : α} : Cp (pure a) := cp_still fun _ _ _ h => by cases h; rfl
theorem cp_here : Cp here := cp_still fun _ _ _ h => by cases h; rfl
theorem cp_ahead : Cp ahead := cp_still fun _ _ _ h => by cases h; rfl
theorem cp_left : Cp left := cp_still fun _ _ _ h => by cases h; rfl
theorem cp_next : Cp next := cp_still fun _ _ _ h => by cases h; rfl
theorem cp_take (w : ByteArray) : Cp (take w) := cp_still fun s a s' h => by
  simp only [take] at h
  split at h <;> cases h <;> rfl
theorem cp_need (w : ByteArray) : Cp (need w) := cp_still fun s a s' h => by
  simp only [need] at h
  split at h
  · cases h; rfl
  · cases h
theorem cp_needK (k : Int) : Cp (needK k) := cp_still fun s a s' h => by
  simp only [needK] at h
  split at h
  · cases h; rfl
  · cases h
theorem cp_giveUp {α : Type} {e : Int} : Cp (giveUp e : PM α) := fun _ _ _ _ h => by cases h
theorem cp_fault {α : Type} {e : Int} {p : Nat} : Cp (fault e p : PM α) := fun _ _ _ _ h => by cases h
theorem cp_lay (n : Nd) (hn : n.k ≠ 21) : Cp (lay n) := fun s x s' hs h => by
  rw [(lay_is h).2]
  exact hs.snoc fun he => absurd he hn
theorem cp_ite {α : Type} {c : Prop} [Decidable c] {m n : PM α} (h : Cp m) (g : Cp n) : Cp (if c then m else n) := by split <;> assumption
theorem leafKind_ne (k : Int) : leafKind k ≠ 21 := by
  unfold leafKind
  repeat' split
  all_goals decide
theorem cq_layNone (k : Int) (hk : k ≠ 21) : Cp (layNone k) := cp_bind cp_here fun _ => cp_lay _ hk

variable {e : PM Nat}
theorem cq_more (he : Cp e) (most : Nat) : ∀ k l, Cp (more e most k l)
  | 0, _ => cp_pure
  | k + 1, _ => cp_bind (cp_take _) fun _ => cp_ite (cp_ite (cp_giveUp) (cp_bind he fun _ => cq_more he most k _)) (cp_pure)
theorem cq_exprs (he : Cp e) (most : Nat) : Cp (exprs e most) := cp_bind he fun _ => cp_bind cp_left fun _ => cq_more he _ _ _
theorem cq_group (he : Cp e) {k : Int} (hk : k ≠ 21) : Cp (group e k) := cp_bind cp_here fun _ => cp_bind (cq_exprs he _) fun _ => cp_lay _ hk
theorem cq_body (he : Cp e) : Cp (body e) := cq_group he (by decide)
theorem cq_guard (he : Cp e) : Cp (guard e) := cp_bind (cp_take _) fun _ => cp_ite (cq_group he (by decide)) (cq_layNone _ (by decide))
theorem cq_args (he : Cp e) : Cp (args e) :=
  cp_bind (cp_need _) fun _ => cp_bind (cp_take _) fun _ => cp_ite (cp_pure) (cp_bind (cq_exprs he _) fun _ => cp_bind (cp_need _) fun _ => cp_pure)
theorem cq_tail (hr : Rt e) (he : Cp e) (p : Nat) (x : ByteArray) (l : List Nat) : Cp (tail e p x l) := by
  intro s a s' hs h
  obtain ⟨g, s1, h1, h⟩ := pinv h
  obtain ⟨_, s2, h2, h⟩ := pinv h
  obtain ⟨c, s3, h3, h⟩ := pinv h
  have c1 := cq_guard he s g s1 hs h1
  have c2 := cp_need _ s1 _ s2 c1 h2
  have c3 := cq_body he s2 c s3 c2 h3
  obtain ⟨ng, k1, k2⟩ := guard_kind h1
  obtain ⟨nb, k3, k4⟩ := group_kind h3
  have e2 : s2.ns = s1.ns := by
    simp only [need] at h2
    split at h2
    · cases h2; rfl
    · cases h2
  obtain ⟨b, hb, _⟩ := rt_body hr s2 s2 c s3 (Fo.start s2) h3
  have k5 : s3.ns[g]? = some ng := by
    have hlt := (List.getElem?_eq_some_iff.1 k1).1
    rw [hb, e2, List.getElem?_append_left hlt]; exact k1
  obtain ⟨_, hs'⟩ := lay_is h
  rw [hs']
  exact c3.snoc (fun _ => ⟨l, g, c, ng, nb, rfl, rfl, k5, k2, k3, k4⟩)
theorem cq_fclause (hr : Rt e) (he : Cp e) : Cp (fclause e) := cp_bind (cp_needK _) fun _ => cp_bind (cq_args he) fun _ => cq_tail hr he _ _ _
theorem cq_gclause (hr : Rt e) (he : Cp e) : Cp (gclause e) := cp_bind cp_here fun _ => cp_bind (cq_args he) fun _ => cq_tail hr he _ _ _
theorem cq_clause (hr : Rt e) (he : Cp e) : Cp (clause e) := cp_bind cp_here fun _ => cp_bind he fun _ => cq_tail hr he _ _ _
theorem cq_leaf : Cp leaf := cp_bind cp_next fun _ => cp_lay _ (leafKind_ne _)
theorem cq_cls : Cp cls := cp_bind cp_here fun _ => cp_bind cp_ahead fun _ => cp_ite (cp_ite (cp_bind cq_leaf fun _ => cp_bind (cp_need _) fun _ => cp_pure) (cp_giveUp)) (cp_lay _ (by simp))
theorem cq_cclause (hr : Rt e) (he : Cp e) : Cp (cclause e) := cp_bind cp_here fun _ => cp_bind cq_cls fun _ => cp_bind he fun _ => cq_tail hr he _ _ _
theorem cq_moreC {c : PM Nat} (hc : Cp c) : ∀ k l, Cp (moreC c k l)
  | 0, _ => cp_pure
  | k + 1, _ => cp_bind (cp_take _) fun _ => cp_ite (cp_bind hc fun _ => cq_moreC hc k _) (cp_pure)
theorem cq_clauses {c : PM Nat} (hc : Cp c) : Cp (clauses c) := cp_bind cp_here fun _ => cp_bind hc fun _ => cp_bind cp_left fun _ => cp_bind (cq_moreC hc _ _) fun _ => cp_lay _ (by simp)
theorem cq_clausesBehind {c : PM Nat} (w : ByteArray) (hc : Cp c) : Cp (clausesBehind w c) := cp_bind (cp_take _) fun _ => cp_ite (cq_clauses hc) (cq_layNone _ (by decide))
theorem cq_begin (he : Cp e) : Cp (begin e) := cp_bind cp_next fun _ => cp_bind (cq_exprs he _) fun _ => cp_bind (cp_need _) fun _ => cp_lay _ (by simp)
theorem cq_choice (hr : Rt e) (he : Cp e) : Cp (choice e) := cp_bind cp_next fun _ => cp_bind he fun _ => cp_bind (cp_need _) fun _ => cp_bind (cq_clauses (cq_clause hr he)) fun _ => cp_bind (cp_need _) fun _ => cp_lay _ (by simp)
theorem cq_funName (p : Nat) : Cp (funName p) := cp_bind cp_next fun _ => cp_bind (cp_need _) fun _ => cp_bind (cp_needK _) fun _ => cp_ite (cp_fault) (cp_lay _ (by simp))
theorem cq_fn (hr : Rt e) (he : Cp e) : Cp (fn e) := cp_bind cp_next fun _ => cp_bind cp_here fun _ => cp_ite (cq_funName _) (cp_bind (cq_clauses (cq_gclause hr he)) fun _ => cp_bind (cp_need _) fun _ => cp_lay _ (by simp))
theorem cq_afterB (he : Cp e) : Cp (afterB e) := cp_bind (cp_take _) fun _ => cp_ite (cp_bind (cq_body he) fun _ => cp_pure) (cp_bind (cq_layNone _ (by decide)) fun _ => cp_pure)
theorem cq_tryOf (hr : Rt e) (he : Cp e) : Cp (tryOf e) := cp_bind cp_next fun _ => cp_bind (cq_body he) fun _ => cp_bind (cq_clausesBehind _ (cq_clause hr he)) fun _ => cp_bind cp_here fun _ => cp_bind (cq_clausesBehind _ (cq_cclause hr he)) fun _ => cp_bind cp_here fun _ => cp_ite (cp_bind (cq_afterB he) fun _ => cp_bind (cp_need _) fun _ => cp_lay _ (by simp)) (cp_giveUp)
theorem cq_patience : Cp patience := cp_bind cp_here fun _ => cp_ite (cp_bind cp_next fun _ => cp_pure) (cp_ite (cp_bind cp_next fun _ => cp_pure) (cp_giveUp))
theorem cq_received (hr : Rt e) (he : Cp e) : Cp (received e) := cp_bind cp_here fun _ => cp_ite (cq_layNone _ (by decide)) (cq_clauses (cq_clause hr he))
theorem cq_afterR (he : Cp e) : Cp (afterR e) := cp_bind (cp_take _) fun _ => cp_ite (cp_bind cq_patience fun _ => cp_bind (cp_need _) fun _ => cp_bind (cq_body he) fun _ => cp_pure) (cp_bind (cq_layNone _ (by decide)) fun _ => cp_pure)
theorem cq_receive (hr : Rt e) (he : Cp e) : Cp (receive e) := cp_bind cp_next fun _ => cp_bind (cq_received hr he) fun _ => cp_bind (cq_afterR he) fun _ => cp_bind (cp_need _) fun _ => cp_lay _ (by simp)
theorem cq_worded (hr : Rt e) (he : Cp e) : Cp (worded e) := cp_bind cp_here fun _ => cp_ite (cq_begin he) (cp_ite (cq_choice hr he) (cp_ite (cq_fn hr he) (cp_ite (cq_tryOf hr he) (cp_ite (cq_receive hr he) (cp_giveUp)))))
theorem cq_tuple (he : Cp e) : Cp (tuple e) := cp_bind cp_next fun _ => cp_bind cp_here fun _ => cp_ite (cp_bind (cp_need _) fun _ => cp_lay _ (by simp)) (cp_bind (cq_exprs he _) fun _ => cp_bind (cp_need _) fun _ => cp_lay _ (by simp))
theorem cq_list (he : Cp e) : Cp (list e) := cp_bind cp_next fun _ => cp_bind cp_here fun _ => cp_ite (cp_bind (cp_need _) fun _ => cp_lay _ (by simp)) (cp_bind (cq_exprs he _) fun _ => cp_bind (cp_take _) fun _ => cp_ite (cp_bind he fun _ => cp_bind (cp_need _) fun _ => cp_lay _ (by simp)) (cp_bind (cp_need _) fun _ => cp_lay _ (by simp)))
theorem cq_bracketed (_ : Rt e) (he : Cp e) : Cp (bracketed e) := cp_bind cp_here fun _ => cp_ite (cp_bind cp_next fun _ => cp_bind he fun _ => cp_bind (cp_need _) fun _ => cp_pure) (cp_ite (cq_tuple he) (cp_ite (cq_list he) (cp_giveUp)))
theorem cq_primary (hr : Rt e) (he : Cp e) : Cp (primary e) := cp_bind cp_here fun _ => cp_ite cq_leaf (cp_ite (cq_bracketed hr he) (cp_ite (cq_worded hr he) (cp_giveUp)))
theorem cq_called (hr : Rt e) (he : Cp e) : Cp (called e) := cp_bind cp_here fun _ => cp_bind cp_ahead fun _ => cp_ite (cp_bind cp_next fun _ => cp_bind (cq_args he) fun _ => cp_lay _ (by simp)) (cq_primary hr he)
theorem cq_applied (he : Cp e) (p : Nat) : ∀ k x, Cp (applied e p k x)
  | 0, x => cp_pure
  | k + 1, x => cp_bind cp_here fun _ => cp_ite (cp_bind (cq_args he) fun _ => cp_bind (cp_lay _ (by simp)) fun _ => cq_applied he p k _) (cp_pure)
theorem cq_call (hr : Rt e) (he : Cp e) : Cp (call e) := cp_bind cp_here fun _ => cp_bind (cq_called hr he) fun _ => cp_bind cp_left fun _ => cq_applied he _ _ _
theorem cq_signs : ∀ k l, Cp (signs k l)
  | 0, _ => cp_pure
  | k + 1, _ => cp_bind cp_here fun _ => cp_ite (cp_bind cp_next fun _ => cq_signs k _) (cp_pure)
theorem cq_layOps : ∀ l x, Cp (layOps l x)
  | [], x => cp_pure
  | t :: r, x => cp_bind (cq_layOps r x) fun _ => cp_lay _ (by simp)
theorem cq_unary (hr : Rt e) (he : Cp e) : Cp (unary e) := cp_bind cp_left fun _ => cp_bind (cq_signs _ _) fun _ => cp_bind (cq_call hr he) fun _ => cq_layOps _ _
theorem cq_leftward {m : PM Nat} (hm : Cp m) (sg : Tk → Bool) (p : Nat) : ∀ k x, Cp (leftward m sg p k x)
  | 0, x => cp_pure
  | k + 1, x => cp_bind cp_here fun _ => cp_ite (cp_bind cp_next fun _ => cp_bind hm fun _ => cp_bind (cp_lay _ (by simp)) fun _ => cq_leftward hm sg p k _) (cp_pure)
theorem cq_mul (hr : Rt e) (he : Cp e) : Cp (mul e) := cp_bind cp_here fun _ => cp_bind (cq_unary hr he) fun _ => cp_bind cp_left fun _ => cq_leftward (cq_unary hr he) _ _ _ _
theorem cq_add (hr : Rt e) (he : Cp e) : Cp (add e) := cp_bind cp_here fun _ => cp_bind (cq_mul hr he) fun _ => cp_bind cp_left fun _ => cq_leftward (cq_mul hr he) _ _ _ _
theorem cq_rightward {m : PM Nat} (hm : Cp m) (w : ByteArray) : ∀ k, Cp (rightward m w k)
  | 0 => hm
  | k + 1 => cp_bind cp_here fun _ => cp_bind hm fun _ => cp_bind (cp_take _) fun _ => cp_ite (cp_bind (cq_rightward hm w k) fun _ => cp_lay _ (by simp)) (cp_pure)
theorem cq_right {m : PM Nat} (hm : Cp m) (w : ByteArray) : Cp (right m w) := cp_bind cp_left fun _ => cq_rightward hm w _
theorem cq_compare (hr : Rt e) (he : Cp e) : Cp (compare e) := cp_bind cp_here fun _ => cp_bind (cq_right (cq_add hr he) _) fun _ => cp_bind cp_here fun _ => cp_ite (cp_bind cp_next fun _ => cp_bind (cq_right (cq_add hr he) _) fun _ => cp_lay _ (by simp)) (cp_pure)
theorem cq_opened (hr : Rt e) (he : Cp e) : Cp (opened e) := cp_bind cp_here fun _ => cp_bind (cp_take _) fun _ => cp_ite (cp_bind he fun _ => cp_lay _ (by simp)) (cp_bind (cq_right (cq_right (cq_compare hr he) _) _) fun _ => cp_bind (cp_take _) fun _ => cp_ite (cp_bind he fun _ => cp_lay _ (by simp)) (cp_bind (cp_take _) fun _ => cp_ite (cp_bind he fun _ => cp_lay _ (by simp)) (cp_pure)))
theorem cq_expr : ∀ k, Cp (expr k)
  | 0 => cp_giveUp
  | k + 1 => by
    intro s a s' hs hm
    simp only [expr] at hm
    split at hm
    · cases hm
    · cases ho : opened (expr k) { s with o := s.o + 1 } with
      | error er => simp [ho] at hm
      | ok p =>
        obtain ⟨x, t⟩ := p
        simp only [ho] at hm
        cases hm
        exact cq_opened (rt_expr k) (cq_expr k) { s with o := s.o + 1 } _ t hs ho
theorem cq_function (hr : Rt e) (he : Cp e) : Cp (functionOf e) := cp_bind cp_here fun _ => cp_bind (cq_clauses (cq_fclause hr he)) fun _ => cp_bind (cp_need _) fun _ => fun s x s' hf hm => cp_lay _ (by simp) s x s' hf hm
theorem cq_functions (hr : Rt e) (he : Cp e) : ∀ k l, Cp (functions e k l)
  | 0, _ => cp_pure
  | k + 1, _ => cp_bind cp_here fun _ => cp_ite (cp_pure) (cp_bind (cq_function hr he) fun _ => cq_functions hr he k _)
theorem cq_module (hr : Rt e) (he : Cp e) : Cp (module e) := cp_bind cp_here fun _ => cp_bind (cp_need _) fun _ => cp_bind cp_here fun _ => cp_ite (cp_bind cp_next fun _ => cp_bind (cp_need _) fun _ => cp_bind (cp_needK _) fun _ => cp_bind (cp_need _) fun _ => cp_bind (cp_need _) fun _ => cp_bind cp_left fun _ => cp_bind (cq_functions hr he _ _) fun _ => cp_lay _ (by simp)) (cp_giveUp)
end Gm
theorem tree_clauses (ts : List Tk) {r : Nat} {s : PS} (h : Gm.module (Gm.expr 201) ⟨ts, [], 0⟩ = .ok (r, s)) : CP s.ns :=
  Gm.cq_module (Gm.rt_expr 201) (Gm.cq_expr 201) _ r s (fun j n hj => by simp at hj) h
/-- The root is the last node, a module. -/
theorem tree_root (ts : List Tk) {r : Nat} {s : PS} (h : Gm.module (Gm.expr 201) ⟨ts, [], 0⟩ = .ok (r, s)) : r + 1 = s.ns.length ∧ ∃ n, s.ns[r]? = some n ∧ n.k = 24 := by
  obtain ⟨t, s1, h1, h⟩ := Gm.pinv h
  obtain ⟨_, s2, h2, h⟩ := Gm.pinv h
  obtain ⟨u, s3, h3, h⟩ := Gm.pinv h
  split at h
  · obtain ⟨_, s4, _, h⟩ := Gm.pinv h
    obtain ⟨_, s5, _, h⟩ := Gm.pinv h
    obtain ⟨n, s6, _, h⟩ := Gm.pinv h
    obtain ⟨_, s7, _, h⟩ := Gm.pinv h
    obtain ⟨_, s8, _, h⟩ := Gm.pinv h
    obtain ⟨k, s9, _, h⟩ := Gm.pinv h
    obtain ⟨l, s10, _, h⟩ := Gm.pinv h
    obtain ⟨h11, h12⟩ := Gm.lay_is h
    obtain ⟨m, h13, h14⟩ := Gm.lay_kind h
    exact ⟨by rw [h11, h12]; simp, m, h13, h14⟩
  · cases h
end Go.Proofs.YtppmcimcmcognaaGreatDoor


/- What GramTree asks of a tree, all of it pure. -/
namespace Go.Proofs.YtppmcimcmcognaaGreatDoor
open Go.RowKit Go.Lib

theorem tkAt_p (s : ByteArray) (q p : Nat) : (tkOf (tokV s q) p).p = p := by
  obtain ⟨k, x, n, f, e, hv⟩ := tokV_tk s q
  rw [hv]
  rfl
theorem toks_places (s : ByteArray) : ∀ (k p : Nat) (done : List Tk), p ≤ s.size → (∀ t ∈ done, t.p ≤ s.size) →
    (∀ l, toks s k p done = .inl l → ∀ t ∈ l, t.p ≤ s.size) ∧ (∀ er q, toks s k p done = .inr (er, q) → q ≤ s.size)
  | 0, p, done, hp, hd => ⟨fun l h => (by cases h), fun er q h => (by cases h; exact Nat.zero_le _)⟩
  | k + 1, p, done, hp, hd => by
    have h2 := goes_le pBlank s p hp
    unfold toks
    split
    · rename_i hlt
      split
      · exact toks_places s k _ done (goes_le pLine s _ h2) hd
      · split
        · rename_i he
          obtain ⟨h3, h4⟩ := tokE_in s _ hlt (okV_er s _ he)
          refine toks_places s k _ _ h4 ?_
          intro t ht
          rcases List.mem_append.1 ht with ht | ht
          · exact hd t ht
          · simp at ht; subst ht; rw [tkAt_p]; exact h2
        · exact ⟨fun l h => (by cases h), fun er q h => (by cases h; exact h2)⟩
    · refine ⟨fun l h t ht => ?_, fun er q h => (by cases h)⟩
      cases h
      rcases List.mem_append.1 ht with ht | ht
      · exact hd t ht
      · simp at ht; subst ht; exact h2

/-- What a tree has. -/
structure TreeF (ns : List Nd) (r M : Nat) : Prop where
  root : r + 1 = ns.length
  kind : ∃ n, ns[r]? = some n ∧ n.k = 24
  at' : ∀ (i : Nat) (n : Nd), ns[i]? = some n → n.p ≤ M
  inc : ∀ (j : Nat) (n : Nd), ns[j]? = some n → ∀ (a : Nat) (x y : Nat), n.l[a]? = some x → n.l[a + 1]? = some y → x < y
  low : ∀ (j : Nat) (n : Nd), ns[j]? = some n → ∀ (a : Nat) (x : Nat), n.l[a]? = some x → x < j
  one : ∀ i, i < ns.length → (ns.flatMap (·.l)).count i = if i = r then 0 else 1
  cl : CP ns

theorem pair_next {l : List Nat} (h : l.Pairwise (· < ·)) {a x y : Nat} (hx : l[a]? = some x) (hy : l[a + 1]? = some y) : x < y := by
  obtain ⟨hx1, rfl⟩ := List.getElem?_eq_some_iff.1 hx
  obtain ⟨hy1, rfl⟩ := List.getElem?_eq_some_iff.1 hy
  exact List.pairwise_iff_getElem.1 h a (a + 1) hx1 hy1 (by omega)

theorem tree_facts (s : ByteArray) {r : Nat} {st : PS} (h : parseP s = .ok (r, st)) : TreeF st.ns r s.size := by
  unfold parseP at h
  cases hA : allT s with
  | inr e => rw [hA] at h; cases h
  | inl l =>
    rw [hA] at h
    have h : Gm.module (Gm.expr 201) ⟨l, [], 0⟩ = .ok (r, st) := h
    have hpl : ∀ t ∈ l, t.p ≤ s.size := by
      unfold allT at hA
      split at hA
      · cases hA
      · exact (toks_places s _ 0 [] (Nat.zero_le _) (by simp)).1 l hA
    have h1 := tree_places s.size l hpl
    rw [h] at h1
    obtain ⟨hr, hk⟩ := tree_root l h
    have hf := tree_forest l h
    refine ⟨hr, hk, fun i n hi => h1.2.ns n (List.mem_of_getElem? hi), fun j n hj a x y hx hy => pair_next (hf.kid j n hj).1 hx hy, fun j n hj a x hx => ?_, fun i hi => ?_, tree_clauses l h⟩
    · have := (hf.kid j n hj).2 x (List.mem_of_getElem? hx)
      omega
    · have := hf.one i (Nat.zero_le _) (by omega)
      rw [this]
      simp

/-- A row of places is no longer than there are nodes. -/
theorem TreeF.short {ns : List Nd} {r M : Nat} (h : TreeF ns r M) {j : Nat} {n : Nd} (hj : ns[j]? = some n) : n.l.length ≤ ns.length := by
  have hup : ∀ (a x : Nat), n.l[a]? = some x → a ≤ x := by
    intro a
    induction a with
    | zero => intro x _; exact Nat.zero_le _
    | succ a ih =>
      intro x hx
      have ha : a < n.l.length := by have := (List.getElem?_eq_some_iff.1 hx).1; omega
      have h1 := ih _ (List.getElem?_eq_getElem ha)
      have h2 := h.inc j n hj a _ x (List.getElem?_eq_getElem ha) hx
      omega
  rcases Nat.eq_zero_or_pos n.l.length with h0 | h0
  · omega
  · have ha : n.l.length - 1 < n.l.length := by omega
    have h1 := hup _ _ (List.getElem?_eq_getElem ha)
    have h2 := h.low j n hj _ _ (List.getElem?_eq_getElem ha)
    have h3 := (List.getElem?_eq_some_iff.1 hj).1
    omega

theorem parse_err (s : ByteArray) {er : Int} {p : Nat} (h : parseP s = .error (er, p)) : er ≠ 0 ∧ p ≤ s.size := by
  unfold parseP at h
  cases hA : allT s with
  | inr e =>
    rw [hA] at h
    cases h
    refine ⟨allT_err s hA, ?_⟩
    unfold allT at hA
    split at hA
    · cases hA; exact Nat.zero_le _
    · exact (toks_places s _ 0 [] (Nat.zero_le _) (by simp)).2 _ _ hA
  | inl l =>
    rw [hA] at h
    have h : Gm.module (Gm.expr 201) ⟨l, [], 0⟩ = .error (er, p) := h
    have hpl : ∀ t ∈ l, t.p ≤ s.size := by
      unfold allT at hA
      split at hA
      · cases hA
      · exact (toks_places s _ 0 [] (Nat.zero_le _) (by simp)).1 l hA
    have h1 := tree_places s.size l hpl
    rw [h] at h1
    exact h1

/-- How often a place was counted: of the first i nodes, and of the next one the first k places. -/
def cnt (ns : List Nd) (i : Nat) (l : List Nat) (k j : Nat) : Nat := ((ns.take i).flatMap (·.l)).count j + (l.take k).count j
theorem cnt_zero (ns : List Nd) (l : List Nat) (j : Nat) : cnt ns 0 l 0 j = 0 := by simp [cnt]
theorem cnt_step (ns : List Nd) (i : Nat) (l : List Nat) (k j x : Nat) (hx : l[k]? = some x) : cnt ns i l (k + 1) j = cnt ns i l k j + if x = j then 1 else 0 := by
  unfold cnt
  rw [List.take_add_one, hx, List.count_append]
  simp only [Option.toList_some, List.count_singleton]
  by_cases h : x = j <;> simp [h, Nat.add_assoc]
theorem cnt_next (ns : List Nd) (i : Nat) (n : Nd) (hn : ns[i]? = some n) (l' : List Nat) (j : Nat) : cnt ns (i + 1) l' 0 j = cnt ns i n.l n.l.length j := by
  unfold cnt
  rw [List.take_add_one, hn, List.flatMap_append, List.count_append]
  simp
theorem cnt_all (ns : List Nd) (l : List Nat) (j : Nat) : cnt ns ns.length l 0 j = (ns.flatMap (·.l)).count j := by simp [cnt]
theorem cnt_one (ns : List Nd) (i : Nat) (n : Nd) (hn : ns[i]? = some n) (k j : Nat) : cnt ns i n.l k j ≤ (ns.flatMap (·.l)).count j := by
  have h1 : cnt ns i n.l k j ≤ cnt ns i n.l n.l.length j := by
    unfold cnt
    have h2 := List.Sublist.count_le j (List.take_sublist k n.l)
    rw [List.take_length]
    omega
  rw [← cnt_next ns i n hn [] j] at h1
  refine Nat.le_trans h1 ?_
  unfold cnt
  rw [List.take_nil, List.count_nil, Nat.add_zero]
  conv => rhs; rw [← List.take_append_drop (i + 1) ns, List.flatMap_append, List.count_append]
  omega
end Go.Proofs.YtppmcimcmcognaaGreatDoor


/- The grammar, reckoned at given sources. -/
namespace Go.Proofs.YtppmcimcmcognaaGreatDoor
open Go.RowKit Go.Lib

/-- The first example's source. -/
def src1 : ByteArray := ⟨#[45, 109, 111, 100, 117, 108, 101, 40, 109, 41, 46, 32, 102, 40, 88, 41, 32, 119, 104, 101, 110, 32, 88, 32, 62, 32, 48, 32, 45, 62, 32, 88, 32, 45, 32, 49, 46]⟩
def src2 : ByteArray := ⟨#[45, 109, 111, 100, 117, 108, 101, 40, 109, 41, 46, 32, 102, 40, 41, 32, 45, 62, 32, 49, 32, 43, 46]⟩
def is1 (r : Except (Int × Nat) (Nat × PS)) : Bool := match r with
  | .ok (r, s) => decide (r = 12) && decide (s.ns.length = 13) && (match s.ns[3]? with | some n => decide (n.k = 9) && decide (n.x = ⟨#[62]⟩) | none => false) && (match s.ns[12]? with | some n => decide (n.k = 24) && decide (n.x = ⟨#[109]⟩) | none => false)
  | _ => false
theorem src1_is : is1 (parseP src1) = true := by kernel_rfl
theorem src2_is : parseP src2 = .error (24, 22) := by kernel_rfl
end Go.Proofs.YtppmcimcmcognaaGreatDoor


