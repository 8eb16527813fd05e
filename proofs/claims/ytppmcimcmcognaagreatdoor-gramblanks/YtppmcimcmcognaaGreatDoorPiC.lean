import Derived.Test.YtppmcimcmcognaaGreatDoorPgA
/- Nodes that are laid make a forest: each is owned once, by a later one, but for the roots. -/
namespace Go.Proofs.YtppmcimcmcognaaGreatDoor

/-- The nodes b, laid behind n0 others, are a forest with the roots l. -/
structure Forest (n0 : Nat) (b : List Nd) (l : List Nat) : Prop where
  inc : l.Pairwise (· < ·)
  rng : ∀ i ∈ l, n0 ≤ i ∧ i < n0 + b.length
  kid : ∀ j n, b[j]? = some n → n.l.Pairwise (· < ·) ∧ ∀ c ∈ n.l, n0 ≤ c ∧ c < n0 + j
  one : ∀ i, n0 ≤ i → i < n0 + b.length → (b.flatMap (·.l)).count i = if i ∈ l then 0 else 1

theorem Forest.nil (n0 : Nat) : Forest n0 [] [] := ⟨List.Pairwise.nil, (by simp), (by simp), fun i h1 h2 => by simp at h2; omega⟩
theorem Forest.kids {n0 : Nat} {b : List Nd} {l : List Nat} (h : Forest n0 b l) {c : Nat} (hc : c ∈ b.flatMap (·.l)) : n0 ≤ c ∧ c < n0 + b.length := by
  obtain ⟨n, hn, hcn⟩ := List.mem_flatMap.1 hc
  obtain ⟨j, hj, hjn⟩ := List.getElem_of_mem hn
  have := (h.kid j n (by rw [List.getElem?_eq_getElem hj, hjn])).2 c hcn
  omega
theorem Forest.append {n0 : Nat} {b b' : List Nd} {l l' : List Nat} (h : Forest n0 b l) (h' : Forest (n0 + b.length) b' l') : Forest n0 (b ++ b') (l ++ l') := by
  refine ⟨List.pairwise_append.2 ⟨h.inc, h'.inc, fun x hx y hy => ?_⟩, fun i hi => ?_, fun j n hj => ?_, fun i h1 h2 => ?_⟩
  · have := h.rng x hx
    have := h'.rng y hy
    omega
  · rw [List.length_append]
    rcases List.mem_append.1 hi with hi | hi
    · have := h.rng i hi; omega
    · have := h'.rng i hi; omega
  · by_cases hjl : j < b.length
    · rw [List.getElem?_append_left hjl] at hj
      exact h.kid j n hj
    · rw [List.getElem?_append_right (by omega)] at hj
      obtain ⟨h3, h4⟩ := h'.kid _ n hj
      exact ⟨h3, fun c hc => by have := h4 c hc; omega⟩
  · rw [List.flatMap_append, List.count_append]
    rw [List.length_append] at h2
    by_cases hi : i < n0 + b.length
    · have h3 : (b'.flatMap (·.l)).count i = 0 := List.count_eq_zero.2 fun hc => by have := h'.kids hc; omega
      have h4 : i ∉ l' := fun hc => by have := h'.rng i hc; omega
      rw [h3, h.one i h1 hi]
      simp [h4]
    · have h3 : (b.flatMap (·.l)).count i = 0 := List.count_eq_zero.2 fun hc => by have := h.kids hc; omega
      have h4 : i ∉ l := fun hc => by have := h.rng i hc; omega
      rw [h3, h'.one i (by omega) (by omega)]
      simp [h4]
theorem Forest.lay {n0 : Nat} {b : List Nd} {l : List Nat} (h : Forest n0 b l) {n : Nd} (hn : n.l = l) : Forest n0 (b ++ [n]) [n0 + b.length] := by
  refine ⟨List.pairwise_singleton _ _, fun i hi => ?_, fun j m hj => ?_, fun i h1 h2 => ?_⟩
  · simp at hi; simp; omega
  · by_cases hjl : j < b.length
    · rw [List.getElem?_append_left hjl] at hj
      exact h.kid j m hj
    · rw [List.getElem?_append_right (by omega)] at hj
      have hj0 : j - b.length = 0 := by
        cases hd : j - b.length with
        | zero => rfl
        | succ d => simp [hd] at hj
      rw [hj0] at hj
      simp at hj
      subst hj
      rw [hn]
      exact ⟨h.inc, fun c hc => by have := h.rng c hc; omega⟩
  · rw [List.flatMap_append, List.count_append]
    simp only [List.flatMap_cons, List.flatMap_nil, List.append_nil, hn]
    have hnd : l.Nodup := h.inc.imp (fun h => Nat.ne_of_lt h)
    rw [List.length_append] at h2
    by_cases hi : i < n0 + b.length
    · rw [h.one i h1 hi]
      have h5 : i ∉ [n0 + b.length] := by simp; omega
      rw [if_neg h5]
      by_cases hm : i ∈ l
      · rw [if_pos hm]
        have h6 := List.count_pos_iff.2 hm
        have h7 := List.nodup_iff_count.1 hnd i
        omega
      · rw [if_neg hm, List.count_eq_zero.2 hm]
    · have h3 : (b.flatMap (·.l)).count i = 0 := List.count_eq_zero.2 fun hc => by have := h.kids hc; omega
      have h4 : l.count i = 0 := List.count_eq_zero.2 fun hc => by have := h.rng i hc; omega
      have h5 : i ∈ [n0 + b.length] := by simp at h2 ⊢; omega
      rw [h3, h4, if_pos h5]

/-- What has been laid since s0 is a forest with the roots l. -/
def Fo (s0 s : PS) (l : List Nat) : Prop := ∃ b, s.ns = s0.ns ++ b ∧ Forest s0.ns.length b l
theorem Fo.start (s : PS) : Fo s s [] := ⟨[], by simp, Forest.nil _⟩
theorem Fo.trans {s0 s s' : PS} {l l' : List Nat} (h : Fo s0 s l) (h' : Fo s s' l') : Fo s0 s' (l ++ l') := by
  obtain ⟨b, h1, h2⟩ := h
  obtain ⟨b', h3, h4⟩ := h'
  refine ⟨b ++ b', by rw [h3, h1, List.append_assoc], h2.append ?_⟩
  rw [h1, List.length_append] at h4
  exact h4

namespace Gm
/-- A step that goes on with the roots l, and tells roots. -/
def Ks {α : Type} (l : List Nat) (r : α → List Nat) (m : PM α) : Prop := ∀ s0 s a s', Fo s0 s l → m s = .ok (a, s') → Fo s0 s' (r a)
theorem ks_bind {α β : Type} {l : List Nat} {r : α → List Nat} {q : β → List Nat} {m : PM α} {f : α → PM β} (h : Ks l r m) (g : ∀ a, Ks (r a) q (f a)) : Ks l q (m >>= f) := by
  intro s0 s b s' hf hb
  rw [bind_at] at hb
  cases hm : m s with
  | error e => simp [hm] at hb
  | ok p =>
    obtain ⟨a, t⟩ := p
    simp only [hm] at hb
    exact g a s0 t b s' (h s0 s a t hf hm) hb
/-- A rule: it lays a tree of its own. -/
abbrev Rt (m : PM Nat) : Prop := Ks [] (fun x => [x]) m
abbrev RtL (m : PM (List Nat)) : Prop := Ks [] (fun x => x) m
theorem ks_add {α : Type} {r : α → List Nat} {m : PM α} (h : Ks [] r m) (l : List Nat) : Ks l (fun a => l ++ r a) m := fun _ _ a s' hf hm => hf.trans (h _ _ a s' (Fo.start _) hm)
theorem ks_still {α : Type} {m : PM α} (h : ∀ s a s', m s = .ok (a, s') → s'.ns = s.ns) (l : List Nat) : Ks l (fun _ => l) m := fun s0 s a s' hf hm => by
  obtain ⟨b, h1, h2⟩ := hf
  exact ⟨b, by rw [h s a s' hm, h1], h2⟩
theorem ks_pure {α : Type} {r : α → List Nat} {l : List Nat} (a : α) (h : r a = l) : Ks l r (pure a) := fun s0 s b s' hf hm => by cases hm; rw [h]; exact hf
theorem ks_here (l : List Nat) : Ks l (fun _ => l) here := ks_still (fun _ _ _ h => by cases h; rfl) l
theorem ks_ahead (l : List Nat) : Ks l (fun _ => l) ahead := ks_still (fun _ _ _ h => by cases h; rfl) l
theorem ks_left (l : List Nat) : Ks l (fun _ => l) left := ks_still (fun _ _ _ h => by cases h; rfl) l
theorem ks_next (l : List Nat) : Ks l (fun _ => l) next := ks_still (fun _ _ _ h => by cases h; rfl) l
theorem ks_take (w : ByteArray) (l : List Nat) : Ks l (fun _ => l) (take w) := ks_still (fun s a s' h => by
  simp only [take] at h
  split at h <;> cases h <;> rfl) l
theorem ks_need (w : ByteArray) (l : List Nat) : Ks l (fun _ => l) (need w) := ks_still (fun s a s' h => by
  simp only [need] at h
  split at h
  · cases h; rfl
  · cases h) l
theorem ks_needK (k : Int) (l : List Nat) : Ks l (fun _ => l) (needK k) := ks_still (fun s a s' h => by
  simp only [needK] at h
  split at h
  · cases h; rfl
  · cases h) l
theorem ks_giveUp {α : Type} {l : List Nat} {r : α → List Nat} (e : Int) : Ks l r (giveUp e) := fun _ _ _ _ _ h => by cases h
theorem ks_fault {α : Type} {l : List Nat} {r : α → List Nat} (e : Int) (p : Nat) : Ks l r (fault e p) := fun _ _ _ _ _ h => by cases h
theorem ks_lay (n : Nd) : Ks n.l (fun x => [x]) (lay n) := by
  intro s0 s x s' hf h
  obtain ⟨b, h1, h2⟩ := hf
  simp only [lay] at h
  split at h
  · cases h
  · cases h
    refine ⟨b ++ [n], by simp [h1], ?_⟩
    rw [h1, List.length_append]
    exact h2.lay rfl
theorem ks_ite {α : Type} {l : List Nat} {r : α → List Nat} {c : Prop} [Decidable c] {m n : PM α} (h : Ks l r m) (g : Ks l r n) : Ks l r (if c then m else n) := by split <;> assumption
theorem rt_layNone (k : Int) (l : List Nat) : Ks l (fun x => l ++ [x]) (layNone k) := ks_add (ks_bind (ks_here []) fun _ => ks_lay ⟨k, ⟨#[]⟩, 0, 0, [], _⟩) l

variable {e : PM Nat}
theorem rt_more (he : Rt e) (most : Nat) : ∀ k l, Ks l (fun x => x) (more e most k l)
  | 0, l => ks_pure l rfl
  | k + 1, l => ks_bind (ks_take _ l) fun _ => ks_ite (ks_ite (ks_giveUp _) (ks_bind (ks_add he l) fun _ => rt_more he most k _)) (ks_pure l rfl)
theorem rt_exprs (he : Rt e) (most : Nat) : RtL (exprs e most) := ks_bind he fun _ => ks_bind (ks_left _) fun _ => rt_more he _ _ _
theorem rt_group (he : Rt e) (k : Int) : Rt (group e k) := ks_bind (ks_here _) fun _ => ks_bind (rt_exprs he _) fun l => ks_lay ⟨k, ⟨#[]⟩, 0, 0, l, _⟩
theorem rt_body (he : Rt e) : Rt (body e) := rt_group he _
theorem rt_guard (he : Rt e) : Rt (guard e) := ks_bind (ks_take _ _) fun _ => ks_ite (rt_group he _) (rt_layNone _ [])
theorem rt_args (he : Rt e) : RtL (args e) :=
  ks_bind (ks_need _ _) fun _ => ks_bind (ks_take _ _) fun _ => ks_ite (ks_pure [] rfl) (ks_bind (rt_exprs he _) fun l => ks_bind (ks_need _ l) fun _ => ks_pure l rfl)
theorem rt_tail (he : Rt e) (p : Nat) (x : ByteArray) (l : List Nat) : Ks l (fun x => [x]) (tail e p x l) :=
  ks_bind (ks_add (rt_guard he) l) fun g => ks_bind (ks_need _ _) fun _ => ks_bind (ks_add (rt_body he) _) fun b => by
    have h := ks_lay ⟨21, x, (l.length : Int), 0, l ++ [g, b], p⟩
    simpa using h
theorem rt_fclause (he : Rt e) : Rt (fclause e) := ks_bind (ks_needK _ _) fun _ => ks_bind (rt_args he) fun _ => rt_tail he _ _ _
theorem rt_gclause (he : Rt e) : Rt (gclause e) := ks_bind (ks_here _) fun _ => ks_bind (rt_args he) fun _ => rt_tail he _ _ _
theorem rt_clause (he : Rt e) : Rt (clause e) := ks_bind (ks_here _) fun _ => ks_bind he fun _ => rt_tail he _ _ _
theorem rt_leaf : Rt leaf := ks_bind (ks_next _) fun t => ks_lay ⟨leafKind t.k, t.x, t.n, t.f, [], t.p⟩
theorem rt_cls : Rt cls := ks_bind (ks_here _) fun t => ks_bind (ks_ahead _) fun _ => ks_ite (ks_ite (ks_bind rt_leaf fun x => ks_bind (ks_need _ _) fun _ => ks_pure x rfl) (ks_giveUp _)) (ks_lay ⟨3, ⟨#[116, 104, 114, 111, 119]⟩, 0, 0, [], t.p⟩)
theorem rt_cclause (he : Rt e) : Rt (cclause e) := ks_bind (ks_here _) fun _ => ks_bind rt_cls fun _ => ks_bind (ks_add he _) fun _ => rt_tail he _ _ _
theorem rt_moreC {c : PM Nat} (hc : Rt c) : ∀ k l, Ks l (fun x => x) (moreC c k l)
  | 0, l => ks_pure l rfl
  | k + 1, l => ks_bind (ks_take _ l) fun _ => ks_ite (ks_bind (ks_add hc l) fun _ => rt_moreC hc k _) (ks_pure l rfl)
theorem rt_clauses {c : PM Nat} (hc : Rt c) : Rt (clauses c) := ks_bind (ks_here _) fun t => ks_bind hc fun _ => ks_bind (ks_left _) fun _ => ks_bind (rt_moreC hc _ _) fun l => ks_lay ⟨20, ⟨#[]⟩, 0, 0, l, t.p⟩
theorem rt_clausesBehind {c : PM Nat} (w : ByteArray) (hc : Rt c) : Rt (clausesBehind w c) := ks_bind (ks_take _ _) fun _ => ks_ite (rt_clauses hc) (rt_layNone _ [])
theorem rt_begin (he : Rt e) : Rt (begin e) := ks_bind (ks_next _) fun t => ks_bind (rt_exprs he _) fun l => ks_bind (ks_need _ _) fun _ => ks_lay ⟨19, ⟨#[]⟩, 0, 0, l, t.p⟩
theorem rt_choice (he : Rt e) : Rt (choice e) := ks_bind (ks_next _) fun t => ks_bind he fun x => ks_bind (ks_need _ _) fun _ => ks_bind (ks_add (rt_clauses (rt_clause he)) _) fun c => ks_bind (ks_need _ _) fun _ => ks_lay ⟨15, ⟨#[]⟩, 0, 0, [x, c], t.p⟩
theorem rt_funName (p : Nat) : Rt (funName p) := ks_bind (ks_next _) fun t => ks_bind (ks_need _ _) fun _ => ks_bind (ks_needK _ _) fun n => ks_ite (ks_fault _ _) (ks_lay ⟨14, t.x, n.n, 0, [], p⟩)
theorem rt_fn (he : Rt e) : Rt (fn e) := ks_bind (ks_next _) fun t => ks_bind (ks_here _) fun _ => ks_ite (rt_funName _) (ks_bind (rt_clauses (rt_gclause he)) fun c => ks_bind (ks_need _ _) fun _ => ks_lay ⟨13, ⟨#[]⟩, 0, 0, [c], t.p⟩)
theorem rt_afterB (he : Rt e) : Ks [] (fun a => [a.2]) (afterB e) := ks_bind (ks_take _ _) fun _ => ks_ite (ks_bind (rt_body he) fun x => ks_pure (1, x) rfl) (ks_bind (rt_layNone _ []) fun x => ks_pure (0, x) rfl)
theorem rt_tryOf (he : Rt e) : Rt (tryOf e) := ks_bind (ks_next _) fun t => ks_bind (rt_body he) fun b => ks_bind (ks_add (rt_clausesBehind _ (rt_clause he)) _) fun o => ks_bind (ks_here _) fun _ => ks_bind (ks_add (rt_clausesBehind _ (rt_cclause he)) _) fun c => ks_bind (ks_here _) fun _ => ks_ite (ks_bind (ks_add (rt_afterB he) _) fun a => ks_bind (ks_need _ _) fun _ => ks_lay ⟨16, ⟨#[]⟩, a.1, 0, [b, o, c, a.2], t.p⟩) (ks_giveUp _)
theorem ks_patience (l : List Nat) : Ks l (fun _ => l) patience := ks_bind (ks_here l) fun _ => ks_ite (ks_bind (ks_next l) fun _ => ks_pure _ rfl) (ks_ite (ks_bind (ks_next l) fun _ => ks_pure _ rfl) (ks_giveUp _))
theorem rt_received (he : Rt e) : Rt (received e) := ks_bind (ks_here _) fun _ => ks_ite (rt_layNone _ []) (rt_clauses (rt_clause he))
theorem rt_afterR (he : Rt e) : Ks [] (fun a => [a.2]) (afterR e) := ks_bind (ks_take _ _) fun _ => ks_ite (ks_bind (ks_patience _) fun n => ks_bind (ks_need _ _) fun _ => ks_bind (rt_body he) fun x => ks_pure (n, x) rfl) (ks_bind (rt_layNone _ []) fun x => ks_pure (0, x) rfl)
theorem rt_receive (he : Rt e) : Rt (receive e) := ks_bind (ks_next _) fun t => ks_bind (rt_received he) fun c => ks_bind (ks_add (rt_afterR he) _) fun a => ks_bind (ks_need _ _) fun _ => ks_lay ⟨18, ⟨#[]⟩, a.1, 0, [c, a.2], t.p⟩
theorem rt_worded (he : Rt e) : Rt (worded e) := ks_bind (ks_here _) fun _ => ks_ite (rt_begin he) (ks_ite (rt_choice he) (ks_ite (rt_fn he) (ks_ite (rt_tryOf he) (ks_ite (rt_receive he) (ks_giveUp _)))))
theorem rt_tuple (he : Rt e) : Rt (tuple e) := ks_bind (ks_next _) fun t => ks_bind (ks_here _) fun _ => ks_ite (ks_bind (ks_need _ _) fun _ => ks_lay ⟨6, ⟨#[]⟩, 0, 0, [], t.p⟩) (ks_bind (rt_exprs he _) fun l => ks_bind (ks_need _ _) fun _ => ks_lay ⟨6, ⟨#[]⟩, 0, 0, l, t.p⟩)
theorem rt_list (he : Rt e) : Rt (list e) := ks_bind (ks_next _) fun t => ks_bind (ks_here _) fun _ => ks_ite (ks_bind (ks_need _ _) fun _ => ks_lay ⟨7, ⟨#[]⟩, 0, 0, [], t.p⟩) (ks_bind (rt_exprs he _) fun l => ks_bind (ks_take _ _) fun _ => ks_ite (ks_bind (ks_add he l) fun x => ks_bind (ks_need _ _) fun _ => ks_lay ⟨8, ⟨#[]⟩, 0, 0, l ++ [x], t.p⟩) (ks_bind (ks_need _ _) fun _ => ks_lay ⟨7, ⟨#[]⟩, 0, 0, l, t.p⟩))
theorem rt_bracketed (he : Rt e) : Rt (bracketed e) := ks_bind (ks_here _) fun _ => ks_ite (ks_bind (ks_next _) fun _ => ks_bind he fun x => ks_bind (ks_need _ _) fun _ => ks_pure x rfl) (ks_ite (rt_tuple he) (ks_ite (rt_list he) (ks_giveUp _)))
theorem rt_primary (he : Rt e) : Rt (primary e) := ks_bind (ks_here _) fun _ => ks_ite rt_leaf (ks_ite (rt_bracketed he) (ks_ite (rt_worded he) (ks_giveUp _)))
theorem rt_called (he : Rt e) : Rt (called e) := ks_bind (ks_here _) fun t => ks_bind (ks_ahead _) fun _ => ks_ite (ks_bind (ks_next _) fun _ => ks_bind (rt_args he) fun l => ks_lay ⟨11, t.x, 0, 0, l, t.p⟩) (rt_primary he)
theorem rt_applied (he : Rt e) (p : Nat) : ∀ k x, Ks [x] (fun y => [y]) (applied e p k x)
  | 0, x => ks_pure x rfl
  | k + 1, x => ks_bind (ks_here _) fun _ => ks_ite (ks_bind (ks_add (rt_args he) [x]) fun l => ks_bind (ks_lay ⟨12, ⟨#[]⟩, 0, 0, x :: l, p⟩) fun y => rt_applied he p k y) (ks_pure x rfl)
theorem rt_call (he : Rt e) : Rt (call e) := ks_bind (ks_here _) fun _ => ks_bind (rt_called he) fun x => ks_bind (ks_left _) fun _ => rt_applied he _ _ x
theorem ks_signs : ∀ k l, Ks [] (fun _ => []) (signs k l)
  | 0, l => ks_pure l rfl
  | k + 1, l => ks_bind (ks_here _) fun _ => ks_ite (ks_bind (ks_next _) fun _ => ks_signs k _) (ks_pure l rfl)
theorem rt_layOps : ∀ l x, Ks [x] (fun y => [y]) (layOps l x)
  | [], x => ks_pure x rfl
  | t :: r, x => ks_bind (rt_layOps r x) fun y => ks_lay ⟨9, t.x, 0, 0, [y], t.p⟩
theorem rt_unary (he : Rt e) : Rt (unary e) := ks_bind (ks_left _) fun _ => ks_bind (ks_signs _ _) fun l => ks_bind (rt_call he) fun x => rt_layOps l x
theorem rt_leftward {m : PM Nat} (hm : Rt m) (sg : Tk → Bool) (p : Nat) : ∀ k x, Ks [x] (fun y => [y]) (leftward m sg p k x)
  | 0, x => ks_pure x rfl
  | k + 1, x => ks_bind (ks_here _) fun t => ks_ite (ks_bind (ks_next _) fun _ => ks_bind (ks_add hm [x]) fun y => ks_bind (ks_lay ⟨9, t.x, 0, 0, [x, y], p⟩) fun z => rt_leftward hm sg p k z) (ks_pure x rfl)
theorem rt_mul (he : Rt e) : Rt (mul e) := ks_bind (ks_here _) fun _ => ks_bind (rt_unary he) fun x => ks_bind (ks_left _) fun _ => rt_leftward (rt_unary he) _ _ _ x
theorem rt_add (he : Rt e) : Rt (add e) := ks_bind (ks_here _) fun _ => ks_bind (rt_mul he) fun x => ks_bind (ks_left _) fun _ => rt_leftward (rt_mul he) _ _ _ x
theorem rt_rightward {m : PM Nat} (hm : Rt m) (w : ByteArray) : ∀ k, Rt (rightward m w k)
  | 0 => hm
  | k + 1 => ks_bind (ks_here _) fun t => ks_bind hm fun x => ks_bind (ks_take _ _) fun _ => ks_ite (ks_bind (ks_add (rt_rightward hm w k) [x]) fun y => ks_lay ⟨9, w, 0, 0, [x, y], t.p⟩) (ks_pure x rfl)
theorem rt_right {m : PM Nat} (hm : Rt m) (w : ByteArray) : Rt (right m w) := ks_bind (ks_left _) fun _ => rt_rightward hm w _
theorem rt_compare (he : Rt e) : Rt (compare e) := ks_bind (ks_here _) fun t => ks_bind (rt_right (rt_add he) _) fun x => ks_bind (ks_here _) fun u => ks_ite (ks_bind (ks_next _) fun _ => ks_bind (ks_add (rt_right (rt_add he) _) [x]) fun y => ks_lay ⟨9, u.x, 0, 0, [x, y], t.p⟩) (ks_pure x rfl)
theorem rt_opened (he : Rt e) : Rt (opened e) := ks_bind (ks_here _) fun t => ks_bind (ks_take _ _) fun _ => ks_ite (ks_bind he fun x => ks_lay ⟨17, ⟨#[]⟩, 0, 0, [x], t.p⟩) (ks_bind (rt_right (rt_right (rt_compare he) _) _) fun x => ks_bind (ks_take _ _) fun _ => ks_ite (ks_bind (ks_add he [x]) fun y => ks_lay ⟨10, ⟨#[]⟩, 0, 0, [x, y], t.p⟩) (ks_bind (ks_take _ _) fun _ => ks_ite (ks_bind (ks_add he [x]) fun y => ks_lay ⟨9, ⟨#[33]⟩, 0, 0, [x, y], t.p⟩) (ks_pure x rfl)))
theorem rt_expr : ∀ k, Rt (expr k)
  | 0 => ks_giveUp _
  | k + 1 => by
    intro s0 s a s' hf hm
    simp only [expr] at hm
    split at hm
    · cases hm
    · cases ho : opened (expr k) { s with o := s.o + 1 } with
      | error er => simp [ho] at hm
      | ok p =>
        obtain ⟨x, t⟩ := p
        simp only [ho] at hm
        cases hm
        exact rt_opened (rt_expr k) s0 { s with o := s.o + 1 } _ t hf ho
theorem rt_function (he : Rt e) : Rt (functionOf e) := ks_bind (ks_here _) fun t => ks_bind (rt_clauses (rt_fclause he)) fun c => ks_bind (ks_need _ _) fun _ => fun s0 s x s' hf hm => ks_lay ⟨23, _, _, 0, [c], t.p⟩ s0 s x s' hf hm
theorem rt_functions (he : Rt e) : ∀ k l, Ks l (fun x => x) (functions e k l)
  | 0, l => ks_pure l rfl
  | k + 1, l => ks_bind (ks_here _) fun _ => ks_ite (ks_pure l rfl) (ks_bind (ks_add (rt_function he) l) fun _ => rt_functions he k _)
theorem rt_module (he : Rt e) : Rt (module e) := ks_bind (ks_here _) fun t => ks_bind (ks_need _ _) fun _ => ks_bind (ks_here _) fun _ => ks_ite (ks_bind (ks_next _) fun _ => ks_bind (ks_need _ _) fun _ => ks_bind (ks_needK _ _) fun n => ks_bind (ks_need _ _) fun _ => ks_bind (ks_need _ _) fun _ => ks_bind (ks_left _) fun _ => ks_bind (rt_functions he _ _) fun l => ks_lay ⟨24, n.x, 0, 0, l, t.p⟩) (ks_giveUp _)
end Gm
/-- A tree is a tree: each node but the root is owned once, by a later one. -/
theorem tree_forest (ts : List Tk) {r : Nat} {s : PS} (h : Gm.module (Gm.expr 201) ⟨ts, [], 0⟩ = .ok (r, s)) : Forest 0 s.ns [r] := by
  obtain ⟨b, h1, h2⟩ := Gm.rt_module (Gm.rt_expr 201) _ _ r s (Fo.start _) h
  simp at h1
  subst h1
  exact h2
end Go.Proofs.YtppmcimcmcognaaGreatDoor


