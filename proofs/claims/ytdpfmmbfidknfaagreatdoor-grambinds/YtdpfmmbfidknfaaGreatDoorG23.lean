import Derived.Test.YtdpfmmbfidknfaaGreatDoorG13
/- The grammar does not look at places. -/
namespace Go.Proofs.YtdpfmmbfidknfaaGreatDoor

/-- A token, a node, a state without places. -/
def bareT (t : Tk) : Tk := { t with p := 0 }
def bareN (n : Nd) : Nd := { n with p := 0 }
def bareS (s : PS) : PS := ⟨s.ts.map bareT, s.ns.map bareN, s.o⟩

/-- Two steps' ends: faults of one number, or values that are alike and states that are the same but for places. -/
def RR {α : Type} (r : α → α → Prop) : Except (Int × Nat) (α × PS) → Except (Int × Nat) (α × PS) → Prop
  | .error e, .error e' => e.1 = e'.1
  | .ok (a, s), .ok (b, t) => r a b ∧ bareS s = bareS t
  | _, _ => False
def Bl {α : Type} (r : α → α → Prop) (m m' : PM α) : Prop := ∀ s s', bareS s = bareS s' → RR r (m s) (m' s')
abbrev TkS (t u : Tk) : Prop := bareT t = bareT u

theorem TkS.k {t u : Tk} (h : TkS t u) : t.k = u.k := by
  have h2 : (bareT t).k = (bareT u).k := by rw [h]
  exact h2
theorem TkS.x {t u : Tk} (h : TkS t u) : t.x = u.x := by
  have h2 : (bareT t).x = (bareT u).x := by rw [h]
  exact h2
theorem TkS.n {t u : Tk} (h : TkS t u) : t.n = u.n := by
  have h2 : (bareT t).n = (bareT u).n := by rw [h]
  exact h2
theorem TkS.f {t u : Tk} (h : TkS t u) : t.f = u.f := by
  have h2 : (bareT t).f = (bareT u).f := by rw [h]
  exact h2

namespace Gm
theorem TkS_isM {t u : Tk} (h : TkS t u) (w : ByteArray) : isM t w = isM u w := by unfold isM; rw [h.k, h.x]
theorem TkS_isA {t u : Tk} (h : TkS t u) (w : ByteArray) : isA t w = isA u w := by unfold isA; rw [h.k, h.x]
theorem bare_ts {s s' : PS} (h : bareS s = bareS s') : s.ts.map bareT = s'.ts.map bareT := congrArg PS.ts h
theorem bare_ns {s s' : PS} (h : bareS s = bareS s') : s.ns.map bareN = s'.ns.map bareN := congrArg PS.ns h
theorem bare_o {s s' : PS} (h : bareS s = bareS s') : s.o = s'.o := by
  have h2 : (bareS s).o = (bareS s').o := by rw [h]
  exact h2
theorem bare_hd {s s' : PS} (h : bareS s = bareS s') : TkS (hd s) (hd s') := by
  have h1 := bare_ts h
  unfold hd
  cases hs : s.ts with
  | nil =>
    rw [hs] at h1
    have : s'.ts = [] := by simpa using h1.symm
    rw [this]
  | cons t r =>
    rw [hs] at h1
    cases hs' : s'.ts with
    | nil => rw [hs'] at h1; cases h1
    | cons t' r' => rw [hs'] at h1; exact (List.cons.inj h1).1
theorem bare_tail {s s' : PS} (h : bareS s = bareS s') : s.ts.tail.map bareT = s'.ts.tail.map bareT := by
  have h1 := congrArg List.tail (bare_ts h)
  simpa using h1
theorem bare_hd2 {s s' : PS} (h : bareS s = bareS s') : TkS (hd2 s) (hd2 s') := by
  have h1 : bareS ⟨s.ts.tail, s.ns, s.o⟩ = bareS ⟨s'.ts.tail, s'.ns, s'.o⟩ := by
    simp only [bareS, bare_tail h, bare_ns h, bare_o h]
  exact bare_hd h1
theorem bare_cut {s s' : PS} (h : bareS s = bareS s') : bareS (cut s) = bareS (cut s') := by
  simp only [bareS, cut, bare_tail h, bare_ns h, bare_o h]

theorem bl_bind {α β : Type} {r : α → α → Prop} {q : β → β → Prop} {m m' : PM α} {f f' : α → PM β} (h : Bl r m m') (g : ∀ a b, r a b → Bl q (f a) (f' b)) : Bl q (m >>= f) (m' >>= f') := by
  intro s s' hs
  have h1 := h s s' hs
  rw [bind_at, bind_at]
  cases hm : m s with
  | error e =>
    rw [hm] at h1
    cases hm' : m' s' with
    | error e' => rw [hm'] at h1; exact h1
    | ok p => rw [hm'] at h1; exact h1.elim
  | ok p =>
    obtain ⟨a, t⟩ := p
    rw [hm] at h1
    cases hm' : m' s' with
    | error e' => rw [hm'] at h1; exact h1.elim
    | ok p' =>
      obtain ⟨b, t'⟩ := p'
      rw [hm'] at h1
      exact g a b h1.1 t t' h1.2
theorem bl_pure {α : Type} {r : α → α → Prop} {a b : α} (h : r a b) : Bl r (pure a) (pure b) := fun _ _ hs => ⟨h, hs⟩
theorem bl_here : Bl TkS here here := fun _ _ hs => ⟨bare_hd hs, hs⟩
theorem bl_ahead : Bl TkS ahead ahead := fun _ _ hs => ⟨bare_hd2 hs, hs⟩
theorem bl_left : Bl Eq left left := fun _ _ hs => ⟨by have := congrArg List.length (bare_ts hs); simpa using this, hs⟩
theorem bl_next : Bl TkS next next := fun _ _ hs => ⟨bare_hd hs, bare_cut hs⟩
theorem bl_fault {α : Type} {r : α → α → Prop} (e : Int) (p q : Nat) : Bl r (fault e p) (fault e q) := fun _ _ _ => rfl
theorem bl_giveUp {α : Type} {r : α → α → Prop} (e : Int) : Bl r (giveUp e) (giveUp e) := fun _ _ _ => rfl
theorem bl_take (w : ByteArray) : Bl Eq (take w) (take w) := by
  intro s s' hs
  unfold take
  rw [TkS_isM (bare_hd hs) w]
  split
  · exact ⟨rfl, bare_cut hs⟩
  · exact ⟨rfl, hs⟩
theorem bl_need (w : ByteArray) : Bl Eq (need w) (need w) := by
  intro s s' hs
  unfold need
  rw [TkS_isM (bare_hd hs) w]
  split
  · exact ⟨rfl, bare_cut hs⟩
  · rfl
theorem bl_needK (k : Int) : Bl TkS (needK k) (needK k) := by
  intro s s' hs
  unfold needK
  rw [(bare_hd hs).k]
  split
  · exact ⟨bare_hd hs, bare_cut hs⟩
  · rfl
theorem bl_lay {n n' : Nd} (h : bareN n = bareN n') : Bl Eq (lay n) (lay n') := by
  intro s s' hs
  have hl : s.ns.length = s'.ns.length := by have := congrArg List.length (bare_ns hs); simpa using this
  unfold lay
  rw [hl]
  split
  · rfl
  · refine ⟨rfl, ?_⟩
    simp only [bareS, List.map_append, List.map_cons, List.map_nil, bare_ts hs, bare_ns hs, bare_o hs, h]
theorem bl_nd (k : Int) (x : ByteArray) (n : Int) (f : Nat) (l : List Nat) (p q : Nat) : Bl Eq (lay ⟨k, x, n, f, l, p⟩) (lay ⟨k, x, n, f, l, q⟩) := bl_lay rfl
theorem bl_op (p q : Nat) (x : ByteArray) (l : List Nat) : Bl Eq (op p x l) (op q x l) := bl_lay rfl
theorem bl_layNone (k : Int) : Bl Eq (layNone k) (layNone k) := bl_bind bl_here fun _ _ _ => bl_nd _ _ _ _ _ _ _
theorem bl_ite {α : Type} {r : α → α → Prop} {c d : Prop} [Decidable c] [Decidable d] {m m' n n' : PM α} (hc : c ↔ d) (h : Bl r m m') (g : Bl r n n') : Bl r (if c then m else n) (if d then m' else n') := by
  by_cases hh : c
  · rw [if_pos hh, if_pos (hc.1 hh)]; exact h
  · rw [if_neg hh, if_neg (fun h => hh (hc.2 h))]; exact g
theorem bl_if {α : Type} {r : α → α → Prop} {b b' : Bool} {m m' n n' : PM α} (hb : b = b') (h : Bl r m m') (g : Bl r n n') : Bl r (if b then m else n) (if b' then m' else n') := bl_ite (by rw [hb]) h g

variable {e e' : PM Nat}
theorem bl_more (he : Bl Eq e e') (most : Nat) : ∀ k l, Bl Eq (more e most k l) (more e' most k l)
  | 0, _ => bl_pure rfl
  | k + 1, l => bl_bind (bl_take _) fun _ _ h => bl_if h (bl_ite Iff.rfl (bl_giveUp _) (bl_bind he fun _ _ h => by subst h; exact bl_more he most k _)) (bl_pure rfl)
theorem bl_exprs (he : Bl Eq e e') (most : Nat) : Bl Eq (exprs e most) (exprs e' most) := bl_bind he fun _ _ h => by subst h; exact bl_bind bl_left fun _ _ h => by subst h; exact bl_more he _ _ _
theorem bl_group (he : Bl Eq e e') (k : Int) : Bl Eq (group e k) (group e' k) := bl_bind bl_here fun _ _ _ => bl_bind (bl_exprs he _) fun _ _ h => by subst h; exact bl_nd _ _ _ _ _ _ _
theorem bl_body (he : Bl Eq e e') : Bl Eq (body e) (body e') := bl_group he _
theorem bl_guard (he : Bl Eq e e') : Bl Eq (guard e) (guard e') := bl_bind (bl_take _) fun _ _ h => bl_if h (bl_group he _) (bl_layNone _)
theorem bl_args (he : Bl Eq e e') : Bl Eq (args e) (args e') :=
  bl_bind (bl_need _) fun _ _ _ => bl_bind (bl_take _) fun _ _ h => bl_if h (bl_pure rfl) (bl_bind (bl_exprs he _) fun _ _ h => by subst h; exact bl_bind (bl_need _) fun _ _ _ => bl_pure rfl)
theorem bl_tail (he : Bl Eq e e') (p q : Nat) {x y : ByteArray} (hx : x = y) (l : List Nat) : Bl Eq (tail e p x l) (tail e' q y l) := by
  subst hx
  exact bl_bind (bl_guard he) fun _ _ h => by subst h; exact bl_bind (bl_need _) fun _ _ _ => bl_bind (bl_body he) fun _ _ h => by subst h; exact bl_nd _ _ _ _ _ _ _
theorem bl_fclause (he : Bl Eq e e') : Bl Eq (fclause e) (fclause e') := bl_bind (bl_needK _) fun _ _ ht => bl_bind (bl_args he) fun _ _ h => by subst h; exact bl_tail he _ _ ht.x _
theorem bl_gclause (he : Bl Eq e e') : Bl Eq (gclause e) (gclause e') := bl_bind bl_here fun _ _ _ => bl_bind (bl_args he) fun _ _ h => by subst h; exact bl_tail he _ _ rfl _
theorem bl_clause (he : Bl Eq e e') : Bl Eq (clause e) (clause e') := bl_bind bl_here fun _ _ _ => bl_bind he fun _ _ h => by subst h; exact bl_tail he _ _ rfl _
theorem bl_leaf : Bl Eq leaf leaf := bl_bind bl_next fun _ _ ht => bl_lay (by simp only [bareN, ht.k, ht.x, ht.n, ht.f])
theorem TkS_isClass {t u : Tk} (h : TkS t u) : isClass t = isClass u := by unfold isClass; rw [h.k, h.x]
theorem bl_cls : Bl Eq cls cls :=
  bl_bind bl_here fun _ _ ht => bl_bind bl_ahead fun _ _ hu => bl_ite (by rw [ht.k, TkS_isM hu])
    (bl_if (TkS_isClass ht) (bl_bind bl_leaf fun _ _ h => by subst h; exact bl_bind (bl_need _) fun _ _ _ => bl_pure rfl) (bl_giveUp _)) (bl_nd _ _ _ _ _ _ _)
theorem bl_cclause (he : Bl Eq e e') : Bl Eq (cclause e) (cclause e') := bl_bind bl_here fun _ _ _ => bl_bind bl_cls fun _ _ h => by subst h; exact bl_bind he fun _ _ h => by subst h; exact bl_tail he _ _ rfl _
theorem bl_moreC {c c' : PM Nat} (hc : Bl Eq c c') : ∀ k l, Bl Eq (moreC c k l) (moreC c' k l)
  | 0, _ => bl_pure rfl
  | k + 1, l => bl_bind (bl_take _) fun _ _ h => bl_if h (bl_bind hc fun _ _ h => by subst h; exact bl_moreC hc k _) (bl_pure rfl)
theorem bl_clauses {c c' : PM Nat} (hc : Bl Eq c c') : Bl Eq (clauses c) (clauses c') :=
  bl_bind bl_here fun _ _ _ => bl_bind hc fun _ _ h => by subst h; exact bl_bind bl_left fun _ _ h => by subst h; exact bl_bind (bl_moreC hc _ _) fun _ _ h => by subst h; exact bl_nd _ _ _ _ _ _ _
theorem bl_clausesBehind {c c' : PM Nat} (w : ByteArray) (hc : Bl Eq c c') : Bl Eq (clausesBehind w c) (clausesBehind w c') := bl_bind (bl_take _) fun _ _ h => bl_if h (bl_clauses hc) (bl_layNone _)
theorem bl_begin (he : Bl Eq e e') : Bl Eq (begin e) (begin e') := bl_bind bl_next fun _ _ _ => bl_bind (bl_exprs he _) fun _ _ h => by subst h; exact bl_bind (bl_need _) fun _ _ _ => bl_nd _ _ _ _ _ _ _
theorem bl_choice (he : Bl Eq e e') : Bl Eq (choice e) (choice e') :=
  bl_bind bl_next fun _ _ _ => bl_bind he fun _ _ h => by subst h; exact bl_bind (bl_need _) fun _ _ _ => bl_bind (bl_clauses (bl_clause he)) fun _ _ h => by subst h; exact bl_bind (bl_need _) fun _ _ _ => bl_nd _ _ _ _ _ _ _
theorem bl_funName (p q : Nat) : Bl Eq (funName p) (funName q) :=
  bl_bind bl_next fun _ _ ht => bl_bind (bl_need _) fun _ _ _ => bl_bind (bl_needK _) fun _ _ hn => bl_ite (by rw [hn.n]) (bl_fault _ _ _) (bl_lay (by simp only [bareN, ht.x, hn.n]))
theorem bl_fn (he : Bl Eq e e') : Bl Eq (fn e) (fn e') :=
  bl_bind bl_next fun _ _ _ => bl_bind bl_here fun _ _ hu => bl_ite (by rw [hu.k]) (bl_funName _ _) (bl_bind (bl_clauses (bl_gclause he)) fun _ _ h => by subst h; exact bl_bind (bl_need _) fun _ _ _ => bl_nd _ _ _ _ _ _ _)
theorem bl_afterB (he : Bl Eq e e') : Bl Eq (afterB e) (afterB e') := bl_bind (bl_take _) fun _ _ h => bl_if h (bl_bind (bl_body he) fun _ _ h => bl_pure (by rw [h])) (bl_bind (bl_layNone _) fun _ _ h => bl_pure (by rw [h]))
theorem bl_tryOf (he : Bl Eq e e') : Bl Eq (tryOf e) (tryOf e') :=
  bl_bind bl_next fun _ _ _ => bl_bind (bl_body he) fun _ _ h => by subst h; exact bl_bind (bl_clausesBehind _ (bl_clause he)) fun _ _ h => by subst h; exact bl_bind bl_here fun _ _ hu => bl_bind (bl_clausesBehind _ (bl_cclause he)) fun _ _ h => by subst h; exact bl_bind bl_here fun _ _ hv => bl_ite (by rw [TkS_isM hu, TkS_isM hv]) (bl_bind (bl_afterB he) fun _ _ h => by subst h; exact bl_bind (bl_need _) fun _ _ _ => bl_nd _ _ _ _ _ _ _) (bl_giveUp _)
theorem bl_patience : Bl Eq patience patience :=
  bl_bind bl_here fun _ _ ht => bl_if (TkS_isA ht _) (bl_bind bl_next fun _ _ _ => bl_pure rfl) (bl_ite (by rw [ht.k, ht.n]) (bl_bind bl_next fun _ _ _ => bl_pure rfl) (bl_giveUp _))
theorem bl_received (he : Bl Eq e e') : Bl Eq (received e) (received e') := bl_bind bl_here fun _ _ ht => bl_if (TkS_isM ht _) (bl_layNone _) (bl_clauses (bl_clause he))
theorem bl_afterR (he : Bl Eq e e') : Bl Eq (afterR e) (afterR e') :=
  bl_bind (bl_take _) fun _ _ h => bl_if h (bl_bind bl_patience fun _ _ h => by subst h; exact bl_bind (bl_need _) fun _ _ _ => bl_bind (bl_body he) fun _ _ h => bl_pure (by rw [h])) (bl_bind (bl_layNone _) fun _ _ h => bl_pure (by rw [h]))
theorem bl_receive (he : Bl Eq e e') : Bl Eq (receive e) (receive e') :=
  bl_bind bl_next fun _ _ _ => bl_bind (bl_received he) fun _ _ h => by subst h; exact bl_bind (bl_afterR he) fun _ _ h => by subst h; exact bl_bind (bl_need _) fun _ _ _ => bl_nd _ _ _ _ _ _ _
theorem bl_worded (he : Bl Eq e e') : Bl Eq (worded e) (worded e') :=
  bl_bind bl_here fun _ _ ht => bl_ite (by rw [ht.x]) (bl_begin he) (bl_ite (by rw [ht.x]) (bl_choice he) (bl_ite (by rw [ht.x]) (bl_fn he) (bl_ite (by rw [ht.x]) (bl_tryOf he) (bl_ite (by rw [ht.x]) (bl_receive he) (bl_giveUp _)))))
theorem bl_tuple (he : Bl Eq e e') : Bl Eq (tuple e) (tuple e') :=
  bl_bind bl_next fun _ _ _ => bl_bind bl_here fun _ _ hu => bl_if (TkS_isM hu _) (bl_bind (bl_need _) fun _ _ _ => bl_nd _ _ _ _ _ _ _) (bl_bind (bl_exprs he _) fun _ _ h => by subst h; exact bl_bind (bl_need _) fun _ _ _ => bl_nd _ _ _ _ _ _ _)
theorem bl_list (he : Bl Eq e e') : Bl Eq (list e) (list e') :=
  bl_bind bl_next fun _ _ _ => bl_bind bl_here fun _ _ hu => bl_if (TkS_isM hu _) (bl_bind (bl_need _) fun _ _ _ => bl_nd _ _ _ _ _ _ _) (bl_bind (bl_exprs he _) fun _ _ h => by subst h; exact bl_bind (bl_take _) fun _ _ h => bl_if h (bl_bind he fun _ _ h => by subst h; exact bl_bind (bl_need _) fun _ _ _ => bl_nd _ _ _ _ _ _ _) (bl_bind (bl_need _) fun _ _ _ => bl_nd _ _ _ _ _ _ _))
theorem bl_bracketed (he : Bl Eq e e') : Bl Eq (bracketed e) (bracketed e') :=
  bl_bind bl_here fun _ _ ht => bl_ite (by rw [ht.x]) (bl_bind bl_next fun _ _ _ => bl_bind he fun _ _ h => by subst h; exact bl_bind (bl_need _) fun _ _ _ => bl_pure rfl) (bl_ite (by rw [ht.x]) (bl_tuple he) (bl_ite (by rw [ht.x]) (bl_list he) (bl_giveUp _)))
theorem bl_primary (he : Bl Eq e e') : Bl Eq (primary e) (primary e') :=
  bl_bind bl_here fun _ _ ht => bl_ite (by rw [ht.k]) bl_leaf (bl_ite (by rw [ht.k]) (bl_bracketed he) (bl_ite (by rw [ht.k]) (bl_worded he) (bl_giveUp _)))
theorem bl_called (he : Bl Eq e e') : Bl Eq (called e) (called e') :=
  bl_bind bl_here fun _ _ ht => bl_bind bl_ahead fun _ _ hu => bl_ite (by rw [ht.k, TkS_isM hu]) (bl_bind bl_next fun _ _ _ => bl_bind (bl_args he) fun _ _ h => by subst h; exact bl_lay (by simp only [bareN, ht.x])) (bl_primary he)
theorem bl_applied (he : Bl Eq e e') (p q : Nat) : ∀ k x, Bl Eq (applied e p k x) (applied e' q k x)
  | 0, _ => bl_pure rfl
  | k + 1, x => bl_bind bl_here fun _ _ ht => bl_if (TkS_isM ht _) (bl_bind (bl_args he) fun _ _ h => by subst h; exact bl_bind (bl_nd _ _ _ _ _ _ _) fun _ _ h => by subst h; exact bl_applied he p q k _) (bl_pure rfl)
theorem bl_call (he : Bl Eq e e') : Bl Eq (call e) (call e') := bl_bind bl_here fun _ _ _ => bl_bind (bl_called he) fun _ _ h => by subst h; exact bl_bind bl_left fun _ _ h => by subst h; exact bl_applied he _ _ _ _
abbrev TkL (l l' : List Tk) : Prop := l.map bareT = l'.map bareT
theorem bl_signs : ∀ k l l', TkL l l' → Bl TkL (signs k l) (signs k l')
  | 0, _, _, h => bl_pure h
  | k + 1, l, l', h => bl_bind bl_here fun _ _ ht => bl_ite (by rw [TkS_isM ht, TkS_isM ht]) (bl_bind bl_next fun _ _ _ => bl_signs k _ _ (by rw [TkL, List.map_append, List.map_append, h]; simp only [List.map_cons, List.map_nil]; rw [ht])) (bl_pure h)
theorem bl_layOps : ∀ (l l' : List Tk), TkL l l' → ∀ x, Bl Eq (layOps l x) (layOps l' x)
  | [], [], _, x => bl_pure rfl
  | [], _ :: _, h, _ => by cases h
  | _ :: _, [], h, _ => by cases h
  | t :: r, t' :: r', h, x => bl_bind (bl_layOps r r' (List.cons.inj h).2 x) fun _ _ hy => by
      subst hy
      have ht : TkS t t' := (List.cons.inj h).1
      exact bl_lay (by simp only [bareN, ht.x])
theorem bl_unary (he : Bl Eq e e') : Bl Eq (unary e) (unary e') :=
  bl_bind bl_left fun _ _ h => by subst h; exact bl_bind (bl_signs _ _ _ rfl) fun _ _ hl => bl_bind (bl_call he) fun _ _ h => by subst h; exact bl_layOps _ _ hl _
theorem bl_leftward {m m' : PM Nat} (hm : Bl Eq m m') {sg : Tk → Bool} (hs : ∀ t u, TkS t u → sg t = sg u) (p q : Nat) : ∀ k x, Bl Eq (leftward m sg p k x) (leftward m' sg q k x)
  | 0, _ => bl_pure rfl
  | k + 1, x => bl_bind bl_here fun _ _ ht => bl_if (hs _ _ ht) (bl_bind bl_next fun _ _ _ => bl_bind hm fun _ _ h => by subst h; exact bl_bind (bl_lay (by simp only [bareN, ht.x])) fun _ _ h => by subst h; exact bl_leftward hm hs p q k _) (bl_pure rfl)
theorem bl_isMul (t u : Tk) (h : TkS t u) : isMul t = isMul u := by unfold isMul; simp only [TkS_isM h]
theorem bl_isAdd (t u : Tk) (h : TkS t u) : isAdd t = isAdd u := by unfold isAdd; simp only [TkS_isM h]
theorem bl_isCmp (t u : Tk) (h : TkS t u) : isCmp t = isCmp u := by unfold isCmp; simp only [TkS_isM h]
theorem bl_mul (he : Bl Eq e e') : Bl Eq (mul e) (mul e') := bl_bind bl_here fun _ _ _ => bl_bind (bl_unary he) fun _ _ h => by subst h; exact bl_bind bl_left fun _ _ h => by subst h; exact bl_leftward (bl_unary he) bl_isMul _ _ _ _
theorem bl_add (he : Bl Eq e e') : Bl Eq (add e) (add e') := bl_bind bl_here fun _ _ _ => bl_bind (bl_mul he) fun _ _ h => by subst h; exact bl_bind bl_left fun _ _ h => by subst h; exact bl_leftward (bl_mul he) bl_isAdd _ _ _ _
theorem bl_rightward {m m' : PM Nat} (hm : Bl Eq m m') (w : ByteArray) : ∀ k, Bl Eq (rightward m w k) (rightward m' w k)
  | 0 => hm
  | k + 1 => bl_bind bl_here fun _ _ _ => bl_bind hm fun _ _ h => by subst h; exact bl_bind (bl_take _) fun _ _ h => bl_if h (bl_bind (bl_rightward hm w k) fun _ _ h => by subst h; exact bl_op _ _ _ _) (bl_pure rfl)
theorem bl_right {m m' : PM Nat} (hm : Bl Eq m m') (w : ByteArray) : Bl Eq (right m w) (right m' w) := bl_bind bl_left fun _ _ h => by subst h; exact bl_rightward hm w _
theorem bl_compare (he : Bl Eq e e') : Bl Eq (compare e) (compare e') :=
  bl_bind bl_here fun _ _ _ => bl_bind (bl_right (bl_add he) _) fun _ _ h => by subst h; exact bl_bind bl_here fun _ _ hu => bl_if (bl_isCmp _ _ hu) (bl_bind bl_next fun _ _ _ => bl_bind (bl_right (bl_add he) _) fun _ _ h => by subst h; exact bl_lay (by simp only [bareN, hu.x])) (bl_pure rfl)
theorem bl_opened (he : Bl Eq e e') : Bl Eq (opened e) (opened e') :=
  bl_bind bl_here fun _ _ _ => bl_bind (bl_take _) fun _ _ h => bl_if h (bl_bind he fun _ _ h => by subst h; exact bl_nd _ _ _ _ _ _ _) (bl_bind (bl_right (bl_right (bl_compare he) _) _) fun _ _ h => by subst h; exact bl_bind (bl_take _) fun _ _ h => bl_if h (bl_bind he fun _ _ h => by subst h; exact bl_nd _ _ _ _ _ _ _) (bl_bind (bl_take _) fun _ _ h => bl_if h (bl_bind he fun _ _ h => by subst h; exact bl_op _ _ _ _) (bl_pure rfl)))
theorem bl_expr : ∀ k, Bl Eq (expr k) (expr k)
  | 0 => bl_giveUp _
  | k + 1 => by
    intro s s' hs
    simp only [expr]
    rw [bare_o hs]
    split
    · rfl
    · have h1 := bl_opened (bl_expr k) { s with o := s'.o + 1 } { s' with o := s'.o + 1 } (by simp only [bareS, bare_ts hs, bare_ns hs])
      cases hm : opened (expr k) { s with o := s'.o + 1 } with
      | error er =>
        rw [hm] at h1
        cases hm' : opened (expr k) { s' with o := s'.o + 1 } with
        | error er' => rw [hm'] at h1; exact h1
        | ok p => rw [hm'] at h1; exact h1.elim
      | ok p =>
        obtain ⟨a, t⟩ := p
        rw [hm] at h1
        cases hm' : opened (expr k) { s' with o := s'.o + 1 } with
        | error er' => rw [hm'] at h1; exact h1.elim
        | ok p' =>
          obtain ⟨b, t'⟩ := p'
          rw [hm'] at h1
          exact ⟨h1.1, by simp only [bareS, bare_ts h1.2, bare_ns h1.2, bare_o h1.2]⟩
end Gm
end Go.Proofs.YtdpfmmbfidknfaaGreatDoor


/- The tree of tokens does not hang on places. -/
namespace Go.Proofs.YtdpfmmbfidknfaaGreatDoor
namespace Gm
variable {e e' : PM Nat}
theorem bare_getD {l l' : List Nd} (h : l.map bareN = l'.map bareN) (i : Nat) (d : Nd) : bareN (l.getD i d) = bareN (l'.getD i d) := by
  have h1 : (l.map bareN)[i]? = (l'.map bareN)[i]? := by rw [h]
  rw [List.getElem?_map, List.getElem?_map] at h1
  rw [List.getD_eq_getElem?_getD, List.getD_eq_getElem?_getD]
  cases h2 : l[i]? with
  | none =>
    rw [h2] at h1
    cases h3 : l'[i]? with
    | none => rfl
    | some n => rw [h3] at h1; cases h1
  | some m =>
    rw [h2] at h1
    cases h3 : l'[i]? with
    | none => rw [h3] at h1; cases h1
    | some n => rw [h3] at h1; exact Option.some.inj h1
theorem bareN_x {m n : Nd} (h : bareN m = bareN n) : m.x = n.x := by
  have h2 : (bareN m).x = (bareN n).x := by rw [h]
  exact h2
theorem bareN_n {m n : Nd} (h : bareN m = bareN n) : m.n = n.n := by
  have h2 : (bareN m).n = (bareN n).n := by rw [h]
  exact h2
theorem bareN_l {m n : Nd} (h : bareN m = bareN n) : m.l = n.l := by
  have h2 : (bareN m).l = (bareN n).l := by rw [h]
  exact h2
theorem bl_function (he : Bl Eq e e') : Bl Eq (functionOf e) (functionOf e') :=
  bl_bind bl_here fun t t' _ => bl_bind (bl_clauses (bl_fclause he)) fun c _ h => by
    subst h
    exact bl_bind (bl_need _) fun _ _ _ => fun s s' hs => by
      have hc := bareN_l (bare_getD (bare_ns hs) c ⟨0, ⟨#[]⟩, 0, 0, [], 0⟩)
      have hf := bare_getD (bare_ns hs) ((s'.ns.getD c ⟨0, ⟨#[]⟩, 0, 0, [], 0⟩).l.headD 0) ⟨0, ⟨#[]⟩, 0, 0, [], 0⟩
      simp only [hc]
      exact bl_lay (by simp only [bareN, bareN_x hf, bareN_n hf]) s s' hs
theorem bl_functions (he : Bl Eq e e') : ∀ k l, Bl Eq (functions e k l) (functions e' k l)
  | 0, _ => bl_pure rfl
  | k + 1, l => bl_bind bl_here fun _ _ ht => bl_ite (by rw [ht.k]) (bl_pure rfl) (bl_bind (bl_function he) fun _ _ h => by subst h; exact bl_functions he k _)
theorem bl_module (he : Bl Eq e e') : Bl Eq (module e) (module e') :=
  bl_bind bl_here fun _ _ _ => bl_bind (bl_need _) fun _ _ _ => bl_bind bl_here fun _ _ hu => bl_if (TkS_isA hu _) (bl_bind bl_next fun _ _ _ => bl_bind (bl_need _) fun _ _ _ => bl_bind (bl_needK _) fun _ _ hn => bl_bind (bl_need _) fun _ _ _ => bl_bind (bl_need _) fun _ _ _ => bl_bind bl_left fun _ _ h => by subst h; exact bl_bind (bl_functions he _ _) fun _ _ h => by subst h; exact bl_lay (by simp only [bareN, hn.x])) (bl_giveUp _)
end Gm
/-- Tokens that are the same but for places make trees that are the same but for places, or faults of one number. -/
theorem tree_blind (ts ts' : List Tk) (h : ts.map bareT = ts'.map bareT) : RR Eq (Gm.module (Gm.expr 201) ⟨ts, [], 0⟩) (Gm.module (Gm.expr 201) ⟨ts', [], 0⟩) :=
  Gm.bl_module (Gm.bl_expr 201) _ _ (by simp only [bareS, h])
end Go.Proofs.YtdpfmmbfidknfaaGreatDoor


