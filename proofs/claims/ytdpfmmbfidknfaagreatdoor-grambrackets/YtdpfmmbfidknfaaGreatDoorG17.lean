import Derived.Test.YtdpfmmbfidknfaaGreatDoorG14
import Derived.Test.YtdpfmmbfidknfaaGreatDoorG16
/- An expression does not hang on what stands behind, nor on how deep it stands, unless it is too deep. -/
namespace Go.Proofs.YtdpfmmbfidknfaaGreatDoor
namespace Gm
section
variable {c1 c2 : Tk} {R1 R2 : List Tk} {c : Nat} {e e' : PM Nat}

theorem bad_isM {s : PS} (hk : (hd s).x = ⟨#[125]⟩) {w : ByteArray} (hw : w.data.toList ≠ [125]) : isM (hd s) w = false := isM_x (by rw [hk]; exact fun h => hw (by rw [← h]))
theorem unary_bad {s : PS} (hk : (hd s).k = 6) (hx : (hd s).x = ⟨#[125]⟩) : ∃ er, unary e s = .error er := by
  unfold unary
  rw [left_b, run_b (signs_no (bad_isM hx (by decide)) (bad_isM hx (by decide)) _ _)]
  refine bind_error ?_
  unfold call
  rw [here_b]
  exact bind_error (called_bad hk hx)
theorem mul_bad {s : PS} (hk : (hd s).k = 6) (hx : (hd s).x = ⟨#[125]⟩) : ∃ er, mul e s = .error er := by
  unfold mul
  rw [here_b]
  exact bind_error (unary_bad hk hx)
theorem add_bad {s : PS} (hk : (hd s).k = 6) (hx : (hd s).x = ⟨#[125]⟩) : ∃ er, add e s = .error er := by
  unfold add
  rw [here_b]
  exact bind_error (mul_bad hk hx)
theorem right_bad {m : PM Nat} {w : ByteArray} {s : PS} (h : ∃ er, m s = .error er) : ∃ er, right m w s = .error er := by
  unfold right
  rw [left_b]
  cases s.ts.length with
  | zero => exact h
  | succ k =>
    simp only [rightward]
    rw [here_b]
    exact bind_error h
theorem opened_bad {s : PS} (hk : (hd s).k = 6) (hx : (hd s).x = ⟨#[125]⟩) : ∃ er, opened e s = .error er := by
  unfold opened
  rw [here_b, take_no (bad_isM hx (by decide)), if_neg (by simp)]
  refine bind_error (right_bad (right_bad ?_))
  unfold compare
  rw [here_b]
  exact bind_error (right_bad (add_bad hk hx))
theorem expr_bad (i : Nat) {s : PS} (hk : (hd s).k = 6) (hx : (hd s).x = ⟨#[125]⟩) : ∃ er, expr (i + 1) s = .error er := by
  rw [expr_at]
  split
  · exact ⟨_, rfl⟩
  · obtain ⟨er, h⟩ := opened_bad (e := expr i) (s := { s with o := s.o + 1 }) hk hx
    rw [h]
    exact ⟨_, rfl⟩
theorem out_deep {α β : Type} {r : α → β → Prop} {m : PM α} {x' : Except (Int × Nat) (β × PS)} {X : List Tk} {s s' : PS} (ha : All m) (hs : Rel c1 c2 R1 R2 c X s s') (hx : ∃ p, x' = .error (25, p)) : Out c1 c2 R1 R2 c r X (m s) x' := by
  intro a t ht
  obtain ⟨⟨⟨A, hA⟩, _, ho⟩, hne⟩ := ha s hs.ne a t ht
  rw [hs.ts] at hA
  rcases cut_pre hA with ⟨Y, hY, hU⟩ | hU
  · exact .inr ⟨Y, hY, hU, hne, by rw [ho, hs.o], .inl hx⟩
  · exact .inl ⟨hne, hU⟩

theorem exp_expr (tw : Twn c1 c2) (hR : R1.length ≤ R2.length) : ∀ (i c : Nat), c + (i + 1) = 201 → Exp c1 c2 R1 R2 c (expr (i + 1)) (expr i)
  | 0, c, hc => ⟨tw, hR, fun X s s' hs => by
      rw [expr_at, if_pos (by rw [hs.o]; omega)]
      exact rl_err, all_expr _, fun _ => expr_bad 0⟩
  | i + 1, c, hc => by
    have ih := exp_expr tw hR i (c + 1) (by omega)
    refine ⟨tw, hR, fun X s s' hs => ?_, all_expr _, fun _ => expr_bad (i + 1)⟩
    by_cases h2 : s'.o = 200
    · exact out_deep (all_expr _) hs ⟨_, by rw [expr_at, if_pos h2]⟩
    · rw [expr_at, expr_at, if_neg (by rw [hs.o]; omega), if_neg h2]
      have hr : Rel c1 c2 R1 R2 (c + 1) X { s with o := s.o + 1 } { s' with o := s'.o + 1 } := ⟨hs.ts, hs.ts', hs.ns, by simp only [hs.o], by simp only [hs.o'], hs.ne⟩
      have ho := rl_opened ih X _ _ hr
      intro a t ht
      cases hm : opened (expr (i + 1)) { s with o := s.o + 1 } with
      | error er => rw [hm] at ht; cases ht
      | ok q =>
        obtain ⟨a0, t0⟩ := q
        rw [hm] at ht
        simp only at ht
        obtain ⟨rfl, rfl⟩ : a0 = a ∧ ({ t0 with o := t0.o - 1 } : PS) = t := by have := Except.ok.inj ht; exact ⟨congrArg Prod.fst this, congrArg Prod.snd this⟩
        rcases ho a0 t0 hm with ⟨hne, hp⟩ | ⟨Y, hY, hts, hne, hoo, hd⟩
        · exact .inl ⟨hne, hp⟩
        · refine .inr ⟨Y, hY, hts, hne, by simp only [hoo]; omega, ?_⟩
          rcases hd with ⟨p, hp⟩ | ⟨b, t', hm', hab, hrel⟩
          · exact .inl ⟨p, by rw [hp]⟩
          · exact .inr ⟨b, { t' with o := t'.o - 1 }, by rw [hm'], hab, ⟨hrel.ts, hrel.ts', hrel.ns, by simp only [hrel.o]; omega, by simp only [hrel.o']; omega, hrel.ne⟩⟩
end
end Gm
end Go.Proofs.YtdpfmmbfidknfaaGreatDoor


/- What a module that is told says of its parts; an expression that begins with a brace. -/
namespace Go.Proofs.YtdpfmmbfidknfaaGreatDoor
namespace Gm

theorem bind_inv {α β : Type} {m : PM α} {f : α → PM β} {s u : PS} {b : β} (h : (m >>= f) s = .ok (b, u)) : ∃ a t, m s = .ok (a, t) ∧ f a t = .ok (b, u) := by
  rw [bind_at] at h
  cases hm : m s with
  | error e => rw [hm] at h; cases h
  | ok p =>
    obtain ⟨a, t⟩ := p
    rw [hm] at h
    exact ⟨a, t, rfl, h⟩
theorem lay_inv {n : Nd} {s t : PS} {a : Nat} (h : lay n s = .ok (a, t)) : a = s.ns.length ∧ t = { s with ns := s.ns ++ [n] } ∧ s.ns.length + 1 ≤ 16384 ∨ 16384 < s.ns.length := by
  unfold lay at h
  split at h
  · cases h
  · rename_i hn
    obtain ⟨rfl, rfl⟩ : s.ns.length = a ∧ ({ s with ns := s.ns ++ [n] } : PS) = t := by have := Except.ok.inj h; exact ⟨congrArg Prod.fst this, congrArg Prod.snd this⟩
    by_cases h2 : s.ns.length + 1 ≤ 16384
    · exact .inl ⟨rfl, rfl, h2⟩
    · exact .inr (by omega)
theorem lay_eq {n : Nd} {s t : PS} {a : Nat} (h : lay n s = .ok (a, t)) : a = s.ns.length ∧ t = { s with ns := s.ns ++ [n] } := by
  unfold lay at h
  split at h
  · cases h
  · have := Except.ok.inj h
    exact ⟨(congrArg Prod.fst this).symm, (congrArg Prod.snd this).symm⟩
theorem pure_eq {α : Type} {a b : α} {s t : PS} (h : (pure a : PM α) s = .ok (b, t)) : b = a ∧ t = s := by
  have := Except.ok.inj h
  exact ⟨(congrArg Prod.fst this).symm, (congrArg Prod.snd this).symm⟩
theorem lay_at (n : Nd) (s : PS) : ({ s with ns := s.ns ++ [n] } : PS).ns[s.ns.length]? = some n := by simp

theorem more_len {e : PM Nat} {most : Nat} : ∀ (k : Nat) (l l' : List Nat) (s s' : PS), more e most k l s = .ok (l', s') → (l' = l ∧ s' = s) ∨ l.length < l'.length
  | 0, l, l', s, s', h => .inl (pure_eq h)
  | k + 1, l, l', s, s', h => by
    simp only [more] at h
    by_cases hm : isM (hd s) ⟨#[44]⟩ = true
    · rw [take_y hm, if_pos rfl] at h
      split at h
      · cases h
      · obtain ⟨a, t, _, h2⟩ := bind_inv h
        right
        rcases more_len k _ _ _ _ h2 with ⟨rfl, _⟩ | h3
        · simp
        · simp at h3; omega
    · have hm' : isM (hd s) ⟨#[44]⟩ = false := by simpa using hm
      rw [take_n hm', if_neg (by simp)] at h
      exact .inl (pure_eq h)
theorem moreC_len {m : PM Nat} : ∀ (k : Nat) (l l' : List Nat) (s s' : PS), moreC m k l s = .ok (l', s') → (l' = l ∧ s' = s) ∨ l.length < l'.length
  | 0, l, l', s, s', h => .inl (pure_eq h)
  | k + 1, l, l', s, s', h => by
    simp only [moreC] at h
    by_cases hm : isM (hd s) ⟨#[59]⟩ = true
    · rw [take_y hm, if_pos rfl] at h
      obtain ⟨a, t, _, h2⟩ := bind_inv h
      right
      rcases moreC_len k _ _ _ _ h2 with ⟨rfl, _⟩ | h3
      · simp
      · simp at h3; omega
    · have hm' : isM (hd s) ⟨#[59]⟩ = false := by simpa using hm
      rw [take_n hm', if_neg (by simp)] at h
      exact .inl (pure_eq h)
theorem moreC_pre {m : PM Nat} : ∀ (k : Nat) (l l' : List Nat) (s s' : PS), moreC m k l s = .ok (l', s') → ∃ r, l' = l ++ r
  | 0, l, l', s, s', h => ⟨[], by rw [(pure_eq h).1]; simp⟩
  | k + 1, l, l', s, s', h => by
    simp only [moreC] at h
    by_cases hm : isM (hd s) ⟨#[59]⟩ = true
    · rw [take_y hm, if_pos rfl] at h
      obtain ⟨a, t, _, h2⟩ := bind_inv h
      obtain ⟨r, hr⟩ := moreC_pre k _ _ _ _ h2
      exact ⟨a :: r, by rw [hr]; simp⟩
    · have hm' : isM (hd s) ⟨#[59]⟩ = false := by simpa using hm
      rw [take_n hm', if_neg (by simp)] at h
      exact ⟨[], by rw [(pure_eq h).1]; simp⟩
theorem functions_len {e : PM Nat} : ∀ (k : Nat) (l l' : List Nat) (s s' : PS), functions e k l s = .ok (l', s') → (l' = l ∧ s' = s ∧ (k = 0 ∨ (hd s).k = 8)) ∨ l.length < l'.length
  | 0, l, l', s, s', h => .inl ⟨(pure_eq h).1, (pure_eq h).2, .inl rfl⟩
  | k + 1, l, l', s, s', h => by
    simp only [functions] at h
    rw [here_b] at h
    by_cases h8 : (hd s).k = 8
    · rw [if_pos h8] at h
      exact .inl ⟨(pure_eq h).1, (pure_eq h).2, .inr h8⟩
    · rw [if_neg h8] at h
      obtain ⟨a, t, _, h2⟩ := bind_inv h
      right
      rcases functions_len k _ _ _ _ h2 with ⟨rfl, _⟩ | h3
      · simp
      · simp at h3; omega
theorem functions_pre {e : PM Nat} : ∀ (k : Nat) (l l' : List Nat) (s s' : PS), functions e k l s = .ok (l', s') → ∃ r, l' = l ++ r
  | 0, l, l', s, s', h => ⟨[], by rw [(pure_eq h).1]; simp⟩
  | k + 1, l, l', s, s', h => by
    simp only [functions] at h
    rw [here_b] at h
    by_cases h8 : (hd s).k = 8
    · rw [if_pos h8] at h
      exact ⟨[], by rw [(pure_eq h).1]; simp⟩
    · rw [if_neg h8] at h
      obtain ⟨a, t, _, h2⟩ := bind_inv h
      obtain ⟨r, hr⟩ := functions_pre k _ _ _ _ h2
      exact ⟨a :: r, by rw [hr]; simp⟩

/-- A node that is no tuple. -/
def NoT (a : Nat) (t : PS) : Prop := ∃ n, t.ns[a]? = some n ∧ n.k ≠ 6
theorem applied_inv {e : PM Nat} {p : Nat} : ∀ (k x : Nat) (s : PS) (a : Nat) (t : PS), applied e p k x s = .ok (a, t) → (a = x ∧ t = s) ∨ NoT a t
  | 0, x, s, a, t, h => .inl (pure_eq h)
  | k + 1, x, s, a, t, h => by
    simp only [applied] at h
    rw [here_b] at h
    split at h
    · obtain ⟨l, u, _, h2⟩ := bind_inv h
      obtain ⟨y, v, h3, h4⟩ := bind_inv h2
      obtain ⟨rfl, rfl⟩ := lay_eq h3
      right
      rcases applied_inv k _ _ _ _ h4 with ⟨rfl, rfl⟩ | h5
      · exact ⟨_, lay_at _ _, by simp⟩
      · exact h5
    · exact .inl (pure_eq h)
theorem leftward_inv {m : PM Nat} {sg : Tk → Bool} {p : Nat} : ∀ (k x : Nat) (s : PS) (a : Nat) (t : PS), leftward m sg p k x s = .ok (a, t) → (a = x ∧ t = s) ∨ NoT a t
  | 0, x, s, a, t, h => .inl (pure_eq h)
  | k + 1, x, s, a, t, h => by
    simp only [leftward] at h
    rw [here_b] at h
    split at h
    · rw [next_b] at h
      obtain ⟨y, u, _, h2⟩ := bind_inv h
      obtain ⟨z, v, h3, h4⟩ := bind_inv h2
      obtain ⟨rfl, rfl⟩ := lay_eq h3
      right
      rcases leftward_inv k _ _ _ _ h4 with ⟨rfl, rfl⟩ | h5
      · exact ⟨_, lay_at _ _, by simp⟩
      · exact h5
    · exact .inl (pure_eq h)
/-- A parser that begins with a brace: it tells that tuple, or no tuple. -/
def Top (e m : PM Nat) : Prop := ∀ s a t, (hd s).k = 6 → (hd s).x = ⟨#[123]⟩ → m s = .ok (a, t) → tuple e s = .ok (a, t) ∨ NoT a t
theorem brace_isM {s : PS} (hx : (hd s).x = ⟨#[123]⟩) {w : ByteArray} (hw : w.data.toList ≠ [123]) : isM (hd s) w = false := isM_x (by rw [hx]; exact fun h => hw (by rw [← h]))
theorem called_brace {e : PM Nat} {s : PS} (hk : (hd s).k = 6) (hx : (hd s).x = ⟨#[123]⟩) : called e s = tuple e s := by
  unfold called
  show (if _ then _ else _ : PM Nat) s = _
  rw [if_neg (by omega)]
  unfold primary
  show (if _ then _ else _ : PM Nat) s = _
  rw [if_neg (by omega), if_pos hk]
  unfold bracketed
  show (if _ then _ else _ : PM Nat) s = _
  rw [if_neg (by rw [hx]; decide), if_pos hx]
theorem top_unary (e : PM Nat) : Top e (unary e) := by
  intro s a t hk hx h
  unfold unary at h
  rw [left_b, run_b (signs_no (brace_isM hx (by decide)) (brace_isM hx (by decide)) _ _)] at h
  obtain ⟨x, u, h1, h2⟩ := bind_inv h
  obtain ⟨rfl, rfl⟩ := pure_eq h2
  unfold call at h1
  rw [here_b] at h1
  obtain ⟨y, v, h3, h4⟩ := bind_inv h1
  rw [left_b] at h4
  rcases applied_inv _ _ _ _ _ h4 with ⟨rfl, rfl⟩ | h5
  · exact .inl (by rw [← called_brace hk hx]; exact h3)
  · exact .inr h5
theorem top_left {e m : PM Nat} {sg : Tk → Bool} (hm : Top e m) : Top e (here >>= fun t => m >>= fun x => left >>= fun k => leftward m sg t.p k x) := by
  intro s a t hk hx h
  rw [here_b] at h
  obtain ⟨y, v, h3, h4⟩ := bind_inv h
  rw [left_b] at h4
  rcases leftward_inv _ _ _ _ _ h4 with ⟨rfl, rfl⟩ | h5
  · exact hm s _ _ hk hx h3
  · exact .inr h5
theorem top_right {e m : PM Nat} {w : ByteArray} (hm : Top e m) : Top e (right m w) := by
  intro s a t hk hx h
  unfold right at h
  rw [left_b] at h
  cases hl : s.ts.length with
  | zero => rw [hl] at h; exact hm s a t hk hx h
  | succ k =>
    rw [hl] at h
    simp only [rightward] at h
    rw [here_b] at h
    obtain ⟨y, v, h3, h4⟩ := bind_inv h
    by_cases hmm : isM (hd v) w = true
    · rw [take_y hmm, if_pos rfl] at h4
      obtain ⟨z, u, _, h5⟩ := bind_inv h4
      obtain ⟨rfl, rfl⟩ := lay_eq h5
      exact .inr ⟨_, lay_at _ _, by simp⟩
    · have hm' : isM (hd v) w = false := by simpa using hmm
      rw [take_n hm', if_neg (by simp)] at h4
      obtain ⟨rfl, rfl⟩ := pure_eq h4
      exact hm s _ _ hk hx h3
theorem top_compare {e : PM Nat} (hm : Top e (appends e)) : Top e (compare e) := by
  intro s a t hk hx h
  unfold compare at h
  rw [here_b] at h
  obtain ⟨y, v, h3, h4⟩ := bind_inv h
  rw [here_b] at h4
  split at h4
  · rw [next_b] at h4
    obtain ⟨z, u, _, h5⟩ := bind_inv h4
    obtain ⟨rfl, rfl⟩ := lay_eq h5
    exact .inr ⟨_, lay_at _ _, by simp⟩
  · obtain ⟨rfl, rfl⟩ := pure_eq h4
    exact hm s _ _ hk hx h3
theorem top_opened (e : PM Nat) : Top e (opened e) := by
  intro s a t hk hx h
  have ho : Top e (orelse e) := top_right (top_right (top_compare (top_right (top_left (top_left (top_unary e))))))
  unfold opened at h
  rw [here_b, take_n (brace_isM hx (by decide)), if_neg (by simp)] at h
  obtain ⟨y, v, h3, h4⟩ := bind_inv h
  by_cases h1 : isM (hd v) ⟨#[61]⟩ = true
  · rw [take_y h1, if_pos rfl] at h4
    obtain ⟨z, u, _, h5⟩ := bind_inv h4
    obtain ⟨rfl, rfl⟩ := lay_eq h5
    exact .inr ⟨_, lay_at _ _, by simp⟩
  · rw [take_n (by simpa using h1), if_neg (by simp)] at h4
    by_cases h2 : isM (hd v) ⟨#[33]⟩ = true
    · rw [take_y h2, if_pos rfl] at h4
      obtain ⟨z, u, _, h5⟩ := bind_inv h4
      obtain ⟨rfl, rfl⟩ := lay_eq h5
      exact .inr ⟨_, lay_at _ _, by simp⟩
    · rw [take_n (by simpa using h2), if_neg (by simp)] at h4
      obtain ⟨rfl, rfl⟩ := pure_eq h4
      exact ho s _ _ hk hx h3
/-- One level: what the levels above make of it, if what stands behind goes on with nothing. -/
theorem opened_of {e : PM Nat} {s t : PS} {a : Nat} (h : called e s = .ok (a, t)) (h1 : isM (hd s) ⟨#[99, 97, 116, 99, 104]⟩ = false) (h2 : isM (hd s) ⟨#[45]⟩ = false) (h3 : isM (hd s) ⟨#[110, 111, 116]⟩ = false) (ht : NoOp 0 (hd t)) (hp : 0 < s.ts.length) : opened e s = .ok (a, t) := by
  have hc : call e s = .ok (a, t) := by
    unfold call
    rw [here_b, run_b h, left_b]
    exact applied_no ht.b _ _ _
  have hu : unary e s = .ok (a, t) := by
    unfold unary
    rw [left_b, run_b (signs_no h2 h3 _ _), run_b hc]
    rfl
  have hl : ∀ (m : PM Nat) (sg : Tk → Bool), m s = .ok (a, t) → sg (hd t) = false → (here >>= fun t => m >>= fun x => left >>= fun k => leftward m sg t.p k x : PM Nat) s = .ok (a, t) := by
    intro m sg hm hs
    rw [here_b, run_b hm, left_b]
    cases t.ts.length with
    | zero => rfl
    | succ k =>
      simp only [leftward]
      rw [here_b, if_neg (by rw [hs]; simp)]
      rfl
  have hr : ∀ (m : PM Nat) (w : ByteArray), m s = .ok (a, t) → isM (hd t) w = false → right m w s = .ok (a, t) := by
    intro m w hm hs
    unfold right
    rw [left_b]
    obtain ⟨k, hk⟩ : ∃ k, s.ts.length = k + 1 := ⟨s.ts.length - 1, by omega⟩
    rw [hk]
    simp only [rightward]
    rw [here_b, run_b hm, take_n hs, if_neg (by simp)]
    rfl
  have ha := hr (add e) _ (hl (mul e) _ (hl (unary e) _ hu (ht.m (by omega))) (ht.a (by omega))) (ht.c (by omega))
  have hq : compare e s = .ok (a, t) := by
    unfold compare
    have ha' : appends e s = .ok (a, t) := ha
    rw [here_b, run_b ha', here_b, if_neg (by rw [ht.q (by omega)]; simp)]
    rfl
  have ho : orelse e s = .ok (a, t) := hr (andalso e) _ (hr (compare e) _ hq (ht.n (by omega))) (ht.r (by omega))
  unfold opened
  rw [here_b, take_n h1, if_neg (by simp), run_b ho, take_n (ht.e rfl).1, if_neg (by simp), take_n (ht.e rfl).2, if_neg (by simp)]
  rfl
theorem bind_er {α β : Type} {m : PM α} {f : α → PM β} {s : PS} {er : Int × Nat} (h : m s = .error er) : (m >>= f) s = .error er := by rw [bind_at, h]
/-- A fault of the first part is the whole's. -/
theorem opened_er {e : PM Nat} {s : PS} {er : Int × Nat} (h : called e s = .error er) (h1 : isM (hd s) ⟨#[99, 97, 116, 99, 104]⟩ = false) (h2 : isM (hd s) ⟨#[45]⟩ = false) (h3 : isM (hd s) ⟨#[110, 111, 116]⟩ = false) : opened e s = .error er := by
  have hc : call e s = .error er := by
    unfold call
    rw [here_b]
    exact bind_er h
  have hu : unary e s = .error er := by
    unfold unary
    rw [left_b, run_b (signs_no h2 h3 _ _)]
    exact bind_er hc
  have hl : ∀ (m : PM Nat) (sg : Tk → Bool), m s = .error er → (here >>= fun t => m >>= fun x => left >>= fun k => leftward m sg t.p k x : PM Nat) s = .error er := by
    intro m sg hm
    rw [here_b]
    exact bind_er hm
  have hr : ∀ (m : PM Nat) (w : ByteArray), m s = .error er → right m w s = .error er := by
    intro m w hm
    unfold right
    rw [left_b]
    cases s.ts.length with
    | zero => exact hm
    | succ k =>
      simp only [rightward]
      rw [here_b]
      exact bind_er hm
  have ha : appends e s = .error er := hr (add e) _ (hl (mul e) _ (hl (unary e) _ hu))
  have hq : compare e s = .error er := by
    unfold compare
    rw [here_b]
    exact bind_er ha
  have ho : orelse e s = .error er := hr (andalso e) _ (hr (compare e) _ hq)
  unfold opened
  rw [here_b, take_n h1, if_neg (by simp)]
  exact bind_er ho
end Gm
end Go.Proofs.YtdpfmmbfidknfaaGreatDoor


