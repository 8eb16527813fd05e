import Derived.Test.YtdpfmmbfidknfaaGreatDoorG13
/- The rules of an expression do not hang on what stands behind. -/
namespace Go.Proofs.YtdpfmmbfidknfaaGreatDoor
namespace Gm
section
variable {c1 c2 : Tk} {R1 R2 : List Tk} {c : Nat} {e e' : PM Nat}

theorem fine_of {w : ByteArray} (h : w.data.toList ≠ [125] ∧ w.data.toList ≠ [41]) : Fine w := ⟨fun e => h.1 (by rw [e]), fun e => h.2 (by rw [e])⟩
/-- What an expression's parser must be like. -/
structure Exp (c1 c2 : Tk) (R1 R2 : List Tk) (c : Nat) (e e' : PM Nat) : Prop where
  tw : Twn c1 c2
  len : R1.length ≤ R2.length
  rl : Rl c1 c2 R1 R2 c Eq e e'
  all : All e
  bad : ∀ s, (hd s).k = 6 → (hd s).x = ⟨#[125]⟩ → ∃ er, e s = .error er

theorem out_past {α β : Type} {r : α → β → Prop} {X : List Tk} {x : Except (Int × Nat) (α × PS)} {x' : Except (Int × Nat) (β × PS)} (h : ∀ a t, x = .ok (a, t) → Past R1 t) : Out c1 c2 R1 R2 c r X x x' := fun a t ht => .inl (h a t ht)
theorem past_bind {α β : Type} {m : PM α} {f : α → PM β} {s : PS} (h : ∀ a t, m s = .ok (a, t) → Past R1 t) (hf : ∀ a, All (f a)) : ∀ b u, (m >>= f) s = .ok (b, u) → Past R1 u := by
  intro b u hb
  rw [bind_at] at hb
  cases hm : m s with
  | error e => rw [hm] at hb; cases hb
  | ok p =>
    obtain ⟨a, t⟩ := p
    rw [hm] at hb
    obtain ⟨hne, Z, hZ⟩ := h a t hm
    obtain ⟨⟨⟨A, hA⟩, _, _⟩, hne'⟩ := hf a t hne b u hb
    exact ⟨hne', Z ++ A, by rw [hZ, hA, List.append_assoc]⟩
theorem out_error {α β : Type} {r : α → β → Prop} {X : List Tk} {x : Except (Int × Nat) (α × PS)} {x' : Except (Int × Nat) (β × PS)} (h : ∃ er, x = .error er) : Out c1 c2 R1 R2 c r X x x' := by
  obtain ⟨er, rfl⟩ := h
  exact rl_err
theorem bind_error {α β : Type} {m : PM α} {f : α → PM β} {s : PS} (h : ∃ er, m s = .error er) : ∃ er, (m >>= f) s = .error er := by
  obtain ⟨er, h⟩ := h
  exact ⟨er, by rw [bind_at, h]⟩
theorem Exp.err (h : Exp c1 c2 R1 R2 c e e') {s s' : PS} (hs : Rel c1 c2 R1 R2 c [] s s') : ∃ er, e s = .error er := by
  have hh : hd s = c1 := by unfold hd; rw [hs.ts]; rfl
  exact h.bad s (by rw [hh]; exact h.tw.k1) (by rw [hh]; exact h.tw.x1)
theorem take_y {β : Type} {w : ByteArray} {f : Bool → PM β} {s : PS} (h : isM (hd s) w = true) : (take w >>= f) s = f true (cut s) := by
  rw [bind_at]; unfold take; rw [if_pos h]
theorem take_n {β : Type} {w : ByteArray} {f : Bool → PM β} {s : PS} (h : isM (hd s) w = false) : (take w >>= f) s = f false s := by
  rw [bind_at]; unfold take; rw [if_neg (by rw [h]; simp)]
/-- A sign that stands there: it is none of the brackets. -/
theorem rel_sign (tw : Twn c1 c2) {w : ByteArray} (hw : Fine w) {X : List Tk} {s s' : PS} (hs : Rel c1 c2 R1 R2 c X s s') (h : isM (hd s) w = true) : ∃ t Y, X = t :: Y ∧ isM (hd s') w = true ∧ hd s = t ∧ hd s' = t ∧ Rel c1 c2 R1 R2 c Y (cut s) (cut s') := by
  rcases rel_hd hs with ⟨t, Y, hX, h1, h2⟩ | ⟨_, h1, h2⟩
  · exact ⟨t, Y, hX, by rw [h2, ← h1]; exact h, h1, h2, rel_cut hs hX (by rw [h1] at h; exact isM_k h)⟩
  · rw [h1, (tw_isM tw hw).1] at h; cases h

theorem rl_more (h : Exp c1 c2 R1 R2 c e e') (most : Nat) : ∀ (k k' : Nat) (l : List Nat) X s s', Rel c1 c2 R1 R2 c X s s' → X.length + R1.length < k → k ≤ k' → Out c1 c2 R1 R2 c Eq X (more e most k l s) (more e' most k' l s')
  | 0, _, _, _, _, _, _, hk, _ => by omega
  | k + 1, k', l, X, s, s', hs, hk, hkk => by
    obtain ⟨k', rfl⟩ : ∃ j, k' = j + 1 := ⟨k' - 1, by omega⟩
    have hw : Fine ⟨#[44]⟩ := fine_of (by decide)
    simp only [more]
    by_cases hm : isM (hd s) ⟨#[44]⟩ = true
    · obtain ⟨t, Y, hX, hm', -, -, hr⟩ := rel_sign h.tw hw hs hm
      rw [take_y hm, take_y hm', if_pos rfl, if_pos rfl]
      subst hX
      simp only [List.length_cons] at hk
      by_cases hl : l.length = most
      · rw [if_pos hl, if_pos hl]
        exact rl_err
      · rw [if_neg hl, if_neg hl]
        refine Out.weak (Y := Y) (rl_bind (h.rl Y _ _ hr) (fun _ => all_more h.all most k _) fun a b Y' t t' hab ht hY => ?_) ⟨[t], rfl⟩
        subst hab
        obtain ⟨Z, hZ⟩ := hY
        refine rl_more h most k k' _ Y' t t' ht ?_ (by omega)
        rw [hZ, List.length_append] at hk
        omega
    · have hm' : isM (hd s) ⟨#[44]⟩ = false := by simpa using hm
      rw [take_n hm', take_n (by rw [← rel_isM h.tw hw hs]; exact hm'), if_neg (by simp), if_neg (by simp)]
      exact rl_pure rfl X s s' hs
theorem rl_exprs (h : Exp c1 c2 R1 R2 c e e') (most : Nat) : Rl c1 c2 R1 R2 c Eq (exprs e most) (exprs e' most) := fun X s s' hs =>
  rl_bind (h.rl X s s' hs) (fun _ => all_bind all_left fun _ => all_more h.all _ _ _) fun a b Y t t' hab ht _ => by
    subst hab
    obtain ⟨l1, l2⟩ := rel_len ht
    show Out c1 c2 R1 R2 c Eq Y (more e most t.ts.length [a] t) (more e' most t'.ts.length [a] t')
    exact rl_more h most _ _ _ Y t t' ht (by omega) (by have := h.len; omega)
theorem exprs_err (h : Exp c1 c2 R1 R2 c e e') (most : Nat) {s s' : PS} (hs : Rel c1 c2 R1 R2 c [] s s') : ∃ er, exprs e most s = .error er := bind_error (h.err hs)
theorem rl_group (h : Exp c1 c2 R1 R2 c e e') (k : Int) : Rl c1 c2 R1 R2 c Eq (group e k) (group e' k) :=
  rl_place h.tw (f := fun p => exprs e noBound >>= fun l => lay ⟨k, ⟨#[]⟩, 0, 0, l, p⟩) (f' := fun p => exprs e' noBound >>= fun l => lay ⟨k, ⟨#[]⟩, 0, 0, l, p⟩) fun p => rl_then (rl_exprs h _) (fun _ => all_lay _) fun a b hab => by subst hab; exact rl_lay _
theorem rl_body (h : Exp c1 c2 R1 R2 c e e') : Rl c1 c2 R1 R2 c Eq (body e) (body e') := rl_group h _
theorem rl_layNone (tw : Twn c1 c2) (k : Int) : Rl c1 c2 R1 R2 c Eq (layNone k) (layNone k) := rl_place tw (f := fun p => lay ⟨k, ⟨#[]⟩, 0, 0, [], p⟩) (f' := fun p => lay ⟨k, ⟨#[]⟩, 0, 0, [], p⟩) fun _ => rl_lay _
theorem rl_guard (h : Exp c1 c2 R1 R2 c e e') : Rl c1 c2 R1 R2 c Eq (Gm.guard e) (Gm.guard e') :=
  rl_then (rl_take h.tw (fine_of (by decide))) (fun _ => all_ite (all_group h.all _) (all_layNone _)) fun a b hab => by subst hab; exact rl_ite (rl_group h _) (rl_layNone h.tw _)
theorem rl_args2 (h : Exp c1 c2 R1 R2 c e e') : Rl c1 c2 R1 R2 c Eq (take ⟨#[41]⟩ >>= fun b => if b then pure [] else exprs e 16 >>= fun l => need ⟨#[41]⟩ >>= fun _ => pure l : PM (List Nat)) (take ⟨#[41]⟩ >>= fun b => if b then pure [] else exprs e' 16 >>= fun l => need ⟨#[41]⟩ >>= fun _ => pure l : PM (List Nat)) := by
  intro X s s' hs
  rcases rel_hd hs with ⟨t, Y, hX, h1, h2⟩ | ⟨hX, h1, h2⟩
  · by_cases hm : isM t ⟨#[41]⟩ = true
    · rw [take_y (by rw [h1]; exact hm), take_y (by rw [h2]; exact hm), if_pos rfl, if_pos rfl]
      exact (rl_pure rfl Y _ _ (rel_cut hs hX (isM_k hm))).weak ⟨[t], hX⟩
    · have hm' : isM t ⟨#[41]⟩ = false := by simpa using hm
      rw [take_n (by rw [h1]; exact hm'), take_n (by rw [h2]; exact hm'), if_neg (by simp), if_neg (by simp)]
      exact rl_then (rl_exprs h _) (fun _ => all_bind (all_need _) fun _ => all_pure _) (fun a b hab => by subst hab; exact rl_then (rl_shut h.tw _) (fun _ => all_pure _) fun _ _ _ => rl_pure rfl) X s s' hs
  · subst hX
    rw [take_n (by rw [h1]; exact isM_x (by rw [h.tw.x1]; decide)), if_neg (by simp)]
    exact out_error (bind_error (exprs_err h _ hs))
theorem all_args2 (he : All e) : All (take ⟨#[41]⟩ >>= fun b => if b then pure [] else exprs e 16 >>= fun l => need ⟨#[41]⟩ >>= fun _ => pure l : PM (List Nat)) := all_bind (all_take _) fun _ => all_ite (all_pure _) (all_bind (all_exprs he _) fun _ => all_bind (all_need _) fun _ => all_pure _)
theorem rl_args (h : Exp c1 c2 R1 R2 c e e') : Rl c1 c2 R1 R2 c Eq (args e) (args e') := rl_then (rl_need h.tw (fine_of (by decide))) (fun _ => all_args2 h.all) fun _ _ _ => rl_args2 h
theorem need_y {β : Type} {w : ByteArray} {f : Unit → PM β} {s : PS} (h : isM (hd s) w = true) : (need w >>= f) s = f () (cut s) := by
  rw [bind_at]; unfold need; rw [if_pos h]
/-- Arguments go over their bracket. -/
theorem rl_argsY (h : Exp c1 c2 R1 R2 c e e') {X : List Tk} {s s' : PS} (hs : Rel c1 c2 R1 R2 c X s s') (hm : isM (hd s) ⟨#[40]⟩ = true) : ∃ t Y, X = t :: Y ∧ Out c1 c2 R1 R2 c Eq Y (args e s) (args e' s') := by
  obtain ⟨t, Y, hX, hm', -, -, hr⟩ := rel_sign h.tw (fine_of (by decide)) hs hm
  refine ⟨t, Y, hX, ?_⟩
  unfold args
  rw [need_y hm, need_y hm']
  exact rl_args2 h Y _ _ hr
theorem rl_tail (h : Exp c1 c2 R1 R2 c e e') (p : Nat) (x : ByteArray) (l : List Nat) : Rl c1 c2 R1 R2 c Eq (tail e p x l) (tail e' p x l) :=
  rl_then (rl_guard h) (fun _ => all_bind (all_need _) fun _ => all_bind (all_body h.all) fun _ => all_lay _) fun a b hab => by
    subst hab
    exact rl_then (rl_need h.tw (fine_of (by decide))) (fun _ => all_bind (all_body h.all) fun _ => all_lay _) fun _ _ _ => rl_then (rl_body h) (fun _ => all_lay _) fun a b hab => by subst hab; exact rl_lay _
theorem rl_gclause (h : Exp c1 c2 R1 R2 c e e') : Rl c1 c2 R1 R2 c Eq (gclause e) (gclause e') :=
  rl_place h.tw (f := fun p => args e >>= fun l => tail e p ⟨#[]⟩ l) (f' := fun p => args e' >>= fun l => tail e' p ⟨#[]⟩ l) fun p => rl_then (rl_args h) (fun _ => all_tail h.all _ _ _) fun a b hab => by subst hab; exact rl_tail h _ _ _
theorem rl_clause (h : Exp c1 c2 R1 R2 c e e') : Rl c1 c2 R1 R2 c Eq (clause e) (clause e') :=
  rl_place h.tw (f := fun p => e >>= fun x => tail e p ⟨#[]⟩ [x]) (f' := fun p => e' >>= fun x => tail e' p ⟨#[]⟩ [x]) fun p => rl_then h.rl (fun _ => all_tail h.all _ _ _) fun a b hab => by subst hab; exact rl_tail h _ _ _
theorem rl_leaf {X Y : List Tk} {t : Tk} {s s' : PS} (hs : Rel c1 c2 R1 R2 c X s s') (hX : X = t :: Y) (h8 : t.k ≠ 8) : Out c1 c2 R1 R2 c Eq X (leaf s) (leaf s') :=
  rl_bind (rl_next hs hX h8) (fun _ => all_lay _) fun a b Y t t' hab ht _ => by obtain ⟨rfl, rfl⟩ := hab; exact rl_lay _ Y t t' ht
theorem rel_hd2 (tw : Twn c1 c2) {w : ByteArray} (hw : Fine w) {X Y : List Tk} {t : Tk} {s s' : PS} (hs : Rel c1 c2 R1 R2 c X s s') (hX : X = t :: Y) : isM (hd2 s) w = isM (hd2 s') w := by
  subst hX
  unfold hd2
  rw [hs.ts, hs.ts']
  cases Y with
  | nil => exact (tw_isM tw hw).1.trans (tw_isM tw hw).2.symm
  | cons u Y => rfl
theorem rl_cls (tw : Twn c1 c2) : Rl c1 c2 R1 R2 c Eq cls cls := by
  intro X s s' hs
  unfold cls
  show Out c1 c2 R1 R2 c Eq X ((if ((hd s).k = 1 ∨ (hd s).k = 2) ∧ isM (hd2 s) ⟨#[58]⟩ = true then (if isClass (hd s) then (leaf >>= fun x => need ⟨#[58]⟩ >>= fun _ => pure x) else giveUp 24) else lay ⟨3, ⟨#[116, 104, 114, 111, 119]⟩, 0, 0, [], (hd s).p⟩ : PM Nat) s)
    ((if ((hd s').k = 1 ∨ (hd s').k = 2) ∧ isM (hd2 s') ⟨#[58]⟩ = true then (if isClass (hd s') then (leaf >>= fun x => need ⟨#[58]⟩ >>= fun _ => pure x) else giveUp 24) else lay ⟨3, ⟨#[116, 104, 114, 111, 119]⟩, 0, 0, [], (hd s').p⟩ : PM Nat) s')
  rcases rel_hd hs with ⟨t, Y, hX, h1, h2⟩ | ⟨hX, h1, h2⟩
  · rw [← rel_hd2 tw (fine_of (by decide)) hs hX, h1, h2]
    by_cases hc : (t.k = 1 ∨ t.k = 2) ∧ isM (hd2 s) ⟨#[58]⟩ = true
    · rw [if_pos hc]
      by_cases hk : isClass t = true
      · rw [if_pos hk]
        exact rl_bind (rl_leaf hs hX (by omega)) (fun _ => all_bind (all_need _) fun _ => all_pure _) fun a b Y t t' hab ht _ => by
          subst hab
          exact rl_then (rl_need tw (fine_of (by decide))) (fun _ => all_pure _) (fun _ _ _ => rl_pure rfl) Y t t' ht
      · rw [if_neg hk]; exact rl_err
    · rw [if_neg hc]
      exact rl_lay _ X s s' hs
  · rw [h1, h2, if_neg (by rw [tw.k1]; omega), if_neg (by rw [tw.k2]; omega), tw.p]
    exact rl_lay _ X s s' hs
theorem rl_cclause (h : Exp c1 c2 R1 R2 c e e') : Rl c1 c2 R1 R2 c Eq (cclause e) (cclause e') :=
  rl_place h.tw (f := fun p => cls >>= fun c => e >>= fun x => tail e p ⟨#[]⟩ [c, x]) (f' := fun p => cls >>= fun c => e' >>= fun x => tail e' p ⟨#[]⟩ [c, x]) fun p =>
    rl_then (rl_cls h.tw) (fun _ => all_bind h.all fun _ => all_tail h.all _ _ _) fun a b hab => by
      subst hab
      exact rl_then h.rl (fun _ => all_tail h.all _ _ _) fun a b hab => by subst hab; exact rl_tail h _ _ _
theorem rl_moreC (tw : Twn c1 c2) {m m' : PM Nat} (hm : Rl c1 c2 R1 R2 c Eq m m') (ha : All m) : ∀ (k k' : Nat) (l : List Nat) X s s', Rel c1 c2 R1 R2 c X s s' → X.length + R1.length < k → k ≤ k' → Out c1 c2 R1 R2 c Eq X (moreC m k l s) (moreC m' k' l s')
  | 0, _, _, _, _, _, _, hk, _ => by omega
  | k + 1, k', l, X, s, s', hs, hk, hkk => by
    obtain ⟨k', rfl⟩ : ∃ j, k' = j + 1 := ⟨k' - 1, by omega⟩
    have hw : Fine ⟨#[59]⟩ := fine_of (by decide)
    simp only [moreC]
    by_cases hmm : isM (hd s) ⟨#[59]⟩ = true
    · obtain ⟨t, Y, hX, hm', -, -, hr⟩ := rel_sign tw hw hs hmm
      rw [take_y hmm, take_y hm', if_pos rfl, if_pos rfl]
      subst hX
      simp only [List.length_cons] at hk
      refine Out.weak (Y := Y) (rl_bind (hm Y _ _ hr) (fun _ => all_moreC ha k _) fun a b Y' t t' hab ht hY => ?_) ⟨[t], rfl⟩
      subst hab
      obtain ⟨Z, hZ⟩ := hY
      refine rl_moreC tw hm ha k k' _ Y' t t' ht ?_ (by omega)
      rw [hZ, List.length_append] at hk
      omega
    · have hm' : isM (hd s) ⟨#[59]⟩ = false := by simpa using hmm
      rw [take_n hm', take_n (by rw [← rel_isM tw hw hs]; exact hm'), if_neg (by simp), if_neg (by simp)]
      exact rl_pure rfl X s s' hs
theorem rl_clauses (tw : Twn c1 c2) (hR : R1.length ≤ R2.length) {m m' : PM Nat} (hm : Rl c1 c2 R1 R2 c Eq m m') (ha : All m) : Rl c1 c2 R1 R2 c Eq (clauses m) (clauses m') :=
  rl_place tw (f := fun p => m >>= fun x => left >>= fun k => moreC m k [x] >>= fun l => lay ⟨20, ⟨#[]⟩, 0, 0, l, p⟩) (f' := fun p => m' >>= fun x => left >>= fun k => moreC m' k [x] >>= fun l => lay ⟨20, ⟨#[]⟩, 0, 0, l, p⟩) fun p =>
    rl_then hm (fun _ => all_bind all_left fun _ => all_bind (all_moreC ha _ _) fun _ => all_lay _) fun a b hab => by
      subst hab
      intro Y t t' ht
      obtain ⟨l1, l2⟩ := rel_len ht
      show Out c1 c2 R1 R2 c Eq Y ((moreC m t.ts.length [a] >>= fun l => lay ⟨20, ⟨#[]⟩, 0, 0, l, p⟩) t) ((moreC m' t'.ts.length [a] >>= fun l => lay ⟨20, ⟨#[]⟩, 0, 0, l, p⟩) t')
      exact rl_bind (rl_moreC tw hm ha _ _ _ Y t t' ht (by omega) (by omega)) (fun _ => all_lay _) fun a b Y t t' hab ht _ => by subst hab; exact rl_lay _ Y t t' ht
theorem rl_clausesBehind (h : Exp c1 c2 R1 R2 c e e') {w : ByteArray} (hw : Fine w) {m m' : PM Nat} (hm : Rl c1 c2 R1 R2 c Eq m m') (ha : All m) : Rl c1 c2 R1 R2 c Eq (clausesBehind w m) (clausesBehind w m') :=
  rl_then (rl_take h.tw hw) (fun _ => all_ite (all_clauses ha) (all_layNone _)) fun a b hab => by subst hab; exact rl_ite (rl_clauses h.tw h.len hm ha) (rl_layNone h.tw _)
end
end Gm
end Go.Proofs.YtdpfmmbfidknfaaGreatDoor


/- The rest of the rules: words, brackets, calls, operators. -/
namespace Go.Proofs.YtdpfmmbfidknfaaGreatDoor
namespace Gm
section
variable {c1 c2 : Tk} {R1 R2 : List Tk} {c : Nat} {e e' : PM Nat}

/-- A step that begins with a token that is none of the brackets. -/
def RlT {α β : Type} (c1 c2 : Tk) (R1 R2 : List Tk) (c : Nat) (r : α → β → Prop) (m : PM α) (m' : PM β) : Prop := ∀ X Y t s s', Rel c1 c2 R1 R2 c X s s' → X = t :: Y → t.k ≠ 8 → Out c1 c2 R1 R2 c r X (m s) (m' s')
theorem rlT_next {α β : Type} {r : α → β → Prop} {f : Tk → PM α} {f' : Tk → PM β} (ha : ∀ t, All (f t)) (h : ∀ t, Rl c1 c2 R1 R2 c r (f t) (f' t)) : RlT c1 c2 R1 R2 c r (next >>= f) (next >>= f') := fun _ _ _ _ _ hs hX h8 =>
  rl_bind (rl_next hs hX h8) ha fun a b Y t t' hab ht _ => by obtain ⟨rfl, rfl⟩ := hab; exact h _ Y t t' ht

theorem rl_begin (h : Exp c1 c2 R1 R2 c e e') : RlT c1 c2 R1 R2 c Eq (begin e) (begin e') :=
  rlT_next (fun _ => all_bind (all_exprs h.all _) fun _ => all_bind (all_need _) fun _ => all_lay _) fun _ => rl_then (rl_exprs h _) (fun _ => all_bind (all_need _) fun _ => all_lay _) fun a b hab => by
    subst hab
    exact rl_then (rl_need h.tw (fine_of (by decide))) (fun _ => all_lay _) fun _ _ _ => rl_lay _
theorem rl_choice (h : Exp c1 c2 R1 R2 c e e') : RlT c1 c2 R1 R2 c Eq (choice e) (choice e') :=
  rlT_next (fun _ => all_bind h.all fun _ => all_bind (all_need _) fun _ => all_bind (all_clauses (all_clause h.all)) fun _ => all_bind (all_need _) fun _ => all_lay _) fun _ =>
    rl_then h.rl (fun _ => all_bind (all_need _) fun _ => all_bind (all_clauses (all_clause h.all)) fun _ => all_bind (all_need _) fun _ => all_lay _) fun a b hab => by
      subst hab
      exact rl_then (rl_need h.tw (fine_of (by decide))) (fun _ => all_bind (all_clauses (all_clause h.all)) fun _ => all_bind (all_need _) fun _ => all_lay _) fun _ _ _ =>
        rl_then (rl_clauses h.tw h.len (rl_clause h) (all_clause h.all)) (fun _ => all_bind (all_need _) fun _ => all_lay _) fun a b hab => by
          subst hab
          exact rl_then (rl_need h.tw (fine_of (by decide))) (fun _ => all_lay _) fun _ _ _ => rl_lay _
theorem rl_fault {α β : Type} {r : α → β → Prop} (e e' : Int) (p p' : Nat) : Rl c1 c2 R1 R2 c r (fault e p : PM α) (fault e' p' : PM β) := fun _ _ _ _ => rl_err
theorem rl_funName (tw : Twn c1 c2) (p : Nat) : RlT c1 c2 R1 R2 c Eq (funName p) (funName p) :=
  rlT_next (fun _ => all_bind (all_need _) fun _ => all_bind (all_needK (by omega)) fun _ => all_ite (all_fault _ _) (all_lay _)) fun _ =>
    rl_then (rl_need tw (fine_of (by decide))) (fun _ => all_bind (all_needK (by omega)) fun _ => all_ite (all_fault _ _) (all_lay _)) fun _ _ _ =>
      rl_then (rl_needK (by omega) (by omega) tw) (fun _ => all_ite (all_fault _ _) (all_lay _)) fun a b hab => by
        subst hab
        by_cases hc : 16 < a.n
        · rw [if_pos hc]; exact rl_fault _ _ _ _
        · rw [if_neg hc]; exact rl_lay _
theorem rl_fn (h : Exp c1 c2 R1 R2 c e e') : RlT c1 c2 R1 R2 c Eq (fn e) (fn e') :=
  rlT_next (fun t => all_on (fun s => good_ite (fun h => good_funName _ (by omega)) fun _ => all_bind (all_clauses (all_gclause h.all)) (fun _ => all_bind (all_need _) fun _ => all_lay _) s)) fun t => rl_on fun X s s' hs => by
    rcases rel_hd hs with ⟨u, Y, hX, h1, h2⟩ | ⟨hX, h1, h2⟩
    · rw [h1, h2]
      by_cases hk : u.k = 1
      · rw [if_pos hk, if_pos hk]
        exact rl_funName h.tw _ X Y u s s' hs hX (by omega)
      · rw [if_neg hk, if_neg hk]
        exact rl_then (rl_clauses h.tw h.len (rl_gclause h) (all_gclause h.all)) (fun _ => all_bind (all_need _) fun _ => all_lay _) (fun a b hab => by
          subst hab
          exact rl_then (rl_need h.tw (fine_of (by decide))) (fun _ => all_lay _) fun _ _ _ => rl_lay _) X s s' hs
    · rw [h1, h2, if_neg (by rw [h.tw.k1]; decide), if_neg (by rw [h.tw.k2]; decide)]
      exact rl_then (rl_clauses h.tw h.len (rl_gclause h) (all_gclause h.all)) (fun _ => all_bind (all_need _) fun _ => all_lay _) (fun a b hab => by
          subst hab
          exact rl_then (rl_need h.tw (fine_of (by decide))) (fun _ => all_lay _) fun _ _ _ => rl_lay _) X s s' hs
theorem rl_afterB (h : Exp c1 c2 R1 R2 c e e') : Rl c1 c2 R1 R2 c Eq (afterB e) (afterB e') :=
  rl_then (rl_take h.tw (fine_of (by decide))) (fun _ => all_ite (all_bind (all_body h.all) fun _ => all_pure _) (all_bind (all_layNone _) fun _ => all_pure _)) fun a b hab => by
    subst hab
    exact rl_ite (rl_then (rl_body h) (fun _ => all_pure _) fun a b hab => by subst hab; exact rl_pure rfl) (rl_then (rl_layNone h.tw _) (fun _ => all_pure _) fun a b hab => by subst hab; exact rl_pure rfl)
theorem rl_tryOf (h : Exp c1 c2 R1 R2 c e e') : RlT c1 c2 R1 R2 c Eq (tryOf e) (tryOf e') :=
  rlT_next (fun _ => all_bind (all_body h.all) fun _ => all_bind (all_clausesBehind _ (all_clause h.all)) fun _ => all_bind all_here fun _ =>
    all_bind (all_clausesBehind _ (all_cclause h.all)) fun _ => all_bind all_here fun _ => all_ite (all_bind (all_afterB h.all) fun _ => all_bind (all_need _) fun _ => all_lay _) (all_giveUp _)) fun _ =>
  rl_then (rl_body h) (fun _ => all_bind (all_clausesBehind _ (all_clause h.all)) fun _ => all_bind all_here fun _ =>
    all_bind (all_clausesBehind _ (all_cclause h.all)) fun _ => all_bind all_here fun _ => all_ite (all_bind (all_afterB h.all) fun _ => all_bind (all_need _) fun _ => all_lay _) (all_giveUp _)) fun a b hab => by
  subst hab
  refine rl_then (rl_clausesBehind h (fine_of (by decide)) (rl_clause h) (all_clause h.all)) (fun _ => all_bind all_here fun _ =>
    all_bind (all_clausesBehind _ (all_cclause h.all)) fun _ => all_bind all_here fun _ => all_ite (all_bind (all_afterB h.all) fun _ => all_bind (all_need _) fun _ => all_lay _) (all_giveUp _)) fun a b hab => ?_
  subst hab
  refine rl_on fun X s s' hs => ?_
  have h1 := rel_isM h.tw (w := ⟨#[99, 97, 116, 99, 104]⟩) (fine_of (by decide)) hs
  refine rl_bind (rl_clausesBehind h (fine_of (by decide)) (rl_cclause h) (all_cclause h.all) X s s' hs) (fun _ => all_bind all_here fun _ => all_ite (all_bind (all_afterB h.all) fun _ => all_bind (all_need _) fun _ => all_lay _) (all_giveUp _)) fun a b Y t t' hab ht _ => ?_
  subst hab
  have h2 := rel_isM h.tw (w := ⟨#[97, 102, 116, 101, 114]⟩) (fine_of (by decide)) ht
  refine rl_here ?_
  rw [← h1, ← h2]
  by_cases hc : isM (hd s) ⟨#[99, 97, 116, 99, 104]⟩ = true ∨ isM (hd t) ⟨#[97, 102, 116, 101, 114]⟩ = true
  · rw [if_pos hc, if_pos hc]
    exact rl_then (rl_afterB h) (fun _ => all_bind (all_need _) fun _ => all_lay _) (fun a b hab => by
      subst hab
      exact rl_then (rl_need h.tw (fine_of (by decide))) (fun _ => all_lay _) fun _ _ _ => rl_lay _) Y t t' ht
  · rw [if_neg hc]; exact rl_err
theorem rl_patience (tw : Twn c1 c2) : Rl c1 c2 R1 R2 c Eq patience patience := rl_on fun X s s' hs => by
  rcases rel_hd hs with ⟨u, Y, hX, h1, h2⟩ | ⟨hX, h1, h2⟩
  · rw [h1, h2]
    by_cases ha : isA u ⟨#[105, 110, 102, 105, 110, 105, 116, 121]⟩ = true
    · rw [if_pos ha]
      exact rl_bind (rl_next hs hX (isA_k ha)) (fun _ => all_pure _) fun a b Y t t' _ ht _ => rl_pure rfl Y t t' ht
    · rw [if_neg ha]
      by_cases hz : u.k = 3 ∧ u.n = 0
      · rw [if_pos hz]
        exact rl_bind (rl_next hs hX (by omega)) (fun _ => all_pure _) fun a b Y t t' _ ht _ => rl_pure rfl Y t t' ht
      · rw [if_neg hz]; exact rl_err
  · have ha : isA c1 ⟨#[105, 110, 102, 105, 110, 105, 116, 121]⟩ = false := by unfold isA; rw [decide_eq_false (by rw [tw.k1]; decide)]; rfl
    rw [h1, if_neg (by rw [ha]; simp), if_neg (by rw [tw.k1]; omega)]
    exact rl_err
theorem rl_received (h : Exp c1 c2 R1 R2 c e e') : Rl c1 c2 R1 R2 c Eq (received e) (received e') := rl_on fun X s s' hs => by
  rw [← rel_isM h.tw (w := ⟨#[97, 102, 116, 101, 114]⟩) (fine_of (by decide)) hs]
  exact rl_ite (rl_layNone h.tw _) (rl_clauses h.tw h.len (rl_clause h) (all_clause h.all)) X s s' hs
theorem rl_afterR (h : Exp c1 c2 R1 R2 c e e') : Rl c1 c2 R1 R2 c Eq (afterR e) (afterR e') :=
  rl_then (rl_take h.tw (fine_of (by decide))) (fun _ => all_ite (all_bind all_patience fun _ => all_bind (all_need _) fun _ => all_bind (all_body h.all) fun _ => all_pure _) (all_bind (all_layNone _) fun _ => all_pure _)) fun a b hab => by
    subst hab
    refine rl_ite (rl_then (rl_patience h.tw) (fun _ => all_bind (all_need _) fun _ => all_bind (all_body h.all) fun _ => all_pure _) fun a b hab => ?_) (rl_then (rl_layNone h.tw _) (fun _ => all_pure _) fun a b hab => by subst hab; exact rl_pure rfl)
    subst hab
    exact rl_then (rl_need h.tw (fine_of (by decide))) (fun _ => all_bind (all_body h.all) fun _ => all_pure _) fun _ _ _ => rl_then (rl_body h) (fun _ => all_pure _) fun a b hab => by subst hab; exact rl_pure rfl
theorem rl_receive (h : Exp c1 c2 R1 R2 c e e') : RlT c1 c2 R1 R2 c Eq (receive e) (receive e') :=
  rlT_next (fun _ => all_bind (all_received h.all) fun _ => all_bind (all_afterR h.all) fun _ => all_bind (all_need _) fun _ => all_lay _) fun _ =>
    rl_then (rl_received h) (fun _ => all_bind (all_afterR h.all) fun _ => all_bind (all_need _) fun _ => all_lay _) fun a b hab => by
      subst hab
      refine rl_then (rl_afterR h) (fun _ => all_bind (all_need _) fun _ => all_lay _) fun a b hab => ?_
      subst hab
      exact rl_then (rl_need h.tw (fine_of (by decide))) (fun _ => all_lay _) fun _ _ _ => rl_lay _
theorem rl_worded (h : Exp c1 c2 R1 R2 c e e') : RlT c1 c2 R1 R2 c Eq (worded e) (worded e') := fun X Y t s s' hs hX h8 => by
  have h1 : hd s = t := by unfold hd; rw [hs.ts, hX]; rfl
  have h2 : hd s' = t := by unfold hd; rw [hs.ts', hX]; rfl
  unfold worded
  refine rl_here ?_
  rw [h1, h2]
  by_cases a1 : t.x = ⟨#[98, 101, 103, 105, 110]⟩
  · rw [if_pos a1, if_pos a1]; exact rl_begin h X Y t s s' hs hX h8
  rw [if_neg a1, if_neg a1]
  by_cases a2 : t.x = ⟨#[99, 97, 115, 101]⟩
  · rw [if_pos a2, if_pos a2]; exact rl_choice h X Y t s s' hs hX h8
  rw [if_neg a2, if_neg a2]
  by_cases a3 : t.x = ⟨#[102, 117, 110]⟩
  · rw [if_pos a3, if_pos a3]; exact rl_fn h X Y t s s' hs hX h8
  rw [if_neg a3, if_neg a3]
  by_cases a4 : t.x = ⟨#[116, 114, 121]⟩
  · rw [if_pos a4, if_pos a4]; exact rl_tryOf h X Y t s s' hs hX h8
  rw [if_neg a4, if_neg a4]
  by_cases a5 : t.x = ⟨#[114, 101, 99, 101, 105, 118, 101]⟩
  · rw [if_pos a5, if_pos a5]; exact rl_receive h X Y t s s' hs hX h8
  rw [if_neg a5]
  exact rl_err
theorem rl_tuple (h : Exp c1 c2 R1 R2 c e e') : RlT c1 c2 R1 R2 c Eq (tuple e) (tuple e') :=
  rlT_next (fun _ => all_bind all_here (fun _ => all_ite (all_bind (all_need _) fun _ => all_lay _) (all_bind (all_exprs h.all _) fun _ => all_bind (all_need _) fun _ => all_lay _))) fun t => rl_on fun X s s' hs => by
    rcases rel_hd hs with ⟨u, Y, hX, h1, h2⟩ | ⟨hX, h1, h2⟩
    · rw [h1, h2]
      by_cases hm : isM u ⟨#[125]⟩ = true
      · rw [if_pos hm, if_pos hm]
        exact rl_then (rl_shut h.tw _) (fun _ => all_lay _) (fun _ _ _ => rl_lay _) X s s' hs
      · rw [if_neg hm, if_neg hm]
        exact rl_then (rl_exprs h _) (fun _ => all_bind (all_need _) fun _ => all_lay _) (fun a b hab => by
          subst hab
          exact rl_then (rl_shut h.tw _) (fun _ => all_lay _) fun _ _ _ => rl_lay _) X s s' hs
    · subst hX
      have hm : isM c1 ⟨#[125]⟩ = true := by unfold isM; rw [h.tw.k1, h.tw.x1]; rfl
      rw [h1, if_pos hm]
      refine out_past (past_bind (fun a u hu => ?_) fun _ => all_lay _)
      have : need ⟨#[125]⟩ s = .ok ((), cut s) := by unfold need; rw [if_pos (by rw [h1]; exact hm)]
      rw [this] at hu
      obtain rfl : cut s = u := congrArg Prod.snd (Except.ok.inj hu)
      exact past_cut hs (by rw [h.tw.k1]; decide)
theorem rl_list (h : Exp c1 c2 R1 R2 c e e') : RlT c1 c2 R1 R2 c Eq (list e) (list e') :=
  rlT_next (fun _ => all_bind all_here (fun _ => all_ite (all_bind (all_need _) fun _ => all_lay _) (all_bind (all_exprs h.all _) fun _ => all_bind (all_take _) fun _ =>
    all_ite (all_bind h.all fun _ => all_bind (all_need _) fun _ => all_lay _) (all_bind (all_need _) fun _ => all_lay _)))) fun t => rl_on fun X s s' hs => by
    rw [← rel_isM h.tw (w := ⟨#[93]⟩) (fine_of (by decide)) hs]
    refine rl_ite (rl_then (rl_need h.tw (fine_of (by decide))) (fun _ => all_lay _) fun _ _ _ => rl_lay _) (rl_then (rl_exprs h _) (fun _ => all_bind (all_take _) fun _ =>
      all_ite (all_bind h.all fun _ => all_bind (all_need _) fun _ => all_lay _) (all_bind (all_need _) fun _ => all_lay _)) fun a b hab => ?_) X s s' hs
    subst hab
    refine rl_then (rl_take h.tw (fine_of (by decide))) (fun _ => all_ite (all_bind h.all fun _ => all_bind (all_need _) fun _ => all_lay _) (all_bind (all_need _) fun _ => all_lay _)) fun a b hab => ?_
    subst hab
    exact rl_ite (rl_then h.rl (fun _ => all_bind (all_need _) fun _ => all_lay _) fun a b hab => by subst hab; exact rl_then (rl_need h.tw (fine_of (by decide))) (fun _ => all_lay _) fun _ _ _ => rl_lay _) (rl_then (rl_need h.tw (fine_of (by decide))) (fun _ => all_lay _) fun _ _ _ => rl_lay _)
theorem rl_bracketed (h : Exp c1 c2 R1 R2 c e e') : RlT c1 c2 R1 R2 c Eq (bracketed e) (bracketed e') := fun X Y t s s' hs hX h8 => by
  have h1 : hd s = t := by unfold hd; rw [hs.ts, hX]; rfl
  have h2 : hd s' = t := by unfold hd; rw [hs.ts', hX]; rfl
  unfold bracketed
  refine rl_here ?_
  rw [h1, h2]
  by_cases a1 : t.x = ⟨#[40]⟩
  · rw [if_pos a1, if_pos a1]
    exact rl_bind (rl_next hs hX h8) (fun _ => all_bind h.all fun _ => all_bind (all_need _) fun _ => all_pure _) fun a b Y t t' _ ht _ =>
      rl_then h.rl (fun _ => all_bind (all_need _) fun _ => all_pure _) (fun a b hab => by subst hab; exact rl_then (rl_shut h.tw _) (fun _ => all_pure _) fun _ _ _ => rl_pure rfl) Y t t' ht
  rw [if_neg a1, if_neg a1]
  by_cases a2 : t.x = ⟨#[123]⟩
  · rw [if_pos a2, if_pos a2]; exact rl_tuple h X Y t s s' hs hX h8
  rw [if_neg a2, if_neg a2]
  by_cases a3 : t.x = ⟨#[91]⟩
  · rw [if_pos a3, if_pos a3]; exact rl_list h X Y t s s' hs hX h8
  rw [if_neg a3]
  exact rl_err
theorem primary_bad {s : PS} (hk : (hd s).k = 6) (hx : (hd s).x = ⟨#[125]⟩) : ∃ er, primary e s = .error er := by
  refine ⟨(24, (hd s).p), ?_⟩
  unfold primary
  show (if _ then _ else _ : PM Nat) s = _
  rw [if_neg (by omega), if_pos hk]
  unfold bracketed
  show (if _ then _ else _ : PM Nat) s = _
  rw [if_neg (by rw [hx]; decide), if_neg (by rw [hx]; decide), if_neg (by rw [hx]; decide)]
  rfl
theorem rl_primary (h : Exp c1 c2 R1 R2 c e e') : Rl c1 c2 R1 R2 c Eq (primary e) (primary e') := fun X s s' hs => by
  rcases rel_hd hs with ⟨u, Y, hX, h1, h2⟩ | ⟨hX, h1, h2⟩
  · unfold primary
    refine rl_here ?_
    rw [h1, h2]
    by_cases a1 : u.k = 1 ∨ u.k = 2 ∨ u.k = 3 ∨ u.k = 4 ∨ u.k = 5
    · rw [if_pos a1, if_pos a1]; exact rl_leaf hs hX (by omega)
    rw [if_neg a1, if_neg a1]
    by_cases a2 : u.k = 6
    · rw [if_pos a2, if_pos a2]; exact rl_bracketed h X Y u s s' hs hX (by omega)
    rw [if_neg a2, if_neg a2]
    by_cases a3 : u.k = 7
    · rw [if_pos a3, if_pos a3]; exact rl_worded h X Y u s s' hs hX (by omega)
    rw [if_neg a3]
    exact rl_err
  · exact out_error (primary_bad (by rw [h1]; exact h.tw.k1) (by rw [h1]; exact h.tw.x1))
theorem called_bad {s : PS} (hk : (hd s).k = 6) (hx : (hd s).x = ⟨#[125]⟩) : ∃ er, called e s = .error er := by
  obtain ⟨er, h⟩ := primary_bad (e := e) hk hx
  refine ⟨er, ?_⟩
  unfold called
  show (if _ then _ else _ : PM Nat) s = _
  rw [if_neg (by omega)]
  exact h
theorem rl_called (h : Exp c1 c2 R1 R2 c e e') : Rl c1 c2 R1 R2 c Eq (called e) (called e') := fun X s s' hs => by
  rcases rel_hd hs with ⟨u, Y, hX, h1, h2⟩ | ⟨hX, h1, h2⟩
  · unfold called
    show Out c1 c2 R1 R2 c Eq X ((if (hd s).k = 1 ∧ isM (hd2 s) ⟨#[40]⟩ = true then (next >>= fun _ => args e >>= fun l => lay ⟨11, (hd s).x, 0, 0, l, (hd s).p⟩) else primary e : PM Nat) s) ((if (hd s').k = 1 ∧ isM (hd2 s') ⟨#[40]⟩ = true then (next >>= fun _ => args e' >>= fun l => lay ⟨11, (hd s').x, 0, 0, l, (hd s').p⟩) else primary e' : PM Nat) s')
    rw [← rel_hd2 h.tw (fine_of (by decide)) hs hX, h1, h2]
    by_cases a1 : u.k = 1 ∧ isM (hd2 s) ⟨#[40]⟩ = true
    · rw [if_pos a1, if_pos a1]
      exact rl_bind (rl_next hs hX (by omega)) (fun _ => all_bind (all_args h.all) fun _ => all_lay _) fun a b Y t t' _ ht _ =>
        rl_then (rl_args h) (fun _ => all_lay _) (fun a b hab => by subst hab; exact rl_lay _) Y t t' ht
    · rw [if_neg a1, if_neg a1]
      exact rl_primary h X s s' hs
  · exact out_error (called_bad (by rw [h1]; exact h.tw.k1) (by rw [h1]; exact h.tw.x1))
theorem rl_applied (h : Exp c1 c2 R1 R2 c e e') (p : Nat) : ∀ (k k' x : Nat) X s s', Rel c1 c2 R1 R2 c X s s' → X.length + R1.length < k → k ≤ k' → Out c1 c2 R1 R2 c Eq X (applied e p k x s) (applied e' p k' x s')
  | 0, _, _, _, _, _, _, hk, _ => by omega
  | k + 1, k', x, X, s, s', hs, hk, hkk => by
    obtain ⟨k', rfl⟩ : ∃ j, k' = j + 1 := ⟨k' - 1, by omega⟩
    simp only [applied]
    refine rl_here ?_
    rw [← rel_isM h.tw (w := ⟨#[40]⟩) (fine_of (by decide)) hs]
    by_cases hm : isM (hd s) ⟨#[40]⟩ = true
    · rw [if_pos hm, if_pos hm]
      obtain ⟨t, Y, hX, ho⟩ := rl_argsY h hs hm
      subst hX
      simp only [List.length_cons] at hk
      refine Out.weak (Y := Y) (rl_bind ho (fun _ => all_bind (all_lay _) fun _ => all_applied h.all _ _ _) fun a b Y' t t' hab ht hY => ?_) ⟨[t], rfl⟩
      subst hab
      obtain ⟨Z, hZ⟩ := hY
      refine rl_bind (rl_lay _ Y' t t' ht) (fun _ => all_applied h.all _ _ _) fun a b Y2 u u' hab hu hY2 => ?_
      subst hab
      obtain ⟨Z2, hZ2⟩ := hY2
      refine rl_applied h p k k' _ Y2 u u' hu ?_ (by omega)
      rw [hZ, hZ2, List.length_append, List.length_append] at hk
      omega
    · rw [if_neg hm, if_neg hm]
      exact rl_pure rfl X s s' hs
theorem rl_call (h : Exp c1 c2 R1 R2 c e e') : Rl c1 c2 R1 R2 c Eq (call e) (call e') :=
  rl_place h.tw (f := fun p => called e >>= fun x => left >>= fun k => applied e p k x) (f' := fun p => called e' >>= fun x => left >>= fun k => applied e' p k x) fun p =>
    rl_then (rl_called h) (fun _ => all_bind all_left fun _ => all_applied h.all _ _ _) fun a b hab => by
      subst hab
      intro Y t t' ht
      obtain ⟨l1, l2⟩ := rel_len ht
      exact rl_applied h p _ _ _ Y t t' ht (by omega) (by have := h.len; omega)
theorem rl_signs (tw : Twn c1 c2) : ∀ (k k' : Nat) (l : List Tk) X s s', Rel c1 c2 R1 R2 c X s s' → X.length + R1.length < k → k ≤ k' → Out c1 c2 R1 R2 c Eq X (signs k l s) (signs k' l s')
  | 0, _, _, _, _, _, _, hk, _ => by omega
  | k + 1, k', l, X, s, s', hs, hk, hkk => by
    obtain ⟨k', rfl⟩ : ∃ j, k' = j + 1 := ⟨k' - 1, by omega⟩
    simp only [signs]
    refine rl_here ?_
    rw [← rel_isM tw (w := ⟨#[45]⟩) (fine_of (by decide)) hs, ← rel_isM tw (w := ⟨#[110, 111, 116]⟩) (fine_of (by decide)) hs]
    by_cases hm : isM (hd s) ⟨#[45]⟩ = true ∨ isM (hd s) ⟨#[110, 111, 116]⟩ = true
    · rw [if_pos hm, if_pos hm]
      obtain ⟨t, Y, hX, h1, h2, hr⟩ : ∃ t Y, X = t :: Y ∧ hd s = t ∧ hd s' = t ∧ Rel c1 c2 R1 R2 c Y (cut s) (cut s') := by
        rcases hm with hm | hm
        · obtain ⟨t, Y, a, _, b, d, f⟩ := rel_sign tw (fine_of (by decide)) hs hm; exact ⟨t, Y, a, b, d, f⟩
        · obtain ⟨t, Y, a, _, b, d, f⟩ := rel_sign tw (fine_of (by decide)) hs hm; exact ⟨t, Y, a, b, d, f⟩
      subst hX
      simp only [List.length_cons] at hk
      show Out c1 c2 R1 R2 c Eq (t :: Y) (signs k (l ++ [hd s]) (cut s)) (signs k' (l ++ [hd s']) (cut s'))
      rw [h1, h2]
      exact (rl_signs tw k k' _ Y _ _ hr (by omega) (by omega)).weak ⟨[t], rfl⟩
    · rw [if_neg hm, if_neg hm]
      exact rl_pure rfl X s s' hs
theorem rl_layOps : ∀ (l : List Tk) (x : Nat), Rl c1 c2 R1 R2 c Eq (layOps l x) (layOps l x)
  | [], _ => rl_pure rfl
  | t :: r, x => rl_then (rl_layOps r x) (fun _ => all_op _ _ _) fun a b hab => by subst hab; exact rl_lay _
theorem rl_unary (h : Exp c1 c2 R1 R2 c e e') : Rl c1 c2 R1 R2 c Eq (unary e) (unary e') := fun X s s' hs => by
  obtain ⟨l1, l2⟩ := rel_len hs
  show Out c1 c2 R1 R2 c Eq X ((signs s.ts.length [] >>= fun l => call e >>= fun x => layOps l x) s) ((signs s'.ts.length [] >>= fun l => call e' >>= fun x => layOps l x) s')
  exact rl_bind (rl_signs h.tw _ _ _ X s s' hs (by omega) (by have := h.len; omega)) (fun _ => all_bind (all_call h.all) fun _ => all_layOps _ _) fun a b Y t t' hab ht _ => by
    subst hab
    exact rl_then (rl_call h) (fun _ => all_layOps _ _) (fun a b hab => by subst hab; exact rl_layOps _ _) Y t t' ht
theorem rl_leftward {m m' : PM Nat} (tw : Twn c1 c2) (hm : Rl c1 c2 R1 R2 c Eq m m') (ha : All m) {sg : Tk → Bool} (h1 : sg c1 = false) (h2 : sg c2 = false) (h8 : ∀ t, sg t = true → t.k ≠ 8) (p : Nat) : ∀ (k k' x : Nat) X s s', Rel c1 c2 R1 R2 c X s s' → X.length + R1.length < k → k ≤ k' → Out c1 c2 R1 R2 c Eq X (leftward m sg p k x s) (leftward m' sg p k' x s')
  | 0, _, _, _, _, _, _, hk, _ => by omega
  | k + 1, k', x, X, s, s', hs, hk, hkk => by
    obtain ⟨k', rfl⟩ : ∃ j, k' = j + 1 := ⟨k' - 1, by omega⟩
    simp only [leftward]
    refine rl_here ?_
    rcases rel_hd hs with ⟨t, Y, hX, g1, g2⟩ | ⟨hX, g1, g2⟩
    · rw [g1, g2]
      by_cases hsg : sg t = true
      · rw [if_pos hsg, if_pos hsg]
        subst hX
        simp only [List.length_cons] at hk
        have hr := rel_cut hs rfl (h8 t hsg)
        show Out c1 c2 R1 R2 c Eq (t :: Y) ((m >>= fun y => op p t.x [x, y] >>= fun z => leftward m sg p k z) (cut s)) ((m' >>= fun y => op p t.x [x, y] >>= fun z => leftward m' sg p k' z) (cut s'))
        refine Out.weak (Y := Y) (rl_bind (hm Y _ _ hr) (fun _ => all_bind (all_op _ _ _) fun _ => all_leftward ha h8 p k _) fun a b Y' u u' hab hu hY => ?_) ⟨[t], rfl⟩
        subst hab
        obtain ⟨Z, hZ⟩ := hY
        refine rl_bind (rl_lay _ Y' u u' hu) (fun _ => all_leftward ha h8 p k _) fun a b Y2 v v' hab hv hY2 => ?_
        subst hab
        obtain ⟨Z2, hZ2⟩ := hY2
        refine rl_leftward tw hm ha h1 h2 h8 p k k' _ Y2 v v' hv ?_ (by omega)
        rw [hZ, hZ2, List.length_append, List.length_append] at hk
        omega
      · rw [if_neg hsg, if_neg hsg]
        exact rl_pure rfl X s s' hs
    · rw [g1, g2, if_neg (by rw [h1]; simp), if_neg (by rw [h2]; simp)]
      exact rl_pure rfl X s s' hs
theorem tw_mul (tw : Twn c1 c2) : isMul c1 = false ∧ isMul c2 = false := by
  have f := fun (w : ByteArray) (h : w.data.toList ≠ [125] ∧ w.data.toList ≠ [41]) => tw_isM tw (fine_of h)
  unfold isMul
  rw [(f ⟨#[42]⟩ (by decide)).1, (f ⟨#[47]⟩ (by decide)).1, (f ⟨#[100, 105, 118]⟩ (by decide)).1, (f ⟨#[114, 101, 109]⟩ (by decide)).1, (f ⟨#[42]⟩ (by decide)).2, (f ⟨#[47]⟩ (by decide)).2, (f ⟨#[100, 105, 118]⟩ (by decide)).2, (f ⟨#[114, 101, 109]⟩ (by decide)).2]
  exact ⟨rfl, rfl⟩
theorem tw_add (tw : Twn c1 c2) : isAdd c1 = false ∧ isAdd c2 = false := by
  have f := fun (w : ByteArray) (h : w.data.toList ≠ [125] ∧ w.data.toList ≠ [41]) => tw_isM tw (fine_of h)
  unfold isAdd
  rw [(f ⟨#[43]⟩ (by decide)).1, (f ⟨#[45]⟩ (by decide)).1, (f ⟨#[43]⟩ (by decide)).2, (f ⟨#[45]⟩ (by decide)).2]
  exact ⟨rfl, rfl⟩
theorem tw_cmp (tw : Twn c1 c2) : isCmp c1 = false ∧ isCmp c2 = false := by
  have f := fun (w : ByteArray) (h : w.data.toList ≠ [125] ∧ w.data.toList ≠ [41]) => tw_isM tw (fine_of h)
  unfold isCmp
  rw [(f ⟨#[61, 61]⟩ (by decide)).1, (f ⟨#[47, 61]⟩ (by decide)).1, (f ⟨#[61, 60]⟩ (by decide)).1, (f ⟨#[60]⟩ (by decide)).1, (f ⟨#[62, 61]⟩ (by decide)).1, (f ⟨#[62]⟩ (by decide)).1, (f ⟨#[61, 58, 61]⟩ (by decide)).1, (f ⟨#[61, 47, 61]⟩ (by decide)).1,
    (f ⟨#[61, 61]⟩ (by decide)).2, (f ⟨#[47, 61]⟩ (by decide)).2, (f ⟨#[61, 60]⟩ (by decide)).2, (f ⟨#[60]⟩ (by decide)).2, (f ⟨#[62, 61]⟩ (by decide)).2, (f ⟨#[62]⟩ (by decide)).2, (f ⟨#[61, 58, 61]⟩ (by decide)).2, (f ⟨#[61, 47, 61]⟩ (by decide)).2]
  exact ⟨rfl, rfl⟩
theorem rl_row (tw : Twn c1 c2) (hR : R1.length ≤ R2.length) {m m' : PM Nat} (hm : Rl c1 c2 R1 R2 c Eq m m') (ha : All m) {sg : Tk → Bool} (h1 : sg c1 = false) (h2 : sg c2 = false) (h8 : ∀ t, sg t = true → t.k ≠ 8) : Rl c1 c2 R1 R2 c Eq (here >>= fun t => m >>= fun x => left >>= fun k => leftward m sg t.p k x) (here >>= fun t => m' >>= fun x => left >>= fun k => leftward m' sg t.p k x) :=
  rl_place tw (f := fun p => m >>= fun x => left >>= fun k => leftward m sg p k x) (f' := fun p => m' >>= fun x => left >>= fun k => leftward m' sg p k x) fun p => rl_then hm (fun _ => all_bind all_left fun _ => all_leftward ha h8 _ _ _) fun a b hab => by
    subst hab
    intro Y t t' ht
    obtain ⟨l1, l2⟩ := rel_len ht
    exact rl_leftward tw hm ha h1 h2 h8 p _ _ _ Y t t' ht (by omega) (by omega)
theorem rl_mul (h : Exp c1 c2 R1 R2 c e e') : Rl c1 c2 R1 R2 c Eq (mul e) (mul e') := rl_row h.tw h.len (rl_unary h) (all_unary h.all) (tw_mul h.tw).1 (tw_mul h.tw).2 isMul_k
theorem rl_add (h : Exp c1 c2 R1 R2 c e e') : Rl c1 c2 R1 R2 c Eq (add e) (add e') := rl_row h.tw h.len (rl_mul h) (all_mul h.all) (tw_add h.tw).1 (tw_add h.tw).2 isAdd_k
theorem rl_rightward (tw : Twn c1 c2) {m m' : PM Nat} (hm : Rl c1 c2 R1 R2 c Eq m m') (ha : All m) {w : ByteArray} (hw : Fine w) : ∀ (k k' : Nat) X s s', Rel c1 c2 R1 R2 c X s s' → X.length + R1.length < k → k ≤ k' → Out c1 c2 R1 R2 c Eq X (rightward m w k s) (rightward m' w k' s')
  | 0, _, _, _, _, _, hk, _ => by omega
  | k + 1, k', X, s, s', hs, hk, hkk => by
    obtain ⟨k', rfl⟩ : ∃ j, k' = j + 1 := ⟨k' - 1, by omega⟩
    simp only [rightward]
    have hp := rel_p tw hs
    refine rl_here ?_
    rw [← hp]
    refine rl_bind (hm X s s' hs) (fun _ => all_bind (all_take _) fun _ => all_ite (all_bind (all_rightward ha w k) fun _ => all_op _ _ _) (all_pure _)) fun a b Y t t' hab ht hY => ?_
    subst hab
    obtain ⟨Z, hZ⟩ := hY
    by_cases hmm : isM (hd t) w = true
    · obtain ⟨u, Y2, hX2, hm', -, -, hr⟩ := rel_sign tw hw ht hmm
      rw [take_y hmm, take_y hm', if_pos rfl, if_pos rfl]
      refine Out.weak (Y := Y2) (rl_bind (rl_rightward tw hm ha hw k k' Y2 _ _ hr ?_ (by omega)) (fun _ => all_op _ _ _) fun a b Y3 v v' hab hv _ => by subst hab; exact rl_lay _ Y3 v v' hv) ⟨[u], hX2⟩
      rw [hZ, hX2, List.length_append, List.length_cons] at hk
      omega
    · have hm' : isM (hd t) w = false := by simpa using hmm
      rw [take_n hm', take_n (by rw [← rel_isM tw hw ht]; exact hm'), if_neg (by simp), if_neg (by simp)]
      exact rl_pure rfl Y t t' ht
theorem rl_right (tw : Twn c1 c2) (hR : R1.length ≤ R2.length) {m m' : PM Nat} (hm : Rl c1 c2 R1 R2 c Eq m m') (ha : All m) {w : ByteArray} (hw : Fine w) : Rl c1 c2 R1 R2 c Eq (right m w) (right m' w) := fun X s s' hs => by
  obtain ⟨l1, l2⟩ := rel_len hs
  exact rl_rightward tw hm ha hw _ _ X s s' hs (by omega) (by omega)
theorem rl_appends (h : Exp c1 c2 R1 R2 c e e') : Rl c1 c2 R1 R2 c Eq (appends e) (appends e') := rl_right h.tw h.len (rl_add h) (all_add h.all) (fine_of (by decide))
theorem rl_compare (h : Exp c1 c2 R1 R2 c e e') : Rl c1 c2 R1 R2 c Eq (compare e) (compare e') :=
  rl_place h.tw (f := fun p => appends e >>= fun x => here >>= fun u => if isCmp u then (next >>= fun _ => appends e >>= fun y => op p u.x [x, y]) else pure x) (f' := fun p => appends e' >>= fun x => here >>= fun u => if isCmp u then (next >>= fun _ => appends e' >>= fun y => op p u.x [x, y]) else pure x) fun p =>
    rl_then (rl_appends h) (fun _ => all_on fun s => good_ite (fun h' => good_bind (good_next (isCmp_k _ h')) fun _ s' _ => all_bind (all_appends h.all) (fun _ => all_op _ _ _) s') fun _ => all_pure _ s) fun a b hab => by
      subst hab
      refine rl_on fun X s s' hs => ?_
      rcases rel_hd hs with ⟨t, Y, hX, g1, g2⟩ | ⟨hX, g1, g2⟩
      · rw [g1, g2]
        by_cases hc : isCmp t = true
        · rw [if_pos hc, if_pos hc]
          exact rl_bind (rl_next hs hX (isCmp_k _ hc)) (fun _ => all_bind (all_appends h.all) fun _ => all_op _ _ _) fun a b Y t t' _ ht _ => rl_then (rl_appends h) (fun _ => all_op _ _ _) (fun a b hab => by subst hab; exact rl_lay _) Y t t' ht
        · rw [if_neg hc, if_neg hc]
          exact rl_pure rfl X s s' hs
      · rw [g1, g2, if_neg (by rw [(tw_cmp h.tw).1]; simp), if_neg (by rw [(tw_cmp h.tw).2]; simp)]
        exact rl_pure rfl X s s' hs
theorem rl_orelse (h : Exp c1 c2 R1 R2 c e e') : Rl c1 c2 R1 R2 c Eq (orelse e) (orelse e') := rl_right h.tw h.len (rl_right h.tw h.len (rl_compare h) (all_compare h.all) (fine_of (by decide))) (all_right (all_compare h.all) _) (fine_of (by decide))
theorem rl_opened (h : Exp c1 c2 R1 R2 c e e') : Rl c1 c2 R1 R2 c Eq (opened e) (opened e') :=
  rl_place h.tw (f := fun p => take ⟨#[99, 97, 116, 99, 104]⟩ >>= fun b => if b then (e >>= fun x => lay ⟨17, ⟨#[]⟩, 0, 0, [x], p⟩) else (orelse e >>= fun x => take ⟨#[61]⟩ >>= fun c => if c then (e >>= fun y => lay ⟨10, ⟨#[]⟩, 0, 0, [x, y], p⟩) else (take ⟨#[33]⟩ >>= fun d => if d then (e >>= fun y => op p ⟨#[33]⟩ [x, y]) else pure x)))
    (f' := fun p => take ⟨#[99, 97, 116, 99, 104]⟩ >>= fun b => if b then (e' >>= fun x => lay ⟨17, ⟨#[]⟩, 0, 0, [x], p⟩) else (orelse e' >>= fun x => take ⟨#[61]⟩ >>= fun c => if c then (e' >>= fun y => lay ⟨10, ⟨#[]⟩, 0, 0, [x, y], p⟩) else (take ⟨#[33]⟩ >>= fun d => if d then (e' >>= fun y => op p ⟨#[33]⟩ [x, y]) else pure x))) fun p =>
    rl_then (rl_take h.tw (fine_of (by decide))) (fun _ => all_ite (all_bind h.all fun _ => all_lay _) (all_bind (all_orelse h.all) fun _ => all_bind (all_take _) fun _ =>
      all_ite (all_bind h.all fun _ => all_lay _) (all_bind (all_take _) fun _ => all_ite (all_bind h.all fun _ => all_op _ _ _) (all_pure _)))) fun a b hab => by
      subst hab
      refine rl_ite (rl_then h.rl (fun _ => all_lay _) fun a b hab => by subst hab; exact rl_lay _) (rl_then (rl_orelse h) (fun _ => all_bind (all_take _) fun _ =>
        all_ite (all_bind h.all fun _ => all_lay _) (all_bind (all_take _) fun _ => all_ite (all_bind h.all fun _ => all_op _ _ _) (all_pure _))) fun a b hab => ?_)
      subst hab
      refine rl_then (rl_take h.tw (fine_of (by decide))) (fun _ => all_ite (all_bind h.all fun _ => all_lay _) (all_bind (all_take _) fun _ => all_ite (all_bind h.all fun _ => all_op _ _ _) (all_pure _))) fun a b hab => ?_
      subst hab
      refine rl_ite (rl_then h.rl (fun _ => all_lay _) fun a b hab => by subst hab; exact rl_lay _) (rl_then (rl_take h.tw (fine_of (by decide))) (fun _ => all_ite (all_bind h.all fun _ => all_op _ _ _) (all_pure _)) fun a b hab => ?_)
      subst hab
      exact rl_ite (rl_then h.rl (fun _ => all_op _ _ _) fun a b hab => by subst hab; exact rl_lay _) (rl_pure rfl)
end
end Gm
end Go.Proofs.YtdpfmmbfidknfaaGreatDoor


