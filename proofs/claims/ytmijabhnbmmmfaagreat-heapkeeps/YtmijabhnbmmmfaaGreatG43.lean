import Derived.Test.YtmijabhnbmmmfaaGreatG39
/- Cheney's way: where each word was, so that blocks that lay apart lie apart again. -/
namespace Go.Proofs.YtmijabhnbmmmfaaGreat
open Go.RowKit Go.Deep

/-- A word v that stands now for the word x that was, of a term t. -/
def PX (ws : List Int) (cells : List Cl) (now ox : Nat → Int) (v : Int) (t : Tr) (x : Int) : Prop :=
  (aloneT t = true ∧ v = x) ∨ (aloneT t = false ∧ ∃ b p : Nat, b ≤ 16777216 ∧ p ≤ 16777216 ∧ x = ofW (tagT t) b ∧ v = ofW (tagT t) p ∧ now b = v ∧ v ≠ 0 ∧ ∀ (i : Nat) (kd : Option Tr), (kindsOf t)[i]? = some kd → ws[b + i]? = some (ox (p + i)) ∧ ∃ y, cells[p + i]? = some (y, kd))

structure CJ (ws : List Int) (cells : List Cl) (now ox : Nat → Int) (n : Nat) : Prop where
  g1 : ∀ (q : Nat) (x : Int) (kd : Option Tr), n ≤ q → cells[q]? = some (x, kd) → ox q = x
  g2 : ∀ (q : Nat) (v : Int) (t : Tr), q < n → cells[q]? = some (v, some t) → PX ws cells now ox v t (ox q)
  g3 : ∀ b b', now b ≠ 0 → now b' ≠ 0 → bodyI (now b) = bodyI (now b') → b = b'
  g4 : ∀ b, now b ≠ 0 → ∃ p : Nat, bodyI (now b) = p ∧ p < cells.length

/-- With what is said of roots. -/
def GH (ws : List Int) (cells : List Cl) (now : Nat → Int) (n : Nat) (R : Int → Tr → Int → Prop) : Prop := ∃ ox, CJ ws cells now ox n ∧ ∀ v t x, R v t x → PX ws cells now ox v t x

theorem PX.mono {ws : List Int} {cells cells' : List Cl} {now now' ox ox' : Nat → Int} {v x : Int} {t : Tr} (h : PX ws cells now ox v t x) (hc : ∀ (q : Nat) (y : Int) (kd : Option Tr), cells[q]? = some (y, kd) → ox' q = ox q ∧ ∃ y', cells'[q]? = some (y', kd)) (hn : ∀ b, now b ≠ 0 → now' b = now b) : PX ws cells' now' ox' v t x := by
  rcases h with h | ⟨h1, b, p, h2, h3, h4, h5, h6, h7, h8⟩
  · exact Or.inl h
  · refine Or.inr ⟨h1, b, p, h2, h3, h4, h5, by rw [hn b (by rw [h6]; exact h7)]; exact h6, h7, fun i kd hi => ?_⟩
    obtain ⟨e1, y, e2⟩ := h8 i kd hi
    obtain ⟨e3, y', e4⟩ := hc _ _ _ e2
    exact ⟨by rw [e3]; exact e1, y', e4⟩

section
variable {ws : List Int} {L : List ByteArray} {cells : List Cl} {now ox : Nat → Int} {n p : Nat} {t : Tr} {x : Int}

def oxN (ws : List Int) (ox : Nat → Int) (len p : Nat) : Nat → Int := fun q => if q < len then ox q else ws.getD (p + (q - len)) 0

theorem tag56 (t : Tr) : tagT t = 5 ∨ tagT t = 6 := by obtain ⟨k, n, f, s, a, c, kids⟩ := t; simp only [tagT]; split <;> simp

theorem ptr_made (t : Tr) {p : Nat} (hp : p ≤ 16777216) : bodyI (ofW (tagT t) p) = p ∧ ofW (tagT t) (p : Int) ≠ 0 := by
  have hb : bodyI (ofW (tagT t) p) = p ∧ tagI (ofW (tagT t) p) = tagT t := by
    rcases tag56 t with e | e
    · rw [e]; exact ⟨(box_made hp).2.1, (box_made hp).1⟩
    · rw [e]; exact ⟨(cons_made hp).2.1, (cons_made hp).1⟩
  refine ⟨hb.1, fun e => ?_⟩
  have h2 := hb.2
  rw [e] at h2
  have z : tagI 0 = 0 := by decide
  rw [z] at h2
  have := tag56 t
  omega

/-- A block is laid. -/
theorem CJ.add (h : CJ ws cells now ox n) (hn : n ≤ cells.length) (hN : NewB ws L t x p) (ha : aloneT t = false) (hc : cells.length ≤ 16777216) (h0 : now p = 0) :
    CJ ws (cells ++ ownC ws p t) (updN now p (ofW (tagT t) cells.length)) (oxN ws ox cells.length p) n ∧ PX ws (cells ++ ownC ws p t) (updN now p (ofW (tagT t) cells.length)) (oxN ws ox cells.length p) (ofW (tagT t) cells.length) t x ∧
      ∀ v' t' x', PX ws cells now ox v' t' x' → PX ws (cells ++ ownC ws p t) (updN now p (ofW (tagT t) cells.length)) (oxN ws ox cells.length p) v' t' x' := by
  obtain ⟨hb, hv0⟩ := ptr_made t hc
  have hlen := ownC_len hN.l_
  have hn0 := hN.n_
  have hold : ∀ q, q < cells.length → oxN ws ox cells.length p q = ox q := fun q hq => by simp [oxN, hq]
  have hnw : ∀ b, now b ≠ 0 → updN now p (ofW (tagT t) cells.length) b = now b := fun b hb' => by
    unfold updN
    rw [if_neg (fun e : b = p => hb' (by rw [e]; exact h0))]
  have hmono : ∀ v' t' x', PX ws cells now ox v' t' x' → PX ws (cells ++ ownC ws p t) (updN now p (ofW (tagT t) cells.length)) (oxN ws ox cells.length p) v' t' x' := fun v' t' x' hp => hp.mono (fun q y kd hq => ⟨hold q (get_lt hq), y, by rw [List.getElem?_append_left (get_lt hq)]; exact hq⟩) hnw
  refine ⟨⟨fun q y kd hq hy => ?_, fun q v s hq hy => ?_, fun b b' q1 q2 e => ?_, fun b q1 => ?_⟩, Or.inr ⟨ha, p, cells.length, hN.p_, hc, hN.x_, rfl, by simp [updN], hv0, fun i kd hi => ?_⟩, hmono⟩
  · rcases Nat.lt_or_ge q cells.length with hl | hl
    · rw [List.getElem?_append_left hl] at hy
      rw [hold q hl]
      exact h.g1 q y kd hq hy
    · rw [List.getElem?_append_right hl] at hy
      obtain ⟨e1, _⟩ := ownC_inv hy
      unfold oxN
      rw [if_neg (by omega)]
      simp [List.getD, e1]
  · have hl : q < cells.length := by omega
    rw [List.getElem?_append_left hl] at hy
    rw [hold q hl]
    exact hmono _ _ _ (h.g2 q v s hq hy)
  · unfold updN at q1 q2 e
    by_cases e1 : b = p
    · by_cases e2 : b' = p
      · rw [e1, e2]
      · rw [if_pos e1, if_neg e2, hb] at e
        rw [if_neg e2] at q2
        obtain ⟨r, r1, r2⟩ := h.g4 b' q2
        omega
    · by_cases e2 : b' = p
      · rw [if_neg e1, if_pos e2, hb] at e
        rw [if_neg e1] at q1
        obtain ⟨r, r1, r2⟩ := h.g4 b q1
        omega
      · rw [if_neg e1, if_neg e2] at e
        rw [if_neg e1] at q1
        rw [if_neg e2] at q2
        exact h.g3 b b' q1 q2 e
  · unfold updN at q1 ⊢
    rw [List.length_append, hlen]
    by_cases e1 : b = p
    · rw [if_pos e1, hb]
      exact ⟨cells.length, rfl, by omega⟩
    · rw [if_neg e1] at q1 ⊢
      obtain ⟨r, r1, r2⟩ := h.g4 b q1
      exact ⟨r, r1, by omega⟩
  · have hil := get_lt hi
    have hl := hN.l_
    obtain ⟨y, hy⟩ : ∃ y, ws[p + i]? = some y := ⟨_, List.getElem?_eq_getElem (by omega)⟩
    refine ⟨?_, y, ?_⟩
    · unfold oxN
      rw [if_neg (by omega), show cells.length + i - cells.length = i from by omega]
      simp [List.getD, hy]
    · rw [List.getElem?_append_right (by omega), show cells.length + i - cells.length = i from by omega]
      exact ownC_get hy hi

/-- A word is gone over. -/
theorem CJ.fix (h : CJ ws cells now ox n) {v : Int} (hx : cells[n]? = some (x, some t)) (hp : PX ws cells now ox v t (ox n)) :
    CJ ws (cells.set n (v, some t)) now ox (n + 1) ∧ ∀ v' t' x', PX ws cells now ox v' t' x' → PX ws (cells.set n (v, some t)) now ox v' t' x' := by
  have hmono : ∀ v' t' x', PX ws cells now ox v' t' x' → PX ws (cells.set n (v, some t)) now ox v' t' x' := fun v' t' x' hp => hp.mono (fun q y kd hq => ⟨rfl, by
    by_cases e : n = q
    · subst e
      obtain ⟨rfl, rfl⟩ := Prod.mk.inj (Option.some.inj (hx.symm.trans hq))
      exact ⟨v, by rw [List.getElem?_set_self (get_lt hq)]⟩
    · exact ⟨y, by rw [List.getElem?_set_ne e]; exact hq⟩⟩) (fun _ _ => rfl)
  refine ⟨⟨fun q y kd hq hy => ?_, fun q w s hq hy => ?_, h.g3, fun b q1 => ?_⟩, hmono⟩
  · rw [List.getElem?_set_ne (by omega)] at hy
    exact h.g1 q y kd (by omega) hy
  · rcases Nat.lt_or_ge q n with hl | hl
    · rw [List.getElem?_set_ne (by omega)] at hy
      exact hmono _ _ _ (h.g2 q w s hl hy)
    · obtain rfl : q = n := by omega
      rw [List.getElem?_set_self (get_lt hx)] at hy
      obtain ⟨rfl, e⟩ := Prod.mk.inj (Option.some.inj hy)
      obtain rfl := Option.some.inj e
      exact hmono _ _ _ hp
  · rw [List.length_set]
    exact h.g4 b q1

theorem GH.fr {R : Int → Tr → Int → Prop} {m : Nat} (h : GH ws cells now n R) (hm : n ≤ m) (hno : ∀ (q : Nat) (v : Int) (s : Tr), n ≤ q → q < m → cells[q]? ≠ some (v, some s)) : GH ws cells now m R := by
  obtain ⟨ox, hj, hr⟩ := h
  refine ⟨ox, ⟨fun q y kd hq hy => hj.g1 q y kd (by omega) hy, fun q v s hq hy => ?_, hj.g3, hj.g4⟩, hr⟩
  rcases Nat.lt_or_ge q n with hl | hl
  · exact hj.g2 q v s hl hy
  · exact absurd hy (hno q v s hl hq)

theorem GH.elA {R : Int → Tr → Int → Prop} (h : GH ws cells now n R) (hx : cells[n]? = some (x, some t)) (ha : aloneT t = true) : GH ws cells now (n + 1) R := by
  obtain ⟨ox, hj, hr⟩ := h
  refine ⟨ox, ⟨fun q y kd hq hy => hj.g1 q y kd (by omega) hy, fun q v s hq hy => ?_, hj.g3, hj.g4⟩, hr⟩
  rcases Nat.lt_or_ge q n with hl | hl
  · exact hj.g2 q v s hl hy
  · obtain rfl : q = n := by omega
    obtain ⟨rfl, e⟩ := Prod.mk.inj (Option.some.inj (hx.symm.trans hy))
    obtain rfl := Option.some.inj e
    exact Or.inl ⟨ha, (hj.g1 q x _ (Nat.le_refl _) hx).symm⟩

theorem GH.elP {R : Int → Tr → Int → Prop} (h : GH ws cells now n R) (hx : cells[n]? = some (x, some t)) (ha : aloneT t = false) (hN : NewB ws L t x p) (hc : cells.length ≤ 16777216) (h0 : now p = 0) : GH ws ((cells ++ ownC ws p t).set n (ofW (tagT t) cells.length, some t)) (updN now p (ofW (tagT t) cells.length)) (n + 1) R := by
  obtain ⟨ox, hj, hr⟩ := h
  have hl := get_lt hx
  obtain ⟨a1, a2, a3⟩ := hj.add (Nat.le_of_lt hl) hN ha hc h0
  have hxn : oxN ws ox cells.length p n = x := by
    unfold oxN
    rw [if_pos hl]
    exact hj.g1 n x _ (Nat.le_refl _) hx
  rw [← hxn] at a2
  obtain ⟨b1, b2⟩ := a1.fix (x := x) (t := t) (by rw [List.getElem?_append_left hl]; exact hx) a2
  exact ⟨_, b1, fun v' t' x' hr' => b2 _ _ _ (a3 _ _ _ (hr v' t' x' hr'))⟩

theorem GH.root {R : Int → Tr → Int → Prop} (h : GH ws cells now 0 R) (ha : aloneT t = false) (hN : NewB ws L t x p) (hc : cells.length ≤ 16777216) (h0 : now p = 0) : GH ws (cells ++ ownC ws p t) (updN now p (ofW (tagT t) cells.length)) 0 (fun v' t' x' => R v' t' x' ∨ (v' = ofW (tagT t) cells.length ∧ t' = t ∧ x' = x)) := by
  obtain ⟨ox, hj, hr⟩ := h
  obtain ⟨a1, a2, a3⟩ := hj.add (Nat.zero_le _) hN ha hc h0
  refine ⟨_, a1, fun v' t' x' hr' => ?_⟩
  rcases hr' with hr' | ⟨rfl, rfl, rfl⟩
  · exact a3 _ _ _ (hr v' t' x' hr')
  · exact a2

theorem GH.zero {R : Int → Tr → Int → Prop} (h : ∀ v t x, ¬ R v t x) : GH ws [] (fun _ => 0) 0 R := ⟨fun _ => 0, ⟨fun q y kd _ hy => by simp at hy, fun q v s hq _ => by omega, fun b b' q1 => absurd rfl q1, fun b q1 => absurd rfl q1⟩, fun v t x hr => absurd hr (h v t x)⟩

theorem GH.to {R R' : Int → Tr → Int → Prop} (h : GH ws cells now n R) (hr : ∀ v t x, R' v t x → R v t x ∨ (aloneT t = true ∧ v = x)) : GH ws cells now n R' := by
  obtain ⟨ox, hj, h2⟩ := h
  exact ⟨ox, hj, fun v t x h' => (hr v t x h').elim (h2 v t x) (fun e => Or.inl e)⟩
end

/-- No element stands among what is ahead of elements. -/
theorem CI.front {ws : List Int} {L : List ByteArray} {cells : List Cl} {now : Nat → Int} {n T : Nat} {x : Int} (h : CI ws L cells now n T) (hx : cells[n]? = some (x, none)) : ∀ (q : Nat) (v : Int) (s : Tr), n ≤ q → q < n + frN (hkI x) → cells[q]? ≠ some (v, some s) := by
  intro q v s h1 h2 hq
  have hd := drop_at hx
  have hg := h.gr
  rw [hd] at hg
  obtain ⟨D, hD⟩ : ∃ D, cells.drop (n + 1) = D := ⟨_, rfl⟩
  rw [hD] at hg
  cases hg with
  | one g1 g2 hr =>
    obtain rfl : q = n := by omega
    rw [hx] at hq
    cases hq
  | @two _ z r g1 g2 hr =>
    rcases Nat.lt_or_ge q (n + 1) with hl | hl
    · obtain rfl : q = n := by omega
      rw [hx] at hq
      cases hq
    · obtain rfl : q = n + 1 := by omega
      have hz : cells[n + 1]? = some (z, none) := by
        have : (cells.drop (n + 1))[0]? = some (z, none) := by rw [hD]; rfl
        rwa [List.getElem?_drop] at this
      rw [hz] at hq
      cases hq
end Go.Proofs.YtmijabhnbmmmfaaGreat


/- The blocks of what was laid anew are those that were, each elsewhere. -/
namespace Go.Proofs.YtmijabhnbmmmfaaGreat
open Go.RowKit Go.Deep

/-- Where a block lies now. -/
def pN (now : Nat → Int) (b : Nat) : Nat := (bodyI (now b)).toNat

theorem wds_getD {cells : List Cl} {q : Nat} {y : Int} {kd : Option Tr} (h : cells[q]? = some (y, kd)) : (wds cells).getD q 0 = y := by simp [List.getD, wds_get h]

section
variable {ws : List Int} {cells : List Cl} {now ox : Nat → Int}

theorem px_all (h : CJ ws cells now ox cells.length) : ∀ (l : List Tr) (q p : Nat), (∀ t, t ∈ l → ∀ v x, PX ws cells now ox v t x → blks (wds cells) t v = (blks ws t x).map (pN now) ∧ ∀ b, b ∈ blks ws t x → now b ≠ 0) → (∀ (i : Nat) (t : Tr), l[i]? = some t → ws[q + i]? = some (ox (p + i)) ∧ ∃ y, cells[p + i]? = some (y, some t)) → blksA (wds cells) l p = (blksA ws l q).map (pN now) ∧ ∀ b, b ∈ blksA ws l q → now b ≠ 0 := by
  intro l
  induction l with
  | nil => intro q p _ _; simp [blksA]
  | cons t r ih =>
    intro q p hk hl
    obtain ⟨e1, y, e2⟩ := hl 0 t rfl
    simp only [Nat.add_zero] at e1 e2
    have hpx := h.g2 p y t (get_lt e2) e2
    obtain ⟨a1, a2⟩ := hk t (List.mem_cons_self ..) y _ hpx
    obtain ⟨b1, b2⟩ := ih (q + 1) (p + 1) (fun u hu => hk u (List.mem_cons_of_mem _ hu)) (fun i s hi => by
      have := hl (i + 1) s (by simpa using hi)
      rw [show q + 1 + i = q + (i + 1) from by omega, show p + 1 + i = p + (i + 1) from by omega]
      exact this)
    have g0 : ws.getD q 0 = ox p := by simp [List.getD, e1]
    simp only [blksA, wds_getD e2, g0, List.map_append, a1, b1]
    refine ⟨trivial, fun b hb => ?_⟩
    rcases List.mem_append.1 hb with hb | hb
    · exact a2 b hb
    · exact b2 b hb

theorem px_list (h : CJ ws cells now ox cells.length) : ∀ (l : List Tr), (∀ t, t ∈ l → ∀ v x, PX ws cells now ox v t x → blks (wds cells) t v = (blks ws t x).map (pN now) ∧ ∀ b, b ∈ blks ws t x → now b ≠ 0) → ∀ (n : Int) (f : Nat) (s : ByteArray) (a : Option Addr) (c : Nat) (v x : Int), PX ws cells now ox v (.mk 8 n f s a c l) x → blksL (wds cells) l v = (blksL ws l x).map (pN now) ∧ ∀ b, b ∈ blksL ws l x → now b ≠ 0 := by
  intro l
  induction l with
  | nil => intro _ n f s a c v x _; simp [blksL]
  | cons t r ih =>
    intro hk n f s a c v x hp
    rcases hp with ⟨ha, _⟩ | ⟨_, b, p, hb, hpp, hx, hv, hnow, hv0, hall⟩
    · simp [aloneT] at ha
    have hkd : kindsOf (.mk 8 n f s a c (t :: r)) = [some t, some (restT r)] := by simp [kindsOf]
    rw [hkd] at hall
    have ht : tagT (.mk 8 n f s a c (t :: r)) = 6 := by simp [tagT]
    rw [ht] at hx hv
    obtain ⟨e1, y, e2⟩ := hall 0 _ rfl
    obtain ⟨d1, z, d2⟩ := hall 1 _ rfl
    simp only [Nat.add_zero] at e1 e2
    obtain ⟨a1, a2⟩ := hk t (List.mem_cons_self ..) y _ (h.g2 p y t (get_lt e2) e2)
    obtain ⟨b1, b2⟩ := ih (fun u hu => hk u (List.mem_cons_of_mem _ hu)) 0 0 ⟨#[]⟩ none 0 z (ox (p + 1)) (h.g2 (p + 1) z (restT r) (get_lt d2) d2)
    have hbx : (bodyI x).toNat = b := by rw [hx, (cons_made hb).2.1]; simp
    have hbv : (bodyI v).toNat = p := by rw [hv, (cons_made hpp).2.1]; simp
    have g0 : ws.getD b 0 = ox p := by simp [List.getD, e1]
    have g1 : ws.getD (b + 1) 0 = ox (p + 1) := by simp [List.getD, d1]
    have hpn : pN now b = p := by unfold pN; rw [hnow]; exact hbv
    simp only [blksL, hbx, hbv, wds_getD e2, wds_getD d2, g0, g1, List.map_cons, List.map_append, hpn, a1, b1]
    refine ⟨trivial, fun b' hb' => ?_⟩
    rcases List.mem_cons.1 hb' with rfl | hb'
    · rw [hnow]; exact hv0
    · rcases List.mem_append.1 hb' with hb' | hb'
      · exact a2 b' hb'
      · exact b2 b' hb'

theorem px_blks (h : CJ ws cells now ox cells.length) : ∀ (t : Tr), allT goodT t = true → ∀ v x, PX ws cells now ox v t x → blks (wds cells) t v = (blks ws t x).map (pN now) ∧ ∀ b, b ∈ blks ws t x → now b ≠ 0 := by
  refine Tr.ind fun k n f s a c kids hk hg v x hp => ?_
  have hg' := hg
  simp only [allT, Bool.and_eq_true] at hg
  have hkids : ∀ t, t ∈ kids → ∀ v x, PX ws cells now ox v t x → blks (wds cells) t v = (blks ws t x).map (pN now) ∧ ∀ b, b ∈ blks ws t x → now b ≠ 0 := fun t ht => hk t ht (good_kids hg.2 ht)
  by_cases c8 : k = 8
  · subst c8
    simp only [blks, if_true]
    exact px_list h kids hkids n f s a c v x hp
  by_cases ca : k = 1 ∨ k = 3 ∨ k = 6
  · simp only [blks, if_neg c8, if_pos ca, List.map_nil]
    exact ⟨trivial, fun b hb => by simp at hb⟩
  rcases hp with ⟨ha, _⟩ | ⟨_, b, p, hb, hpp, hx, hv, hnow, hv0, hall⟩
  · simp [aloneT, c8, ca] at ha
  have hkd : kindsOf (.mk k n f s a c kids) = List.replicate (frN k) none ++ kids.map some := by simp only [kindsOf, if_neg c8, if_neg ca]
  rw [hkd] at hall
  have ht : tagT (.mk k n f s a c kids) = 5 := by simp [tagT, c8]
  rw [ht] at hx hv
  have hbx : (bodyI x).toNat = b := by rw [hx, (box_made hb).2.1]; simp
  have hbv : (bodyI v).toNat = p := by rw [hv, (box_made hpp).2.1]; simp
  have hpn : pN now b = p := by unfold pN; rw [hnow]; exact hbv
  obtain ⟨b1, b2⟩ := px_all h kids (b + frN k) (p + frN k) hkids (fun i t hi => by
    have := hall (frN k + i) (some t) (by rw [List.getElem?_append_right (by simp), List.length_replicate, show frN k + i - frN k = i from by omega, List.getElem?_map, hi]; rfl)
    rw [show b + frN k + i = b + (frN k + i) from by omega, show p + frN k + i = p + (frN k + i) from by omega]
    exact this)
  simp only [blks, if_neg c8, if_neg ca, hbx, hbv, List.map_cons, hpn, b1]
  refine ⟨trivial, fun b' hb' => ?_⟩
  rcases List.mem_cons.1 hb' with rfl | hb'
  · rw [hnow]; exact hv0
  · exact b2 b' hb'

theorem nodup_map {f : Nat → Nat} : ∀ {l : List Nat}, l.Nodup → (∀ a b, a ∈ l → b ∈ l → f a = f b → a = b) → (l.map f).Nodup
  | [], _, _ => List.nodup_nil
  | a :: r, h, hf => by
    obtain ⟨h1, h2⟩ := List.nodup_cons.1 h
    refine List.nodup_cons.2 ⟨fun hm => ?_, nodup_map h2 (fun x y hx hy => hf x y (List.mem_cons_of_mem _ hx) (List.mem_cons_of_mem _ hy))⟩
    obtain ⟨b, hb, e⟩ := List.mem_map.1 hm
    obtain rfl := hf b a (List.mem_cons_of_mem _ hb) (List.mem_cons_self ..) e
    exact h1 hb

theorem pN_inj (h : CJ ws cells now ox cells.length) {a b : Nat} (ha : now a ≠ 0) (hb : now b ≠ 0) (e : pN now a = pN now b) : a = b := by
  obtain ⟨p, p1, _⟩ := h.g4 a ha
  obtain ⟨q, q1, _⟩ := h.g4 b hb
  refine h.g3 a b ha hb ?_
  unfold pN at e
  rw [p1, q1] at e ⊢
  simp at e
  rw [e]
end
end Go.Proofs.YtmijabhnbmmmfaaGreat


