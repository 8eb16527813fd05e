import Derived.Test.YtmijabhnbmmmfaaGreatG36
/- A word says one term at most. -/
namespace Go.Proofs.YtmijabhnbmmmfaaGreat
open Go.RowKit Go.Deep

theorem of_inj {t b b' : Int} (h1 : 1 ≤ t) (h2 : t ≤ 8) (hm : mayB t b = true) (hm' : mayB t b' = true) (h : ofW t b = ofW t b') : b = b' := by
  have e1 := (of_made h1 h2 hm).2.1
  have e2 := (of_made h1 h2 hm').2.1
  rw [h] at e1
  omega

/-- The tag of a word that says a right term, by its kind. -/
theorem rep_tag {ws : List Int} {L : List ByteArray} (hL : L.length ≤ 100000) {k n : Int} {f : Nat} {s : ByteArray} {a : Option Addr} {c : Nat} {kids : List Tr} {u : Int} (h : Rep ws L (.mk k n f s a c kids) u) (hg : goodT (.mk k n f s a c kids) = true) :
    (k = 1 ∧ tagI u = 1) ∨ (k = 6 ∧ tagI u = 3) ∨ (k = 3 ∧ tagI u = 2) ∨ (k = 8 ∧ (tagI u = 4 ∨ tagI u = 6)) ∨ (hdB k = true ∧ tagI u = 5) := by
  unfold Rep at h
  split at h
  · rename_i c1
    subst c1 h
    simp [goodT] at hg
    obtain ⟨_, _, ⟨_, hw, _⟩ | ⟨hq, _⟩⟩ := rightB_cases0 hg
    · have hb' := whB_yes hw
      exact Or.inl ⟨rfl, (of_made (t := 1) (b := n) (by decide) (by decide) (by simp [mayB]; omega)).1⟩
    · omega
  rename_i c1
  split at h
  · rename_i c6
    subst c6 h
    simp [goodT] at hg
    exact Or.inr (Or.inl ⟨rfl, (of_made (t := 3) (b := n) (by decide) (by decide) (by simp [mayB]; omega)).1⟩)
  rename_i c6
  split at h
  · rename_i c3
    obtain ⟨i, rfl, hi⟩ := h
    have hil := get_lt hi
    exact Or.inr (Or.inr (Or.inl ⟨c3, (of_made (t := 2) (b := (i : Int)) (by decide) (by decide) (by simp [mayB]; omega)).1⟩))
  rename_i c3
  split at h
  · rename_i c8
    refine Or.inr (Or.inr (Or.inr (Or.inl ⟨c8, ?_⟩)))
    cases kids with
    | nil => unfold RepL at h; subst h; exact Or.inl nil_made.1
    | cons t r =>
      unfold RepL at h
      obtain ⟨p, rfl, hp, _⟩ := h
      exact Or.inr (cons_made hp).1
  rename_i c8
  obtain ⟨p, rfl, hp, _⟩ := h
  refine Or.inr (Or.inr (Or.inr (Or.inr ⟨?_, (box_made hp).1⟩)))
  simp only [hdB, Bool.or_eq_true, beq_iff_eq]
  by_cases c2 : k = 2
  · simp [c2]
  by_cases c4 : k = 4
  · simp [c4]
  by_cases c5 : k = 5
  · simp [c5]
  have c7 : k = 7 := by
    simp only [goodT, c1, c2, c3, c4, c5, c6, c8, or_self, if_false] at hg
    by_cases h : k = 7
    · exact h
    · simp [h] at hg
  simp [c7]

theorem repAll_det {ws : List Int} {L : List ByteArray} {P : Tr → Prop} : ∀ (l : List Tr), (∀ t, t ∈ l → ∀ t' u, P t' → Rep ws L t u → Rep ws L t' u → Same t t') → ∀ (l' : List Tr) (q : Nat), l.length = l'.length → (∀ t', t' ∈ l' → P t') → RepAll ws L l q → RepAll ws L l' q → SameAll l l' := by
  intro l
  induction l with
  | nil =>
    intro _ l' q hl _ _ _
    cases l' with
    | nil => unfold SameAll; trivial
    | cons x y => simp at hl
  | cons t r ih =>
    intro hk l' q hl hg h h'
    cases l' with
    | nil => simp at hl
    | cons t' r' =>
      unfold RepAll at h h'
      obtain ⟨⟨x, hx, hr⟩, h2⟩ := h
      obtain ⟨⟨x', hx', hr'⟩, h2'⟩ := h'
      obtain rfl : x = x' := Option.some.inj (hx.symm.trans hx')
      unfold SameAll
      exact ⟨hk t (List.mem_cons_self ..) t' x (hg t' (List.mem_cons_self ..)) hr hr', ih (fun v hv => hk v (List.mem_cons_of_mem _ hv)) r' (q + 1) (by simpa using hl) (fun v hv => hg v (List.mem_cons_of_mem _ hv)) h2 h2'⟩

theorem repL_det {ws : List Int} {L : List ByteArray} {P : Tr → Prop} : ∀ (l : List Tr), (∀ t, t ∈ l → ∀ t' u, P t' → Rep ws L t u → Rep ws L t' u → Same t t') → ∀ (l' : List Tr) (u : Int), (∀ t', t' ∈ l' → P t') → RepL ws L l u → RepL ws L l' u → SameAll l l' := by
  intro l
  induction l with
  | nil =>
    intro _ l' u _ h h'
    cases l' with
    | nil => unfold SameAll; trivial
    | cons x y =>
      unfold RepL at h h'
      obtain ⟨p, e, hp, _⟩ := h'
      have := (cons_made hp).1
      rw [← e, h] at this
      have := nil_made.1
      omega
  | cons t r ih =>
    intro hk l' u hg h h'
    cases l' with
    | nil =>
      unfold RepL at h h'
      obtain ⟨p, e, hp, _⟩ := h
      have := (cons_made hp).1
      rw [← e, h'] at this
      have := nil_made.1
      omega
    | cons t' r' =>
      unfold RepL at h h'
      obtain ⟨p, rfl, hp, ⟨x, hx, hr⟩, y, hy, hry⟩ := h
      obtain ⟨p', e, hp', ⟨x', hx', hr'⟩, y', hy', hry'⟩ := h'
      have hpp := of_inj (t := 6) (by decide) (by decide) (by simp [mayB]; omega) (by simp [mayB]; omega) e
      obtain rfl : p = p' := by omega
      obtain rfl : x = x' := Option.some.inj (hx.symm.trans hx')
      obtain rfl : y = y' := Option.some.inj (hy.symm.trans hy')
      unfold SameAll
      exact ⟨hk t (List.mem_cons_self ..) t' x (hg t' (List.mem_cons_self ..)) hr hr', ih (fun v hv => hk v (List.mem_cons_of_mem _ hv)) r' y (fun v hv => hg v (List.mem_cons_of_mem _ hv)) hry hry'⟩

theorem hd_inj {k k' s s' : Int} (hk : hdB k = true) (hk' : hdB k' = true) (h0 : 0 ≤ s) (h1 : s ≤ 65536) (h0' : 0 ≤ s') (h1' : s' ≤ 65536) (h : hdW k s = hdW k' s') : k = k' ∧ s = s' := by
  have e := hd_made hk h0 h1
  have e' := hd_made hk' h0' h1'
  rw [h] at e
  omega

/-- The words ahead of a block's elements tell all of its fields. -/
theorem front_det {ws : List Int} {k n k' n' : Int} {f f' p : Nat} {s s' : ByteArray} {a a' : Option Addr} {c c' : Nat} {kids kids' : List Tr} (hk : hdB k = true) (hk' : hdB k' = true) (hg : goodT (.mk k n f s a c kids) = true) (hg' : goodT (.mk k' n' f' s' a' c' kids') = true) (hl : kids.length ≤ 65536) (hl' : kids'.length ≤ 65536)
    (h : ∀ (i : Nat) (x : Int), (front k n f kids.length)[i]? = some x → ws[p + i]? = some x) (h' : ∀ (i : Nat) (x : Int), (front k' n' f' kids'.length)[i]? = some x → ws[p + i]? = some x) : k = k' ∧ n = n' ∧ f = f' ∧ s = s' ∧ kids.length = kids'.length := by
  have hc := hdB_cases hk
  have hc' := hdB_cases hk'
  have w0 : ∀ x y, (front k n f kids.length)[0]? = some x → (front k' n' f' kids'.length)[0]? = some y → x = y := fun x y hx hy => Option.some.inj ((h 0 x hx).symm.trans (h' 0 y hy))
  have w1 : ∀ x y, (front k n f kids.length)[1]? = some x → (front k' n' f' kids'.length)[1]? = some y → x = y := fun x y hx hy => Option.some.inj ((h 1 x hx).symm.trans (h' 1 y hy))
  clear h h'
  have ek : k = k' := by
    rcases hc with rfl | rfl | rfl | rfl <;> rcases hc' with rfl | rfl | rfl | rfl <;> first
      | rfl
      | (exfalso
         have := w0 _ _ rfl rfl
         have := (hd_inj rfl rfl (by omega) (by omega) (by omega) (by omega) this).1
         omega)
  subst ek
  rcases hc with rfl | rfl | rfl | rfl
  · simp [goodT] at hg hg'
    obtain ⟨hs, hz, ⟨hq, _⟩ | ⟨_, hn, _⟩⟩ := rightB_cases0 hg
    · omega
    obtain ⟨hs', hz', ⟨hq, _⟩ | ⟨_, hn', _⟩⟩ := rightB_cases0 hg'
    · omega
    have := w1 _ _ rfl rfl
    exact ⟨rfl, by omega, by omega, (empty_of hs).trans (empty_of hs').symm, by omega⟩
  · simp [goodT] at hg hg'
    have := w1 _ _ rfl rfl
    exact ⟨rfl, this, by omega, (empty_of (s := s) (by simpa using hg.2.1.2)).trans (empty_of (s := s') (by simpa using hg'.2.1.2)).symm, by rw [hg.2.2, hg'.2.2]⟩
  · simp [goodT] at hg hg'
    have e0 := w0 _ _ rfl rfl
    have := (hd_inj rfl rfl (by omega) (by omega) (by omega) (by omega) e0).2
    have := w1 _ _ rfl rfl
    exact ⟨rfl, this, by omega, (empty_of (s := s) (by simpa using hg.2.2)).trans (empty_of (s := s') (by simpa using hg'.2.2)).symm, by omega⟩
  · simp [goodT] at hg hg'
    have e0 := w0 _ _ rfl rfl
    have := (hd_inj rfl rfl (by omega) (by omega) (by omega) (by omega) e0).2
    exact ⟨rfl, by omega, by omega, (empty_of (s := s) (by simpa using hg.2)).trans (empty_of (s := s') (by simpa using hg'.2)).symm, by omega⟩

/-- A right term that is not too great. -/
abbrev Fine (t : Tr) : Prop := allT goodT t = true ∧ wN t ≤ 65536

theorem fine_kids {k n : Int} {f : Nat} {s : ByteArray} {a : Option Addr} {c : Nat} {kids : List Tr} (h : Fine (.mk k n f s a c kids)) : goodT (.mk k n f s a c kids) = true ∧ kids.length ≤ 65536 ∧ ∀ t, t ∈ kids → Fine t := by
  obtain ⟨hg, hw⟩ := h
  simp only [allT, Bool.and_eq_true] at hg
  obtain ⟨e, hl⟩ := good_own hg.1
  have hn := own_nonneg k kids.length
  refine ⟨hg.1, by omega, fun t ht => ⟨good_kids hg.2 ht, ?_⟩⟩
  have hwk : ∀ l : List Tr, t ∈ l → wN t ≤ wAll l := by
    intro l
    induction l with
    | nil => intro h; simp at h
    | cons v r ih =>
      intro h
      simp only [wAll]
      rcases List.mem_cons.1 h with rfl | h
      · omega
      · have := ih h; omega
  have := hwk kids ht
  omega

theorem rep_det {ws : List Int} {L : List ByteArray} (hL : L.length ≤ 100000) : ∀ t : Tr, Fine t → ∀ t' u, Fine t' → Rep ws L t u → Rep ws L t' u → Same t t' := by
  refine Tr.ind fun k n f s a c kids hk hf t' u hf' h h' => ?_
  obtain ⟨k', n', f', s', a', c', kids'⟩ := t'
  obtain ⟨g1, g2, g3⟩ := fine_kids hf
  obtain ⟨g1', g2', g3'⟩ := fine_kids hf'
  have hkk : ∀ t, t ∈ kids → ∀ t' u, Fine t' → Rep ws L t u → Rep ws L t' u → Same t t' := fun t ht => hk t ht (g3 t ht)
  have tg := rep_tag hL h g1
  have tg' := rep_tag hL h' g1'
  unfold Same
  rcases tg with ⟨rfl, e⟩ | ⟨rfl, e⟩ | ⟨rfl, e⟩ | ⟨rfl, e⟩ | ⟨hB, e⟩
  · obtain rfl : k' = 1 := by rcases tg' with ⟨q, _⟩ | ⟨_, q⟩ | ⟨_, q⟩ | ⟨_, q⟩ | ⟨_, q⟩ <;> first | exact q | omega
    unfold Rep at h h'
    rw [if_pos rfl] at h h'
    simp [goodT] at g1 g1'
    obtain ⟨hs, hz, ⟨_, hw, hf0⟩ | ⟨hq, _⟩⟩ := rightB_cases0 g1
    · obtain ⟨hs', hz', ⟨_, hw', hf0'⟩ | ⟨hq, _⟩⟩ := rightB_cases0 g1'
      · have hb := whB_yes hw
        have hb' := whB_yes hw'
        have := of_inj (t := 1) (by decide) (by decide) (by simp [mayB]; omega) (by simp [mayB]; omega) (h.symm.trans h')
        obtain rfl := List.length_eq_zero_iff.1 hz
        obtain rfl := List.length_eq_zero_iff.1 hz'
        exact ⟨rfl, this, by omega, (empty_of hs).trans (empty_of hs').symm, by unfold SameAll; trivial⟩
      · omega
    · omega
  · obtain rfl : k' = 6 := by rcases tg' with ⟨_, q⟩ | ⟨q, _⟩ | ⟨_, q⟩ | ⟨_, q⟩ | ⟨_, q⟩ <;> first | exact q | omega
    unfold Rep at h h'
    rw [if_neg (by decide), if_pos rfl] at h h'
    simp [goodT] at g1 g1'
    have := of_inj (t := 3) (by decide) (by decide) (by simp [mayB]; omega) (by simp [mayB]; omega) (h.symm.trans h')
    obtain rfl := g1.2.2
    obtain rfl := g1'.2.2
    exact ⟨rfl, this, by omega, (empty_of (s := s) (by simpa using g1.2.1.2)).trans (empty_of (s := s') (by simpa using g1'.2.1.2)).symm, by unfold SameAll; trivial⟩
  · obtain rfl : k' = 3 := by rcases tg' with ⟨_, q⟩ | ⟨_, q⟩ | ⟨q, _⟩ | ⟨_, q⟩ | ⟨_, q⟩ <;> first | exact q | omega
    unfold Rep at h h'
    rw [if_neg (by decide), if_neg (by decide), if_pos rfl] at h h'
    obtain ⟨i, e1, hi⟩ := h
    obtain ⟨i', e1', hi'⟩ := h'
    simp [goodT] at g1 g1'
    have hil := get_lt hi
    have hil' := get_lt hi'
    have := of_inj (t := 2) (b := (i : Int)) (b' := (i' : Int)) (by decide) (by decide) (by simp [mayB]; omega) (by simp [mayB]; omega) (e1.symm.trans e1')
    obtain rfl : i = i' := by omega
    obtain rfl := g1.2.2
    obtain rfl := g1'.2.2
    exact ⟨rfl, by omega, by omega, Option.some.inj (hi.symm.trans hi'), by unfold SameAll; trivial⟩
  · obtain rfl : k' = 8 := by rcases tg' with ⟨_, q⟩ | ⟨_, q⟩ | ⟨_, q⟩ | ⟨q, _⟩ | ⟨_, q⟩ <;> first | exact q | omega
    unfold Rep at h h'
    rw [if_neg (by decide), if_neg (by decide), if_neg (by decide), if_pos rfl] at h h'
    simp [goodT] at g1 g1'
    exact ⟨rfl, by omega, by omega, (empty_of (s := s) (by simpa using g1.2)).trans (empty_of (s := s') (by simpa using g1'.2)).symm, repL_det kids hkk kids' u g3' h h'⟩
  · have hB' : hdB k' = true := by rcases tg' with ⟨_, q⟩ | ⟨_, q⟩ | ⟨_, q⟩ | ⟨_, q⟩ | ⟨q, _⟩ <;> first | exact q | omega
    have hc := hdB_cases hB
    have hc' := hdB_cases hB'
    unfold Rep at h h'
    rw [if_neg (by omega), if_neg (by omega), if_neg (by omega), if_neg (by omega)] at h h'
    obtain ⟨p, rfl, hp, hfr, hra⟩ := h
    obtain ⟨p', e', hp', hfr', hra'⟩ := h'
    have hpp := of_inj (t := 5) (by decide) (by decide) (by simp [mayB]; omega) (by simp [mayB]; omega) e'
    obtain rfl : p = p' := by omega
    obtain ⟨rfl, rfl, rfl, rfl, hl⟩ := front_det hB hB' g1 g1' g2 g2' hfr hfr'
    rw [hl] at hra
    exact ⟨rfl, rfl, rfl, rfl, repAll_det kids hkk kids' _ hl g3' hra hra'⟩
end Go.Proofs.YtmijabhnbmmmfaaGreat


/- Words laid anew: cells that are still the old ones' or are new. -/
namespace Go.Proofs.YtmijabhnbmmmfaaGreat
open Go.RowKit Go.Deep

/-- A word, and the term that it says, if it is an element's. -/
abbrev Cl := Int × Option Tr

def restT (r : List Tr) : Tr := .mk 8 0 0 ⟨#[]⟩ none 0 r

/-- What a term's own words are. -/
def kindsOf : Tr → List (Option Tr)
  | .mk k _ _ _ _ _ kids => if k = 8 then (match kids with | [] => [] | t :: r => [some t, some (restT r)]) else if k = 1 ∨ k = 3 ∨ k = 6 then [] else List.replicate (frN k) none ++ kids.map some

def frontT : Tr → List Int
  | .mk k n f _ _ _ kids => front k n f kids.length

/-- Does a term stand alone in its word? -/
def aloneT : Tr → Bool
  | .mk k _ _ _ _ _ kids => if k = 8 then kids.isEmpty else decide (k = 1 ∨ k = 3 ∨ k = 6)

def tagT : Tr → Int
  | .mk k _ _ _ _ _ _ => if k = 8 then 6 else 5

def AloneW (L : List ByteArray) : Tr → Int → Prop
  | .mk k n _ s _ _ _, v => if k = 1 then v = ofW 1 n else if k = 6 then v = ofW 3 n else if k = 3 then ∃ i : Nat, v = ofW 2 i ∧ L[i]? = some s else v = ofW 4 0

theorem aloneW_mk (L : List ByteArray) (k n : Int) (f : Nat) (s : ByteArray) (a : Option Addr) (c : Nat) (kids : List Tr) (v : Int) : AloneW L (.mk k n f s a c kids) v = (if k = 1 then v = ofW 1 n else if k = 6 then v = ofW 3 n else if k = 3 then ∃ i : Nat, v = ofW 2 i ∧ L[i]? = some s else v = ofW 4 0) := rfl

def BlkAt (cells : List Cl) (p : Nat) (t : Tr) : Prop := ∀ (i : Nat) (kd : Option Tr), (kindsOf t)[i]? = some kd → ∃ x, cells[p + i]? = some (x, kd) ∧ (kd = none → (frontT t)[i]? = some x)

/-- A new word says a term, as far as its own block goes. -/
def Pt (L : List ByteArray) (cells : List Cl) (v : Int) (t : Tr) : Prop :=
  (aloneT t = true ∧ AloneW L t v) ∨ (aloneT t = false ∧ ∃ p : Nat, v = ofW (tagT t) p ∧ p ≤ 16777216 ∧ BlkAt cells p t)

def wds (cells : List Cl) : List Int := cells.map (·.1)

theorem wds_get {cells : List Cl} {q : Nat} {x : Int} {kd : Option Tr} (h : cells[q]? = some (x, kd)) : (wds cells)[q]? = some x := by
  unfold wds
  rw [List.getElem?_map, h]
  rfl

theorem Pt.mono {L : List ByteArray} {cells cells' : List Cl} {v : Int} {t : Tr} (h : Pt L cells v t) (hc : ∀ (q : Nat) (x : Int) (kd : Option Tr), cells[q]? = some (x, kd) → ∃ x', cells'[q]? = some (x', kd) ∧ (kd = none → x' = x)) : Pt L cells' v t := by
  rcases h with h | ⟨h1, p, h2, h3, h4⟩
  · exact Or.inl h
  · refine Or.inr ⟨h1, p, h2, h3, fun i kd hi => ?_⟩
    obtain ⟨x, hx, hn⟩ := h4 i kd hi
    obtain ⟨x', hx', e⟩ := hc _ _ _ hx
    exact ⟨x', hx', fun hk => by rw [e hk]; exact hn hk⟩

theorem front_frN {k n : Int} {f len : Nat} (h : hdB k = true) : (front k n f len).length = frN k := by
  have := hdB_cases h
  rcases this with rfl | rfl | rfl | rfl <;> simp [front, frN]

/-- Where all is laid anew, new words say their terms. -/
theorem rep_pt {L : List ByteArray} {cells : List Cl} (hall : ∀ (q : Nat) (x : Int) (t : Tr), cells[q]? = some (x, some t) → Pt L cells x t) : ∀ t : Tr, allT goodT t = true → ∀ v, Pt L cells v t → Rep (wds cells) L t v := by
  have hlist : ∀ l : List Tr, (∀ t, t ∈ l → ∀ v, Pt L cells v t → Rep (wds cells) L t v) → ∀ v, Pt L cells v (restT l) → RepL (wds cells) L l v := by
    intro l
    induction l with
    | nil =>
      intro _ v h
      rcases h with ⟨_, h⟩ | ⟨h, _⟩
      · unfold RepL
        unfold restT at h
        rw [aloneW_mk, if_neg (by decide), if_neg (by decide), if_neg (by decide)] at h
        exact h
      · simp [restT, aloneT] at h
    | cons t r ih =>
      intro hk v h
      rcases h with ⟨h, _⟩ | ⟨_, p, h2, h3, h4⟩
      · simp [restT, aloneT] at h
      · obtain ⟨x, hx, _⟩ := h4 0 (some t) (by simp [restT, kindsOf])
        obtain ⟨y, hy, _⟩ := h4 1 (some (restT r)) (by simp [restT, kindsOf])
        unfold RepL
        refine ⟨p, by simpa [tagT, restT] using h2, h3, ⟨x, wds_get hx, hk t (List.mem_cons_self ..) x (hall _ _ _ hx)⟩, y, wds_get hy, ih (fun u hu => hk u (List.mem_cons_of_mem _ hu)) y (hall _ _ _ hy)⟩
  refine Tr.ind fun k n f s a c kids hk hg v h => ?_
  simp only [allT, Bool.and_eq_true] at hg
  have hkk : ∀ t, t ∈ kids → ∀ v, Pt L cells v t → Rep (wds cells) L t v := fun t ht => hk t ht (good_kids hg.2 ht)
  unfold Rep
  by_cases c8 : k = 8
  · subst c8
    rw [if_neg (by decide), if_neg (by decide), if_neg (by decide), if_pos rfl]
    refine hlist kids hkk v ?_
    rcases h with ⟨h1, h2⟩ | ⟨h1, p, h2, h3, h4⟩
    · refine Or.inl ⟨by simpa [aloneT, restT] using h1, ?_⟩
      unfold restT
      rw [aloneW_mk, if_neg (by decide), if_neg (by decide), if_neg (by decide)] at h2 ⊢
      exact h2
    · refine Or.inr ⟨by simpa [aloneT, restT] using h1, p, by simpa [tagT, restT] using h2, h3, fun i kd hi => ?_⟩
      have hi' : (kindsOf (.mk 8 n f s a c kids))[i]? = some kd := by simpa [kindsOf, restT] using hi
      obtain ⟨x, hx, _⟩ := h4 i kd hi'
      refine ⟨x, hx, fun hn => ?_⟩
      subst hn
      cases kids with
      | nil => simp [kindsOf] at hi'
      | cons t r =>
        match i, hi' with
        | 0, hi' => simp [kindsOf] at hi'
        | 1, hi' => simp [kindsOf] at hi'
        | i + 2, hi' => simp [kindsOf] at hi'
  by_cases c1 : k = 1
  · subst c1
    rw [if_pos rfl]
    rcases h with ⟨_, h2⟩ | ⟨h1, _⟩
    · rw [aloneW_mk, if_pos rfl] at h2; exact h2
    · simp [aloneT] at h1
  rw [if_neg c1]
  by_cases c6 : k = 6
  · subst c6
    rw [if_pos rfl]
    rcases h with ⟨_, h2⟩ | ⟨h1, _⟩
    · rw [aloneW_mk, if_neg (by decide), if_pos rfl] at h2; exact h2
    · simp [aloneT] at h1
  rw [if_neg c6]
  by_cases c3 : k = 3
  · subst c3
    rw [if_pos rfl]
    rcases h with ⟨_, h2⟩ | ⟨h1, _⟩
    · rw [aloneW_mk, if_neg (by decide), if_neg (by decide), if_pos rfl] at h2; exact h2
    · simp [aloneT] at h1
  rw [if_neg c3, if_neg c8]
  have hB : hdB k = true := by
    have hg1 := hg.1
    simp only [hdB, Bool.or_eq_true, beq_iff_eq]
    by_cases c2 : k = 2
    · simp [c2]
    by_cases c4 : k = 4
    · simp [c4]
    by_cases c5 : k = 5
    · simp [c5]
    have c7 : k = 7 := by
      simp only [goodT, c1, c2, c3, c4, c5, c6, c8, or_self, if_false] at hg1
      by_cases h : k = 7
      · exact h
      · simp [h] at hg1
    simp [c7]
  rcases h with ⟨h1, _⟩ | ⟨_, p, h2, h3, h4⟩
  · simp [aloneT, c8, c1, c3, c6] at h1
  have hkd : kindsOf (.mk k n f s a c kids) = List.replicate (frN k) none ++ kids.map some := by simp [kindsOf, c8, c1, c3, c6]
  have hfl := front_frN (k := k) (n := n) (f := f) (len := kids.length) hB
  refine ⟨p, by simpa [tagT, c8] using h2, h3, fun i x hi => ?_, ?_⟩
  · have hil := get_lt hi
    obtain ⟨x', hx', e⟩ := h4 i none (by rw [hkd, List.getElem?_append_left (by simp; omega)]; rw [List.getElem?_replicate, if_pos (by omega)])
    have := e rfl
    simp only [frontT] at this
    rw [hi] at this
    obtain rfl := Option.some.inj this
    exact wds_get hx'
  · rw [hfl]
    refine repAll_of kids _ fun j t hj => ?_
    obtain ⟨x, hx, _⟩ := h4 (frN k + j) (some t) (by rw [hkd, List.getElem?_append_right (by simp)]; simp [hj])
    have e : p + (frN k + j) = p + frN k + j := by omega
    rw [e] at hx
    exact ⟨x, wds_get hx, hkk t (List.mem_of_getElem? hj) x (hall _ _ _ hx)⟩

/-- A right old word: it stands alone, or points to its own words. -/
theorem rep_own {ws : List Int} {L : List ByteArray} {t : Tr} {x : Int} (hg : allT goodT t = true) (hr : Rep ws L t x) : (aloneT t = true ∧ AloneW L t x) ∨ (aloneT t = false ∧ ∃ p : Nat, x = ofW (tagT t) p ∧ p ≤ 16777216 ∧ ∀ (i : Nat) (kd : Option Tr), (kindsOf t)[i]? = some kd → ∃ y, ws[p + i]? = some y ∧ (kd = none → (frontT t)[i]? = some y) ∧ ∀ t', kd = some t' → Rep ws L t' y) := by
  obtain ⟨k, n, f, s, a, c, kids⟩ := t
  simp only [allT, Bool.and_eq_true] at hg
  unfold Rep at hr
  by_cases c1 : k = 1
  · rw [if_pos c1] at hr
    subst c1
    exact Or.inl ⟨by simp [aloneT], by rw [aloneW_mk, if_pos rfl]; exact hr⟩
  rw [if_neg c1] at hr
  by_cases c6 : k = 6
  · rw [if_pos c6] at hr
    subst c6
    exact Or.inl ⟨by simp [aloneT], by rw [aloneW_mk, if_neg (by decide), if_pos rfl]; exact hr⟩
  rw [if_neg c6] at hr
  by_cases c3 : k = 3
  · rw [if_pos c3] at hr
    subst c3
    exact Or.inl ⟨by simp [aloneT], by rw [aloneW_mk, if_neg (by decide), if_neg (by decide), if_pos rfl]; exact hr⟩
  rw [if_neg c3] at hr
  by_cases c8 : k = 8
  · rw [if_pos c8] at hr
    subst c8
    cases kids with
    | nil =>
      unfold RepL at hr
      exact Or.inl ⟨by simp [aloneT], by rw [aloneW_mk, if_neg (by decide), if_neg (by decide), if_neg (by decide)]; exact hr⟩
    | cons t r =>
      unfold RepL at hr
      obtain ⟨p, rfl, hp, ⟨x, hx, hrx⟩, y, hy, hry⟩ := hr
      refine Or.inr ⟨by simp [aloneT], p, by simp [tagT], hp, fun i kd hi => ?_⟩
      match i, hi with
      | 0, hi =>
        obtain rfl : some t = kd := by simpa [kindsOf] using hi
        exact ⟨x, hx, fun h => by simp at h, fun t' e => by obtain rfl := Option.some.inj e; exact hrx⟩
      | 1, hi =>
        obtain rfl : some (restT r) = kd := by simpa [kindsOf] using hi
        refine ⟨y, hy, fun h => by simp at h, fun t' e => ?_⟩
        obtain rfl := Option.some.inj e
        unfold restT Rep
        rw [if_neg (by decide), if_neg (by decide), if_neg (by decide), if_pos rfl]
        exact hry
      | i + 2, hi => simp [kindsOf] at hi
  rw [if_neg c8] at hr
  obtain ⟨p, rfl, hp, hfr, hra⟩ := hr
  have hB : hdB k = true := by
    have hg1 := hg.1
    simp only [hdB, Bool.or_eq_true, beq_iff_eq]
    by_cases c2 : k = 2
    · simp [c2]
    by_cases c4 : k = 4
    · simp [c4]
    by_cases c5 : k = 5
    · simp [c5]
    have c7 : k = 7 := by
      simp only [goodT, c1, c2, c3, c4, c5, c6, c8, or_self, if_false] at hg1
      by_cases h : k = 7
      · exact h
      · simp [h] at hg1
    simp [c7]
  have hfl := front_frN (k := k) (n := n) (f := f) (len := kids.length) hB
  have hkd : kindsOf (.mk k n f s a c kids) = List.replicate (frN k) none ++ kids.map some := by simp [kindsOf, c8, c1, c3, c6]
  refine Or.inr ⟨by simp [aloneT, c8, c1, c3, c6], p, by simp [tagT, c8], hp, fun i kd hi => ?_⟩
  rw [hkd] at hi
  rcases Nat.lt_or_ge i (frN k) with h | h
  · rw [List.getElem?_append_left (by simpa using h), List.getElem?_replicate, if_pos h] at hi
    obtain rfl := Option.some.inj hi
    have hx : (front k n f kids.length)[i]? = some ((front k n f kids.length)[i]'(by omega)) := List.getElem?_eq_getElem (by omega)
    exact ⟨_, hfr i _ hx, fun _ => hx, fun t' e => by cases e⟩
  · rw [List.getElem?_append_right (by simpa using h)] at hi
    simp only [List.length_replicate, List.getElem?_map] at hi
    cases hj : kids[i - frN k]? with
    | none => rw [hj] at hi; simp at hi
    | some t =>
      rw [hj] at hi
      obtain rfl : some t = kd := by simpa using hi
      obtain ⟨vs, hvl, hv⟩ := repAll_words kids (p + (front k n f kids.length).length) hra
      obtain ⟨y, _, y2, y3⟩ := hv _ t hj
      rw [hfl] at y2
      have e : p + frN k + (i - frN k) = p + i := by omega
      rw [e] at y2
      exact ⟨y, y2, fun h => by simp at h, fun t' e => by obtain rfl := Option.some.inj e; exact y3⟩
end Go.Proofs.YtmijabhnbmmmfaaGreat


