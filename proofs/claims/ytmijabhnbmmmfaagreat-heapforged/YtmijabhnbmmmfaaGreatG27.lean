import Derived.Test.YtmijabhnbmmmfaaGreatG26
/- A word and a heap's words that say a term. -/
namespace Go.Proofs.YtmijabhnbmmmfaaGreat
open Go.RowKit Go.Deep

mutual
/-- In these words, with these atoms, the word u says the term. -/
def Rep (ws : List Int) (L : List ByteArray) : Tr → Int → Prop
  | .mk k n f s _ _ kids, u =>
    if k = 1 then u = ofW 1 n
    else if k = 6 then u = ofW 3 n
    else if k = 3 then ∃ i : Nat, u = ofW 2 i ∧ L[i]? = some s
    else if k = 8 then RepL ws L kids u
    else ∃ p : Nat, u = ofW 5 p ∧ p ≤ 16777216 ∧ (∀ (i : Nat) (x : Int), (front k n f kids.length)[i]? = some x → ws[p + i]? = some x) ∧ RepAll ws L kids (p + (front k n f kids.length).length)
/-- The elements' words stand side by side. -/
def RepAll (ws : List Int) (L : List ByteArray) : List Tr → Nat → Prop
  | [], _ => True
  | t :: r, q => (∃ x, ws[q]? = some x ∧ Rep ws L t x) ∧ RepAll ws L r (q + 1)
/-- A list: a pair and the rest. -/
def RepL (ws : List Int) (L : List ByteArray) : List Tr → Int → Prop
  | [], u => u = ofW 4 0
  | t :: r, u => ∃ p : Nat, u = ofW 6 p ∧ p ≤ 16777216 ∧ (∃ x, ws[p]? = some x ∧ Rep ws L t x) ∧ ∃ y, ws[p + 1]? = some y ∧ RepL ws L r y
end

/-- More words behind, more atoms behind: it says the same. -/
theorem rep_more {ws ws' : List Int} {L L' : List ByteArray} (hw : ∀ (i : Nat) (x : Int), ws[i]? = some x → ws'[i]? = some x) (hl : ∀ (i : Nat) (x : ByteArray), L[i]? = some x → L'[i]? = some x) : ∀ (t : Tr) (u : Int), Rep ws L t u → Rep ws' L' t u := by
  refine Tr.ind fun k n f s a c kids hk u h => ?_
  have hall : ∀ (l : List Tr), (∀ t, t ∈ l → t ∈ kids) → ∀ q, RepAll ws L l q → RepAll ws' L' l q := by
    intro l
    induction l with
    | nil => intro _ q _; unfold RepAll; trivial
    | cons t r ih =>
      intro hl' q h
      unfold RepAll at h ⊢
      obtain ⟨⟨x, hx, hr⟩, h2⟩ := h
      exact ⟨⟨x, hw _ _ hx, hk t (hl' t (List.mem_cons_self ..)) x hr⟩, ih (fun v hv => hl' v (List.mem_cons_of_mem _ hv)) _ h2⟩
  have hlist : ∀ (l : List Tr), (∀ t, t ∈ l → t ∈ kids) → ∀ u, RepL ws L l u → RepL ws' L' l u := by
    intro l
    induction l with
    | nil => intro _ u h; unfold RepL at h ⊢; exact h
    | cons t r ih =>
      intro hl' u h
      unfold RepL at h ⊢
      obtain ⟨p, h1, h2, ⟨x, hx, hr⟩, y, hy, hy2⟩ := h
      exact ⟨p, h1, h2, ⟨x, hw _ _ hx, hk t (hl' t (List.mem_cons_self ..)) x hr⟩, y, hw _ _ hy, ih (fun v hv => hl' v (List.mem_cons_of_mem _ hv)) _ hy2⟩
  unfold Rep at h ⊢
  split
  · rename_i h1; rw [if_pos h1] at h; exact h
  rename_i h1
  rw [if_neg h1] at h
  split
  · rename_i h6; rw [if_pos h6] at h; exact h
  rename_i h6
  rw [if_neg h6] at h
  split
  · rename_i h3; rw [if_pos h3] at h
    obtain ⟨i, e, hi⟩ := h
    exact ⟨i, e, hl _ _ hi⟩
  rename_i h3
  rw [if_neg h3] at h
  split
  · rename_i h8; rw [if_pos h8] at h; exact hlist kids (fun t h => h) u h
  rename_i h8
  rw [if_neg h8] at h
  obtain ⟨p, e, hp, hf, hr⟩ := h
  exact ⟨p, e, hp, fun i x hi => hw _ _ (hf i x hi), hall kids (fun t h => h) _ hr⟩

/-- Atoms stay where they are. -/
theorem stepL_keeps (L : List ByteArray) (s : ByteArray) (i : Nat) (x : ByteArray) (h : L[i]? = some x) : (stepL L s)[i]? = some x := by
  unfold stepL
  split
  · exact h
  · have hi : i < L.length := by
      rcases Nat.lt_or_ge i L.length with q | q
      · exact q
      · rw [List.getElem?_eq_none q] at h; simp at h
    rw [List.getElem?_append_left hi]; exact h

theorem stepL_has (L : List ByteArray) (s : ByteArray) (hs : s.size ≤ 64) : (stepL L s)[pos L s]? = some s ∧ numN L s = (pos L s : Int) := by
  have hl : longB s = false := by simp [longB]; omega
  refine ⟨?_, by simp [numN, hl]⟩
  unfold stepL
  cases hi : inL L s with
  | true => simp only [hl, Bool.false_or, if_true]; exact pos_at hi
  | false =>
    simp only [hl, Bool.false_or, Bool.false_eq_true, if_false]
    rw [pos_none hi]
    simp

theorem lay_keeps : ∀ (t : Tr) (p : Nat) (L : List ByteArray) (i : Nat) (x : ByteArray), L[i]? = some x → (layT t p L).2.2[i]? = some x := by
  refine Tr.ind fun k n f s a c kids hk p L i x h => ?_
  have hall : ∀ (l : List Tr), (∀ t, t ∈ l → t ∈ kids) → ∀ p L (i : Nat) (x : ByteArray), L[i]? = some x → (layAll l p L).2.2[i]? = some x := by
    intro l
    induction l with
    | nil => intro _ p L i x h; simpa only [layAll] using h
    | cons t r ih =>
      intro hl p L i x h
      simp only [layAll]
      exact ih (fun v hv => hl v (List.mem_cons_of_mem _ hv)) _ _ i x (hk t (hl t (List.mem_cons_self ..)) p L i x h)
  simp only [layT]
  repeat' split
  all_goals first | exact h | exact stepL_keeps _ _ _ _ h | exact hall kids (fun t h => h) _ _ i x h

theorem layAll_keeps (l : List Tr) : ∀ (p : Nat) (L : List ByteArray) (i : Nat) (x : ByteArray), L[i]? = some x → (layAll l p L).2.2[i]? = some x := by
  induction l with
  | nil => intro p L i x h; simpa only [layAll] using h
  | cons t r ih =>
    intro p L i x h
    simp only [layAll]
    exact ih _ _ i x (lay_keeps t p L i x h)

/-- The pairs of a list that is laid from p on. -/
theorem pairs_at : ∀ (l : List Int) (p : Nat) (ws : List Int), (∀ (i : Nat) (x : Int), (pairs l p)[i]? = some x → ws[p + i]? = some x) → ∀ (j : Nat) (x : Int), l[j]? = some x → ws[p + 2 * j]? = some x ∧ ws[p + 2 * j + 1]? = some (if j + 1 = l.length then ofW 4 0 else ofW 6 ((p + 2 * (j + 1) : Nat) : Int)) := by
  intro l
  induction l with
  | nil => intro p ws _ j x h; simp at h
  | cons y r ih =>
    intro p ws hw j x hj
    cases r with
    | nil =>
      have hj0 : j = 0 := by
        rcases j with _ | j
        · rfl
        · simp at hj
      subst hj0
      obtain rfl : y = x := by simpa using hj
      exact ⟨hw 0 y rfl, by simpa using hw 1 (ofW 4 0) rfl⟩
    | cons z r =>
      rcases j with _ | j
      · obtain rfl : y = x := by simpa using hj
        refine ⟨hw 0 y rfl, ?_⟩
        rw [if_neg (by simp only [List.length_cons]; omega)]
        exact hw 1 _ rfl
      · have hw' : ∀ (i : Nat) (x : Int), (pairs (z :: r) (p + 2))[i]? = some x → ws[p + 2 + i]? = some x := by
          intro i x hi
          have e : p + 2 + i = p + (i + 2) := by omega
          rw [e]
          exact hw (i + 2) x (by simpa only [pairs, List.getElem?_cons_succ] using hi)
        have g := ih (p + 2) ws hw' j x (by simpa using hj)
        have e1 : p + 2 * (j + 1) = p + 2 + 2 * j := by omega
        have e2 : p + 2 * (j + 1 + 1) = p + 2 + 2 * (j + 1) := by omega
        rw [e1, e2]
        refine ⟨g.1, ?_⟩
        have := g.2
        simp only [List.length_cons] at this ⊢
        by_cases hc : j + 1 = r.length + 1
        · rw [if_pos hc] at this
          rw [if_pos (by omega)]
          exact this
        · rw [if_neg hc] at this
          rw [if_neg (by omega)]
          exact this
end Go.Proofs.YtmijabhnbmmmfaaGreat


/- What is laid says the term. -/
namespace Go.Proofs.YtmijabhnbmmmfaaGreat
open Go.RowKit Go.Deep

/-- What laying must give: the word says the term. -/
def SaysIt (t : Tr) : Prop := ∀ (p : Nat) (L : List ByteArray) (ws : List Int) (L2 : List ByteArray), (∀ (i : Nat) (x : Int), (layT t p L).2.1[i]? = some x → ws[p + i]? = some x) → p + wN t ≤ 16777216 → (∀ (i : Nat) (x : ByteArray), (layT t p L).2.2[i]? = some x → L2[i]? = some x) → Rep ws L2 t (layT t p L).1

theorem says_all {ws : List Int} {L2 : List ByteArray} : ∀ (l : List Tr), (∀ t, t ∈ l → SaysIt t) → ∀ (b q : Nat) (L : List ByteArray), (∀ (j : Nat) (x : Int), (layAll l b L).1[j]? = some x → ws[q + j]? = some x) → (∀ (i : Nat) (x : Int), (layAll l b L).2.1[i]? = some x → ws[b + i]? = some x) → b + wAll l ≤ 16777216 → (∀ (i : Nat) (x : ByteArray), (layAll l b L).2.2[i]? = some x → L2[i]? = some x) → RepAll ws L2 l q := by
  intro l
  induction l with
  | nil => intro _ b q L _ _ _ _; unfold RepAll; trivial
  | cons t r ih =>
    intro hk b q L h1 h2 h3 h4
    have hl := lay_len t b L
    simp only [layAll] at h1 h2 h4
    simp only [wAll] at h3
    unfold RepAll
    refine ⟨⟨(layT t b L).1, by simpa using h1 0 _ rfl, hk t (List.mem_cons_self ..) b L ws L2 (fun i x hi => ?_) (by omega) (fun i x hi => h4 i x (layAll_keeps r _ _ i x hi))⟩, ?_⟩
    · refine h2 i x ?_
      have hil : i < (layT t b L).2.1.length := by
        rcases Nat.lt_or_ge i (layT t b L).2.1.length with q | q
        · exact q
        · rw [List.getElem?_eq_none q] at hi; simp at hi
      rw [List.getElem?_append_left hil]; exact hi
    · refine ih (fun u hu => hk u (List.mem_cons_of_mem _ hu)) (b + (layT t b L).2.1.length) (q + 1) (layT t b L).2.2 (fun j x hj => ?_) (fun i x hi => ?_) (by rw [hl]; omega) h4
      · have e : q + 1 + j = q + (j + 1) := by omega
        rw [e]
        exact h1 (j + 1) x (by simpa using hj)
      · have e : b + (layT t b L).2.1.length + i = b + ((layT t b L).2.1.length + i) := by omega
        rw [e]
        refine h2 _ x ?_
        rw [List.getElem?_append_right (by omega)]
        simpa using hi

theorem says_list {ws : List Int} {L2 : List ByteArray} : ∀ (l : List Tr), (∀ t, t ∈ l → SaysIt t) → ∀ (b p : Nat) (L : List ByteArray), (∀ (j : Nat) (x : Int), (pairs (layAll l b L).1 p)[j]? = some x → ws[p + j]? = some x) → (∀ (i : Nat) (x : Int), (layAll l b L).2.1[i]? = some x → ws[b + i]? = some x) → b + wAll l ≤ 16777216 → p + 2 * l.length ≤ 16777216 → (∀ (i : Nat) (x : ByteArray), (layAll l b L).2.2[i]? = some x → L2[i]? = some x) → RepL ws L2 l (if l.length = 0 then ofW 4 0 else ofW 6 p) := by
  intro l
  induction l with
  | nil => intro _ b p L _ _ _ _ _; unfold RepL; simp
  | cons t r ih =>
    intro hk b p L h1 h2 h3 hp h4
    have hl := lay_len t b L
    simp only [layAll] at h1 h2 h4
    simp only [wAll] at h3
    simp only [List.length_cons] at hp
    rw [if_neg (by simp)]
    unfold RepL
    have hfirst : ∀ (i : Nat) (x : Int), (layT t b L).2.1[i]? = some x → ws[b + i]? = some x := fun i x hi => by
      refine h2 i x ?_
      have hil : i < (layT t b L).2.1.length := by
        rcases Nat.lt_or_ge i (layT t b L).2.1.length with q | q
        · exact q
        · rw [List.getElem?_eq_none q] at hi; simp at hi
      rw [List.getElem?_append_left hil]; exact hi
    have hrest : ∀ (i : Nat) (x : Int), (layAll r (b + (layT t b L).2.1.length) (layT t b L).2.2).2.1[i]? = some x → ws[b + (layT t b L).2.1.length + i]? = some x := fun i x hi => by
      have e : b + (layT t b L).2.1.length + i = b + ((layT t b L).2.1.length + i) := by omega
      rw [e]
      refine h2 _ x ?_
      rw [List.getElem?_append_right (by omega)]
      simpa using hi
    have hkeep : ∀ (i : Nat) (x : ByteArray), (layT t b L).2.2[i]? = some x → L2[i]? = some x := fun i x hi => h4 i x (layAll_keeps r _ _ i x hi)
    have hrl := (layAll_len r (b + (layT t b L).2.1.length) (layT t b L).2.2).1
    have hR := ih (fun u hu => hk u (List.mem_cons_of_mem _ hu)) (b + (layT t b L).2.1.length) (p + 2) (layT t b L).2.2
    generalize layAll r (b + (layT t b L).2.1.length) (layT t b L).2.2 = Y at h1 h4 hrest hrl hR
    refine ⟨p, rfl, by omega, ⟨(layT t b L).1, ?_, hk t (List.mem_cons_self ..) b L ws L2 hfirst (by omega) hkeep⟩, ?_⟩
    · obtain ⟨y1, y2⟩ := Y
      cases y1 with
      | nil => exact h1 0 _ rfl
      | cons z zs => exact h1 0 _ rfl
    · refine ⟨if r.length = 0 then ofW 4 0 else ofW 6 ((p + 2 : Nat) : Int), ?_, ?_⟩
      · obtain ⟨y1, y2⟩ := Y
        cases y1 with
        | nil =>
          simp only [List.length_nil] at hrl
          rw [if_pos hrl.symm]
          exact h1 1 _ rfl
        | cons z zs =>
          simp only [List.length_cons] at hrl
          rw [if_neg (by omega)]
          exact h1 1 _ rfl
      · refine hR (fun j x hj => ?_) hrest (by rw [hl]; omega) (by omega) h4
        obtain ⟨y1, y2⟩ := Y
        cases y1 with
        | nil => simp [pairs] at hj
        | cons z zs =>
          have e : p + 2 + j = p + (j + 2) := by omega
          rw [e]
          exact h1 (j + 2) x (by simpa only [pairs, List.getElem?_cons_succ] using hj)

theorem lay_says : ∀ t : Tr, allT goodT t = true → SaysIt t := by
  refine Tr.ind fun k n f s a c kids hk hg p L ws L2 h1 h2 h3 => ?_
  simp only [allT, Bool.and_eq_true] at hg
  have hkids : ∀ t, t ∈ kids → SaysIt t := fun t ht => hk t ht (good_kids hg.2 ht)
  simp only [layT] at h1 h3 ⊢
  simp only [wN] at h2
  unfold Rep
  by_cases c1 : k = 1
  · simp only [if_pos c1]
  simp only [if_neg c1] at h1 h2 h3 ⊢
  by_cases c6 : k = 6
  · simp only [if_pos c6]
  simp only [if_neg c6] at h1 h2 h3 ⊢
  by_cases c3 : k = 3
  · simp only [if_pos c3] at h1 h3 ⊢
    have hs : s.size ≤ 64 := by subst c3; have := hg.1; simp [goodT] at this; exact this.1
    obtain ⟨g1, g2⟩ := stepL_has L s hs
    exact ⟨pos L s, by rw [g2], h3 _ _ g1⟩
  simp only [if_neg c3] at h1 h2 h3 ⊢
  by_cases c8 : k = 8
  · simp only [if_pos c8] at h1 h2 h3 ⊢
    have hl := layAll_len kids (p + 2 * kids.length) L
    refine says_list kids hkids (p + 2 * kids.length) p L (fun j x hj => h1 j x ?_) (fun i x hi => ?_) (by omega) (by omega) h3
    · have hjl : j < (pairs (layAll kids (p + 2 * kids.length) L).1 p).length := by
        rcases Nat.lt_or_ge j (pairs (layAll kids (p + 2 * kids.length) L).1 p).length with q | q
        · exact q
        · rw [List.getElem?_eq_none q] at hj; cases hj
      rw [List.getElem?_append_left hjl]; exact hj
    · have e : p + 2 * kids.length + i = p + (2 * kids.length + i) := by omega
      rw [e]
      refine h1 _ x ?_
      rw [List.getElem?_append_right (by rw [pairs_len, hl.1]; omega), pairs_len, hl.1]
      have e2 : 2 * kids.length + i - 2 * kids.length = i := by omega
      rw [e2]; exact hi
  simp only [if_neg c8] at h1 h2 h3 ⊢
  have hl := layAll_len kids (p + (front k n f kids.length).length + kids.length) L
  refine ⟨p, rfl, by omega, fun i x hi => h1 i x ?_, says_all kids hkids (p + (front k n f kids.length).length + kids.length) (p + (front k n f kids.length).length) L (fun j x hj => ?_) (fun i x hi => ?_) (by omega) h3⟩
  · have hil : i < (front k n f kids.length).length := by
      rcases Nat.lt_or_ge i (front k n f kids.length).length with q | q
      · exact q
      · rw [List.getElem?_eq_none q] at hi; cases hi
    rw [List.append_assoc, List.getElem?_append_left hil]; exact hi
  · have hjl : j < kids.length := by
      rcases Nat.lt_or_ge j kids.length with q | q
      · exact q
      · rw [List.getElem?_eq_none (by rw [hl.1]; exact q)] at hj; cases hj
    have e : p + (front k n f kids.length).length + j = p + ((front k n f kids.length).length + j) := by omega
    rw [e]
    refine h1 _ x ?_
    rw [List.append_assoc, List.getElem?_append_right (by omega), List.getElem?_append_left (by rw [hl.1]; omega)]
    have e2 : (front k n f kids.length).length + j - (front k n f kids.length).length = j := by omega
    rw [e2]; exact hj
  · have e : p + (front k n f kids.length).length + kids.length + i = p + ((front k n f kids.length).length + kids.length + i) := by omega
    rw [e]
    refine h1 _ x ?_
    rw [List.getElem?_append_right (by rw [List.length_append, hl.1]; omega), List.length_append, hl.1]
    have e2 : (front k n f kids.length).length + kids.length + i - ((front k n f kids.length).length + kids.length) = i := by omega
    rw [e2]; exact hi
end Go.Proofs.YtmijabhnbmmmfaaGreat


