import Derived.Test.YtdpfmmbfidknfaaGreatDoorG19
import Derived.Test.YtdpfmmbfidknfaaGreatDoorG27
/- A token ahead of a brace, and the same one ahead of the end of a line. -/
namespace Go.Proofs.YtdpfmmbfidknfaaGreatDoor
open Go.RowKit Go.Lib

theorem goes_halt {P : Nat → Bool} {s : ByteArray} {i e : Nat} (he : goes P s i = e) (hl : e < s.size) : P (bt s e) = false := by
  cases hP : P (bt s e) with
  | false => rfl
  | true =>
    exfalso
    have hge := goes_ge P s i
    have h1 := goes_past P s i (e - i) (by omega) (fun j hj => goes_all P s i (i + j) (by omega) (by omega))
    rw [show i + (e - i) = e by omega] at h1
    have h2 := goes_on hl hP
    have h3 := goes_ge P s (e + 1)
    omega

/-- The last bytes of a text ahead of '}.', and elsewhere ahead of the end of a line. -/
structure Bd (s t : ByteArray) (p r M : Nat) : Prop where
  m1 : 1 ≤ M
  b : ∀ j, j < M → bt t (r + j) = bt s (p + j)
  hs : s.size = p + M + 2
  ht : r + M < t.size
  s0 : bt s (p + M) = 125
  s1 : bt s (p + M + 1) = 46
  t0 : bt t (r + M) = 10
theorem bd_goes {s t : ByteArray} {p r M : Nat} (h : Bd s t p r M) (P : Nat → Bool) (h1 : P 125 = false) (h2 : P 10 = false) (a : Nat) (ha : a ≤ M) : ∃ g, a ≤ g ∧ g ≤ M ∧ goes P s (p + a) = p + g ∧ goes P t (r + a) = r + g := by
  have hs := h.hs
  have hge := goes_ge P s (p + a)
  obtain ⟨g, hg⟩ : ∃ g, goes P s (p + a) = p + g := ⟨goes P s (p + a) - p, by omega⟩
  have hgM : g ≤ M := by
    rcases Nat.lt_or_ge M g with hlt | hle
    · exfalso
      have := goes_all P s (p + a) (p + M) (by omega) (by omega)
      rw [h.s0, h1] at this
      cases this
    · exact hle
  refine ⟨g, by omega, hgM, hg, ?_⟩
  have ht := h.ht
  rw [goes_past P t (r + a) (g - a) (by omega) (fun j hj => by
    rw [Nat.add_assoc, h.b (a + j) (by omega), ← Nat.add_assoc]
    exact goes_all P s (p + a) (p + a + j) (by omega) (by omega)), show r + a + (g - a) = r + g by omega]
  refine goes_stop ?_
  by_cases hl : g < M
  · rw [h.b g hl]
    exact goes_halt hg (by omega)
  · obtain rfl : g = M := by omega
    rw [h.t0]; exact h2
theorem Bd.ext {s t : ByteArray} {p r M : Nat} (h : Bd s t p r M) (a k : Nat) (hk : a + k ≤ M) : t.extract (r + a) (r + a + k) = s.extract (p + a) (p + a + k) := by
  have h1 := h.hs
  have h2 := h.ht
  have e1 : dl (t.extract (r + a) (r + a + k)) = dl (s.extract (p + a) (p + a + k)) := by
    apply List.ext_getElem
    · rw [dl_len, dl_len, size_ext, size_ext]; omega
    · intro i hi1 hi2
      have hik : i < k := by rw [dl_len, size_ext] at hi1; omega
      have b1 := bt_dl _ i hi1
      have b2 := bt_dl _ i hi2
      rw [bt_ext2 t _ _ i (by omega) (by omega)] at b1
      rw [bt_ext2 s _ _ i (by omega) (by omega)] at b2
      have := h.b (a + i) (by omega)
      rw [← Nat.add_assoc, ← Nat.add_assoc, b1, b2] at this
      exact UInt8.toNat_inj.1 this
  apply ByteArray.ext
  exact Array.toList_inj.1 e1

theorem hexN_all (s : ByteArray) : ∀ k q u v, hexN s k q u = some v → ∀ j, j < k → hexAt s (q + j) ≠ none := by
  intro k
  induction k with
  | zero => intro q u v _ j hj; omega
  | succ k ih =>
    intro q u v h j hj
    simp only [hexN] at h
    cases hd : hexAt s q with
    | none => rw [hd] at h; cases h
    | some d =>
      rw [hd] at h
      cases j with
      | zero => rw [Nat.add_zero, hd]; simp
      | succ j =>
        rw [show q + (j + 1) = q + 1 + j by omega]
        exact ih (q + 1) _ v h j (by omega)
theorem quotN_mk (s : ByteArray) (m : Nat) : ∀ k p acc l e, quotN s m k p acc = some (l, e) → 1 ≤ e ∧ bt s (e - 1) = m ∧ e - 1 < s.size := by
  intro k
  induction k with
  | zero => intro p acc l e h; cases h
  | succ k ih =>
    intro p acc l e h
    simp only [quotN] at h
    split at h
    · rename_i h1
      split at h
      · rename_i h2
        have := (Prod.mk.inj (Option.some.inj h)).2
        subst this
        exact ⟨by omega, by rw [Nat.add_sub_cancel]; exact h2, by rw [Nat.add_sub_cancel]; exact h1⟩
      · cases he : escAt s (goes (pIn m) s p + 1) with
        | none => rw [he] at h; cases h
        | some x =>
          rw [he] at h
          exact ih _ _ _ _ h
    · cases h
theorem sign_tl : ∀ l ∈ signL, ∀ c ∈ l.tail, c.toNat ≠ 125 ∧ c.toNat ≠ 10 := by decide
theorem sign_odd (l : List UInt8) (hl : l ∈ signL) (i : Nat) (hi : 1 ≤ i) (h : i < l.length) : (l[i]).toNat ≠ 125 ∧ (l[i]).toNat ≠ 10 := by
  refine sign_tl l hl _ ?_
  have h2 : i - 1 < l.tail.length := by rw [List.length_tail]; omega
  have e1 : l.tail[i - 1] = l[i] := by
    rw [List.getElem_tail]
    congr 1
    omega
  rw [← e1]
  exact List.getElem_mem h2
theorem Bd.pre {s t : ByteArray} {p r M : Nat} (h : Bd s t p r M) (l : List UInt8) (hl : l ∈ signL) : Lib.hasPrefix (t.extract r t.size).data.toList l = Lib.hasPrefix (s.extract p s.size).data.toList l := by
  have hs := h.hs
  have ht := h.ht
  have m1 := h.m1
  rw [Bool.eq_iff_iff, pre_iff, pre_iff]
  by_cases hM : l.length ≤ M
  · constructor
    · rintro ⟨_, h2⟩
      exact ⟨by omega, fun j hj => by rw [← h.b j (by omega)]; exact h2 j hj⟩
    · rintro ⟨_, h2⟩
      exact ⟨by omega, fun j hj => by rw [h.b j (by omega)]; exact h2 j hj⟩
  · have ho := sign_odd l hl M m1 (by omega)
    constructor
    · rintro ⟨_, h2⟩
      have := h2 M (by omega)
      rw [h.t0] at this
      exact absurd this.symm ho.2
    · rintro ⟨_, h2⟩
      have := h2 M (by omega)
      rw [h.s0] at this
      exact absurd this.symm ho.1
theorem find_congr {α : Type} {P Q : α → Bool} : ∀ l : List α, (∀ x ∈ l, P x = Q x) → l.find? P = l.find? Q
  | [], _ => rfl
  | a :: l, h => by
    rw [List.find?_cons, List.find?_cons, h a (by simp), find_congr l fun x hx => h x (by simp [hx])]
theorem Bd.sign {s t : ByteArray} {p r M : Nat} (h : Bd s t p r M) : signAt t r = signAt s p := find_congr signL fun l hl => h.pre l hl
theorem Bd.frac {s t : ByteArray} {p r M g : Nat} (h : Bd s t p r M) (hg : g ≤ M) : fracOk t (r + g) = fracOk s (p + g) ∧ (fracOk s (p + g) = true → g + 1 ≤ M) := by
  have hs := h.hs
  have ht := h.ht
  unfold fracOk
  by_cases h1 : g < M
  · rw [h.b g h1, Nat.add_assoc, Nat.add_assoc]
    by_cases h2 : g + 1 < M
    · rw [h.b (g + 1) h2, decide_eq_true (show r + g < t.size by omega), decide_eq_true (show p + g < s.size by omega), decide_eq_true (show r + (g + 1) < t.size by omega), decide_eq_true (show p + (g + 1) < s.size by omega)]
      exact ⟨rfl, fun _ => by omega⟩
    · obtain rfl : M = g + 1 := by omega
      rw [h.t0, h.s0]
      have e1 : pDigit 10 = false := rfl
      have e2 : pDigit 125 = false := rfl
      rw [e1, e2]
      simp
  · obtain rfl : g = M := by omega
    rw [h.t0, h.s0]
    simp

/-- A token stands by itself, be it ahead of the brace or of the end of the line. -/
theorem tok_bd {s t : ByteArray} {p r M : Nat} (h : Bd s t p r M) (hok : okV (tokV s p) = true) : tokE s p ≤ p + M ∧ tokV t r = tokV s p ∧ tokE t r = r + (tokE s p - p) := by
  have hsz := h.hs
  have htz := h.ht
  have m1 := h.m1
  have h0 : bt t r = bt s p := h.b 0 (by omega)
  unfold tokV at hok ⊢
  unfold tokE
  rw [h0]
  by_cases h1 : pSmall (bt s p) = true
  · simp only [if_pos h1] at hok ⊢
    obtain ⟨g, _, hgM, g1, g2⟩ := bd_goes h pName rfl rfl 0 (by omega)
    rw [Nat.add_zero] at g1 g2
    have hext := h.ext 0 g (by omega)
    simp only [Nat.add_zero] at hext
    exact ⟨by omega, by unfold wordV; rw [g1, g2, hext], by rw [g1, g2]; omega⟩
  simp only [if_neg h1] at hok ⊢
  by_cases h2 : pCapital (bt s p) = true ∨ bt s p = 95
  · simp only [if_pos h2] at hok ⊢
    obtain ⟨g, _, hgM, g1, g2⟩ := bd_goes h pName rfl rfl 0 (by omega)
    rw [Nat.add_zero] at g1 g2
    have hext := h.ext 0 g (by omega)
    simp only [Nat.add_zero] at hext
    exact ⟨by omega, by unfold varV; rw [g1, g2, hext], by rw [g1, g2]; omega⟩
  simp only [if_neg h2] at hok ⊢
  by_cases h3 : pDigit (bt s p) = true
  · simp only [if_pos h3] at hok ⊢
    obtain ⟨g, _, hgM, g1, g2⟩ := bd_goes h pDigit rfl rfl 0 (by omega)
    rw [Nat.add_zero] at g1 g2
    have hext := h.ext 0 g (by omega)
    simp only [Nat.add_zero] at hext
    obtain ⟨f1, f2⟩ := h.frac hgM
    rw [g1, g2]
    unfold numV fracS fracEnd
    rw [g1, g2, hext, f1]
    by_cases hf : fracOk s (p + g) = true
    · obtain ⟨q, hq, hqM, q1, q2⟩ := bd_goes h pDigit rfl rfl (g + 1) (f2 hf)
      rw [← Nat.add_assoc] at q1 q2
      have x2 := h.ext (g + 1) (q - (g + 1)) (by omega)
      rw [show r + (g + 1) + (q - (g + 1)) = r + q by omega, show p + (g + 1) + (q - (g + 1)) = p + q by omega, ← Nat.add_assoc, ← Nat.add_assoc] at x2
      rw [if_pos hf, if_pos hf, if_pos hf, if_pos hf, q1, q2, x2]
      exact ⟨by omega, rfl, by omega⟩
    · rw [if_neg hf, if_neg hf, if_neg hf, if_neg hf]
      exact ⟨by omega, rfl, by omega⟩
  simp only [if_neg h3] at hok ⊢
  by_cases h4 : bt s p = 35
  · simp only [if_pos h4] at hok ⊢
    unfold bitsV at hok ⊢
    cases hx : hexN s 16 (p + 1) 0 with
    | none => rw [hx] at hok; cases hok
    | some u =>
      have hM : 17 ≤ M := by
        rcases Nat.lt_or_ge M 17 with hlt | hge
        · exfalso
          have := hexN_all s 16 (p + 1) 0 u hx (M - 1) (by omega)
          rw [show p + 1 + (M - 1) = p + M by omega] at this
          unfold hexAt at this
          rw [if_pos (by omega), h.s0] at this
          exact this rfl
        · exact hge
      have hy := hexN_like s t 16 (p + 1) (r + 1) 0 (fun j hj => by
        have := h.b (j + 1) (by omega)
        rw [show r + 1 + j = r + (j + 1) by omega, show p + 1 + j = p + (j + 1) by omega]
        exact this) (by omega) (by omega)
      rw [hy, hx]
      exact ⟨by omega, rfl, by omega⟩
  simp only [if_neg h4] at hok ⊢
  by_cases h5 : bt s p = 39 ∨ bt s p = 34
  · simp only [if_pos h5] at hok ⊢
    unfold quoteE
    unfold quoteV at hok ⊢
    rw [h0]
    cases hq : quotN s (bt s p) (s.size + 1) (p + 1) [] with
    | none => rw [hq] at hok; cases hok
    | some x =>
      obtain ⟨l, e⟩ := x
      obtain ⟨e1, e2, e3⟩ := quotN_mk s _ _ _ _ _ _ hq
      obtain ⟨_, _, hpe⟩ := quotN_len s (bt s p) _ (p + 1) [] l _ (by omega) hq
      have heM : e ≤ p + M := by
        rcases Nat.lt_or_ge (p + M) e with hlt | hge
        · exfalso
          have : e - 1 = p + M ∨ e - 1 = p + M + 1 := by omega
          rcases this with hh | hh
          · rw [hh, h.s0] at e2; omega
          · rw [hh, h.s1] at e2; omega
        · exact hge
      have := quot_like s t (bt s p) (by omega) (e - (p + 1)) (p + 1) (r + 1) (s.size + 1) (t.size + 1) [] l e rfl (by omega) hq (by omega) (fun j hj => by
        have := h.b (j + 1) (by omega)
        rw [show r + 1 + j = r + (j + 1) by omega, show p + 1 + j = p + (j + 1) by omega]
        exact this) (by omega)
      rw [this]
      refine ⟨heM, rfl, ?_⟩
      show r + 1 + (e - (p + 1)) = r + (e - p)
      omega
  simp only [if_neg h5] at hok ⊢
  rw [h.sign]
  cases hs : signAt s p with
  | none => rw [hs] at hok; cases hok
  | some l =>
    have hlen : l.length ≤ M := by
      rcases Nat.lt_or_ge M l.length with hlt | hge
      · exfalso
        have hm := List.mem_of_find?_eq_some hs
        have hp := List.find?_some hs
        rw [pre_iff] at hp
        have := hp.2 M hlt
        rw [h.s0] at this
        exact (sign_odd l hm M m1 hlt).1 this.symm
      · exact hge
    refine ⟨?_, rfl, ?_⟩
    · show p + l.length ≤ p + M; omega
    · show r + l.length = r + (p + l.length - p); omega
end Go.Proofs.YtdpfmmbfidknfaaGreatDoor


/- Two texts gone over side by side. -/
namespace Go.Proofs.YtdpfmmbfidknfaaGreatDoor
open Go.RowKit Go.Lib

theorem steps_run (t : ByteArray) (p : Nat) (b : Bool) (e : Nat) (hp : p + 1 ≤ t.size) (hr : runP t 1 false p = some b) (he : (if b = true then goes pLine t (p + 1) else p + 1) = e) (hle : e ≤ t.size) : Steps t p e [] := by
  have hg := (gap t 1 p hp).1 b hr
  rw [he] at hg
  refine ⟨hg.1, hle, fun k done hk => ?_⟩
  obtain ⟨k', hk', hh⟩ := hg.2.2 k done hk
  exact ⟨k', [], hk', by rw [hh, List.append_nil], rfl⟩
theorem run_blank (t : ByteArray) (p : Nat) (h : pBlank (bt t p) = true) : runP t 1 false p = some false := by simp only [runP, h]; rfl
theorem run_37 (t : ByteArray) (p : Nat) (h : bt t p = 37) : runP t 1 false p = some true := by simp only [runP, h]; rfl
theorem steps_blank (t : ByteArray) (p : Nat) (hp : p < t.size) (h : pBlank (bt t p) = true) : Steps t p (p + 1) [] := steps_run t p false (p + 1) (by omega) (run_blank t p h) rfl (by omega)
theorem steps_line (t : ByteArray) (p e : Nat) (hp : p < t.size) (h : bt t p = 37) (he : goes pLine t (p + 1) = e) : Steps t p e [] := by
  refine steps_run t p true e (by omega) (run_37 t p h) (by simpa using he) ?_
  rw [← he]
  exact goes_le _ _ _ (by omega)

/-- A word that is kept, or no word. -/
def Wd (t : Tk) : Prop := t.k ≠ 7 ∨ kept t.x = true
theorem no7 {k : Int} (h : k = 0 ∨ k = 1 ∨ k = 2 ∨ k = 3 ∨ k = 4 ∨ k = 5 ∨ k = 6) : k ≠ 7 := by omega
theorem atomV_7 (D : ByteArray) (p : Nat) : (tkOf (atomV D) p).k ≠ 7 := by
  unfold atomV
  split
  · exact no7 (k := 0) (by omega)
  · exact no7 (k := 1) (by omega)
theorem wholeV_7 (D : ByteArray) (p : Nat) : (tkOf (wholeV D) p).k ≠ 7 := by
  unfold wholeV
  split
  · exact no7 (k := 0) (by omega)
  · split
    · exact no7 (k := 0) (by omega)
    · exact no7 (k := 3) (by omega)
theorem floatV_7 (D E : ByteArray) (p : Nat) : (tkOf (floatV D E) p).k ≠ 7 := by
  unfold floatV
  split
  · exact no7 (k := 0) (by omega)
  · exact no7 (k := 4) (by omega)
theorem tok_wd (s : ByteArray) (p q : Nat) : Wd (tkOf (tokV s p) q) := by
  unfold tokV
  split
  · unfold wordV
    split
    · rename_i hk; exact .inr hk
    · split
      · exact .inl (no7 (k := 0) (by omega))
      · exact .inl (no7 (k := 1) (by omega))
  · split
    · exact .inl (no7 (k := 2) (by omega))
    · split
      · left
        unfold numV
        split
        · exact no7 (k := 0) (by omega)
        · split
          · exact wholeV_7 _ _
          · exact floatV_7 _ _ _
      · split
        · left
          unfold bitsV
          split
          · split
            · exact no7 (k := 4) (by omega)
            · exact no7 (k := 0) (by omega)
          · exact no7 (k := 0) (by omega)
        · split
          · left
            unfold quoteV
            split
            · split
              · exact atomV_7 _ _
              · exact no7 (k := 5) (by omega)
            · exact no7 (k := 0) (by omega)
          · left
            cases signAt s p with
            | none => exact no7 (k := 0) (by omega)
            | some l => exact no7 (k := 6) (by omega)

/-- Two texts: the same bytes within, n of them; then '}.' in the first one, the end of a line in the second one. -/
structure Two (s t : ByteArray) (n : Nat) : Prop where
  b : ∀ j, j < n → bt t (21 + j) = bt s (20 + j)
  hs : s.size = 20 + n + 2
  ht : 21 + n < t.size
  s0 : bt s (20 + n) = 125
  s1 : bt s (20 + n + 1) = 46
  t0 : bt t (21 + n) = 10
theorem Two.bd {s t : ByteArray} {n j : Nat} (h : Two s t n) (hj : j < n) : Bd s t (20 + j) (21 + j) (n - j) := by
  refine ⟨by omega, fun i hi => ?_, by have := h.hs; omega, by have := h.ht; omega, ?_, ?_, ?_⟩
  · rw [Nat.add_assoc, Nat.add_assoc]; exact h.b (j + i) (by omega)
  · rw [show 20 + j + (n - j) = 20 + n by omega]; exact h.s0
  · rw [show 20 + j + (n - j) = 20 + n by omega]; exact h.s1
  · rw [show 21 + j + (n - j) = 21 + n by omega]; exact h.t0

theorem sim {s t : ByteArray} {n : Nat} (h : Two s t n) : ∀ (m j : Nat), n - j = m → j ≤ n → ∀ k done l, s.size < 20 + j + k → toks s k (20 + j) done = .inl l →
    (∃ X, Steps s (20 + j) (20 + n) X ∧ Steps t (21 + j) (22 + n) X ∧ ∀ u ∈ X, Wd u ∧ u.p = 0) ∨
    ((∃ i, i < n ∧ bt s (20 + i) = 37) ∧ ∃ X, l.map bare = done.map bare ++ (X ++ [⟨8, ⟨#[]⟩, 0, 0, 0⟩]) ∧ Steps t (21 + j) (22 + n) X ∧ ∀ u ∈ X, Wd u ∧ u.p = 0) := by
  intro m
  induction m using Nat.strongRecOn with
  | ind m ih =>
    intro j hm hj k done l hk hl
    have hs := h.hs
    have ht := h.ht
    have snl : Steps t (21 + n) (22 + n) [] := by
      have := steps_blank t (21 + n) ht (by rw [h.t0]; rfl)
      rwa [show 21 + n + 1 = 22 + n by omega] at this
    by_cases hjn : j < n
    case neg =>
      obtain rfl : j = n := by omega
      exact .inl ⟨[], Steps.refl s _ (by omega), snl, fun u hu => by simp at hu⟩
    have hbd := h.bd hjn
    have hb0 := h.b j hjn
    -- a step of both, and then the rest
    have go : ∀ (j' : Nat) (T : List Tk), j < j' → j' ≤ n → Steps s (20 + j) (20 + j') T → Steps t (21 + j) (21 + j') T → (∀ u ∈ T, Wd u ∧ u.p = 0) →
        (∃ X, Steps s (20 + j) (20 + n) X ∧ Steps t (21 + j) (22 + n) X ∧ ∀ u ∈ X, Wd u ∧ u.p = 0) ∨
        ((∃ i, i < n ∧ bt s (20 + i) = 37) ∧ ∃ X, l.map bare = done.map bare ++ (X ++ [⟨8, ⟨#[]⟩, 0, 0, 0⟩]) ∧ Steps t (21 + j) (22 + n) X ∧ ∀ u ∈ X, Wd u ∧ u.p = 0) := by
      intro j' T h1 h2 a1 a2 hT
      obtain ⟨k', ds, hk', he, hds⟩ := a1.2.2 k done hk
      rw [he] at hl
      rcases ih (n - j') (by omega) j' rfl h2 k' _ l hk' hl with ⟨X, b1, b2, b3⟩ | ⟨hc, X, b1, b2, b3⟩
      · exact .inl ⟨T ++ X, a1.trans b1, a2.trans b2, fun u hu => (List.mem_append.1 hu).elim (hT u) (b3 u)⟩
      · refine .inr ⟨hc, T ++ X, ?_, a2.trans b2, fun u hu => (List.mem_append.1 hu).elim (hT u) (b3 u)⟩
        rw [b1, List.map_append, hds]
        simp only [List.append_assoc]
    by_cases hbl : pBlank (bt s (20 + j)) = true
    · exact go (j + 1) [] (by omega) (by omega) (steps_blank s _ (by omega) hbl) (steps_blank t _ (by omega) (by rw [hb0]; exact hbl)) (fun u hu => by simp at hu)
    have hbl' : pBlank (bt s (20 + j)) = false := by simpa using hbl
    by_cases h37 : bt s (20 + j) = 37
    · obtain ⟨e, he⟩ : ∃ e, goes pLine s (20 + j + 1) = e := ⟨_, rfl⟩
      have hge := goes_ge pLine s (20 + j + 1)
      have hle := goes_le pLine s (20 + j + 1) (by omega)
      have a1 := steps_line s (20 + j) e (by omega) h37 he
      have same : ∀ g, 1 ≤ g → j + g ≤ n → 20 + j + g ≤ e → (∀ i, 1 ≤ i → i < g → pLine (bt t (21 + j + i)) = true) := by
        intro g _ hgn hge2 i hi hig
        rw [Nat.add_assoc, h.b (j + i) (by omega), ← Nat.add_assoc]
        exact goes_all pLine s (20 + j + 1) (20 + j + i) (by omega) (by omega)
      by_cases hend : e < s.size
      · have hh := goes_halt he hend
        have h10 : bt s e = 10 := by
          unfold pLine at hh
          simpa using hh
        obtain ⟨j', hj'⟩ : ∃ j', e = 20 + j' := ⟨e - 20, by omega⟩
        have hj'n : j' < n := by
          rcases Nat.lt_or_ge j' n with hlt | hge3
          · exact hlt
          · exfalso
            have : e = 20 + n ∨ e = 20 + n + 1 := by omega
            rcases this with hh | hh
            · rw [hh, h.s0] at h10; omega
            · rw [hh, h.s1] at h10; omega
        have gt : goes pLine t (21 + j + 1) = 21 + j' := by
          rw [goes_past pLine t (21 + j + 1) (j' - (j + 1)) (by omega) (fun i hi => by
            have := same (j' - j) (by omega) (by omega) (by omega) (i + 1) (by omega) (by omega)
            rw [show 21 + j + 1 + i = 21 + j + (i + 1) by omega]; exact this), show 21 + j + 1 + (j' - (j + 1)) = 21 + j' by omega]
          refine goes_stop ?_
          rw [h.b j' hj'n, ← hj', h10]
          rfl
        rw [hj'] at a1
        exact go j' [] (by omega) (by omega) a1 (steps_line t (21 + j) (21 + j') (by omega) (by rw [hb0]; exact h37) gt) (fun u hu => by simp at hu)
      · obtain rfl : e = s.size := by omega
        have gt : goes pLine t (21 + j + 1) = 21 + n := by
          rw [goes_past pLine t (21 + j + 1) (n - (j + 1)) (by omega) (fun i hi => by
            have := same (n - j) (by omega) (by omega) (by omega) (i + 1) (by omega) (by omega)
            rw [show 21 + j + 1 + i = 21 + j + (i + 1) by omega]; exact this), show 21 + j + 1 + (n - (j + 1)) = 21 + n by omega]
          exact goes_stop (by rw [h.t0]; rfl)
        refine .inr ⟨⟨j, hjn, h37⟩, [], ?_, (steps_line t (21 + j) (21 + n) (by omega) (by rw [hb0]; exact h37) gt).trans snl, fun u hu => by simp at hu⟩
        obtain ⟨k', ds, hk', hh, hds⟩ := a1.2.2 k done hk
        obtain ⟨k1, rfl⟩ : ∃ k1, k' = k1 + 1 := ⟨k' - 1, by omega⟩
        rw [hh, toks_end s k1 s.size _ (Nat.le_refl _)] at hl
        obtain rfl := Sum.inl.inj hl
        simp only [List.map_append, hds, List.append_nil, List.nil_append]
        rfl
    · obtain ⟨k1, rfl⟩ : ∃ k1, k = k1 + 1 := ⟨k - 1, by omega⟩
      have hok : okV (tokV s (20 + j)) = true := by
        rw [okV_of]
        rw [toks_at s k1 (20 + j) done (by omega) hbl' h37] at hl
        unfold layT at hl
        split at hl
        · rename_i h0; exact h0
        · cases hl
      obtain ⟨b1, b2, b3⟩ := tok_bd hbd hok
      obtain ⟨hE1, hE2⟩ := tokE_in s (20 + j) (by omega) hok
      obtain ⟨j', hj'⟩ : ∃ j', tokE s (20 + j) = 20 + j' := ⟨tokE s (20 + j) - 20, by omega⟩
      rw [hj'] at b1 b3 hE1
      refine go j' [bare (tkOf (tokV s (20 + j)) (20 + j))] (by omega) (by omega) (steps_tok s _ _ _ (by omega) hbl' h37 hok hj' rfl) (steps_tok t _ _ _ (by omega) (by rw [hb0]; exact hbl') (by rw [hb0]; exact h37) (by rw [b2]; exact hok) (by rw [b3]; omega) ?_) (fun u hu => ?_)
      · rw [b2, tkOf_move s (20 + j) (21 + j)]
        rfl
      · obtain rfl := List.mem_singleton.1 hu
        exact ⟨tok_wd s (20 + j) (20 + j), rfl⟩
end Go.Proofs.YtdpfmmbfidknfaaGreatDoor


