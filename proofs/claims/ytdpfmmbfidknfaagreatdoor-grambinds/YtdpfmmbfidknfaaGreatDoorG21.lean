import Derived.Test.YtdpfmmbfidknfaaGreatDoorG18
import Derived.Test.YtdpfmmbfidknfaaGreatDoorG20
/- What stands between tokens; a source as a chain of tokens. -/
namespace Go.Proofs.YtdpfmmbfidknfaaGreatDoor
open Go.RowKit Go.Lib

/-- Goes over blanks and comments, byte by byte: whether it stands in a comment. -/
def runP (s : ByteArray) : Nat → Bool → Nat → Option Bool
  | 0, b, _ => some b
  | n + 1, true, p => runP s n (bt s p != 10) (p + 1)
  | n + 1, false, p => if pBlank (bt s p) = true then runP s n false (p + 1) else if bt s p = 37 then runP s n true (p + 1) else none

theorem runP_eq (s t : ByteArray) : ∀ n b p r, (∀ j, j < n → bt t (r + j) = bt s (p + j)) → runP t n b r = runP s n b p := by
  intro n
  induction n with
  | zero => intros; rfl
  | succ n ih =>
    intro b p r h
    have h0 : bt t r = bt s p := h 0 (by omega)
    have h1 : ∀ j, j < n → bt t (r + 1 + j) = bt s (p + 1 + j) := fun j hj => by
      have := h (j + 1) (by omega)
      rw [show r + 1 + j = r + (j + 1) by omega, show p + 1 + j = p + (j + 1) by omega]
      exact this
    cases b with
    | true => simp only [runP, h0]; exact ih _ _ _ h1
    | false =>
      simp only [runP, h0]
      split
      · exact ih _ _ _ h1
      · split
        · exact ih _ _ _ h1
        · rfl

theorem runP_add (s : ByteArray) : ∀ n m b p b', runP s n b p = some b' → runP s (n + m) b p = runP s m b' (p + n) := by
  intro n
  induction n with
  | zero => intro m b p b' h; cases h; rw [Nat.zero_add, Nat.add_zero]
  | succ n ih =>
    intro m b p b' h
    rw [show n + 1 + m = (n + m) + 1 by omega, show p + (n + 1) = p + 1 + n by omega]
    cases b with
    | true => simp only [runP] at h ⊢; exact ih _ _ _ _ h
    | false =>
      simp only [runP] at h ⊢
      split at h
      · rename_i h1; rw [if_pos h1]; exact ih _ _ _ _ h
      · rename_i h1
        rw [if_neg h1]
        split at h
        · rename_i h2; rw [if_pos h2]; exact ih _ _ _ _ h
        · cases h

/-- What was gone over so is passed. -/
theorem gap (t : ByteArray) : ∀ n p, p + n ≤ t.size →
    (∀ b, runP t n false p = some b → Goes t p (if b = true then goes pLine t (p + n) else p + n)) ∧
    (∀ b, runP t n true p = some b → Goes t (goes pLine t p) (if b = true then goes pLine t (p + n) else p + n)) := by
  intro n
  induction n with
  | zero =>
    intro p hp
    refine ⟨fun b h => ?_, fun b h => ?_⟩
    · cases h; exact Goes.refl t p hp
    · cases h; exact Goes.refl t _ (goes_le pLine t p hp)
  | succ n ih =>
    intro p hp
    obtain ⟨i1, i2⟩ := ih (p + 1) (by omega)
    rw [show p + (n + 1) = p + 1 + n by omega]
    refine ⟨fun b h => ?_, fun b h => ?_⟩
    · simp only [runP] at h
      split at h
      · rename_i h1
        exact (Goes.blank (by omega) h1).trans (i1 b h)
      · split at h
        · rename_i h2
          have := Goes.line (s := t) (p := p) (by omega) h2
          rw [goes_on (by omega) (by rw [h2]; rfl)] at this
          exact this.trans (i2 b h)
        · cases h
    · simp only [runP] at h
      by_cases h10 : bt t p = 10
      · rw [h10] at h
        rw [goes_stop (by rw [h10]; rfl)]
        exact (Goes.blank (by omega) (by rw [h10]; rfl)).trans (i1 b h)
      · have e : (bt t p != 10) = true := by simpa using h10
        rw [e] at h
        rw [goes_on (by omega) (by unfold pLine; exact e)]
        exact i2 b h

theorem run_blanks (s : ByteArray) : ∀ n p, (∀ j, j < n → pBlank (bt s (p + j)) = true) → runP s n false p = some false := by
  intro n
  induction n with
  | zero => intros; rfl
  | succ n ih =>
    intro p h
    have h0 : pBlank (bt s p) = true := h 0 (by omega)
    simp only [runP]
    rw [if_pos h0]
    exact ih (p + 1) (fun j hj => by have := h (j + 1) (by omega); rwa [show p + 1 + j = p + (j + 1) by omega])

theorem run_line (s : ByteArray) : ∀ n p, (∀ j, j < n → pLine (bt s (p + j)) = true) → runP s n true p = some true := by
  intro n
  induction n with
  | zero => intros; rfl
  | succ n ih =>
    intro p h
    have h0 : pLine (bt s p) = true := h 0 (by omega)
    simp only [runP]
    unfold pLine at h0
    rw [show (bt s p != 10) = true from h0]
    exact ih (p + 1) (fun j hj => by have := h (j + 1) (by omega); rwa [show p + 1 + j = p + (j + 1) by omega])

/-- A source from a place on: tokens, with what stands between them. -/
inductive Chain (s : ByteArray) : Nat → List Tk → Prop
  | stop (p : Nat) (b : Bool) (hp : p ≤ s.size) (hr : runP s (s.size - p) false p = some b) : Chain s p []
  | tok (p q : Nat) (ts : List Tk) (hpq : p ≤ q) (hq : q < s.size) (hr : runP s (q - p) false p = some false) (hb : pBlank (bt s q) = false) (h37 : bt s q ≠ 37) (hok : okV (tokV s q) = true) (hc : Chain s (tokE s q) ts) : Chain s p (tkOf (tokV s q) q :: ts)

theorem Chain.ahead {s : ByteArray} {p p' : Nat} {ts : List Tk} (h : Chain s p' ts) (hp : p ≤ p') (hr : runP s (p' - p) false p = some false) : Chain s p ts := by
  cases h with
  | stop _ b hp' hr' =>
    refine .stop p b (by omega) ?_
    rw [show s.size - p = (p' - p) + (s.size - p') by omega, runP_add s _ _ _ _ _ hr, show p + (p' - p) = p' by omega]
    exact hr'
  | tok _ q ts hpq hq hr' hb h37 hok hc =>
    refine .tok p q ts (by omega) hq ?_ hb h37 hok hc
    rw [show q - p = (p' - p) + (q - p') by omega, runP_add s _ _ _ _ _ hr, show p + (p' - p) = p' by omega]
    exact hr'

/-- Behind a comment: the line's end stands there, or the source's. -/
theorem Chain.behind {s : ByteArray} {p p' : Nat} {ts : List Tk} (h : Chain s p' ts) (hp : p ≤ p') (hs : p' ≤ s.size) (hr : runP s (p' - p) false p = some true) (h10 : p' < s.size → bt s p' = 10) : Chain s p ts := by
  have turn : ∀ n, 0 < n → p' < s.size → runP s n true p' = runP s n false p' := by
    intro n hn hlt
    obtain ⟨k, rfl⟩ : ∃ k, n = k + 1 := ⟨n - 1, by omega⟩
    simp only [runP, h10 hlt]
    rfl
  cases h with
  | stop _ b hp' hr' =>
    by_cases hlt : p' < s.size
    · refine .stop p b (by omega) ?_
      rw [show s.size - p = (p' - p) + (s.size - p') by omega, runP_add s _ _ _ _ _ hr, show p + (p' - p) = p' by omega, turn _ (by omega) hlt]
      exact hr'
    · obtain rfl : p' = s.size := by omega
      exact .stop p true (by omega) hr
  | tok _ q ts hpq hq hr' hb h37 hok hc =>
    have hlt : p' < s.size := by omega
    have hne : p' ≠ q := fun e => by rw [← e, h10 hlt] at hb; cases hb
    refine .tok p q ts (by omega) hq ?_ hb h37 hok hc
    rw [show q - p = (p' - p) + (q - p') by omega, runP_add s _ _ _ _ _ hr, show p + (p' - p) = p' by omega, turn _ (by omega) hlt]
    exact hr'

theorem okV_of (s : ByteArray) (q : Nat) : okV (tokV s q) = true ↔ erOf (tokV s q) = 0 := by
  obtain ⟨tk, x, tn, tf, er, hV⟩ := tokV_tk s q
  rw [hV, okV_tk]
  show (er == 0) = true ↔ er = 0
  simp

theorem chain_of (s : ByteArray) : ∀ k p done R, p ≤ s.size → s.size < p + k → toks s k p done = R →
    (∀ l, R = .inl l → ∃ ts, Chain s p ts ∧ l = done ++ (ts ++ [⟨8, ⟨#[]⟩, 0, 0, s.size⟩])) ∧ (∀ er e, R = .inr (er, e) → er ≠ 0 ∧ e ≤ s.size) := by
  intro k
  induction k with
  | zero => intro p done R hp hk; omega
  | succ k ih =>
    intro p done R hp hk h
    have h1 := goes_ge pBlank s p
    have h2 := goes_le pBlank s p hp
    have hbl : runP s (goes pBlank s p - p) false p = some false := run_blanks s _ p (fun j hj => goes_all pBlank s p (p + j) (by omega) (by omega))
    simp only [toks] at h
    split at h
    · rename_i hlt
      have hnb := goes_not pBlank s p hlt
      split at h
      · rename_i h37
        have hq : goes pLine s (goes pBlank s p) = goes pLine s (goes pBlank s p + 1) := goes_on hlt (by rw [h37]; rfl)
        have h3 := goes_ge pLine s (goes pBlank s p + 1)
        rw [← hq] at h3
        have h4 := goes_le pLine s (goes pBlank s p) h2
        obtain ⟨i1, i2⟩ := ih _ done R h4 (by omega) h
        refine ⟨fun l hl => ?_, i2⟩
        obtain ⟨ts, hc, rfl⟩ := i1 l hl
        refine ⟨ts, ?_, rfl⟩
        have hl2 : runP s (goes pLine s (goes pBlank s p) - goes pBlank s p) false (goes pBlank s p) = some true := by
          obtain ⟨n, hn⟩ : ∃ n, goes pLine s (goes pBlank s p) - goes pBlank s p = n + 1 := ⟨goes pLine s (goes pBlank s p) - goes pBlank s p - 1, by omega⟩
          rw [hn]
          simp only [runP]
          rw [hnb, h37]
          simp only [Bool.false_eq_true, if_false, if_true]
          exact run_line s n _ (fun j hj => goes_all pLine s (goes pBlank s p) _ (by omega) (by omega))
        have hc2 := hc.behind (p := goes pBlank s p) (by omega) h4 hl2 (fun hlt2 => by
          have := goes_not pLine s (goes pBlank s p) hlt2
          simpa [pLine] using this)
        exact hc2.ahead h1 hbl
      · rename_i h37
        split at h
        · rename_i her
          have hok := (okV_of s (goes pBlank s p)).2 her
          have h4 := tokE_in s _ hlt hok
          obtain ⟨i1, i2⟩ := ih _ _ R h4.2 (by omega) h
          refine ⟨fun l hl => ?_, i2⟩
          obtain ⟨ts, hc, rfl⟩ := i1 l hl
          exact ⟨_, .tok p _ ts h1 hlt hbl hnb h37 hok hc, by simp⟩
        · rename_i her
          refine ⟨fun l hl => ?_, fun er e he => ?_⟩
          · rw [hl] at h; cases h
          · rw [he] at h
            cases h
            exact ⟨her, by omega⟩
    · rename_i hlt
      have hz : goes pBlank s p = s.size := by omega
      refine ⟨fun l hl => ?_, fun er e he => ?_⟩
      · rw [hl] at h
        cases h
        refine ⟨[], .stop p false hp ?_, by rw [hz]; rfl⟩
        rw [← hz]
        exact hbl
      · rw [he] at h; cases h

/-- What stands next. -/
def nextP (s : ByteArray) : List Tk → Nat
  | [] => s.size
  | t :: _ => t.p

theorem tkOf_p (s : ByteArray) (q : Nat) : (tkOf (tokV s q) q).p = q := by
  obtain ⟨tk, x, tn, tf, er, hV⟩ := tokV_tk s q
  rw [hV]
  rfl

theorem Chain.next {s : ByteArray} {p : Nat} {ts : List Tk} (h : Chain s p ts) : p ≤ nextP s ts ∧ nextP s ts ≤ s.size ∧ ∃ b, runP s (nextP s ts - p) false p = some b := by
  cases h with
  | stop _ b hp hr => exact ⟨hp, Nat.le_refl _, b, hr⟩
  | tok _ q ts hpq hq hr hb h37 hok hc =>
    simp only [nextP, tkOf_p]
    exact ⟨hpq, by omega, false, hr⟩
end Go.Proofs.YtdpfmmbfidknfaaGreatDoor


/- A token hangs on its own bytes alone, and on what stands behind it being a blank or a comment. -/
namespace Go.Proofs.YtdpfmmbfidknfaaGreatDoor
open Go.RowKit Go.Lib

/-- The bytes of t from r on are those of s from p on, n of them; then t ends, or a blank or a comment stands there. -/
structure Like (s t : ByteArray) (p r n : Nat) : Prop where
  b : ∀ j, j < n → bt t (r + j) = bt s (p + j)
  hs : p + n ≤ s.size
  ht : r + n ≤ t.size
  z : r + n = t.size ∨ pBlank (bt t (r + n)) = true ∨ bt t (r + n) = 37

theorem Like.ext {s t : ByteArray} {p r n : Nat} (h : Like s t p r n) (a k : Nat) (hk : a + k ≤ n) : t.extract (r + a) (r + a + k) = s.extract (p + a) (p + a + k) := by
  have h1 := h.hs
  have h2 := h.ht
  have e1 : dl (t.extract (r + a) (r + a + k)) = dl (s.extract (p + a) (p + a + k)) := by
    apply List.ext_getElem
    · rw [dl_len, dl_len, size_ext, size_ext]; omega
    · intro i hi1 hi2
      have hik : i < k := by rw [dl_len, size_ext] at hi1; omega
      have b1 := bt_dl _ i hi1
      have b2 := bt_dl _ i hi2
      rw [bt_ext2 t _ _ i (by omega) (by omega)] at b1
      rw [bt_ext2 s _ _ i (by omega) (by omega)] at b2
      have := h.b (a + i) (by omega)
      rw [← Nat.add_assoc, ← Nat.add_assoc, b1, b2] at this
      exact UInt8.toNat_inj.1 this
  apply ByteArray.ext
  exact Array.toList_inj.1 e1

theorem Like.stop {s t : ByteArray} {p r n : Nat} (h : Like s t p r n) (P : Nat → Bool) (hP : ∀ c, pBlank c = true ∨ c = 37 → P c = false) : goes P t (r + n) = r + n := by
  rcases h.z with h | h
  · exact goes_end (by omega)
  · exact goes_stop (hP _ h)

/-- A class that goes all the way. -/
theorem Like.goes {s t : ByteArray} {p r n : Nat} (h : Like s t p r n) (P : Nat → Bool) (hP : ∀ c, pBlank c = true ∨ c = 37 → P c = false) (a : Nat) (ha : a ≤ n) (hg : ∀ j, a ≤ j → j < n → P (bt s (p + j)) = true) : goes P t (r + a) = r + n := by
  rw [goes_past P t (r + a) (n - a) (by have := h.ht; omega) (fun j hj => by
    rw [Nat.add_assoc, h.b (a + j) (by omega)]
    exact hg (a + j) (by omega) (by omega)), show r + a + (n - a) = r + n by omega]
  exact h.stop P hP

theorem no_name : ∀ c, pBlank c = true ∨ c = 37 → pName c = false := by
  intro c h
  have : c = 9 ∨ c = 10 ∨ c = 13 ∨ c = 32 ∨ c = 37 := by simp [pBlank] at h; omega
  rcases this with rfl | rfl | rfl | rfl | rfl <;> rfl
theorem no_digit : ∀ c, pBlank c = true ∨ c = 37 → pDigit c = false := by
  intro c h
  have : c = 9 ∨ c = 10 ∨ c = 13 ∨ c = 32 ∨ c = 37 := by simp [pBlank] at h; omega
  rcases this with rfl | rfl | rfl | rfl | rfl <;> rfl

theorem hexN_like (s t : ByteArray) : ∀ k p r u, (∀ j, j < k → bt t (r + j) = bt s (p + j)) → p + k ≤ s.size → r + k ≤ t.size → hexN t k r u = hexN s k p u := by
  intro k
  induction k with
  | zero => intros; rfl
  | succ k ih =>
    intro p r u h h1 h2
    have h0 : bt t r = bt s p := h 0 (by omega)
    have e : hexAt t r = hexAt s p := by unfold hexAt; rw [if_pos (by omega), if_pos (by omega), h0]
    simp only [hexN, e]
    cases hexAt s p with
    | none => rfl
    | some d =>
      simp only [Option.bind_some]
      exact ih (p + 1) (r + 1) _ (fun j hj => by
        have := h (j + 1) (by omega)
        rw [show r + 1 + j = r + (j + 1) by omega, show p + 1 + j = p + (j + 1) by omega]
        exact this) (by omega) (by omega)

theorem esc_like (s t : ByteArray) (p r c e : Nat) (h : escAt s p = some (c, e)) (hb : ∀ j, p + j < e → bt t (r + j) = bt s (p + j)) (ht : r + (e - p) ≤ t.size) : escAt t r = some (c, r + (e - p)) := by
  obtain ⟨_, hpe, hes⟩ := esc_lt h
  have h0 : bt t r = bt s p := hb 0 (by omega)
  unfold escAt at h ⊢
  rw [if_pos (by omega)] at h
  rw [if_pos (by omega), h0]
  split at h
  · rename_i h1; rw [if_pos h1]; cases h; rw [show p + 1 - p = 1 by omega]
  · rename_i h1
    rw [if_neg h1]
    split at h
    · rename_i h2; rw [if_pos h2]; cases h; rw [show p + 1 - p = 1 by omega]
    · rename_i h2
      rw [if_neg h2]
      split at h
      · rename_i h3; rw [if_pos h3]; cases h; rw [show p + 1 - p = 1 by omega]
      · rename_i h3
        rw [if_neg h3]
        split at h
        · rename_i h4
          rw [if_pos h4]
          obtain ⟨u, hu, he⟩ := Option.map_eq_some_iff.1 h
          cases he
          have hin := hexN_in s 1 (p + 1) 0 c hu
          rw [hexN_like s t 2 (p + 1) (r + 1) 0 (fun j hj => by
            have := hb (j + 1) (by omega)
            rw [show r + 1 + j = r + (j + 1) by omega, show p + 1 + j = p + (j + 1) by omega]
            exact this) (by omega) (by omega), hu]
          simp only [Option.map_some]
          rw [show p + 3 - p = 3 by omega]
        · cases h

theorem quot_like (s t : ByteArray) (m : Nat) (hm : m ≠ 92) : ∀ n p r k k' acc l e, e - p = n → p ≤ s.size → quotN s m k p acc = some (l, e) → n ≤ k' → (∀ j, j < n → bt t (r + j) = bt s (p + j)) → r + n ≤ t.size → quotN t m k' r acc = some (l, r + n) := by
  intro n
  induction n using Nat.strongRecOn with
  | ind n ih =>
    intro p r k k' acc l e hn hp hq hk hb ht
    obtain ⟨_, hes, hpe⟩ := quotN_len s m k p acc l e hp hq
    obtain ⟨k, rfl⟩ : ∃ k0, k = k0 + 1 := by
      cases k with
      | zero => cases hq
      | succ k => exact ⟨k, rfl⟩
    obtain ⟨k', rfl⟩ : ∃ k0, k' = k0 + 1 := ⟨k' - 1, by omega⟩
    have h0 : bt t r = bt s p := hb 0 (by omega)
    have hlt : p < s.size := by omega
    by_cases hc : bt s p = m
    · rw [quotN_mark s m k p acc hlt hc] at hq
      cases hq
      rw [quotN_mark t m k' r _ (by omega) (by rw [h0]; exact hc), show n = 1 by omega]
    · by_cases h92 : bt s p = 92
      · rw [quotN_esc s m k p acc hlt h92 hm] at hq
        rw [quotN_esc t m k' r acc (by omega) (by rw [h0]; exact h92) hm]
        cases hx : escAt s (p + 1) with
        | none => rw [hx] at hq; cases hq
        | some x =>
          obtain ⟨c, p2⟩ := x
          rw [hx] at hq
          simp only [Option.bind_some] at hq
          obtain ⟨_, hp2, hp3⟩ := esc_lt hx
          obtain ⟨_, _, hpe2⟩ := quotN_len s m k p2 _ l e hp3 hq
          have hx2 := esc_like s t (p + 1) (r + 1) c p2 hx (fun j hj => by
            have := hb (j + 1) (by omega)
            rw [show r + 1 + j = r + (j + 1) by omega, show p + 1 + j = p + (j + 1) by omega]
            exact this) (by omega)
          rw [hx2]
          simp only [Option.bind_some]
          have := ih (e - p2) (by omega) p2 (r + 1 + (p2 - (p + 1))) k k' _ l e rfl hp3 hq (by omega) (fun j hj => by
            have := hb (p2 - p + j) (by omega)
            rw [show r + 1 + (p2 - (p + 1)) + j = r + (p2 - p + j) by omega, this]
            congr 1
            omega) (by omega)
          rw [this]
          congr 2
          omega
      · rw [quotN_byte s m k p acc hlt hc h92] at hq
        rw [quotN_byte t m k' r acc (by omega) (by rw [h0]; exact hc) (by rw [h0]; exact h92), h0]
        have := ih (n - 1) (by omega) (p + 1) (r + 1) (k + 1) (k' + 1) _ l e (by omega) (by omega) hq (by omega) (fun j hj => by
          have := hb (j + 1) (by omega)
          rw [show r + 1 + j = r + (j + 1) by omega, show p + 1 + j = p + (j + 1) by omega]
          exact this) (by omega)
        rw [this]
        congr 2
        omega

theorem sign_clean : ∀ l ∈ signL, ∀ c ∈ l, pBlank c.toNat = false ∧ c.toNat ≠ 37 := by decide

theorem pre_iff (s : ByteArray) (p : Nat) (l : List UInt8) : Lib.hasPrefix (s.extract p s.size).data.toList l = true ↔ p + l.length ≤ max p s.size ∧ ∀ j (h : j < l.length), bt s (p + j) = (l[j]).toNat := by
  have hd : (s.extract p s.size).data.toList = (dl s).drop p := by
    have := dl_ext s p s.size
    rw [show (dl s).take s.size = dl s from List.take_length] at this
    exact this
  rw [hd]
  unfold Lib.hasPrefix
  rw [List.isPrefixOf_iff_prefix, List.prefix_iff_eq_take]
  have hlen : ((dl s).drop p).length = s.size - p := by rw [List.length_drop, dl_len]
  constructor
  · intro h
    have h1 : l.length ≤ s.size - p := by
      have := congrArg List.length h
      rw [List.length_take, hlen] at this
      omega
    refine ⟨by omega, fun j hj => ?_⟩
    have hj2 : p + j < (dl s).length := by rw [dl_len]; omega
    rw [bt_dl s (p + j) hj2]
    congr 1
    have : l[j]? = (((dl s).drop p).take l.length)[j]? := by rw [← h]
    rw [List.getElem?_take_of_lt hj, List.getElem?_drop, List.getElem?_eq_getElem hj2, List.getElem?_eq_getElem hj] at this
    exact (Option.some.inj this).symm
  · intro ⟨h1, h2⟩
    apply List.ext_getElem?
    intro j
    by_cases hj : j < l.length
    · have hj2 : p + j < (dl s).length := by rw [dl_len]; omega
      rw [List.getElem?_take_of_lt hj, List.getElem?_drop, List.getElem?_eq_getElem hj2, List.getElem?_eq_getElem hj]
      have := h2 j hj
      rw [bt_dl s (p + j) hj2] at this
      exact congrArg some (UInt8.toNat_inj.1 this).symm
    · rw [List.getElem?_eq_none (by omega), List.getElem?_eq_none (by rw [List.length_take]; omega)]

theorem sign_like (s t : ByteArray) (p r n : Nat) (l : List UInt8) (h : Like s t p r n) (hn : l.length = n) (hs : signAt s p = some l) : signAt t r = some l := by
  have h1 := h.hs
  have h2 := h.ht
  unfold signAt at hs ⊢
  rw [List.find?_eq_some_iff_append] at hs ⊢
  obtain ⟨hp, xs, ys, hl, hne⟩ := hs
  refine ⟨?_, xs, ys, hl, fun a ha => ?_⟩
  · rw [pre_iff] at hp ⊢
    exact ⟨by omega, fun j hj => by rw [h.b j (by omega)]; exact hp.2 j hj⟩
  · have := hne a ha
    rw [Bool.not_eq_true', ← Bool.not_eq_true] at this ⊢
    intro hc
    refine this ?_
    rw [pre_iff] at hc ⊢
    have hmem : a ∈ signL := by rw [hl]; exact List.mem_append_left _ ha
    have hla : a.length ≤ n := by
      rcases Nat.lt_or_ge n a.length with hlt | hge
      · exfalso
        have hb := hc.2 n hlt
        have hcl := sign_clean a hmem a[n] (List.getElem_mem _)
        rw [← hb] at hcl
        rcases h.z with hz | hz | hz
        · have := hc.1; omega
        · rw [hz] at hcl; cases hcl.1
        · exact hcl.2 hz
      · exact hge
    exact ⟨by omega, fun j hj => by rw [← h.b j (by omega)]; exact hc.2 j hj⟩

/-- A token stands by itself. -/
theorem tok_local (s t : ByteArray) (p r : Nat) (hp : p < s.size) (hok : okV (tokV s p) = true) (h : Like s t p r (tokE s p - p)) : tokV t r = tokV s p ∧ tokE t r = r + (tokE s p - p) := by
  obtain ⟨hE1, hE2⟩ := tokE_in s p hp hok
  obtain ⟨n, hn⟩ : ∃ n, tokE s p - p = n := ⟨_, rfl⟩
  rw [hn] at h ⊢
  have hEn : tokE s p = p + n := by omega
  have h0 : bt t r = bt s p := h.b 0 (by omega)
  have hext := h.ext 0 n (by omega)
  simp only [Nat.add_zero] at hext
  have hsz := h.hs
  have htz := h.ht
  unfold tokV at hok ⊢
  unfold tokE at hEn ⊢
  rw [h0]
  by_cases h1 : pSmall (bt s p) = true
  · simp only [if_pos h1] at hok hEn ⊢
    have hg : goes pName t r = r + n := h.goes pName no_name 0 (by omega) (fun j _ hj => goes_all pName s p (p + j) (by omega) (by omega))
    exact ⟨by unfold wordV; rw [hg, hEn, hext], hg⟩
  simp only [if_neg h1] at hok hEn ⊢
  by_cases h2 : pCapital (bt s p) = true ∨ bt s p = 95
  · simp only [if_pos h2] at hok hEn ⊢
    have hg : goes pName t r = r + n := h.goes pName no_name 0 (by omega) (fun j _ hj => goes_all pName s p (p + j) (by omega) (by omega))
    exact ⟨by unfold varV; rw [hg, hEn, hext], hg⟩
  simp only [if_neg h2] at hok hEn ⊢
  by_cases h3 : pDigit (bt s p) = true
  · simp only [if_pos h3] at hok hEn ⊢
    have hge := goes_ge pDigit s p
    obtain ⟨e, he⟩ : ∃ e, goes pDigit s p = p + e := ⟨goes pDigit s p - p, by omega⟩
    have hle := (frac_end s (goes pDigit s p) (goes_le pDigit s p (by omega))).1
    rw [hEn, he] at hle
    rw [he] at hEn
    by_cases hf : fracOk s (p + e) = true
    · have hf' := hf
      simp only [fracOk, Bool.and_eq_true, decide_eq_true_eq, beq_iff_eq] at hf'
      obtain ⟨⟨⟨f1, f2⟩, f3⟩, f4⟩ := hf'
      unfold fracEnd at hEn
      rw [if_pos hf] at hEn
      have hg1 := goes_on f3 f4
      have hg2 := goes_ge pDigit s (p + e + 1 + 1)
      have hen : e + 1 < n := by omega
      have gt : goes pDigit t r = r + e := by
        have := goes_past pDigit t r e (by omega) (fun j hj => by rw [h.b j (by omega)]; exact goes_all pDigit s p (p + j) (by omega) (by omega))
        rw [this]
        exact goes_stop (by rw [h.b e (by omega), f2]; rfl)
      have b1 := h.b e (by omega)
      have b2 := h.b (e + 1) (by omega)
      rw [← Nat.add_assoc, ← Nat.add_assoc] at b2
      have ft : fracOk t (r + e) = true := by
        simp only [fracOk, Bool.and_eq_true, decide_eq_true_eq, beq_iff_eq]
        exact ⟨⟨⟨by omega, by rw [b1]; exact f2⟩, by omega⟩, by rw [b2]; exact f4⟩
      have gt2 : goes pDigit t (r + e + 1) = r + n := by
        rw [Nat.add_assoc]
        exact h.goes pDigit no_digit (e + 1) (by omega) (fun j hj1 hj2 => goes_all pDigit s (p + e + 1) (p + j) (by omega) (by omega))
      have x1 := h.ext 0 e (by omega)
      simp only [Nat.add_zero] at x1
      have x2 := h.ext (e + 1) (n - (e + 1)) (by omega)
      rw [show r + (e + 1) + (n - (e + 1)) = r + n by omega, show p + (e + 1) + (n - (e + 1)) = p + n by omega, ← Nat.add_assoc, ← Nat.add_assoc] at x2
      refine ⟨?_, by rw [gt]; unfold fracEnd; rw [if_pos ft, gt2]⟩
      unfold numV
      rw [gt, he]
      unfold fracS
      rw [if_pos ft, if_pos hf, gt2, hEn, x1, x2]
    · have hf0 : fracOk s (p + e) = false := by simpa using hf
      unfold fracEnd at hEn
      rw [if_neg hf] at hEn
      obtain rfl : e = n := by omega
      have gt : goes pDigit t r = r + e := h.goes pDigit no_digit 0 (by omega) (fun j _ hj => goes_all pDigit s p (p + j) (by omega) (by omega))
      have ft : fracOk t (r + e) = false := by
        unfold fracOk
        rcases h.z with hz | hz
        · rw [hz]; simp
        · have : bt t (r + e) ≠ 46 := by
            intro hc
            rw [hc] at hz
            rcases hz with hz | hz
            · cases hz
            · cases hz
          simp [this]
      refine ⟨?_, by rw [gt]; unfold fracEnd; rw [if_neg (by rw [ft]; simp)]⟩
      have fs1 : fracS t (r + e) = ⟨#[]⟩ := by unfold fracS; rw [if_neg (by rw [ft]; simp)]
      have fs2 : fracS s (p + e) = ⟨#[]⟩ := by unfold fracS; rw [if_neg (by rw [hf0]; simp)]
      unfold numV
      rw [gt, he, fs1, fs2, hext]
  simp only [if_neg h3] at hok hEn ⊢
  by_cases h4 : bt s p = 35
  · simp only [if_pos h4] at hok hEn ⊢
    obtain rfl : n = 17 := by omega
    have hx := hexN_like s t 16 (p + 1) (r + 1) 0 (fun j hj => by
      have := h.b (j + 1) (by omega)
      rw [show r + 1 + j = r + (j + 1) by omega, show p + 1 + j = p + (j + 1) by omega]
      exact this) (by omega) (by omega)
    exact ⟨by unfold bitsV; rw [hx], rfl⟩
  simp only [if_neg h4] at hok hEn ⊢
  by_cases h5 : bt s p = 39 ∨ bt s p = 34
  · simp only [if_pos h5] at hok hEn ⊢
    unfold quoteE at hEn ⊢
    unfold quoteV at hok ⊢
    rw [h0]
    cases hq : quotN s (bt s p) (s.size + 1) (p + 1) [] with
    | none => rw [hq] at hok; cases hok
    | some x =>
      obtain ⟨l, e⟩ := x
      rw [hq] at hEn hok
      obtain rfl : e = p + n := hEn
      obtain ⟨_, _, hpe⟩ := quotN_len s (bt s p) _ (p + 1) [] l _ (by omega) hq
      have := quot_like s t (bt s p) (by omega) (n - 1) (p + 1) (r + 1) (s.size + 1) (t.size + 1) [] l (p + n) (by omega) (by omega) hq (by omega) (fun j hj => by
        have := h.b (j + 1) (by omega)
        rw [show r + 1 + j = r + (j + 1) by omega, show p + 1 + j = p + (j + 1) by omega]
        exact this) (by omega)
      rw [this]
      refine ⟨rfl, ?_⟩
      show r + 1 + (n - 1) = r + n
      omega
  simp only [if_neg h5] at hok hEn ⊢
  cases hs : signAt s p with
  | none => rw [hs] at hok; cases hok
  | some l =>
    rw [hs] at hEn
    have hl : l.length = n := by have : p + l.length = p + n := hEn; omega
    rw [sign_like s t p r n l h hl hs]
    exact ⟨rfl, by show r + l.length = r + n; omega⟩
end Go.Proofs.YtdpfmmbfidknfaaGreatDoor


