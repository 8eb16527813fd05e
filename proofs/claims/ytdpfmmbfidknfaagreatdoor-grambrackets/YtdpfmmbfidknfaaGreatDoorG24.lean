import Derived.Test.YtdpfmmbfidknfaaGreatDoorG22
import Derived.Test.YtdpfmmbfidknfaaGreatDoorG23
/- A source of digits, a point, digits. -/
namespace Go.Proofs.YtdpfmmbfidknfaaGreatDoor
open Go.RowKit Go.Lib

def dl (D : ByteArray) : List UInt8 := D.data.toList
theorem dl_len (D : ByteArray) : (dl D).length = D.size := rfl
theorem dl_append (A B : ByteArray) : dl (A ++ B) = dl A ++ dl B := by
  unfold dl
  rw [ByteArray.data_append, Array.toList_append]
theorem bt_dl (D : ByteArray) (i : Nat) (h : i < (dl D).length) : bt D i = ((dl D)[i]).toNat := by
  unfold bt
  rw [get_of_lt D i h]
  rfl
theorem dl_ext (D : ByteArray) (a b : Nat) : dl (D.extract a b) = ((dl D).take b).drop a := by
  unfold dl
  rw [ByteArray.data_extract, Array.toList_extract, List.extract_eq_take_drop, List.drop_take]

def AllD (l : List UInt8) : Prop := ∀ c ∈ l, pDigit c.toNat = true

theorem dec_src (H S : ByteArray) (V m : Nat) (hm : m ≤ 11) (hH : 1 ≤ H.size) (hHm : H.size + m ≤ 12) (hS : S.size = m + 1) (dH : AllD (dl H)) (dS : AllD (dl S)) (hz : H.size = 1 ∨ bt H 0 ≠ 48) (hV : wl (dl H) * 10 ^ (m + 1) + wl (dl S) = V) :
    allT ((H ++ ⟨#[46]⟩) ++ S) = .inl [⟨4, ⟨#[]⟩, 0, fq V (m + 1), 0⟩, ⟨8, ⟨#[]⟩, 0, 0, H.size + 1 + (m + 1)⟩] := by
  obtain ⟨R, hR⟩ : ∃ R, (H ++ ⟨#[46]⟩) ++ S = R := ⟨_, rfl⟩
  have hl : dl R = dl H ++ 46 :: dl S := by
    rw [← hR, dl_append, dl_append]
    show dl H ++ [46] ++ dl S = _
    rw [List.append_assoc]
    rfl
  have hRs : R.size = H.size + 1 + (m + 1) := by
    rw [← dl_len, hl, List.length_append, List.length_cons, dl_len, dl_len, hS]
    omega
  have b1 : ∀ j, j < H.size → bt R j = bt H j := fun j hj => by
    rw [bt_dl R j (by rw [dl_len, hRs]; omega), bt_dl H j hj]
    congr 1
    simp only [hl]
    exact List.getElem_append_left hj
  have b2 : bt R H.size = 46 := by
    rw [bt_dl R H.size (by rw [dl_len, hRs]; omega)]
    simp only [hl]
    rw [List.getElem_append_right (by rw [dl_len]; omega)]
    simp [dl_len]
  have b3 : ∀ j, j < m + 1 → bt R (H.size + 1 + j) = bt S j := fun j hj => by
    rw [bt_dl R _ (by rw [dl_len, hRs]; omega), bt_dl S j (by rw [dl_len, hS]; omega)]
    congr 1
    simp only [hl]
    rw [List.getElem_append_right (by rw [dl_len]; omega)]
    simp only [dl_len, show H.size + 1 + j - H.size = j + 1 by omega, List.getElem_cons_succ]
  rw [hR]
  refine allT_dec R H.size (m + 1) V hH (by omega) (by omega) hRs (fun j hj => ?_) b2 (fun j hj => ?_) ?_ ?_
  · rw [b1 j hj, bt_dl H j hj]; exact dH _ (List.getElem_mem _)
  · rw [b3 j hj, bt_dl S j (by rw [dl_len, hS]; omega)]; exact dS _ (List.getElem_mem _)
  · rw [b1 0 (by omega)]; exact hz
  · have e1 : dl (R.extract 0 H.size ++ R.extract (H.size + 1) (H.size + 1 + (m + 1))) = dl H ++ dl S := by
      rw [dl_append, dl_ext, dl_ext, hl]
      congr 1
      · rw [List.drop_zero, List.take_left' (dl_len H)]
      · rw [List.take_of_length_le (by rw [List.length_append, List.length_cons, dl_len, dl_len, hS]; omega), show H.size + 1 = (dl H).length + 1 by rw [dl_len], List.drop_length_add_append]
        rfl
    have e2 : (dl H ++ dl S).length = H.size + (m + 1) := by rw [List.length_append, dl_len, dl_len, hS]
    have := wor_wl (R.extract 0 H.size ++ R.extract (H.size + 1) (H.size + 1 + (m + 1))) (dl H ++ dl S) (fun j hj => by
      have hj' : j < (dl (R.extract 0 H.size ++ R.extract (H.size + 1) (H.size + 1 + (m + 1)))).length := by rw [e1]; exact hj
      rw [bt_dl _ j hj']
      simp only [e1]) (H.size + (m + 1)) (by rw [e2]; omega)
    rw [this, ← e2, List.take_length, wl_append, dl_len S, hS, hV]

theorem wl_step (V j : Nat) (S : List UInt8) (hS : S.length = j) (h : wl S = V % 10 ^ j) (d : Nat) (hd : V / 10 ^ j % 10 = d) : wl (UInt8.ofNat (48 + d) :: S) = V % 10 ^ (j + 1) := by
  have e : (UInt8.ofNat (48 + d)).toNat = 48 + d := by simp; omega
  simp only [wl, e, hS, h]
  rw [Nat.pow_succ, Nat.mod_mul, hd, show 48 + d - 48 = d by omega, Nat.mul_comm, Nat.add_comm]

theorem digit_carry (l : List UInt8) (x d q : Nat) (hd : x % 10 = d) (hq : x / 10 = q) : wl (UInt8.ofNat (48 + d) :: l) + q * 10 ^ (l.length + 1) = wl l + x * 10 ^ l.length := by
  have e : (UInt8.ofNat (48 + d)).toNat = 48 + d := by simp; omega
  have hx : x = 10 * q + d := by omega
  simp only [wl, e]
  rw [show 48 + d - 48 = d by omega, hx, Nat.pow_succ, Nat.add_mul, Nat.mul_comm (10 ^ l.length) 10, ← Nat.mul_assoc, Nat.mul_comm q 10]
  omega

theorem dig_mk (d : Nat) (hd : d < 10) : pDigit (UInt8.ofNat (48 + d)).toNat = true := by
  rw [show (UInt8.ofNat (48 + d)).toNat = 48 + d by simp; omega]
  simp [pDigit]
  omega

/-- A row of one byte, as a string. -/
theorem text_one (wr : World) (d : Nat) (hd : d < 10) : (convert 41 9 (.slice (some ⟨wr.heap.size, 0, none⟩) 1 1)).run Tryz.prog (wr.alloc (.cells #[.int .u8 (48 + (d : Int))] 5)) = .ok (.string ⟨#[UInt8.ofNat (48 + d)]⟩) (wr.alloc (.cells #[.int .u8 (48 + (d : Int))] 5)) :=
  run_convert_bytes_back (P := Tryz.prog) _ 41 9 5 ⟨wr.heap.size, 0, none⟩ 1 [UInt8.ofNat (48 + d)] Tryz.underlying41 Tryz.underlying5 Tryz.underlying9 (fun j hj => app_one wr 5 _ _ rfl j _ (by
    obtain rfl : j = 0 := by simpa using hj
    simp
    omega))
end Go.Proofs.YtdpfmmbfidknfaaGreatDoor


/- What stands between tokens; a source as a chain of tokens. -/
namespace Go.Proofs.YtdpfmmbfidknfaaGreatDoor
open Go.RowKit Go.Lib

/-- Goes over blanks and comments, byte by byte: whether it stands in a comment. -/
def runP (s : ByteArray) : Nat → Bool → Nat → Option Bool
  | 0, b, _ => some b
  | n + 1, true, p => runP s n (bt s p != 10) (p + 1)
  | n + 1, false, p => if pBlank (bt s p) = true then runP s n false (p + 1) else if bt s p = 37 then runP s n true (p + 1) else none

theorem runP_eq (s t : ByteArray) : ∀ n b p r, (∀ j, j < n → bt t (r + j) = bt s (p + j)) → runP t n b r = runP s n b p := by
  intro n
  induction n with
  | zero => intros; rfl
  | succ n ih =>
    intro b p r h
    have h0 : bt t r = bt s p := h 0 (by omega)
    have h1 : ∀ j, j < n → bt t (r + 1 + j) = bt s (p + 1 + j) := fun j hj => by
      have := h (j + 1) (by omega)
      rw [show r + 1 + j = r + (j + 1) by omega, show p + 1 + j = p + (j + 1) by omega]
      exact this
    cases b with
    | true => simp only [runP, h0]; exact ih _ _ _ h1
    | false =>
      simp only [runP, h0]
      split
      · exact ih _ _ _ h1
      · split
        · exact ih _ _ _ h1
        · rfl

theorem runP_add (s : ByteArray) : ∀ n m b p b', runP s n b p = some b' → runP s (n + m) b p = runP s m b' (p + n) := by
  intro n
  induction n with
  | zero => intro m b p b' h; cases h; rw [Nat.zero_add, Nat.add_zero]
  | succ n ih =>
    intro m b p b' h
    rw [show n + 1 + m = (n + m) + 1 by omega, show p + (n + 1) = p + 1 + n by omega]
    cases b with
    | true => simp only [runP] at h ⊢; exact ih _ _ _ _ h
    | false =>
      simp only [runP] at h ⊢
      split at h
      · rename_i h1; rw [if_pos h1]; exact ih _ _ _ _ h
      · rename_i h1
        rw [if_neg h1]
        split at h
        · rename_i h2; rw [if_pos h2]; exact ih _ _ _ _ h
        · cases h

/-- What was gone over so is passed. -/
theorem gap (t : ByteArray) : ∀ n p, p + n ≤ t.size →
    (∀ b, runP t n false p = some b → Goes t p (if b = true then goes pLine t (p + n) else p + n)) ∧
    (∀ b, runP t n true p = some b → Goes t (goes pLine t p) (if b = true then goes pLine t (p + n) else p + n)) := by
  intro n
  induction n with
  | zero =>
    intro p hp
    refine ⟨fun b h => ?_, fun b h => ?_⟩
    · cases h; exact Goes.refl t p hp
    · cases h; exact Goes.refl t _ (goes_le pLine t p hp)
  | succ n ih =>
    intro p hp
    obtain ⟨i1, i2⟩ := ih (p + 1) (by omega)
    rw [show p + (n + 1) = p + 1 + n by omega]
    refine ⟨fun b h => ?_, fun b h => ?_⟩
    · simp only [runP] at h
      split at h
      · rename_i h1
        exact (Goes.blank (by omega) h1).trans (i1 b h)
      · split at h
        · rename_i h2
          have := Goes.line (s := t) (p := p) (by omega) h2
          rw [goes_on (by omega) (by rw [h2]; rfl)] at this
          exact this.trans (i2 b h)
        · cases h
    · simp only [runP] at h
      by_cases h10 : bt t p = 10
      · rw [h10] at h
        rw [goes_stop (by rw [h10]; rfl)]
        exact (Goes.blank (by omega) (by rw [h10]; rfl)).trans (i1 b h)
      · have e : (bt t p != 10) = true := by simpa using h10
        rw [e] at h
        rw [goes_on (by omega) (by unfold pLine; exact e)]
        exact i2 b h

theorem run_blanks (s : ByteArray) : ∀ n p, (∀ j, j < n → pBlank (bt s (p + j)) = true) → runP s n false p = some false := by
  intro n
  induction n with
  | zero => intros; rfl
  | succ n ih =>
    intro p h
    have h0 : pBlank (bt s p) = true := h 0 (by omega)
    simp only [runP]
    rw [if_pos h0]
    exact ih (p + 1) (fun j hj => by have := h (j + 1) (by omega); rwa [show p + 1 + j = p + (j + 1) by omega])

theorem run_line (s : ByteArray) : ∀ n p, (∀ j, j < n → pLine (bt s (p + j)) = true) → runP s n true p = some true := by
  intro n
  induction n with
  | zero => intros; rfl
  | succ n ih =>
    intro p h
    have h0 : pLine (bt s p) = true := h 0 (by omega)
    simp only [runP]
    unfold pLine at h0
    rw [show (bt s p != 10) = true from h0]
    exact ih (p + 1) (fun j hj => by have := h (j + 1) (by omega); rwa [show p + 1 + j = p + (j + 1) by omega])

/-- A source from a place on: tokens, with what stands between them. -/
inductive Chain (s : ByteArray) : Nat → List Tk → Prop
  | stop (p : Nat) (b : Bool) (hp : p ≤ s.size) (hr : runP s (s.size - p) false p = some b) : Chain s p []
  | tok (p q : Nat) (ts : List Tk) (hpq : p ≤ q) (hq : q < s.size) (hr : runP s (q - p) false p = some false) (hb : pBlank (bt s q) = false) (h37 : bt s q ≠ 37) (hok : okV (tokV s q) = true) (hc : Chain s (tokE s q) ts) : Chain s p (tkOf (tokV s q) q :: ts)

theorem Chain.ahead {s : ByteArray} {p p' : Nat} {ts : List Tk} (h : Chain s p' ts) (hp : p ≤ p') (hr : runP s (p' - p) false p = some false) : Chain s p ts := by
  cases h with
  | stop _ b hp' hr' =>
    refine .stop p b (by omega) ?_
    rw [show s.size - p = (p' - p) + (s.size - p') by omega, runP_add s _ _ _ _ _ hr, show p + (p' - p) = p' by omega]
    exact hr'
  | tok _ q ts hpq hq hr' hb h37 hok hc =>
    refine .tok p q ts (by omega) hq ?_ hb h37 hok hc
    rw [show q - p = (p' - p) + (q - p') by omega, runP_add s _ _ _ _ _ hr, show p + (p' - p) = p' by omega]
    exact hr'

/-- Behind a comment: the line's end stands there, or the source's. -/
theorem Chain.behind {s : ByteArray} {p p' : Nat} {ts : List Tk} (h : Chain s p' ts) (hp : p ≤ p') (hs : p' ≤ s.size) (hr : runP s (p' - p) false p = some true) (h10 : p' < s.size → bt s p' = 10) : Chain s p ts := by
  have turn : ∀ n, 0 < n → p' < s.size → runP s n true p' = runP s n false p' := by
    intro n hn hlt
    obtain ⟨k, rfl⟩ : ∃ k, n = k + 1 := ⟨n - 1, by omega⟩
    simp only [runP, h10 hlt]
    rfl
  cases h with
  | stop _ b hp' hr' =>
    by_cases hlt : p' < s.size
    · refine .stop p b (by omega) ?_
      rw [show s.size - p = (p' - p) + (s.size - p') by omega, runP_add s _ _ _ _ _ hr, show p + (p' - p) = p' by omega, turn _ (by omega) hlt]
      exact hr'
    · obtain rfl : p' = s.size := by omega
      exact .stop p true (by omega) hr
  | tok _ q ts hpq hq hr' hb h37 hok hc =>
    have hlt : p' < s.size := by omega
    have hne : p' ≠ q := fun e => by rw [← e, h10 hlt] at hb; cases hb
    refine .tok p q ts (by omega) hq ?_ hb h37 hok hc
    rw [show q - p = (p' - p) + (q - p') by omega, runP_add s _ _ _ _ _ hr, show p + (p' - p) = p' by omega, turn _ (by omega) hlt]
    exact hr'

theorem okV_of (s : ByteArray) (q : Nat) : okV (tokV s q) = true ↔ erOf (tokV s q) = 0 := by
  obtain ⟨tk, x, tn, tf, er, hV⟩ := tokV_tk s q
  rw [hV, okV_tk]
  show (er == 0) = true ↔ er = 0
  simp

theorem chain_of (s : ByteArray) : ∀ k p done R, p ≤ s.size → s.size < p + k → toks s k p done = R →
    (∀ l, R = .inl l → ∃ ts, Chain s p ts ∧ l = done ++ (ts ++ [⟨8, ⟨#[]⟩, 0, 0, s.size⟩])) ∧ (∀ er e, R = .inr (er, e) → er ≠ 0 ∧ e ≤ s.size) := by
  intro k
  induction k with
  | zero => intro p done R hp hk; omega
  | succ k ih =>
    intro p done R hp hk h
    have h1 := goes_ge pBlank s p
    have h2 := goes_le pBlank s p hp
    have hbl : runP s (goes pBlank s p - p) false p = some false := run_blanks s _ p (fun j hj => goes_all pBlank s p (p + j) (by omega) (by omega))
    simp only [toks] at h
    split at h
    · rename_i hlt
      have hnb := goes_not pBlank s p hlt
      split at h
      · rename_i h37
        have hq : goes pLine s (goes pBlank s p) = goes pLine s (goes pBlank s p + 1) := goes_on hlt (by rw [h37]; rfl)
        have h3 := goes_ge pLine s (goes pBlank s p + 1)
        rw [← hq] at h3
        have h4 := goes_le pLine s (goes pBlank s p) h2
        obtain ⟨i1, i2⟩ := ih _ done R h4 (by omega) h
        refine ⟨fun l hl => ?_, i2⟩
        obtain ⟨ts, hc, rfl⟩ := i1 l hl
        refine ⟨ts, ?_, rfl⟩
        have hl2 : runP s (goes pLine s (goes pBlank s p) - goes pBlank s p) false (goes pBlank s p) = some true := by
          obtain ⟨n, hn⟩ : ∃ n, goes pLine s (goes pBlank s p) - goes pBlank s p = n + 1 := ⟨goes pLine s (goes pBlank s p) - goes pBlank s p - 1, by omega⟩
          rw [hn]
          simp only [runP]
          rw [hnb, h37]
          simp only [Bool.false_eq_true, if_false, if_true]
          exact run_line s n _ (fun j hj => goes_all pLine s (goes pBlank s p) _ (by omega) (by omega))
        have hc2 := hc.behind (p := goes pBlank s p) (by omega) h4 hl2 (fun hlt2 => by
          have := goes_not pLine s (goes pBlank s p) hlt2
          simpa [pLine] using this)
        exact hc2.ahead h1 hbl
      · rename_i h37
        split at h
        · rename_i her
          have hok := (okV_of s (goes pBlank s p)).2 her
          have h4 := tokE_in s _ hlt hok
          obtain ⟨i1, i2⟩ := ih _ _ R h4.2 (by omega) h
          refine ⟨fun l hl => ?_, i2⟩
          obtain ⟨ts, hc, rfl⟩ := i1 l hl
          exact ⟨_, .tok p _ ts h1 hlt hbl hnb h37 hok hc, by simp⟩
        · rename_i her
          refine ⟨fun l hl => ?_, fun er e he => ?_⟩
          · rw [hl] at h; cases h
          · rw [he] at h
            cases h
            exact ⟨her, by omega⟩
    · rename_i hlt
      have hz : goes pBlank s p = s.size := by omega
      refine ⟨fun l hl => ?_, fun er e he => ?_⟩
      · rw [hl] at h
        cases h
        refine ⟨[], .stop p false hp ?_, by rw [hz]; rfl⟩
        rw [← hz]
        exact hbl
      · rw [he] at h; cases h

/-- What stands next. -/
def nextP (s : ByteArray) : List Tk → Nat
  | [] => s.size
  | t :: _ => t.p

theorem tkOf_p (s : ByteArray) (q : Nat) : (tkOf (tokV s q) q).p = q := by
  obtain ⟨tk, x, tn, tf, er, hV⟩ := tokV_tk s q
  rw [hV]
  rfl

theorem Chain.next {s : ByteArray} {p : Nat} {ts : List Tk} (h : Chain s p ts) : p ≤ nextP s ts ∧ nextP s ts ≤ s.size ∧ ∃ b, runP s (nextP s ts - p) false p = some b := by
  cases h with
  | stop _ b hp hr => exact ⟨hp, Nat.le_refl _, b, hr⟩
  | tok _ q ts hpq hq hr hb h37 hok hc =>
    simp only [nextP, tkOf_p]
    exact ⟨hpq, by omega, false, hr⟩
end Go.Proofs.YtdpfmmbfidknfaaGreatDoor


