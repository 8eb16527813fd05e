import Derived.Test.YtdpfmmbfidknfaaGreatDoorG21
import Derived.Lib.ItoaNum
/- A token with what stands behind it, alone; all of them, with blanks between. -/
namespace Go.Proofs.YtdpfmmbfidknfaaGreatDoor
open Go.RowKit Go.Lib

theorem bt_left (A B : ByteArray) (j : Nat) (h : j < A.size) : bt (A ++ B) j = bt A j := by rw [bt_append A B j (by omega), if_pos h]
theorem bt_right (A B : ByteArray) (j : Nat) (h : j < B.size) : bt (A ++ B) (A.size + j) = bt B j := by
  rw [bt_append A B _ (by omega), if_neg (by omega)]
  congr 1
  omega

theorem run_first {s : ByteArray} {k p : Nat} {b : Bool} (h : runP s (k + 1) false p = some b) : pBlank (bt s p) = true ∨ bt s p = 37 := by
  simp only [runP] at h
  split at h
  · rename_i h1; exact .inl h1
  · split at h
    · rename_i h2; exact .inr h2
    · cases h

theorem run_sp (t : ByteArray) (b : Bool) (p : Nat) (h : bt t p = 32) : runP t 1 b p = some b := by
  cases b with
  | true => simp only [runP, h]; rfl
  | false => simp only [runP, h]; rfl
theorem run_nl (t : ByteArray) (b : Bool) (p : Nat) (h : bt t p = 10) : runP t 1 b p = some false := by
  cases b with
  | true => simp only [runP, h]; rfl
  | false => simp only [runP, h]; rfl

theorem tkOf_move (s : ByteArray) (q r : Nat) : tkOf (tokV s q) r = { tkOf (tokV s q) q with p := r } := by
  obtain ⟨tk, x, tn, tf, er, hV⟩ := tokV_tk s q
  rw [hV]
  rfl

/-- How a token and what stands behind it lie in another source. -/
theorem like_of (s t : ByteArray) (q r : Nat) (ts : List Tk) (hq : q < s.size) (hok : okV (tokV s q) = true) (hc : Chain s (tokE s q) ts)
    (hb : ∀ j, j < nextP s ts - q → bt t (r + j) = bt s (q + j)) (ht : r + (nextP s ts - q) < t.size) (hz : pBlank (bt t (r + (nextP s ts - q))) = true) :
    Like s t q r (tokE s q - q) ∧ ∃ b, runP t (nextP s ts - tokE s q) false (r + (tokE s q - q)) = some b := by
  obtain ⟨h1, h2⟩ := tokE_in s q hq hok
  obtain ⟨h3, h4, b, h5⟩ := hc.next
  refine ⟨⟨fun j hj => hb j (by omega), by omega, by omega, .inr ?_⟩, b, ?_⟩
  · by_cases he : tokE s q = nextP s ts
    · rw [he]; exact .inl hz
    · obtain ⟨k, hk⟩ : ∃ k, nextP s ts - tokE s q = k + 1 := ⟨nextP s ts - tokE s q - 1, by omega⟩
      rw [hk] at h5
      have := run_first h5
      rw [hb _ (by omega), show q + (tokE s q - q) = tokE s q by omega]
      exact this
  · rw [← h5]
    exact runP_eq s t _ false _ _ (fun j hj => by
      rw [Nat.add_assoc, hb _ (by omega)]
      congr 1
      omega)

/-- A token alone, with a blank behind. -/
theorem part_one (s : ByteArray) (hs : s.size ≤ 60000) (q : Nat) (ts : List Tk) (hq : q < s.size) (hnb : pBlank (bt s q) = false) (h37 : bt s q ≠ 37) (hok : okV (tokV s q) = true) (hc : Chain s (tokE s q) ts) :
    allT (s.extract q (nextP s ts) ++ ⟨#[32]⟩) = .inl [tkOf (tokV s q) 0, ⟨8, ⟨#[]⟩, 0, 0, nextP s ts - q + 1⟩] := by
  obtain ⟨h1, h2⟩ := tokE_in s q hq hok
  obtain ⟨h3, h4, _⟩ := hc.next
  obtain ⟨N, hN⟩ : ∃ N, nextP s ts - q = N := ⟨_, rfl⟩
  obtain ⟨t, htd⟩ : ∃ t, s.extract q (nextP s ts) ++ ⟨#[32]⟩ = t := ⟨_, rfl⟩
  have hes : (s.extract q (nextP s ts)).size = N := by rw [size_ext]; omega
  have hts : t.size = N + 1 := by rw [← htd, ByteArray.size_append, hes]; rfl
  have hb : ∀ j, j < N → bt t (0 + j) = bt s (q + j) := fun j hj => by
    rw [← htd, Nat.zero_add, bt_left _ _ j (by omega), bt_ext2 s _ _ j (by omega) (by omega)]
  have hb2 : bt t N = 32 := by
    have := bt_right (s.extract q (nextP s ts)) ⟨#[32]⟩ 0 (by decide)
    rw [htd, hes] at this
    exact this
  obtain ⟨hl, b, hr⟩ := like_of s t q 0 ts hq hok hc (by rw [hN]; exact hb) (by omega) (by rw [hN, Nat.zero_add, hb2]; rfl)
  obtain ⟨tv, te⟩ := tok_local s t q 0 hq hok hl
  rw [Nat.zero_add] at te hr
  have hr2 : runP t (N + 1 - (tokE s q - q)) false (tokE s q - q) = some b := by
    rw [show N + 1 - (tokE s q - q) = (nextP s ts - tokE s q) + 1 by omega, runP_add t _ _ _ _ _ hr, show tokE s q - q + (nextP s ts - tokE s q) = N by omega]
    exact run_sp t b N hb2
  have hg := (gap t _ _ (by omega)).1 b hr2
  have hge : (if b = true then goes pLine t (tokE s q - q + (N + 1 - (tokE s q - q))) else tokE s q - q + (N + 1 - (tokE s q - q))) = t.size := by
    rw [show tokE s q - q + (N + 1 - (tokE s q - q)) = t.size by omega]
    split
    · exact goes_end (Nat.le_refl _)
    · rfl
  rw [hge] at hg
  have b0 : bt t 0 = bt s q := hb 0 (by omega)
  rw [htd]
  unfold allT
  rw [if_neg (by omega), toks_at t t.size 0 [] (by omega) (by rw [b0]; exact hnb) (by rw [b0]; exact h37)]
  unfold layT
  rw [tv, te, if_pos ((okV_of s q).1 hok)]
  obtain ⟨k', hk', he⟩ := hg.2.2 t.size ([] ++ [tkOf (tokV s q) 0]) (by omega)
  rw [he]
  obtain ⟨k, rfl⟩ : ∃ k, k' = k + 1 := ⟨k' - 1, by omega⟩
  rw [toks_end t k t.size _ (Nat.le_refl _), hts, hN]
  rfl

/-- Whatever stands behind: from the start the tokens are these, and then those from there on. -/
def Adv (W : ByteArray) (done : List Tk) : Prop := ∀ X k, (W ++ X).size < k → ∃ k', (W ++ X).size < W.size + k' ∧ toks (W ++ X) k 0 [] = toks (W ++ X) k' W.size done

theorem adv_start (B : ByteArray) (hB : ∀ j, j < B.size → pBlank (bt B j) = true) : Adv B [] := by
  intro X k hk
  have hsz : (B ++ X).size = B.size + X.size := ByteArray.size_append ..
  have hr : runP (B ++ X) B.size false 0 = some false := run_blanks _ _ _ (fun j hj => by rw [Nat.zero_add, bt_left B X j hj]; exact hB j hj)
  have hg := (gap (B ++ X) B.size 0 (by omega)).1 false hr
  simp only [Bool.false_eq_true, if_false, Nat.zero_add] at hg
  exact hg.2.2 k [] (by omega)

theorem adv_step (W B s : ByteArray) (done : List Tk) (hW : Adv W done) (hB : ∀ j, j < B.size → pBlank (bt B j) = true) (q : Nat) (ts : List Tk) (hq : q < s.size) (hnb : pBlank (bt s q) = false) (h37 : bt s q ≠ 37) (hok : okV (tokV s q) = true) (hc : Chain s (tokE s q) ts) :
    Adv (((W ++ s.extract q (nextP s ts)) ++ ⟨#[10]⟩) ++ B) (done ++ [tkOf (tokV s q) W.size]) := by
  intro X k hk
  obtain ⟨h1, h2⟩ := tokE_in s q hq hok
  obtain ⟨h3, h4, _⟩ := hc.next
  obtain ⟨N, hN⟩ : ∃ N, nextP s ts - q = N := ⟨_, rfl⟩
  have hes : (s.extract q (nextP s ts)).size = N := by rw [size_ext]; omega
  have n1 : (⟨#[10]⟩ : ByteArray).size = 1 := rfl
  have hw : (((W ++ s.extract q (nextP s ts)) ++ ⟨#[10]⟩) ++ B).size = W.size + N + 1 + B.size := by
    rw [ByteArray.size_append, ByteArray.size_append, ByteArray.size_append, hes, n1]
  have hwx := ByteArray.size_append (a := ((W ++ s.extract q (nextP s ts)) ++ ⟨#[10]⟩) ++ B) (b := X)
  have ha : (((W ++ s.extract q (nextP s ts)) ++ ⟨#[10]⟩) ++ B) ++ X = W ++ (s.extract q (nextP s ts) ++ (⟨#[10]⟩ ++ (B ++ X))) := by simp only [ByteArray.append_assoc]
  obtain ⟨t, htd⟩ : ∃ t, (((W ++ s.extract q (nextP s ts)) ++ ⟨#[10]⟩) ++ B) ++ X = t := ⟨_, rfl⟩
  rw [htd] at hk hwx ⊢
  rw [htd] at ha
  have hW2 := hW (s.extract q (nextP s ts) ++ (⟨#[10]⟩ ++ (B ++ X))) k
  rw [← ha] at hW2
  obtain ⟨k1, hk1, he1⟩ := hW2 hk
  clear hW2 hW
  rw [hw] at hwx ⊢
  have q1 : (s.extract q (nextP s ts) ++ (⟨#[10]⟩ ++ (B ++ X))).size = N + (1 + (B.size + X.size)) := by rw [ByteArray.size_append, ByteArray.size_append, ByteArray.size_append, hes, n1]
  have hb : ∀ j, j < N → bt t (W.size + j) = bt s (q + j) := fun j hj => by
    rw [ha, bt_right _ _ j (by omega), bt_left _ _ j (by omega), bt_ext2 s _ _ j (by omega) (by omega)]
  have q2 : ((⟨#[10]⟩ : ByteArray) ++ (B ++ X)).size = 1 + (B.size + X.size) := by rw [ByteArray.size_append, ByteArray.size_append, n1]
  have hb2 : bt t (W.size + N) = 10 := by
    rw [ha, bt_right _ _ N (by omega)]
    have := bt_right (s.extract q (nextP s ts)) (⟨#[10]⟩ ++ (B ++ X)) 0 (by omega)
    rw [hes] at this
    rw [Nat.add_zero] at this
    rw [this, bt_left _ _ 0 (by omega)]
    rfl
  have hb3 : ∀ j, j < B.size → bt t (W.size + N + 1 + j) = bt B j := fun j hj => by
    rw [show W.size + N + 1 + j = W.size + (N + (1 + j)) by omega, ha, bt_right _ _ _ (by omega)]
    have := bt_right (s.extract q (nextP s ts)) (⟨#[10]⟩ ++ (B ++ X)) (1 + j) (by omega)
    rw [hes] at this
    rw [this]
    have := bt_right (⟨#[10]⟩ : ByteArray) (B ++ X) j (by rw [ByteArray.size_append]; omega)
    rw [n1] at this
    rw [this, bt_left B X j hj]
  obtain ⟨hl, b, hr⟩ := like_of s t q W.size ts hq hok hc (by rw [hN]; exact hb) (by omega) (by rw [hN, hb2]; rfl)
  obtain ⟨tv, te⟩ := tok_local s t q W.size hq hok hl
  have r1 : runP t (nextP s ts - tokE s q + 1) false (W.size + (tokE s q - q)) = some false := by
    rw [runP_add t _ _ _ _ _ hr, show W.size + (tokE s q - q) + (nextP s ts - tokE s q) = W.size + N by omega]
    exact run_nl t b _ hb2
  have r2 : runP t (nextP s ts - tokE s q + 1 + B.size) false (W.size + (tokE s q - q)) = some false := by
    rw [runP_add t _ _ _ _ _ r1, show W.size + (tokE s q - q) + (nextP s ts - tokE s q + 1) = W.size + N + 1 by omega]
    exact run_blanks t _ _ (fun j hj => by rw [hb3 j hj]; exact hB j hj)
  have hg := (gap t _ _ (by omega)).1 false r2
  simp only [Bool.false_eq_true, if_false] at hg
  rw [show W.size + (tokE s q - q) + (nextP s ts - tokE s q + 1 + B.size) = W.size + N + 1 + B.size by omega] at hg
  have b0 : bt t W.size = bt s q := hb 0 (by omega)
  obtain ⟨k1, rfl⟩ : ∃ k, k1 = k + 1 := ⟨k1 - 1, by omega⟩
  rw [toks_at t k1 W.size done (by omega) (by rw [b0]; exact hnb) (by rw [b0]; exact h37)] at he1
  unfold layT at he1
  rw [tv, te, if_pos ((okV_of s q).1 hok)] at he1
  obtain ⟨k', hk', he⟩ := hg.2.2 k1 (done ++ [tkOf (tokV s q) W.size]) (by omega)
  exact ⟨k', hk', he1.trans he⟩

theorem adv_end (W : ByteArray) (done : List Tk) (hs : W.size ≤ 65536) (h : Adv W done) : allT W = .inl (done ++ [⟨8, ⟨#[]⟩, 0, 0, W.size⟩]) := by
  have := h ⟨#[]⟩ (W.size + 1)
  rw [show W ++ (⟨#[]⟩ : ByteArray) = W from ByteArray.append_empty] at this
  obtain ⟨k', hk', he⟩ := this (by omega)
  unfold allT
  rw [if_neg (by omega), he]
  obtain ⟨k, rfl⟩ : ∃ k, k' = k + 1 := ⟨k' - 1, by omega⟩
  exact toks_end W k W.size done (Nat.le_refl _)
end Go.Proofs.YtdpfmmbfidknfaaGreatDoor


/- What stands in a text of digits, names, quotations, signs is told as tokens, whatever stands around it. -/
namespace Go.Proofs.YtdpfmmbfidknfaaGreatDoor
open Go.RowKit Go.Lib

/-- The bytes l stand in t at p. -/
def Occ (t : ByteArray) (p : Nat) (l : List UInt8) : Prop := p + l.length ≤ t.size ∧ ∀ j (h : j < l.length), bt t (p + j) = (l[j]).toNat

theorem Occ.left {t : ByteArray} {p : Nat} {a b : List UInt8} (h : Occ t p (a ++ b)) : Occ t p a := by
  refine ⟨by have := h.1; rw [List.length_append] at this; omega, fun j hj => ?_⟩
  rw [h.2 j (by rw [List.length_append]; omega), List.getElem_append_left hj]
theorem Occ.right {t : ByteArray} {p : Nat} {a b : List UInt8} (h : Occ t p (a ++ b)) : Occ t (p + a.length) b := by
  refine ⟨by have := h.1; rw [List.length_append] at this; omega, fun j hj => ?_⟩
  rw [Nat.add_assoc, h.2 (a.length + j) (by rw [List.length_append]; omega), List.getElem_append_right (by omega)]
  simp
theorem Occ.cons {t : ByteArray} {p : Nat} {c : UInt8} {l : List UInt8} (h : Occ t p (c :: l)) : p < t.size ∧ bt t p = c.toNat ∧ Occ t (p + 1) l := by
  have h1 := h.1
  rw [List.length_cons] at h1
  refine ⟨by omega, h.2 0 (by simp), by omega, fun j hj => ?_⟩
  have := h.2 (j + 1) (by simpa using hj)
  rw [show p + 1 + j = p + (j + 1) by omega, this]
  rfl
theorem Occ.nil {t : ByteArray} {p : Nat} (h : p ≤ t.size) : Occ t p [] := ⟨by simpa using h, fun j hj => by simp at hj⟩

theorem Occ.ext {t : ByteArray} {p : Nat} {l : List UInt8} (h : Occ t p l) : t.extract p (p + l.length) = ⟨l.toArray⟩ := by
  have h1 := h.1
  have e1 : dl (t.extract p (p + l.length)) = l := by
    apply List.ext_getElem
    · rw [dl_len, size_ext]; omega
    · intro i hi1 hi2
      have b1 := bt_dl _ i hi1
      rw [bt_ext2 t _ _ i (by omega) (by omega), h.2 i hi2] at b1
      exact (UInt8.toNat_inj.1 b1).symm
  apply ByteArray.ext
  exact Array.toList_inj.1 (e1.trans rfl)

def bare (t : Tk) : Tk := ⟨t.k, t.x, t.n, t.f, 0⟩

/-- From p to p' stand these tokens. -/
def Steps (t : ByteArray) (p p' : Nat) (ts : List Tk) : Prop := p ≤ p' ∧ p' ≤ t.size ∧ ∀ k done, t.size < p + k → ∃ k' ds, t.size < p' + k' ∧ toks t k p done = toks t k' p' (done ++ ds) ∧ ds.map bare = ts

theorem Steps.refl (t : ByteArray) (p : Nat) (h : p ≤ t.size) : Steps t p p [] := ⟨Nat.le_refl _, h, fun k done hk => ⟨k, [], hk, by rw [List.append_nil], rfl⟩⟩
theorem Steps.trans {t : ByteArray} {p q r : Nat} {a b : List Tk} (h1 : Steps t p q a) (h2 : Steps t q r b) : Steps t p r (a ++ b) := by
  refine ⟨Nat.le_trans h1.1 h2.1, h2.2.1, fun k done hk => ?_⟩
  obtain ⟨k1, d1, a1, b1, c1⟩ := h1.2.2 k done hk
  obtain ⟨k2, d2, a2, b2, c2⟩ := h2.2.2 k1 _ a1
  exact ⟨k2, d1 ++ d2, a2, by rw [b1, b2, List.append_assoc], by rw [List.map_append, c1, c2]⟩

theorem steps_tok (t : ByteArray) (p e : Nat) (T : Tk) (hp : p < t.size) (hnb : pBlank (bt t p) = false) (h37 : bt t p ≠ 37) (hok : okV (tokV t p) = true) (he : tokE t p = e) (hT : bare (tkOf (tokV t p) p) = T) : Steps t p e [T] := by
  have hin := tokE_in t p hp hok
  rw [he] at hin
  refine ⟨by omega, hin.2, fun k done hk => ?_⟩
  obtain ⟨k, rfl⟩ : ∃ k0, k = k0 + 1 := ⟨k - 1, by omega⟩
  refine ⟨k, [tkOf (tokV t p) p], by omega, ?_, by rw [← hT]; rfl⟩
  rw [toks_at t k p done hp hnb h37]
  unfold layT
  rw [if_pos ((okV_of t p).1 hok), he]

/-- What may stand behind an atom or a number. -/
def Stop (t : ByteArray) (p : Nat) : Prop := p = t.size ∨ bt t p = 44 ∨ bt t p = 93 ∨ bt t p = 125

theorem goes_to {t : ByteArray} {p : Nat} {l : List UInt8} (P : Nat → Bool) (h : Occ t p l) (hl : ∀ c ∈ l, P c.toNat = true) (hs : Stop t (p + l.length)) (h1 : P 44 = false) (h2 : P 93 = false) (h3 : P 125 = false) : goes P t p = p + l.length := by
  rw [goes_past P t p l.length h.1 (fun j hj => by rw [h.2 j hj]; exact hl _ (List.getElem_mem _))]
  rcases hs with hs | hs | hs | hs
  · exact goes_end (by omega)
  · exact goes_stop (by rw [hs]; exact h1)
  · exact goes_stop (by rw [hs]; exact h2)
  · exact goes_stop (by rw [hs]; exact h3)

theorem rest_of (t : ByteArray) (p : Nat) (hp : p < t.size) : (t.extract p t.size).data.toList = UInt8.ofNat (bt t p) :: (dl t).drop (p + 1) := by
  have hd : (t.extract p t.size).data.toList = (dl t).drop p := by
    have := dl_ext t p t.size
    rw [show (dl t).take t.size = dl t from List.take_length] at this
    exact this
  have hl : p < (dl t).length := hp
  rw [hd, List.drop_eq_getElem_cons hl, bt_dl t p hl, UInt8.ofNat_toNat]

theorem steps_sign (t : ByteArray) (p : Nat) (c : UInt8) (hp : p < t.size) (hc : bt t p = c.toNat) (hm : c = 123 ∨ c = 125 ∨ c = 91 ∨ c = 93 ∨ c = 44) : Steps t p (p + 1) [⟨6, ⟨#[c]⟩, 0, 0, 0⟩] := by
  have hs : signAt t p = some [c] := by
    unfold signAt
    rw [rest_of t p hp, hc, UInt8.ofNat_toNat]
    rcases hm with rfl | rfl | rfl | rfl | rfl <;> rfl
  have tv : tokV t p = sgV (signAt t p) := by
    unfold tokV
    rw [hc]
    rcases hm with rfl | rfl | rfl | rfl | rfl <;> rfl
  have te : tokE t p = p + sgN (signAt t p) := by
    unfold tokE
    rw [hc]
    rcases hm with rfl | rfl | rfl | rfl | rfl <;> rfl
  rw [hs] at tv te
  refine steps_tok t p (p + 1) _ hp ?_ ?_ (by rw [tv]; rfl) te (by rw [tv]; rfl)
  · rw [hc]; rcases hm with rfl | rfl | rfl | rfl | rfl <;> rfl
  · rw [hc]; rcases hm with rfl | rfl | rfl | rfl | rfl <;> decide

theorem steps_minus (t : ByteArray) (p : Nat) (hp : p + 1 < t.size) (hc : bt t p = 45) (hd : pDigit (bt t (p + 1)) = true) : Steps t p (p + 1) [⟨6, ⟨#[45]⟩, 0, 0, 0⟩] := by
  have hs : signAt t p = some [45] := by
    unfold signAt
    rw [rest_of t p (by omega), hc]
    have hl : p + 1 < (dl t).length := hp
    rw [List.drop_eq_getElem_cons hl]
    have hb := bt_dl t (p + 1) hl
    rw [hb] at hd
    have hne : ¬ ((62 : UInt8) = (dl t)[p + 1]) := fun e => by rw [← e] at hd; cases hd
    have hne2 : ((62 : UInt8) == (dl t)[p + 1]) = false := by simpa using hne
    simp only [signL, Lib.hasPrefix, List.find?, List.isPrefixOf, hne2]
    rfl
  have tv : tokV t p = sgV (signAt t p) := by
    unfold tokV
    rw [hc]
    rfl
  have te : tokE t p = p + sgN (signAt t p) := by
    unfold tokE
    rw [hc]
    rfl
  rw [hs] at tv te
  exact steps_tok t p (p + 1) _ (by omega) (by rw [hc]; rfl) (by omega) (by rw [tv]; rfl) te (by rw [tv]; rfl)

theorem dec_facts : ∀ u : Nat, wl (decDigits u) = u ∧ AllD (decDigits u) ∧ 1 ≤ (decDigits u).length ∧ (0 < u → ∀ h : 0 < (decDigits u).length, (decDigits u)[0] ≠ 48) := by
  intro u
  induction u using Nat.strongRecOn with
  | ind u ih =>
    by_cases h : u < 10
    · rw [decDigits_one h]
      have e : (UInt8.ofNat (48 + u)).toNat = 48 + u := by simp; omega
      refine ⟨by simp only [wl, e, List.length_nil]; omega, fun c hc => by cases List.mem_singleton.1 hc; exact dig_mk u h, by simp, fun h0 _ => ?_⟩
      intro hc
      have hc2 : UInt8.ofNat (48 + u) = 48 := by simpa using hc
      have := congrArg UInt8.toNat hc2
      rw [e] at this
      have h48 : (48 : UInt8).toNat = 48 := rfl
      omega
    · obtain ⟨i1, i2, i3, i4⟩ := ih (u / 10) (by omega)
      have hd : decDigits u = decDigits (u / 10) ++ [UInt8.ofNat (48 + u % 10)] := by rw [decDigits, dif_neg h]
      have e : (UInt8.ofNat (48 + u % 10)).toNat = 48 + u % 10 := by simp; omega
      rw [hd]
      refine ⟨?_, fun c hc => ?_, by rw [List.length_append]; omega, fun _ h0 => ?_⟩
      · rw [wl_append, i1]
        simp only [wl, e, List.length_nil, List.length_singleton]
        omega
      · rcases List.mem_append.1 hc with hc | hc
        · exact i2 c hc
        · cases List.mem_singleton.1 hc; exact dig_mk _ (by omega)
      · rw [List.getElem_append_left (by omega)]
        exact i4 (by omega) (by omega)

theorem dec_short : ∀ (k u : Nat), u < 10 ^ (k + 1) → (decDigits u).length ≤ k + 1 := by
  intro k
  induction k with
  | zero => intro u h; rw [decDigits_one (by simpa using h)]; simp
  | succ k ih =>
    intro u h
    by_cases h10 : u < 10
    · rw [decDigits_one h10]; simp
    · rw [decDigits, dif_neg h10, List.length_append]
      have := ih (u / 10) (by rw [Nat.div_lt_iff_lt_mul (by omega)]; rw [Nat.pow_succ] at h; exact h)
      simp
      omega

/-- A whole number. -/
theorem steps_int (t : ByteArray) (p u : Nat) (hu : u ≤ 576460752303423487) (h : Occ t p (decDigits u)) (hs : Stop t (p + (decDigits u).length)) : Steps t p (p + (decDigits u).length) [⟨3, ⟨#[]⟩, (u : Int), 0, 0⟩] := by
  obtain ⟨f1, f2, f3, f4⟩ := dec_facts u
  have f5 := dec_short 17 u (by omega)
  obtain ⟨L, hL⟩ : ∃ L, (decDigits u).length = L := ⟨_, rfl⟩
  have hp : p < t.size := by have := h.1; omega
  have hg := goes_to pDigit h f2 hs rfl rfl rfl
  have hx := h.ext
  have hsz := h.1
  have b0 : bt t p = ((decDigits u)[0]).toNat := h.2 0 (by omega)
  have d0 : pDigit (bt t p) = true := by rw [b0]; exact f2 _ (List.getElem_mem _)
  have c0 : 48 ≤ bt t p ∧ bt t p ≤ 57 := by simp [pDigit] at d0; omega
  rw [hL] at hg hs hx f3 f5 hsz ⊢
  have ft : fracOk t (p + L) = false := by
    unfold fracOk
    rcases hs with hz | hz | hz | hz
    · rw [hz]; simp
    · simp [hz]
    · simp [hz]
    · simp [hz]
  have fs : fracS t (p + L) = ⟨#[]⟩ := by unfold fracS; rw [ft]; rfl
  have fe : fracEnd t (p + L) = p + L := by unfold fracEnd; rw [ft]; rfl
  have hxs : (t.extract p (p + L)).size = L := by rw [size_ext]; omega
  have hw : wor (t.extract p (p + L)) L = u := by
    have := wor_wl (t.extract p (p + L)) (decDigits u) (fun j hj => by rw [bt_ext2 t _ _ j (by omega) (by omega)]; exact h.2 j hj) L (by omega)
    rw [this, ← hL, List.take_length, f1]
  have hz : ¬ (1 < L ∧ bt (t.extract p (p + L)) 0 = 48) := by
    intro ⟨h1, h2⟩
    rw [bt_ext2 t _ _ 0 (by omega) (by omega), Nat.add_zero, b0] at h2
    have hu0 : 0 < u := by
      rcases Nat.eq_zero_or_pos u with h0 | h0
      · subst h0; rw [decDigits_one (by omega)] at hL; simp at hL; omega
      · exact h0
    exact f4 hu0 (by omega) (UInt8.toNat_inj.1 h2)
  have nv : numV t p = .tuple #[.agg #[.int .i64 (3), .string (⟨#[]⟩), .int .i64 (((u : Nat) : Int)), .float .f64 (0), .int .i64 (0)], .int .i64 0] := by
    unfold numV
    rw [hg, fs, hxs, if_neg hz, if_pos (show (⟨#[]⟩ : ByteArray).size = 0 from rfl)]
    unfold wholeV
    rw [hxs, hw, if_neg (by omega), if_neg (by omega)]
  have n1 : ¬ pSmall (bt t p) = true := by simp [pSmall]; omega
  have n2 : ¬ (pCapital (bt t p) = true ∨ bt t p = 95) := by simp [pCapital]; omega
  have tv : tokV t p = numV t p := by unfold tokV; rw [if_neg n1, if_neg n2, if_pos d0]
  have te : tokE t p = p + L := by unfold tokE; rw [if_neg n1, if_neg n2, if_pos d0, hg, fe]
  rw [nv] at tv
  exact steps_tok t p (p + L) _ hp (by simp [pBlank]; omega) (by omega) (by rw [tv]; rfl) te (by rw [tv]; rfl)

/-- A float by its bits. -/
theorem steps_flt (t : ByteArray) (p f : Nat) (l : List UInt8) (hl : l.length = 16) (hf : hvz l 0 = some f) (hfin : Flt.fin f = true) (h : Occ t p (35 :: l)) : Steps t p (p + 17) [⟨4, ⟨#[]⟩, 0, f, 0⟩] := by
  obtain ⟨hp, hc, h2⟩ := h.cons
  have hc35 : bt t p = 35 := hc
  have hx := hexN_hv t l (p + 1) 0 h2.2 h2.1
  rw [hl, hf] at hx
  have bv : bitsV t p = .tuple #[.agg #[.int .i64 (4), .string (⟨#[]⟩), .int .i64 (0), .float .f64 (f), .int .i64 (0)], .int .i64 0] := by unfold bitsV; rw [hx]; simp only [hfin, if_true]
  have tv : tokV t p = bitsV t p := by unfold tokV; rw [hc35]; rfl
  have te : tokE t p = p + 17 := by unfold tokE; rw [hc35]; rfl
  rw [bv] at tv
  exact steps_tok t p (p + 17) _ hp (by rw [hc35]; rfl) (by omega) (by rw [tv]; rfl) te (by rw [tv]; rfl)

/-- An atom as it is. -/
theorem steps_plain (t : ByteArray) (p : Nat) (s : List UInt8) (h0 : 0 < s.length) (h64 : s.length ≤ 64) (hs1 : pSmall (s[0]).toNat = true) (hn : ∀ c ∈ s, pName c.toNat = true) (hk : kept ⟨s.toArray⟩ = false) (h : Occ t p s) (hs : Stop t (p + s.length)) : Steps t p (p + s.length) [⟨1, ⟨s.toArray⟩, 0, 0, 0⟩] := by
  have hg := goes_to pName h hn hs rfl rfl rfl
  have hx := h.ext
  have hsz := h.1
  have b0 : bt t p = (s[0]).toNat := h.2 0 h0
  have d0 : pSmall (bt t p) = true := by rw [b0]; exact hs1
  have c0 : 97 ≤ bt t p ∧ bt t p ≤ 122 := by simp [pSmall] at d0; omega
  have wv : wordV t p = .tuple #[.agg #[.int .i64 (1), .string (⟨s.toArray⟩), .int .i64 (0), .float .f64 (0), .int .i64 (0)], .int .i64 0] := by
    unfold wordV
    rw [hg, hx, hk, if_neg (by simp), if_neg (by show ¬ 64 < s.length; omega)]
  have tv : tokV t p = wordV t p := by unfold tokV; rw [if_pos d0]
  have te : tokE t p = p + s.length := by unfold tokE; rw [if_pos d0, hg]
  rw [wv] at tv
  exact steps_tok t p (p + s.length) _ (by omega) (by simp [pBlank]; omega) (by omega) (by rw [tv]; rfl) te (by rw [tv]; rfl)

def hxc (d : Nat) : UInt8 := UInt8.ofNat (if d < 10 then 48 + d else 87 + d)
/-- A byte within quotation marks. -/
def qzc (c : UInt8) : List UInt8 := if c = 92 ∨ c = 39 then [92, c] else if c.toNat < 32 ∨ 126 < c.toNat then [92, 120, hxc (c.toNat / 16), hxc (c.toNat % 16)] else [c]
def qz (s : List UInt8) : List UInt8 := s.flatMap qzc

theorem hxc_nat (d : Nat) (h : d < 16) : hexd (hxc d).toNat = some d := by
  have e : (hxc d).toNat = if d < 10 then 48 + d else 87 + d := by
    unfold hxc
    split <;> (simp; omega)
  rw [e]
  unfold hexd pDigit
  split
  · rw [if_pos (by simp; omega)]; congr 1; omega
  · rw [if_neg (by simp; omega), if_pos (by omega)]; congr 1; omega

theorem quot_back (t : ByteArray) : ∀ (s : List UInt8) (p k : Nat) (acc : List UInt8), Occ t p (qz s ++ [39]) → s.length < k → quotN t 39 k p acc = some (acc ++ s, p + (qz s).length + 1) := by
  intro s
  induction s with
  | nil =>
    intro p k acc h hk
    obtain ⟨k, rfl⟩ : ∃ k0, k = k0 + 1 := ⟨k - 1, by omega⟩
    obtain ⟨hp, hc, _⟩ := Occ.cons (c := 39) (l := []) h
    rw [quotN_mark t 39 k p acc hp hc, List.append_nil]
    rfl
  | cons c s ih =>
    intro p k acc h hk
    rw [List.length_cons] at hk
    obtain ⟨k, rfl⟩ : ∃ k0, k = k0 + 1 := ⟨k - 1, by omega⟩
    have hq : qz (c :: s) = qzc c ++ qz s := rfl
    rw [hq, List.append_assoc] at h
    rw [hq, List.length_append, List.append_cons acc c s]
    have hr := h.right
    have hl := h.left
    have hcc : UInt8.ofNat c.toNat = c := UInt8.ofNat_toNat
    by_cases h1 : c = 92 ∨ c = 39
    · have e : qzc c = [92, c] := if_pos h1
      rw [e] at hl hr ⊢
      obtain ⟨hp, hc, hl2⟩ := hl.cons
      obtain ⟨hp2, hc2, _⟩ := hl2.cons
      have hx : escAt t (p + 1) = some (c.toNat, p + 2) := by
        unfold escAt
        rw [if_pos hp2, if_pos (by rw [hc2]; rcases h1 with rfl | rfl <;> decide), hc2]
      rw [quotN_esc t 39 k p acc hp hc (by decide), hx]
      simp only [Option.bind_some, hcc]
      rw [ih (p + 2) k _ hr (by omega)]
      congr 2
      simp only [List.length_cons, List.length_nil]
      omega
    · by_cases h2 : c.toNat < 32 ∨ 126 < c.toNat
      · have e : qzc c = [92, 120, hxc (c.toNat / 16), hxc (c.toNat % 16)] := by unfold qzc; rw [if_neg h1, if_pos h2]
        rw [e] at hl hr ⊢
        obtain ⟨hp, hc, hl2⟩ := hl.cons
        obtain ⟨hp2, hc2, hl3⟩ := hl2.cons
        obtain ⟨hp3, hc3, hl4⟩ := hl3.cons
        obtain ⟨hp4, hc4, _⟩ := hl4.cons
        have hclt : c.toNat < 256 := c.toNat_lt
        have a1 : hexAt t (p + 1 + 1) = some (c.toNat / 16) := by unfold hexAt; rw [if_pos hp3, hc3]; exact hxc_nat _ (by omega)
        have a2 : hexAt t (p + 1 + 1 + 1) = some (c.toNat % 16) := by unfold hexAt; rw [if_pos hp4, hc4]; exact hxc_nat _ (by omega)
        have hc120 : bt t (p + 1) = 120 := hc2
        have hx : escAt t (p + 1) = some (c.toNat, p + 4) := by
          unfold escAt
          rw [if_pos hp2, hc120, if_neg (by decide), if_neg (by decide), if_neg (by decide), if_pos rfl, hexN_some t 1 _ 0 _ a1, hexN_some t 0 _ _ _ a2]
          simp only [hexN, Option.map_some]
          congr 2
          omega
        rw [quotN_esc t 39 k p acc hp hc (by decide), hx]
        simp only [Option.bind_some, hcc]
        rw [ih (p + 4) k _ hr (by omega)]
        congr 2
        simp only [List.length_cons, List.length_nil]
        omega
      · have e : qzc c = [c] := by unfold qzc; rw [if_neg h1, if_neg h2]
        rw [e] at hl hr ⊢
        obtain ⟨hp, hc, _⟩ := hl.cons
        have n39 : bt t p ≠ 39 := fun hh => h1 (.inr (UInt8.toNat_inj.1 (hc.symm.trans hh)))
        have n92 : bt t p ≠ 92 := fun hh => h1 (.inl (UInt8.toNat_inj.1 (hc.symm.trans hh)))
        rw [quotN_byte t 39 k p acc hp n39 n92, hc, hcc, ih (p + 1) (k + 1) _ hr (by omega)]
        congr 2
        simp only [List.length_cons, List.length_nil]
        omega

theorem qz_len (s : List UInt8) : s.length ≤ (qz s).length := by
  induction s with
  | nil => simp [qz]
  | cons c s ih =>
    have hq : qz (c :: s) = qzc c ++ qz s := rfl
    have h1 : 1 ≤ (qzc c).length := by unfold qzc; split; · simp
                                       · split <;> simp
    rw [hq, List.length_append, List.length_cons]
    omega

/-- An atom in quotation marks. -/
theorem steps_quoted (t : ByteArray) (p : Nat) (s : List UInt8) (h64 : s.length ≤ 64) (h : Occ t p (39 :: (qz s ++ [39]))) : Steps t p (p + (qz s).length + 2) [⟨1, ⟨s.toArray⟩, 0, 0, 0⟩] := by
  obtain ⟨hp, hc, h2⟩ := h.cons
  have hc39 : bt t p = 39 := hc
  have hlen := h2.1
  have hql := qz_len s
  rw [List.length_append] at hlen
  have hq := quot_back t s (p + 1) (t.size + 1) [] h2 (by omega)
  rw [List.nil_append] at hq
  have qv : quoteV t p = .tuple #[.agg #[.int .i64 (1), .string (⟨s.toArray⟩), .int .i64 (0), .float .f64 (0), .int .i64 (0)], .int .i64 0] := by
    unfold quoteV
    rw [hc39, hq]
    show (if 39 = 39 then atomV ⟨s.toArray⟩ else _) = _
    rw [if_pos rfl]
    unfold atomV
    rw [if_neg (by show ¬ 64 < s.length; omega)]
  have tv : tokV t p = quoteV t p := by unfold tokV; rw [hc39]; rfl
  have te : tokE t p = p + (qz s).length + 2 := by
    have : tokE t p = quoteE t p := by unfold tokE; rw [hc39]; rfl
    rw [this]
    unfold quoteE
    rw [hc39, hq]
    show p + 1 + (qz s).length + 1 = _
    omega
  rw [qv] at tv
  exact steps_tok t p _ _ hp (by rw [hc39]; rfl) (by omega) (by rw [tv]; rfl) te (by rw [tv]; rfl)
end Go.Proofs.YtdpfmmbfidknfaaGreatDoor


