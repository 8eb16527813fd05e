import Derived.Test.YtdpfmmbfidknfaaGreatDoorG25
import Derived.Lib.ItoaNum
import Derived.Test.YtdpfmmbfidknfaaGreatDoorG13
/- What stands in a text of digits, names, quotations, signs is told as tokens, whatever stands around it. -/
namespace Go.Proofs.YtdpfmmbfidknfaaGreatDoor
open Go.RowKit Go.Lib

/-- The bytes l stand in t at p. -/
def Occ (t : ByteArray) (p : Nat) (l : List UInt8) : Prop := p + l.length ≤ t.size ∧ ∀ j (h : j < l.length), bt t (p + j) = (l[j]).toNat

theorem Occ.left {t : ByteArray} {p : Nat} {a b : List UInt8} (h : Occ t p (a ++ b)) : Occ t p a := by
  refine ⟨by have := h.1; rw [List.length_append] at this; omega, fun j hj => ?_⟩
  rw [h.2 j (by rw [List.length_append]; omega), List.getElem_append_left hj]
theorem Occ.right {t : ByteArray} {p : Nat} {a b : List UInt8} (h : Occ t p (a ++ b)) : Occ t (p + a.length) b := by
  refine ⟨by have := h.1; rw [List.length_append] at this; omega, fun j hj => ?_⟩
  rw [Nat.add_assoc, h.2 (a.length + j) (by rw [List.length_append]; omega), List.getElem_append_right (by omega)]
  simp
theorem Occ.cons {t : ByteArray} {p : Nat} {c : UInt8} {l : List UInt8} (h : Occ t p (c :: l)) : p < t.size ∧ bt t p = c.toNat ∧ Occ t (p + 1) l := by
  have h1 := h.1
  rw [List.length_cons] at h1
  refine ⟨by omega, h.2 0 (by simp), by omega, fun j hj => ?_⟩
  have := h.2 (j + 1) (by simpa using hj)
  rw [show p + 1 + j = p + (j + 1) by omega, this]
  rfl
theorem Occ.nil {t : ByteArray} {p : Nat} (h : p ≤ t.size) : Occ t p [] := ⟨by simpa using h, fun j hj => by simp at hj⟩

theorem Occ.ext {t : ByteArray} {p : Nat} {l : List UInt8} (h : Occ t p l) : t.extract p (p + l.length) = ⟨l.toArray⟩ := by
  have h1 := h.1
  have e1 : dl (t.extract p (p + l.length)) = l := by
    apply List.ext_getElem
    · rw [dl_len, size_ext]; omega
    · intro i hi1 hi2
      have b1 := bt_dl _ i hi1
      rw [bt_ext2 t _ _ i (by omega) (by omega), h.2 i hi2] at b1
      exact (UInt8.toNat_inj.1 b1).symm
  apply ByteArray.ext
  exact Array.toList_inj.1 (e1.trans rfl)

def bare (t : Tk) : Tk := ⟨t.k, t.x, t.n, t.f, 0⟩

/-- From p to p' stand these tokens. -/
def Steps (t : ByteArray) (p p' : Nat) (ts : List Tk) : Prop := p ≤ p' ∧ p' ≤ t.size ∧ ∀ k done, t.size < p + k → ∃ k' ds, t.size < p' + k' ∧ toks t k p done = toks t k' p' (done ++ ds) ∧ ds.map bare = ts

theorem Steps.refl (t : ByteArray) (p : Nat) (h : p ≤ t.size) : Steps t p p [] := ⟨Nat.le_refl _, h, fun k done hk => ⟨k, [], hk, by rw [List.append_nil], rfl⟩⟩
theorem Steps.trans {t : ByteArray} {p q r : Nat} {a b : List Tk} (h1 : Steps t p q a) (h2 : Steps t q r b) : Steps t p r (a ++ b) := by
  refine ⟨Nat.le_trans h1.1 h2.1, h2.2.1, fun k done hk => ?_⟩
  obtain ⟨k1, d1, a1, b1, c1⟩ := h1.2.2 k done hk
  obtain ⟨k2, d2, a2, b2, c2⟩ := h2.2.2 k1 _ a1
  exact ⟨k2, d1 ++ d2, a2, by rw [b1, b2, List.append_assoc], by rw [List.map_append, c1, c2]⟩

theorem steps_tok (t : ByteArray) (p e : Nat) (T : Tk) (hp : p < t.size) (hnb : pBlank (bt t p) = false) (h37 : bt t p ≠ 37) (hok : okV (tokV t p) = true) (he : tokE t p = e) (hT : bare (tkOf (tokV t p) p) = T) : Steps t p e [T] := by
  have hin := tokE_in t p hp hok
  rw [he] at hin
  refine ⟨by omega, hin.2, fun k done hk => ?_⟩
  obtain ⟨k, rfl⟩ : ∃ k0, k = k0 + 1 := ⟨k - 1, by omega⟩
  refine ⟨k, [tkOf (tokV t p) p], by omega, ?_, by rw [← hT]; rfl⟩
  rw [toks_at t k p done hp hnb h37]
  unfold layT
  rw [if_pos ((okV_of t p).1 hok), he]

/-- What may stand behind an atom or a number. -/
def Stop (t : ByteArray) (p : Nat) : Prop := p = t.size ∨ bt t p = 44 ∨ bt t p = 93 ∨ bt t p = 125

theorem goes_to {t : ByteArray} {p : Nat} {l : List UInt8} (P : Nat → Bool) (h : Occ t p l) (hl : ∀ c ∈ l, P c.toNat = true) (hs : Stop t (p + l.length)) (h1 : P 44 = false) (h2 : P 93 = false) (h3 : P 125 = false) : goes P t p = p + l.length := by
  rw [goes_past P t p l.length h.1 (fun j hj => by rw [h.2 j hj]; exact hl _ (List.getElem_mem _))]
  rcases hs with hs | hs | hs | hs
  · exact goes_end (by omega)
  · exact goes_stop (by rw [hs]; exact h1)
  · exact goes_stop (by rw [hs]; exact h2)
  · exact goes_stop (by rw [hs]; exact h3)

theorem rest_of (t : ByteArray) (p : Nat) (hp : p < t.size) : (t.extract p t.size).data.toList = UInt8.ofNat (bt t p) :: (dl t).drop (p + 1) := by
  have hd : (t.extract p t.size).data.toList = (dl t).drop p := by
    have := dl_ext t p t.size
    rw [show (dl t).take t.size = dl t from List.take_length] at this
    exact this
  have hl : p < (dl t).length := hp
  rw [hd, List.drop_eq_getElem_cons hl, bt_dl t p hl, UInt8.ofNat_toNat]

theorem steps_sign (t : ByteArray) (p : Nat) (c : UInt8) (hp : p < t.size) (hc : bt t p = c.toNat) (hm : c = 123 ∨ c = 125 ∨ c = 91 ∨ c = 93 ∨ c = 44) : Steps t p (p + 1) [⟨6, ⟨#[c]⟩, 0, 0, 0⟩] := by
  have hs : signAt t p = some [c] := by
    unfold signAt
    rw [rest_of t p hp, hc, UInt8.ofNat_toNat]
    rcases hm with rfl | rfl | rfl | rfl | rfl <;> rfl
  have tv : tokV t p = sgV (signAt t p) := by
    unfold tokV
    rw [hc]
    rcases hm with rfl | rfl | rfl | rfl | rfl <;> rfl
  have te : tokE t p = p + sgN (signAt t p) := by
    unfold tokE
    rw [hc]
    rcases hm with rfl | rfl | rfl | rfl | rfl <;> rfl
  rw [hs] at tv te
  refine steps_tok t p (p + 1) _ hp ?_ ?_ (by rw [tv]; rfl) te (by rw [tv]; rfl)
  · rw [hc]; rcases hm with rfl | rfl | rfl | rfl | rfl <;> rfl
  · rw [hc]; rcases hm with rfl | rfl | rfl | rfl | rfl <;> decide

theorem steps_minus (t : ByteArray) (p : Nat) (hp : p + 1 < t.size) (hc : bt t p = 45) (hd : pDigit (bt t (p + 1)) = true) : Steps t p (p + 1) [⟨6, ⟨#[45]⟩, 0, 0, 0⟩] := by
  have hs : signAt t p = some [45] := by
    unfold signAt
    rw [rest_of t p (by omega), hc]
    have hl : p + 1 < (dl t).length := hp
    rw [List.drop_eq_getElem_cons hl]
    have hb := bt_dl t (p + 1) hl
    rw [hb] at hd
    have hne : ¬ ((62 : UInt8) = (dl t)[p + 1]) := fun e => by rw [← e] at hd; cases hd
    have hne2 : ((62 : UInt8) == (dl t)[p + 1]) = false := by simpa using hne
    simp only [signL, Lib.hasPrefix, List.find?, List.isPrefixOf, hne2]
    rfl
  have tv : tokV t p = sgV (signAt t p) := by
    unfold tokV
    rw [hc]
    rfl
  have te : tokE t p = p + sgN (signAt t p) := by
    unfold tokE
    rw [hc]
    rfl
  rw [hs] at tv te
  exact steps_tok t p (p + 1) _ (by omega) (by rw [hc]; rfl) (by omega) (by rw [tv]; rfl) te (by rw [tv]; rfl)

theorem dec_facts : ∀ u : Nat, wl (decDigits u) = u ∧ AllD (decDigits u) ∧ 1 ≤ (decDigits u).length ∧ (0 < u → ∀ h : 0 < (decDigits u).length, (decDigits u)[0] ≠ 48) := by
  intro u
  induction u using Nat.strongRecOn with
  | ind u ih =>
    by_cases h : u < 10
    · rw [decDigits_one h]
      have e : (UInt8.ofNat (48 + u)).toNat = 48 + u := by simp; omega
      refine ⟨by simp only [wl, e, List.length_nil]; omega, fun c hc => by cases List.mem_singleton.1 hc; exact dig_mk u h, by simp, fun h0 _ => ?_⟩
      intro hc
      have hc2 : UInt8.ofNat (48 + u) = 48 := by simpa using hc
      have := congrArg UInt8.toNat hc2
      rw [e] at this
      have h48 : (48 : UInt8).toNat = 48 := rfl
      omega
    · obtain ⟨i1, i2, i3, i4⟩ := ih (u / 10) (by omega)
      have hd : decDigits u = decDigits (u / 10) ++ [UInt8.ofNat (48 + u % 10)] := by rw [decDigits, dif_neg h]
      have e : (UInt8.ofNat (48 + u % 10)).toNat = 48 + u % 10 := by simp; omega
      rw [hd]
      refine ⟨?_, fun c hc => ?_, by rw [List.length_append]; omega, fun _ h0 => ?_⟩
      · rw [wl_append, i1]
        simp only [wl, e, List.length_nil, List.length_singleton]
        omega
      · rcases List.mem_append.1 hc with hc | hc
        · exact i2 c hc
        · cases List.mem_singleton.1 hc; exact dig_mk _ (by omega)
      · rw [List.getElem_append_left (by omega)]
        exact i4 (by omega) (by omega)

theorem dec_short : ∀ (k u : Nat), u < 10 ^ (k + 1) → (decDigits u).length ≤ k + 1 := by
  intro k
  induction k with
  | zero => intro u h; rw [decDigits_one (by simpa using h)]; simp
  | succ k ih =>
    intro u h
    by_cases h10 : u < 10
    · rw [decDigits_one h10]; simp
    · rw [decDigits, dif_neg h10, List.length_append]
      have := ih (u / 10) (by rw [Nat.div_lt_iff_lt_mul (by omega)]; rw [Nat.pow_succ] at h; exact h)
      simp
      omega

/-- A whole number. -/
theorem steps_int (t : ByteArray) (p u : Nat) (hu : u ≤ 576460752303423487) (h : Occ t p (decDigits u)) (hs : Stop t (p + (decDigits u).length)) : Steps t p (p + (decDigits u).length) [⟨3, ⟨#[]⟩, (u : Int), 0, 0⟩] := by
  obtain ⟨f1, f2, f3, f4⟩ := dec_facts u
  have f5 := dec_short 17 u (by omega)
  obtain ⟨L, hL⟩ : ∃ L, (decDigits u).length = L := ⟨_, rfl⟩
  have hp : p < t.size := by have := h.1; omega
  have hg := goes_to pDigit h f2 hs rfl rfl rfl
  have hx := h.ext
  have hsz := h.1
  have b0 : bt t p = ((decDigits u)[0]).toNat := h.2 0 (by omega)
  have d0 : pDigit (bt t p) = true := by rw [b0]; exact f2 _ (List.getElem_mem _)
  have c0 : 48 ≤ bt t p ∧ bt t p ≤ 57 := by simp [pDigit] at d0; omega
  rw [hL] at hg hs hx f3 f5 hsz ⊢
  have ft : fracOk t (p + L) = false := by
    unfold fracOk
    rcases hs with hz | hz | hz | hz
    · rw [hz]; simp
    · simp [hz]
    · simp [hz]
    · simp [hz]
  have fs : fracS t (p + L) = ⟨#[]⟩ := by unfold fracS; rw [ft]; rfl
  have fe : fracEnd t (p + L) = p + L := by unfold fracEnd; rw [ft]; rfl
  have hxs : (t.extract p (p + L)).size = L := by rw [size_ext]; omega
  have hw : wor (t.extract p (p + L)) L = u := by
    have := wor_wl (t.extract p (p + L)) (decDigits u) (fun j hj => by rw [bt_ext2 t _ _ j (by omega) (by omega)]; exact h.2 j hj) L (by omega)
    rw [this, ← hL, List.take_length, f1]
  have hz : ¬ (1 < L ∧ bt (t.extract p (p + L)) 0 = 48) := by
    intro ⟨h1, h2⟩
    rw [bt_ext2 t _ _ 0 (by omega) (by omega), Nat.add_zero, b0] at h2
    have hu0 : 0 < u := by
      rcases Nat.eq_zero_or_pos u with h0 | h0
      · subst h0; rw [decDigits_one (by omega)] at hL; simp at hL; omega
      · exact h0
    exact f4 hu0 (by omega) (UInt8.toNat_inj.1 h2)
  have nv : numV t p = .tuple #[.agg #[.int .i64 (3), .string (⟨#[]⟩), .int .i64 (((u : Nat) : Int)), .float .f64 (0), .int .i64 (0)], .int .i64 0] := by
    unfold numV
    rw [hg, fs, hxs, if_neg hz, if_pos (show (⟨#[]⟩ : ByteArray).size = 0 from rfl)]
    unfold wholeV
    rw [hxs, hw, if_neg (by omega), if_neg (by omega)]
  have n1 : ¬ pSmall (bt t p) = true := by simp [pSmall]; omega
  have n2 : ¬ (pCapital (bt t p) = true ∨ bt t p = 95) := by simp [pCapital]; omega
  have tv : tokV t p = numV t p := by unfold tokV; rw [if_neg n1, if_neg n2, if_pos d0]
  have te : tokE t p = p + L := by unfold tokE; rw [if_neg n1, if_neg n2, if_pos d0, hg, fe]
  rw [nv] at tv
  exact steps_tok t p (p + L) _ hp (by simp [pBlank]; omega) (by omega) (by rw [tv]; rfl) te (by rw [tv]; rfl)

/-- A float by its bits. -/
theorem steps_flt (t : ByteArray) (p f : Nat) (l : List UInt8) (hl : l.length = 16) (hf : hvz l 0 = some f) (hfin : Flt.fin f = true) (h : Occ t p (35 :: l)) : Steps t p (p + 17) [⟨4, ⟨#[]⟩, 0, f, 0⟩] := by
  obtain ⟨hp, hc, h2⟩ := h.cons
  have hc35 : bt t p = 35 := hc
  have hx := hexN_hv t l (p + 1) 0 h2.2 h2.1
  rw [hl, hf] at hx
  have bv : bitsV t p = .tuple #[.agg #[.int .i64 (4), .string (⟨#[]⟩), .int .i64 (0), .float .f64 (f), .int .i64 (0)], .int .i64 0] := by unfold bitsV; rw [hx]; simp only [hfin, if_true]
  have tv : tokV t p = bitsV t p := by unfold tokV; rw [hc35]; rfl
  have te : tokE t p = p + 17 := by unfold tokE; rw [hc35]; rfl
  rw [bv] at tv
  exact steps_tok t p (p + 17) _ hp (by rw [hc35]; rfl) (by omega) (by rw [tv]; rfl) te (by rw [tv]; rfl)

/-- An atom as it is. -/
theorem steps_plain (t : ByteArray) (p : Nat) (s : List UInt8) (h0 : 0 < s.length) (h64 : s.length ≤ 64) (hs1 : pSmall (s[0]).toNat = true) (hn : ∀ c ∈ s, pName c.toNat = true) (hk : kept ⟨s.toArray⟩ = false) (h : Occ t p s) (hs : Stop t (p + s.length)) : Steps t p (p + s.length) [⟨1, ⟨s.toArray⟩, 0, 0, 0⟩] := by
  have hg := goes_to pName h hn hs rfl rfl rfl
  have hx := h.ext
  have hsz := h.1
  have b0 : bt t p = (s[0]).toNat := h.2 0 h0
  have d0 : pSmall (bt t p) = true := by rw [b0]; exact hs1
  have c0 : 97 ≤ bt t p ∧ bt t p ≤ 122 := by simp [pSmall] at d0; omega
  have wv : wordV t p = .tuple #[.agg #[.int .i64 (1), .string (⟨s.toArray⟩), .int .i64 (0), .float .f64 (0), .int .i64 (0)], .int .i64 0] := by
    unfold wordV
    rw [hg, hx, hk, if_neg (by simp), if_neg (by show ¬ 64 < s.length; omega)]
  have tv : tokV t p = wordV t p := by unfold tokV; rw [if_pos d0]
  have te : tokE t p = p + s.length := by unfold tokE; rw [if_pos d0, hg]
  rw [wv] at tv
  exact steps_tok t p (p + s.length) _ (by omega) (by simp [pBlank]; omega) (by omega) (by rw [tv]; rfl) te (by rw [tv]; rfl)

def hxc (d : Nat) : UInt8 := UInt8.ofNat (if d < 10 then 48 + d else 87 + d)
/-- A byte within quotation marks. -/
def qzc (c : UInt8) : List UInt8 := if c = 92 ∨ c = 39 then [92, c] else if c.toNat < 32 ∨ 126 < c.toNat then [92, 120, hxc (c.toNat / 16), hxc (c.toNat % 16)] else [c]
def qz (s : List UInt8) : List UInt8 := s.flatMap qzc

theorem hxc_nat (d : Nat) (h : d < 16) : hexd (hxc d).toNat = some d := by
  have e : (hxc d).toNat = if d < 10 then 48 + d else 87 + d := by
    unfold hxc
    split <;> (simp; omega)
  rw [e]
  unfold hexd pDigit
  split
  · rw [if_pos (by simp; omega)]; congr 1; omega
  · rw [if_neg (by simp; omega), if_pos (by omega)]; congr 1; omega

theorem quot_back (t : ByteArray) : ∀ (s : List UInt8) (p k : Nat) (acc : List UInt8), Occ t p (qz s ++ [39]) → s.length < k → quotN t 39 k p acc = some (acc ++ s, p + (qz s).length + 1) := by
  intro s
  induction s with
  | nil =>
    intro p k acc h hk
    obtain ⟨k, rfl⟩ : ∃ k0, k = k0 + 1 := ⟨k - 1, by omega⟩
    obtain ⟨hp, hc, _⟩ := Occ.cons (c := 39) (l := []) h
    rw [quotN_mark t 39 k p acc hp hc, List.append_nil]
    rfl
  | cons c s ih =>
    intro p k acc h hk
    rw [List.length_cons] at hk
    obtain ⟨k, rfl⟩ : ∃ k0, k = k0 + 1 := ⟨k - 1, by omega⟩
    have hq : qz (c :: s) = qzc c ++ qz s := rfl
    rw [hq, List.append_assoc] at h
    rw [hq, List.length_append, List.append_cons acc c s]
    have hr := h.right
    have hl := h.left
    have hcc : UInt8.ofNat c.toNat = c := UInt8.ofNat_toNat
    by_cases h1 : c = 92 ∨ c = 39
    · have e : qzc c = [92, c] := if_pos h1
      rw [e] at hl hr ⊢
      obtain ⟨hp, hc, hl2⟩ := hl.cons
      obtain ⟨hp2, hc2, _⟩ := hl2.cons
      have hx : escAt t (p + 1) = some (c.toNat, p + 2) := by
        unfold escAt
        rw [if_pos hp2, if_pos (by rw [hc2]; rcases h1 with rfl | rfl <;> decide), hc2]
      rw [quotN_esc t 39 k p acc hp hc (by decide), hx]
      simp only [Option.bind_some, hcc]
      rw [ih (p + 2) k _ hr (by omega)]
      congr 2
      simp only [List.length_cons, List.length_nil]
      omega
    · by_cases h2 : c.toNat < 32 ∨ 126 < c.toNat
      · have e : qzc c = [92, 120, hxc (c.toNat / 16), hxc (c.toNat % 16)] := by unfold qzc; rw [if_neg h1, if_pos h2]
        rw [e] at hl hr ⊢
        obtain ⟨hp, hc, hl2⟩ := hl.cons
        obtain ⟨hp2, hc2, hl3⟩ := hl2.cons
        obtain ⟨hp3, hc3, hl4⟩ := hl3.cons
        obtain ⟨hp4, hc4, _⟩ := hl4.cons
        have hclt : c.toNat < 256 := c.toNat_lt
        have a1 : hexAt t (p + 1 + 1) = some (c.toNat / 16) := by unfold hexAt; rw [if_pos hp3, hc3]; exact hxc_nat _ (by omega)
        have a2 : hexAt t (p + 1 + 1 + 1) = some (c.toNat % 16) := by unfold hexAt; rw [if_pos hp4, hc4]; exact hxc_nat _ (by omega)
        have hc120 : bt t (p + 1) = 120 := hc2
        have hx : escAt t (p + 1) = some (c.toNat, p + 4) := by
          unfold escAt
          rw [if_pos hp2, hc120, if_neg (by decide), if_neg (by decide), if_neg (by decide), if_pos rfl, hexN_some t 1 _ 0 _ a1, hexN_some t 0 _ _ _ a2]
          simp only [hexN, Option.map_some]
          congr 2
          omega
        rw [quotN_esc t 39 k p acc hp hc (by decide), hx]
        simp only [Option.bind_some, hcc]
        rw [ih (p + 4) k _ hr (by omega)]
        congr 2
        simp only [List.length_cons, List.length_nil]
        omega
      · have e : qzc c = [c] := by unfold qzc; rw [if_neg h1, if_neg h2]
        rw [e] at hl hr ⊢
        obtain ⟨hp, hc, _⟩ := hl.cons
        have n39 : bt t p ≠ 39 := fun hh => h1 (.inr (UInt8.toNat_inj.1 (hc.symm.trans hh)))
        have n92 : bt t p ≠ 92 := fun hh => h1 (.inl (UInt8.toNat_inj.1 (hc.symm.trans hh)))
        rw [quotN_byte t 39 k p acc hp n39 n92, hc, hcc, ih (p + 1) (k + 1) _ hr (by omega)]
        congr 2
        simp only [List.length_cons, List.length_nil]
        omega

theorem qz_len (s : List UInt8) : s.length ≤ (qz s).length := by
  induction s with
  | nil => simp [qz]
  | cons c s ih =>
    have hq : qz (c :: s) = qzc c ++ qz s := rfl
    have h1 : 1 ≤ (qzc c).length := by unfold qzc; split; · simp
                                       · split <;> simp
    rw [hq, List.length_append, List.length_cons]
    omega

/-- An atom in quotation marks. -/
theorem steps_quoted (t : ByteArray) (p : Nat) (s : List UInt8) (h64 : s.length ≤ 64) (h : Occ t p (39 :: (qz s ++ [39]))) : Steps t p (p + (qz s).length + 2) [⟨1, ⟨s.toArray⟩, 0, 0, 0⟩] := by
  obtain ⟨hp, hc, h2⟩ := h.cons
  have hc39 : bt t p = 39 := hc
  have hlen := h2.1
  have hql := qz_len s
  rw [List.length_append] at hlen
  have hq := quot_back t s (p + 1) (t.size + 1) [] h2 (by omega)
  rw [List.nil_append] at hq
  have qv : quoteV t p = .tuple #[.agg #[.int .i64 (1), .string (⟨s.toArray⟩), .int .i64 (0), .float .f64 (0), .int .i64 (0)], .int .i64 0] := by
    unfold quoteV
    rw [hc39, hq]
    show (if 39 = 39 then atomV ⟨s.toArray⟩ else _) = _
    rw [if_pos rfl]
    unfold atomV
    rw [if_neg (by show ¬ 64 < s.length; omega)]
  have tv : tokV t p = quoteV t p := by unfold tokV; rw [hc39]; rfl
  have te : tokE t p = p + (qz s).length + 2 := by
    have : tokE t p = quoteE t p := by unfold tokE; rw [hc39]; rfl
    rw [this]
    unfold quoteE
    rw [hc39, hq]
    show p + 1 + (qz s).length + 1 = _
    omega
  rw [qv] at tv
  exact steps_tok t p _ _ hp (by rw [hc39]; rfl) (by omega) (by rw [tv]; rfl) te (by rw [tv]; rfl)
end Go.Proofs.YtdpfmmbfidknfaaGreatDoor


/- The grammar does not look at places. -/
namespace Go.Proofs.YtdpfmmbfidknfaaGreatDoor

/-- A token, a node, a state without places. -/
def bareT (t : Tk) : Tk := { t with p := 0 }
def bareN (n : Nd) : Nd := { n with p := 0 }
def bareS (s : PS) : PS := ⟨s.ts.map bareT, s.ns.map bareN, s.o⟩

/-- Two steps' ends: faults of one number, or values that are alike and states that are the same but for places. -/
def RR {α : Type} (r : α → α → Prop) : Except (Int × Nat) (α × PS) → Except (Int × Nat) (α × PS) → Prop
  | .error e, .error e' => e.1 = e'.1
  | .ok (a, s), .ok (b, t) => r a b ∧ bareS s = bareS t
  | _, _ => False
def Bl {α : Type} (r : α → α → Prop) (m m' : PM α) : Prop := ∀ s s', bareS s = bareS s' → RR r (m s) (m' s')
abbrev TkS (t u : Tk) : Prop := bareT t = bareT u

theorem TkS.k {t u : Tk} (h : TkS t u) : t.k = u.k := by
  have h2 : (bareT t).k = (bareT u).k := by rw [h]
  exact h2
theorem TkS.x {t u : Tk} (h : TkS t u) : t.x = u.x := by
  have h2 : (bareT t).x = (bareT u).x := by rw [h]
  exact h2
theorem TkS.n {t u : Tk} (h : TkS t u) : t.n = u.n := by
  have h2 : (bareT t).n = (bareT u).n := by rw [h]
  exact h2
theorem TkS.f {t u : Tk} (h : TkS t u) : t.f = u.f := by
  have h2 : (bareT t).f = (bareT u).f := by rw [h]
  exact h2

namespace Gm
theorem TkS_isM {t u : Tk} (h : TkS t u) (w : ByteArray) : isM t w = isM u w := by unfold isM; rw [h.k, h.x]
theorem TkS_isA {t u : Tk} (h : TkS t u) (w : ByteArray) : isA t w = isA u w := by unfold isA; rw [h.k, h.x]
theorem bare_ts {s s' : PS} (h : bareS s = bareS s') : s.ts.map bareT = s'.ts.map bareT := congrArg PS.ts h
theorem bare_ns {s s' : PS} (h : bareS s = bareS s') : s.ns.map bareN = s'.ns.map bareN := congrArg PS.ns h
theorem bare_o {s s' : PS} (h : bareS s = bareS s') : s.o = s'.o := by
  have h2 : (bareS s).o = (bareS s').o := by rw [h]
  exact h2
theorem bare_hd {s s' : PS} (h : bareS s = bareS s') : TkS (hd s) (hd s') := by
  have h1 := bare_ts h
  unfold hd
  cases hs : s.ts with
  | nil =>
    rw [hs] at h1
    have : s'.ts = [] := by simpa using h1.symm
    rw [this]
  | cons t r =>
    rw [hs] at h1
    cases hs' : s'.ts with
    | nil => rw [hs'] at h1; cases h1
    | cons t' r' => rw [hs'] at h1; exact (List.cons.inj h1).1
theorem bare_tail {s s' : PS} (h : bareS s = bareS s') : s.ts.tail.map bareT = s'.ts.tail.map bareT := by
  have h1 := congrArg List.tail (bare_ts h)
  simpa using h1
theorem bare_hd2 {s s' : PS} (h : bareS s = bareS s') : TkS (hd2 s) (hd2 s') := by
  have h1 : bareS ⟨s.ts.tail, s.ns, s.o⟩ = bareS ⟨s'.ts.tail, s'.ns, s'.o⟩ := by
    simp only [bareS, bare_tail h, bare_ns h, bare_o h]
  exact bare_hd h1
theorem bare_cut {s s' : PS} (h : bareS s = bareS s') : bareS (cut s) = bareS (cut s') := by
  simp only [bareS, cut, bare_tail h, bare_ns h, bare_o h]

theorem bl_bind {α β : Type} {r : α → α → Prop} {q : β → β → Prop} {m m' : PM α} {f f' : α → PM β} (h : Bl r m m') (g : ∀ a b, r a b → Bl q (f a) (f' b)) : Bl q (m >>= f) (m' >>= f') := by
  intro s s' hs
  have h1 := h s s' hs
  rw [bind_at, bind_at]
  cases hm : m s with
  | error e =>
    rw [hm] at h1
    cases hm' : m' s' with
    | error e' => rw [hm'] at h1; exact h1
    | ok p => rw [hm'] at h1; exact h1.elim
  | ok p =>
    obtain ⟨a, t⟩ := p
    rw [hm] at h1
    cases hm' : m' s' with
    | error e' => rw [hm'] at h1; exact h1.elim
    | ok p' =>
      obtain ⟨b, t'⟩ := p'
      rw [hm'] at h1
      exact g a b h1.1 t t' h1.2
theorem bl_pure {α : Type} {r : α → α → Prop} {a b : α} (h : r a b) : Bl r (pure a) (pure b) := fun _ _ hs => ⟨h, hs⟩
theorem bl_here : Bl TkS here here := fun _ _ hs => ⟨bare_hd hs, hs⟩
theorem bl_ahead : Bl TkS ahead ahead := fun _ _ hs => ⟨bare_hd2 hs, hs⟩
theorem bl_left : Bl Eq left left := fun _ _ hs => ⟨by have := congrArg List.length (bare_ts hs); simpa using this, hs⟩
theorem bl_next : Bl TkS next next := fun _ _ hs => ⟨bare_hd hs, bare_cut hs⟩
theorem bl_fault {α : Type} {r : α → α → Prop} (e : Int) (p q : Nat) : Bl r (fault e p) (fault e q) := fun _ _ _ => rfl
theorem bl_giveUp {α : Type} {r : α → α → Prop} (e : Int) : Bl r (giveUp e) (giveUp e) := fun _ _ _ => rfl
theorem bl_take (w : ByteArray) : Bl Eq (take w) (take w) := by
  intro s s' hs
  unfold take
  rw [TkS_isM (bare_hd hs) w]
  split
  · exact ⟨rfl, bare_cut hs⟩
  · exact ⟨rfl, hs⟩
theorem bl_need (w : ByteArray) : Bl Eq (need w) (need w) := by
  intro s s' hs
  unfold need
  rw [TkS_isM (bare_hd hs) w]
  split
  · exact ⟨rfl, bare_cut hs⟩
  · rfl
theorem bl_needK (k : Int) : Bl TkS (needK k) (needK k) := by
  intro s s' hs
  unfold needK
  rw [(bare_hd hs).k]
  split
  · exact ⟨bare_hd hs, bare_cut hs⟩
  · rfl
theorem bl_lay {n n' : Nd} (h : bareN n = bareN n') : Bl Eq (lay n) (lay n') := by
  intro s s' hs
  have hl : s.ns.length = s'.ns.length := by have := congrArg List.length (bare_ns hs); simpa using this
  unfold lay
  rw [hl]
  split
  · rfl
  · refine ⟨rfl, ?_⟩
    simp only [bareS, List.map_append, List.map_cons, List.map_nil, bare_ts hs, bare_ns hs, bare_o hs, h]
theorem bl_nd (k : Int) (x : ByteArray) (n : Int) (f : Nat) (l : List Nat) (p q : Nat) : Bl Eq (lay ⟨k, x, n, f, l, p⟩) (lay ⟨k, x, n, f, l, q⟩) := bl_lay rfl
theorem bl_op (p q : Nat) (x : ByteArray) (l : List Nat) : Bl Eq (op p x l) (op q x l) := bl_lay rfl
theorem bl_layNone (k : Int) : Bl Eq (layNone k) (layNone k) := bl_bind bl_here fun _ _ _ => bl_nd _ _ _ _ _ _ _
theorem bl_ite {α : Type} {r : α → α → Prop} {c d : Prop} [Decidable c] [Decidable d] {m m' n n' : PM α} (hc : c ↔ d) (h : Bl r m m') (g : Bl r n n') : Bl r (if c then m else n) (if d then m' else n') := by
  by_cases hh : c
  · rw [if_pos hh, if_pos (hc.1 hh)]; exact h
  · rw [if_neg hh, if_neg (fun h => hh (hc.2 h))]; exact g
theorem bl_if {α : Type} {r : α → α → Prop} {b b' : Bool} {m m' n n' : PM α} (hb : b = b') (h : Bl r m m') (g : Bl r n n') : Bl r (if b then m else n) (if b' then m' else n') := bl_ite (by rw [hb]) h g

variable {e e' : PM Nat}
theorem bl_more (he : Bl Eq e e') (most : Nat) : ∀ k l, Bl Eq (more e most k l) (more e' most k l)
  | 0, _ => bl_pure rfl
  | k + 1, l => bl_bind (bl_take _) fun _ _ h => bl_if h (bl_ite Iff.rfl (bl_giveUp _) (bl_bind he fun _ _ h => by subst h; exact bl_more he most k _)) (bl_pure rfl)
theorem bl_exprs (he : Bl Eq e e') (most : Nat) : Bl Eq (exprs e most) (exprs e' most) := bl_bind he fun _ _ h => by subst h; exact bl_bind bl_left fun _ _ h => by subst h; exact bl_more he _ _ _
theorem bl_group (he : Bl Eq e e') (k : Int) : Bl Eq (group e k) (group e' k) := bl_bind bl_here fun _ _ _ => bl_bind (bl_exprs he _) fun _ _ h => by subst h; exact bl_nd _ _ _ _ _ _ _
theorem bl_body (he : Bl Eq e e') : Bl Eq (body e) (body e') := bl_group he _
theorem bl_guard (he : Bl Eq e e') : Bl Eq (guard e) (guard e') := bl_bind (bl_take _) fun _ _ h => bl_if h (bl_group he _) (bl_layNone _)
theorem bl_args (he : Bl Eq e e') : Bl Eq (args e) (args e') :=
  bl_bind (bl_need _) fun _ _ _ => bl_bind (bl_take _) fun _ _ h => bl_if h (bl_pure rfl) (bl_bind (bl_exprs he _) fun _ _ h => by subst h; exact bl_bind (bl_need _) fun _ _ _ => bl_pure rfl)
theorem bl_tail (he : Bl Eq e e') (p q : Nat) {x y : ByteArray} (hx : x = y) (l : List Nat) : Bl Eq (tail e p x l) (tail e' q y l) := by
  subst hx
  exact bl_bind (bl_guard he) fun _ _ h => by subst h; exact bl_bind (bl_need _) fun _ _ _ => bl_bind (bl_body he) fun _ _ h => by subst h; exact bl_nd _ _ _ _ _ _ _
theorem bl_fclause (he : Bl Eq e e') : Bl Eq (fclause e) (fclause e') := bl_bind (bl_needK _) fun _ _ ht => bl_bind (bl_args he) fun _ _ h => by subst h; exact bl_tail he _ _ ht.x _
theorem bl_gclause (he : Bl Eq e e') : Bl Eq (gclause e) (gclause e') := bl_bind bl_here fun _ _ _ => bl_bind (bl_args he) fun _ _ h => by subst h; exact bl_tail he _ _ rfl _
theorem bl_clause (he : Bl Eq e e') : Bl Eq (clause e) (clause e') := bl_bind bl_here fun _ _ _ => bl_bind he fun _ _ h => by subst h; exact bl_tail he _ _ rfl _
theorem bl_leaf : Bl Eq leaf leaf := bl_bind bl_next fun _ _ ht => bl_lay (by simp only [bareN, ht.k, ht.x, ht.n, ht.f])
theorem TkS_isClass {t u : Tk} (h : TkS t u) : isClass t = isClass u := by unfold isClass; rw [h.k, h.x]
theorem bl_cls : Bl Eq cls cls :=
  bl_bind bl_here fun _ _ ht => bl_bind bl_ahead fun _ _ hu => bl_ite (by rw [ht.k, TkS_isM hu])
    (bl_if (TkS_isClass ht) (bl_bind bl_leaf fun _ _ h => by subst h; exact bl_bind (bl_need _) fun _ _ _ => bl_pure rfl) (bl_giveUp _)) (bl_nd _ _ _ _ _ _ _)
theorem bl_cclause (he : Bl Eq e e') : Bl Eq (cclause e) (cclause e') := bl_bind bl_here fun _ _ _ => bl_bind bl_cls fun _ _ h => by subst h; exact bl_bind he fun _ _ h => by subst h; exact bl_tail he _ _ rfl _
theorem bl_moreC {c c' : PM Nat} (hc : Bl Eq c c') : ∀ k l, Bl Eq (moreC c k l) (moreC c' k l)
  | 0, _ => bl_pure rfl
  | k + 1, l => bl_bind (bl_take _) fun _ _ h => bl_if h (bl_bind hc fun _ _ h => by subst h; exact bl_moreC hc k _) (bl_pure rfl)
theorem bl_clauses {c c' : PM Nat} (hc : Bl Eq c c') : Bl Eq (clauses c) (clauses c') :=
  bl_bind bl_here fun _ _ _ => bl_bind hc fun _ _ h => by subst h; exact bl_bind bl_left fun _ _ h => by subst h; exact bl_bind (bl_moreC hc _ _) fun _ _ h => by subst h; exact bl_nd _ _ _ _ _ _ _
theorem bl_clausesBehind {c c' : PM Nat} (w : ByteArray) (hc : Bl Eq c c') : Bl Eq (clausesBehind w c) (clausesBehind w c') := bl_bind (bl_take _) fun _ _ h => bl_if h (bl_clauses hc) (bl_layNone _)
theorem bl_begin (he : Bl Eq e e') : Bl Eq (begin e) (begin e') := bl_bind bl_next fun _ _ _ => bl_bind (bl_exprs he _) fun _ _ h => by subst h; exact bl_bind (bl_need _) fun _ _ _ => bl_nd _ _ _ _ _ _ _
theorem bl_choice (he : Bl Eq e e') : Bl Eq (choice e) (choice e') :=
  bl_bind bl_next fun _ _ _ => bl_bind he fun _ _ h => by subst h; exact bl_bind (bl_need _) fun _ _ _ => bl_bind (bl_clauses (bl_clause he)) fun _ _ h => by subst h; exact bl_bind (bl_need _) fun _ _ _ => bl_nd _ _ _ _ _ _ _
theorem bl_funName (p q : Nat) : Bl Eq (funName p) (funName q) :=
  bl_bind bl_next fun _ _ ht => bl_bind (bl_need _) fun _ _ _ => bl_bind (bl_needK _) fun _ _ hn => bl_ite (by rw [hn.n]) (bl_fault _ _ _) (bl_lay (by simp only [bareN, ht.x, hn.n]))
theorem bl_fn (he : Bl Eq e e') : Bl Eq (fn e) (fn e') :=
  bl_bind bl_next fun _ _ _ => bl_bind bl_here fun _ _ hu => bl_ite (by rw [hu.k]) (bl_funName _ _) (bl_bind (bl_clauses (bl_gclause he)) fun _ _ h => by subst h; exact bl_bind (bl_need _) fun _ _ _ => bl_nd _ _ _ _ _ _ _)
theorem bl_afterB (he : Bl Eq e e') : Bl Eq (afterB e) (afterB e') := bl_bind (bl_take _) fun _ _ h => bl_if h (bl_bind (bl_body he) fun _ _ h => bl_pure (by rw [h])) (bl_bind (bl_layNone _) fun _ _ h => bl_pure (by rw [h]))
theorem bl_tryOf (he : Bl Eq e e') : Bl Eq (tryOf e) (tryOf e') :=
  bl_bind bl_next fun _ _ _ => bl_bind (bl_body he) fun _ _ h => by subst h; exact bl_bind (bl_clausesBehind _ (bl_clause he)) fun _ _ h => by subst h; exact bl_bind bl_here fun _ _ hu => bl_bind (bl_clausesBehind _ (bl_cclause he)) fun _ _ h => by subst h; exact bl_bind bl_here fun _ _ hv => bl_ite (by rw [TkS_isM hu, TkS_isM hv]) (bl_bind (bl_afterB he) fun _ _ h => by subst h; exact bl_bind (bl_need _) fun _ _ _ => bl_nd _ _ _ _ _ _ _) (bl_giveUp _)
theorem bl_patience : Bl Eq patience patience :=
  bl_bind bl_here fun _ _ ht => bl_if (TkS_isA ht _) (bl_bind bl_next fun _ _ _ => bl_pure rfl) (bl_ite (by rw [ht.k, ht.n]) (bl_bind bl_next fun _ _ _ => bl_pure rfl) (bl_giveUp _))
theorem bl_received (he : Bl Eq e e') : Bl Eq (received e) (received e') := bl_bind bl_here fun _ _ ht => bl_if (TkS_isM ht _) (bl_layNone _) (bl_clauses (bl_clause he))
theorem bl_afterR (he : Bl Eq e e') : Bl Eq (afterR e) (afterR e') :=
  bl_bind (bl_take _) fun _ _ h => bl_if h (bl_bind bl_patience fun _ _ h => by subst h; exact bl_bind (bl_need _) fun _ _ _ => bl_bind (bl_body he) fun _ _ h => bl_pure (by rw [h])) (bl_bind (bl_layNone _) fun _ _ h => bl_pure (by rw [h]))
theorem bl_receive (he : Bl Eq e e') : Bl Eq (receive e) (receive e') :=
  bl_bind bl_next fun _ _ _ => bl_bind (bl_received he) fun _ _ h => by subst h; exact bl_bind (bl_afterR he) fun _ _ h => by subst h; exact bl_bind (bl_need _) fun _ _ _ => bl_nd _ _ _ _ _ _ _
theorem bl_worded (he : Bl Eq e e') : Bl Eq (worded e) (worded e') :=
  bl_bind bl_here fun _ _ ht => bl_ite (by rw [ht.x]) (bl_begin he) (bl_ite (by rw [ht.x]) (bl_choice he) (bl_ite (by rw [ht.x]) (bl_fn he) (bl_ite (by rw [ht.x]) (bl_tryOf he) (bl_ite (by rw [ht.x]) (bl_receive he) (bl_giveUp _)))))
theorem bl_tuple (he : Bl Eq e e') : Bl Eq (tuple e) (tuple e') :=
  bl_bind bl_next fun _ _ _ => bl_bind bl_here fun _ _ hu => bl_if (TkS_isM hu _) (bl_bind (bl_need _) fun _ _ _ => bl_nd _ _ _ _ _ _ _) (bl_bind (bl_exprs he _) fun _ _ h => by subst h; exact bl_bind (bl_need _) fun _ _ _ => bl_nd _ _ _ _ _ _ _)
theorem bl_list (he : Bl Eq e e') : Bl Eq (list e) (list e') :=
  bl_bind bl_next fun _ _ _ => bl_bind bl_here fun _ _ hu => bl_if (TkS_isM hu _) (bl_bind (bl_need _) fun _ _ _ => bl_nd _ _ _ _ _ _ _) (bl_bind (bl_exprs he _) fun _ _ h => by subst h; exact bl_bind (bl_take _) fun _ _ h => bl_if h (bl_bind he fun _ _ h => by subst h; exact bl_bind (bl_need _) fun _ _ _ => bl_nd _ _ _ _ _ _ _) (bl_bind (bl_need _) fun _ _ _ => bl_nd _ _ _ _ _ _ _))
theorem bl_bracketed (he : Bl Eq e e') : Bl Eq (bracketed e) (bracketed e') :=
  bl_bind bl_here fun _ _ ht => bl_ite (by rw [ht.x]) (bl_bind bl_next fun _ _ _ => bl_bind he fun _ _ h => by subst h; exact bl_bind (bl_need _) fun _ _ _ => bl_pure rfl) (bl_ite (by rw [ht.x]) (bl_tuple he) (bl_ite (by rw [ht.x]) (bl_list he) (bl_giveUp _)))
theorem bl_primary (he : Bl Eq e e') : Bl Eq (primary e) (primary e') :=
  bl_bind bl_here fun _ _ ht => bl_ite (by rw [ht.k]) bl_leaf (bl_ite (by rw [ht.k]) (bl_bracketed he) (bl_ite (by rw [ht.k]) (bl_worded he) (bl_giveUp _)))
theorem bl_called (he : Bl Eq e e') : Bl Eq (called e) (called e') :=
  bl_bind bl_here fun _ _ ht => bl_bind bl_ahead fun _ _ hu => bl_ite (by rw [ht.k, TkS_isM hu]) (bl_bind bl_next fun _ _ _ => bl_bind (bl_args he) fun _ _ h => by subst h; exact bl_lay (by simp only [bareN, ht.x])) (bl_primary he)
theorem bl_applied (he : Bl Eq e e') (p q : Nat) : ∀ k x, Bl Eq (applied e p k x) (applied e' q k x)
  | 0, _ => bl_pure rfl
  | k + 1, x => bl_bind bl_here fun _ _ ht => bl_if (TkS_isM ht _) (bl_bind (bl_args he) fun _ _ h => by subst h; exact bl_bind (bl_nd _ _ _ _ _ _ _) fun _ _ h => by subst h; exact bl_applied he p q k _) (bl_pure rfl)
theorem bl_call (he : Bl Eq e e') : Bl Eq (call e) (call e') := bl_bind bl_here fun _ _ _ => bl_bind (bl_called he) fun _ _ h => by subst h; exact bl_bind bl_left fun _ _ h => by subst h; exact bl_applied he _ _ _ _
abbrev TkL (l l' : List Tk) : Prop := l.map bareT = l'.map bareT
theorem bl_signs : ∀ k l l', TkL l l' → Bl TkL (signs k l) (signs k l')
  | 0, _, _, h => bl_pure h
  | k + 1, l, l', h => bl_bind bl_here fun _ _ ht => bl_ite (by rw [TkS_isM ht, TkS_isM ht]) (bl_bind bl_next fun _ _ _ => bl_signs k _ _ (by rw [TkL, List.map_append, List.map_append, h]; simp only [List.map_cons, List.map_nil]; rw [ht])) (bl_pure h)
theorem bl_layOps : ∀ (l l' : List Tk), TkL l l' → ∀ x, Bl Eq (layOps l x) (layOps l' x)
  | [], [], _, x => bl_pure rfl
  | [], _ :: _, h, _ => by cases h
  | _ :: _, [], h, _ => by cases h
  | t :: r, t' :: r', h, x => bl_bind (bl_layOps r r' (List.cons.inj h).2 x) fun _ _ hy => by
      subst hy
      have ht : TkS t t' := (List.cons.inj h).1
      exact bl_lay (by simp only [bareN, ht.x])
theorem bl_unary (he : Bl Eq e e') : Bl Eq (unary e) (unary e') :=
  bl_bind bl_left fun _ _ h => by subst h; exact bl_bind (bl_signs _ _ _ rfl) fun _ _ hl => bl_bind (bl_call he) fun _ _ h => by subst h; exact bl_layOps _ _ hl _
theorem bl_leftward {m m' : PM Nat} (hm : Bl Eq m m') {sg : Tk → Bool} (hs : ∀ t u, TkS t u → sg t = sg u) (p q : Nat) : ∀ k x, Bl Eq (leftward m sg p k x) (leftward m' sg q k x)
  | 0, _ => bl_pure rfl
  | k + 1, x => bl_bind bl_here fun _ _ ht => bl_if (hs _ _ ht) (bl_bind bl_next fun _ _ _ => bl_bind hm fun _ _ h => by subst h; exact bl_bind (bl_lay (by simp only [bareN, ht.x])) fun _ _ h => by subst h; exact bl_leftward hm hs p q k _) (bl_pure rfl)
theorem bl_isMul (t u : Tk) (h : TkS t u) : isMul t = isMul u := by unfold isMul; simp only [TkS_isM h]
theorem bl_isAdd (t u : Tk) (h : TkS t u) : isAdd t = isAdd u := by unfold isAdd; simp only [TkS_isM h]
theorem bl_isCmp (t u : Tk) (h : TkS t u) : isCmp t = isCmp u := by unfold isCmp; simp only [TkS_isM h]
theorem bl_mul (he : Bl Eq e e') : Bl Eq (mul e) (mul e') := bl_bind bl_here fun _ _ _ => bl_bind (bl_unary he) fun _ _ h => by subst h; exact bl_bind bl_left fun _ _ h => by subst h; exact bl_leftward (bl_unary he) bl_isMul _ _ _ _
theorem bl_add (he : Bl Eq e e') : Bl Eq (add e) (add e') := bl_bind bl_here fun _ _ _ => bl_bind (bl_mul he) fun _ _ h => by subst h; exact bl_bind bl_left fun _ _ h => by subst h; exact bl_leftward (bl_mul he) bl_isAdd _ _ _ _
theorem bl_rightward {m m' : PM Nat} (hm : Bl Eq m m') (w : ByteArray) : ∀ k, Bl Eq (rightward m w k) (rightward m' w k)
  | 0 => hm
  | k + 1 => bl_bind bl_here fun _ _ _ => bl_bind hm fun _ _ h => by subst h; exact bl_bind (bl_take _) fun _ _ h => bl_if h (bl_bind (bl_rightward hm w k) fun _ _ h => by subst h; exact bl_op _ _ _ _) (bl_pure rfl)
theorem bl_right {m m' : PM Nat} (hm : Bl Eq m m') (w : ByteArray) : Bl Eq (right m w) (right m' w) := bl_bind bl_left fun _ _ h => by subst h; exact bl_rightward hm w _
theorem bl_compare (he : Bl Eq e e') : Bl Eq (compare e) (compare e') :=
  bl_bind bl_here fun _ _ _ => bl_bind (bl_right (bl_add he) _) fun _ _ h => by subst h; exact bl_bind bl_here fun _ _ hu => bl_if (bl_isCmp _ _ hu) (bl_bind bl_next fun _ _ _ => bl_bind (bl_right (bl_add he) _) fun _ _ h => by subst h; exact bl_lay (by simp only [bareN, hu.x])) (bl_pure rfl)
theorem bl_opened (he : Bl Eq e e') : Bl Eq (opened e) (opened e') :=
  bl_bind bl_here fun _ _ _ => bl_bind (bl_take _) fun _ _ h => bl_if h (bl_bind he fun _ _ h => by subst h; exact bl_nd _ _ _ _ _ _ _) (bl_bind (bl_right (bl_right (bl_compare he) _) _) fun _ _ h => by subst h; exact bl_bind (bl_take _) fun _ _ h => bl_if h (bl_bind he fun _ _ h => by subst h; exact bl_nd _ _ _ _ _ _ _) (bl_bind (bl_take _) fun _ _ h => bl_if h (bl_bind he fun _ _ h => by subst h; exact bl_op _ _ _ _) (bl_pure rfl)))
theorem bl_expr : ∀ k, Bl Eq (expr k) (expr k)
  | 0 => bl_giveUp _
  | k + 1 => by
    intro s s' hs
    simp only [expr]
    rw [bare_o hs]
    split
    · rfl
    · have h1 := bl_opened (bl_expr k) { s with o := s'.o + 1 } { s' with o := s'.o + 1 } (by simp only [bareS, bare_ts hs, bare_ns hs])
      cases hm : opened (expr k) { s with o := s'.o + 1 } with
      | error er =>
        rw [hm] at h1
        cases hm' : opened (expr k) { s' with o := s'.o + 1 } with
        | error er' => rw [hm'] at h1; exact h1
        | ok p => rw [hm'] at h1; exact h1.elim
      | ok p =>
        obtain ⟨a, t⟩ := p
        rw [hm] at h1
        cases hm' : opened (expr k) { s' with o := s'.o + 1 } with
        | error er' => rw [hm'] at h1; exact h1.elim
        | ok p' =>
          obtain ⟨b, t'⟩ := p'
          rw [hm'] at h1
          exact ⟨h1.1, by simp only [bareS, bare_ts h1.2, bare_ns h1.2, bare_o h1.2]⟩
end Gm
end Go.Proofs.YtdpfmmbfidknfaaGreatDoor


