import Derived.Test.YtecgddiohoeboaaDoorLzF
import Derived.Lib.ItoaNum
import Derived.Deep.SlicePairs
/- What stands in a text of digits, names, quotations, signs is told as tokens, whatever stands around it. -/
namespace Go.Proofs.YtecgddiohoeboaaDoor
open Go.RowKit Go.Lib

/-- The bytes l stand in t at p. -/
def Occ (t : ByteArray) (p : Nat) (l : List UInt8) : Prop := p + l.length ≤ t.size ∧ ∀ j (h : j < l.length), bt t (p + j) = (l[j]).toNat

theorem Occ.left {t : ByteArray} {p : Nat} {a b : List UInt8} (h : Occ t p (a ++ b)) : Occ t p a := by
  refine ⟨by have := h.1; rw [List.length_append] at this; omega, fun j hj => ?_⟩
  rw [h.2 j (by rw [List.length_append]; omega), List.getElem_append_left hj]
theorem Occ.right {t : ByteArray} {p : Nat} {a b : List UInt8} (h : Occ t p (a ++ b)) : Occ t (p + a.length) b := by
  refine ⟨by have := h.1; rw [List.length_append] at this; omega, fun j hj => ?_⟩
  rw [Nat.add_assoc, h.2 (a.length + j) (by rw [List.length_append]; omega), List.getElem_append_right (by omega)]
  simp
theorem Occ.cons {t : ByteArray} {p : Nat} {c : UInt8} {l : List UInt8} (h : Occ t p (c :: l)) : p < t.size ∧ bt t p = c.toNat ∧ Occ t (p + 1) l := by
  have h1 := h.1
  rw [List.length_cons] at h1
  refine ⟨by omega, h.2 0 (by simp), by omega, fun j hj => ?_⟩
  have := h.2 (j + 1) (by simpa using hj)
  rw [show p + 1 + j = p + (j + 1) by omega, this]
  rfl
theorem Occ.nil {t : ByteArray} {p : Nat} (h : p ≤ t.size) : Occ t p [] := ⟨by simpa using h, fun j hj => by simp at hj⟩

theorem Occ.ext {t : ByteArray} {p : Nat} {l : List UInt8} (h : Occ t p l) : t.extract p (p + l.length) = ⟨l.toArray⟩ := by
  have h1 := h.1
  have e1 : dl (t.extract p (p + l.length)) = l := by
    apply List.ext_getElem
    · rw [dl_len, size_ext]; omega
    · intro i hi1 hi2
      have b1 := bt_dl _ i hi1
      rw [bt_ext2 t _ _ i (by omega) (by omega), h.2 i hi2] at b1
      exact (UInt8.toNat_inj.1 b1).symm
  apply ByteArray.ext
  exact Array.toList_inj.1 (e1.trans rfl)

def bare (t : Tk) : Tk := ⟨t.k, t.x, t.n, t.f, 0⟩

/-- From p to p' stand these tokens. -/
def Steps (t : ByteArray) (p p' : Nat) (ts : List Tk) : Prop := p ≤ p' ∧ p' ≤ t.size ∧ ∀ k done, t.size < p + k → ∃ k' ds, t.size < p' + k' ∧ toks t k p done = toks t k' p' (done ++ ds) ∧ ds.map bare = ts

theorem Steps.refl (t : ByteArray) (p : Nat) (h : p ≤ t.size) : Steps t p p [] := ⟨Nat.le_refl _, h, fun k done hk => ⟨k, [], hk, by rw [List.append_nil], rfl⟩⟩
theorem Steps.trans {t : ByteArray} {p q r : Nat} {a b : List Tk} (h1 : Steps t p q a) (h2 : Steps t q r b) : Steps t p r (a ++ b) := by
  refine ⟨Nat.le_trans h1.1 h2.1, h2.2.1, fun k done hk => ?_⟩
  obtain ⟨k1, d1, a1, b1, c1⟩ := h1.2.2 k done hk
  obtain ⟨k2, d2, a2, b2, c2⟩ := h2.2.2 k1 _ a1
  exact ⟨k2, d1 ++ d2, a2, by rw [b1, b2, List.append_assoc], by rw [List.map_append, c1, c2]⟩

theorem steps_tok (t : ByteArray) (p e : Nat) (T : Tk) (hp : p < t.size) (hnb : pBlank (bt t p) = false) (h37 : bt t p ≠ 37) (hok : okV (tokV t p) = true) (he : tokE t p = e) (hT : bare (tkOf (tokV t p) p) = T) : Steps t p e [T] := by
  have hin := tokE_in t p hp hok
  rw [he] at hin
  refine ⟨by omega, hin.2, fun k done hk => ?_⟩
  obtain ⟨k, rfl⟩ : ∃ k0, k = k0 + 1 := ⟨k - 1, by omega⟩
  refine ⟨k, [tkOf (tokV t p) p], by omega, ?_, by rw [← hT]; rfl⟩
  rw [toks_at t k p done hp hnb h37]
  unfold layT
  rw [if_pos ((okV_of t p).1 hok), he]

/-- What may stand behind an atom or a number. -/
def Stop (t : ByteArray) (p : Nat) : Prop := p = t.size ∨ bt t p = 44 ∨ bt t p = 93 ∨ bt t p = 125

theorem goes_to {t : ByteArray} {p : Nat} {l : List UInt8} (P : Nat → Bool) (h : Occ t p l) (hl : ∀ c ∈ l, P c.toNat = true) (hs : Stop t (p + l.length)) (h1 : P 44 = false) (h2 : P 93 = false) (h3 : P 125 = false) : goes P t p = p + l.length := by
  rw [goes_past P t p l.length h.1 (fun j hj => by rw [h.2 j hj]; exact hl _ (List.getElem_mem _))]
  rcases hs with hs | hs | hs | hs
  · exact goes_end (by omega)
  · exact goes_stop (by rw [hs]; exact h1)
  · exact goes_stop (by rw [hs]; exact h2)
  · exact goes_stop (by rw [hs]; exact h3)

theorem rest_of (t : ByteArray) (p : Nat) (hp : p < t.size) : (t.extract p t.size).data.toList = UInt8.ofNat (bt t p) :: (dl t).drop (p + 1) := by
  have hd : (t.extract p t.size).data.toList = (dl t).drop p := by
    have := dl_ext t p t.size
    rw [show (dl t).take t.size = dl t from List.take_length] at this
    exact this
  have hl : p < (dl t).length := hp
  rw [hd, List.drop_eq_getElem_cons hl, bt_dl t p hl, UInt8.ofNat_toNat]

theorem steps_sign (t : ByteArray) (p : Nat) (c : UInt8) (hp : p < t.size) (hc : bt t p = c.toNat) (hm : c = 123 ∨ c = 125 ∨ c = 91 ∨ c = 93 ∨ c = 44) : Steps t p (p + 1) [⟨6, ⟨#[c]⟩, 0, 0, 0⟩] := by
  have hs : signAt t p = some [c] := by
    unfold signAt
    rw [rest_of t p hp, hc, UInt8.ofNat_toNat]
    rcases hm with rfl | rfl | rfl | rfl | rfl <;> rfl
  have tv : tokV t p = sgV (signAt t p) := by
    unfold tokV
    rw [hc]
    rcases hm with rfl | rfl | rfl | rfl | rfl <;> rfl
  have te : tokE t p = p + sgN (signAt t p) := by
    unfold tokE
    rw [hc]
    rcases hm with rfl | rfl | rfl | rfl | rfl <;> rfl
  rw [hs] at tv te
  refine steps_tok t p (p + 1) _ hp ?_ ?_ (by rw [tv]; rfl) te (by rw [tv]; rfl)
  · rw [hc]; rcases hm with rfl | rfl | rfl | rfl | rfl <;> rfl
  · rw [hc]; rcases hm with rfl | rfl | rfl | rfl | rfl <;> decide

theorem steps_minus (t : ByteArray) (p : Nat) (hp : p + 1 < t.size) (hc : bt t p = 45) (hd : pDigit (bt t (p + 1)) = true) : Steps t p (p + 1) [⟨6, ⟨#[45]⟩, 0, 0, 0⟩] := by
  have hs : signAt t p = some [45] := by
    unfold signAt
    rw [rest_of t p (by omega), hc]
    have hl : p + 1 < (dl t).length := hp
    rw [List.drop_eq_getElem_cons hl]
    have hb := bt_dl t (p + 1) hl
    rw [hb] at hd
    have hne : ¬ ((62 : UInt8) = (dl t)[p + 1]) := fun e => by rw [← e] at hd; cases hd
    have hne2 : ((62 : UInt8) == (dl t)[p + 1]) = false := by simpa using hne
    simp only [signL, Lib.hasPrefix, List.find?, List.isPrefixOf, hne2]
    rfl
  have tv : tokV t p = sgV (signAt t p) := by
    unfold tokV
    rw [hc]
    rfl
  have te : tokE t p = p + sgN (signAt t p) := by
    unfold tokE
    rw [hc]
    rfl
  rw [hs] at tv te
  exact steps_tok t p (p + 1) _ (by omega) (by rw [hc]; rfl) (by omega) (by rw [tv]; rfl) te (by rw [tv]; rfl)

theorem dec_facts : ∀ u : Nat, wl (decDigits u) = u ∧ AllD (decDigits u) ∧ 1 ≤ (decDigits u).length ∧ (0 < u → ∀ h : 0 < (decDigits u).length, (decDigits u)[0] ≠ 48) := by
  intro u
  induction u using Nat.strongRecOn with
  | ind u ih =>
    by_cases h : u < 10
    · rw [decDigits_one h]
      have e : (UInt8.ofNat (48 + u)).toNat = 48 + u := by simp; omega
      refine ⟨by simp only [wl, e, List.length_nil]; omega, fun c hc => by cases List.mem_singleton.1 hc; exact dig_mk u h, by simp, fun h0 _ => ?_⟩
      intro hc
      have hc2 : UInt8.ofNat (48 + u) = 48 := by simpa using hc
      have := congrArg UInt8.toNat hc2
      rw [e] at this
      have h48 : (48 : UInt8).toNat = 48 := rfl
      omega
    · obtain ⟨i1, i2, i3, i4⟩ := ih (u / 10) (by omega)
      have hd : decDigits u = decDigits (u / 10) ++ [UInt8.ofNat (48 + u % 10)] := by rw [decDigits, dif_neg h]
      have e : (UInt8.ofNat (48 + u % 10)).toNat = 48 + u % 10 := by simp; omega
      rw [hd]
      refine ⟨?_, fun c hc => ?_, by rw [List.length_append]; omega, fun _ h0 => ?_⟩
      · rw [wl_append, i1]
        simp only [wl, e, List.length_nil, List.length_singleton]
        omega
      · rcases List.mem_append.1 hc with hc | hc
        · exact i2 c hc
        · cases List.mem_singleton.1 hc; exact dig_mk _ (by omega)
      · rw [List.getElem_append_left (by omega)]
        exact i4 (by omega) (by omega)

theorem dec_short : ∀ (k u : Nat), u < 10 ^ (k + 1) → (decDigits u).length ≤ k + 1 := by
  intro k
  induction k with
  | zero => intro u h; rw [decDigits_one (by simpa using h)]; simp
  | succ k ih =>
    intro u h
    by_cases h10 : u < 10
    · rw [decDigits_one h10]; simp
    · rw [decDigits, dif_neg h10, List.length_append]
      have := ih (u / 10) (by rw [Nat.div_lt_iff_lt_mul (by omega)]; rw [Nat.pow_succ] at h; exact h)
      simp
      omega

/-- A whole number. -/
theorem steps_int (t : ByteArray) (p u : Nat) (hu : u ≤ 576460752303423487) (h : Occ t p (decDigits u)) (hs : Stop t (p + (decDigits u).length)) : Steps t p (p + (decDigits u).length) [⟨3, ⟨#[]⟩, (u : Int), 0, 0⟩] := by
  obtain ⟨f1, f2, f3, f4⟩ := dec_facts u
  have f5 := dec_short 17 u (by omega)
  obtain ⟨L, hL⟩ : ∃ L, (decDigits u).length = L := ⟨_, rfl⟩
  have hp : p < t.size := by have := h.1; omega
  have hg := goes_to pDigit h f2 hs rfl rfl rfl
  have hx := h.ext
  have hsz := h.1
  have b0 : bt t p = ((decDigits u)[0]).toNat := h.2 0 (by omega)
  have d0 : pDigit (bt t p) = true := by rw [b0]; exact f2 _ (List.getElem_mem _)
  have c0 : 48 ≤ bt t p ∧ bt t p ≤ 57 := by simp [pDigit] at d0; omega
  rw [hL] at hg hs hx f3 f5 hsz ⊢
  have ft : fracOk t (p + L) = false := by
    unfold fracOk
    rcases hs with hz | hz | hz | hz
    · rw [hz]; simp
    · simp [hz]
    · simp [hz]
    · simp [hz]
  have fs : fracS t (p + L) = ⟨#[]⟩ := by unfold fracS; rw [ft]; rfl
  have fe : fracEnd t (p + L) = p + L := by unfold fracEnd; rw [ft]; rfl
  have hxs : (t.extract p (p + L)).size = L := by rw [size_ext]; omega
  have hw : wor (t.extract p (p + L)) L = u := by
    have := wor_wl (t.extract p (p + L)) (decDigits u) (fun j hj => by rw [bt_ext2 t _ _ j (by omega) (by omega)]; exact h.2 j hj) L (by omega)
    rw [this, ← hL, List.take_length, f1]
  have hz : ¬ (1 < L ∧ bt (t.extract p (p + L)) 0 = 48) := by
    intro ⟨h1, h2⟩
    rw [bt_ext2 t _ _ 0 (by omega) (by omega), Nat.add_zero, b0] at h2
    have hu0 : 0 < u := by
      rcases Nat.eq_zero_or_pos u with h0 | h0
      · subst h0; rw [decDigits_one (by omega)] at hL; simp at hL; omega
      · exact h0
    exact f4 hu0 (by omega) (UInt8.toNat_inj.1 h2)
  have nv : numV t p = .tuple #[.agg #[.int .i64 (3), .string (⟨#[]⟩), .int .i64 (((u : Nat) : Int)), .float .f64 (0), .int .i64 (0)], .int .i64 0] := by
    unfold numV
    rw [hg, fs, hxs, if_neg hz, if_pos (show (⟨#[]⟩ : ByteArray).size = 0 from rfl)]
    unfold wholeV
    rw [hxs, hw, if_neg (by omega), if_neg (by omega)]
  have n1 : ¬ pSmall (bt t p) = true := by simp [pSmall]; omega
  have n2 : ¬ (pCapital (bt t p) = true ∨ bt t p = 95) := by simp [pCapital]; omega
  have tv : tokV t p = numV t p := by unfold tokV; rw [if_neg n1, if_neg n2, if_pos d0]
  have te : tokE t p = p + L := by unfold tokE; rw [if_neg n1, if_neg n2, if_pos d0, hg, fe]
  rw [nv] at tv
  exact steps_tok t p (p + L) _ hp (by simp [pBlank]; omega) (by omega) (by rw [tv]; rfl) te (by rw [tv]; rfl)

/-- A float by its bits. -/
theorem steps_flt (t : ByteArray) (p f : Nat) (l : List UInt8) (hl : l.length = 16) (hf : hv l 0 = some f) (hfin : Flt.fin f = true) (h : Occ t p (35 :: l)) : Steps t p (p + 17) [⟨4, ⟨#[]⟩, 0, f, 0⟩] := by
  obtain ⟨hp, hc, h2⟩ := h.cons
  have hc35 : bt t p = 35 := hc
  have hx := hexN_hv t l (p + 1) 0 h2.2 h2.1
  rw [hl, hf] at hx
  have bv : bitsV t p = .tuple #[.agg #[.int .i64 (4), .string (⟨#[]⟩), .int .i64 (0), .float .f64 (f), .int .i64 (0)], .int .i64 0] := by unfold bitsV; rw [hx]; simp only [hfin, if_true]
  have tv : tokV t p = bitsV t p := by unfold tokV; rw [hc35]; rfl
  have te : tokE t p = p + 17 := by unfold tokE; rw [hc35]; rfl
  rw [bv] at tv
  exact steps_tok t p (p + 17) _ hp (by rw [hc35]; rfl) (by omega) (by rw [tv]; rfl) te (by rw [tv]; rfl)

/-- An atom as it is. -/
theorem steps_plain (t : ByteArray) (p : Nat) (s : List UInt8) (h0 : 0 < s.length) (h64 : s.length ≤ 64) (hs1 : pSmall (s[0]).toNat = true) (hn : ∀ c ∈ s, pName c.toNat = true) (hk : kept ⟨s.toArray⟩ = false) (h : Occ t p s) (hs : Stop t (p + s.length)) : Steps t p (p + s.length) [⟨1, ⟨s.toArray⟩, 0, 0, 0⟩] := by
  have hg := goes_to pName h hn hs rfl rfl rfl
  have hx := h.ext
  have hsz := h.1
  have b0 : bt t p = (s[0]).toNat := h.2 0 h0
  have d0 : pSmall (bt t p) = true := by rw [b0]; exact hs1
  have c0 : 97 ≤ bt t p ∧ bt t p ≤ 122 := by simp [pSmall] at d0; omega
  have wv : wordV t p = .tuple #[.agg #[.int .i64 (1), .string (⟨s.toArray⟩), .int .i64 (0), .float .f64 (0), .int .i64 (0)], .int .i64 0] := by
    unfold wordV
    rw [hg, hx, hk, if_neg (by simp), if_neg (by show ¬ 64 < s.length; omega)]
  have tv : tokV t p = wordV t p := by unfold tokV; rw [if_pos d0]
  have te : tokE t p = p + s.length := by unfold tokE; rw [if_pos d0, hg]
  rw [wv] at tv
  exact steps_tok t p (p + s.length) _ (by omega) (by simp [pBlank]; omega) (by omega) (by rw [tv]; rfl) te (by rw [tv]; rfl)

def hxc (d : Nat) : UInt8 := UInt8.ofNat (if d < 10 then 48 + d else 87 + d)
/-- A byte within quotation marks. -/
def qzc (c : UInt8) : List UInt8 := if c = 92 ∨ c = 39 then [92, c] else if c.toNat < 32 ∨ 126 < c.toNat then [92, 120, hxc (c.toNat / 16), hxc (c.toNat % 16)] else [c]
def qz (s : List UInt8) : List UInt8 := s.flatMap qzc

theorem hxc_nat (d : Nat) (h : d < 16) : hexd (hxc d).toNat = some d := by
  have e : (hxc d).toNat = if d < 10 then 48 + d else 87 + d := by
    unfold hxc
    split <;> (simp; omega)
  rw [e]
  unfold hexd pDigit
  split
  · rw [if_pos (by simp; omega)]; congr 1; omega
  · rw [if_neg (by simp; omega), if_pos (by omega)]; congr 1; omega

theorem quot_back (t : ByteArray) : ∀ (s : List UInt8) (p k : Nat) (acc : List UInt8), Occ t p (qz s ++ [39]) → s.length < k → quotN t 39 k p acc = some (acc ++ s, p + (qz s).length + 1) := by
  intro s
  induction s with
  | nil =>
    intro p k acc h hk
    obtain ⟨k, rfl⟩ : ∃ k0, k = k0 + 1 := ⟨k - 1, by omega⟩
    obtain ⟨hp, hc, _⟩ := Occ.cons (c := 39) (l := []) h
    rw [quotN_mark t 39 k p acc hp hc, List.append_nil]
    rfl
  | cons c s ih =>
    intro p k acc h hk
    rw [List.length_cons] at hk
    obtain ⟨k, rfl⟩ : ∃ k0, k = k0 + 1 := ⟨k - 1, by omega⟩
    have hq : qz (c :: s) = qzc c ++ qz s := rfl
    rw [hq, List.append_assoc] at h
    rw [hq, List.length_append, List.append_cons acc c s]
    have hr := h.right
    have hl := h.left
    have hcc : UInt8.ofNat c.toNat = c := UInt8.ofNat_toNat
    by_cases h1 : c = 92 ∨ c = 39
    · have e : qzc c = [92, c] := if_pos h1
      rw [e] at hl hr ⊢
      obtain ⟨hp, hc, hl2⟩ := hl.cons
      obtain ⟨hp2, hc2, _⟩ := hl2.cons
      have hx : escAt t (p + 1) = some (c.toNat, p + 2) := by
        unfold escAt
        rw [if_pos hp2, if_pos (by rw [hc2]; rcases h1 with rfl | rfl <;> decide), hc2]
      rw [quotN_esc t 39 k p acc hp hc (by decide), hx]
      simp only [Option.bind_some, hcc]
      rw [ih (p + 2) k _ hr (by omega)]
      congr 2
      simp only [List.length_cons, List.length_nil]
      omega
    · by_cases h2 : c.toNat < 32 ∨ 126 < c.toNat
      · have e : qzc c = [92, 120, hxc (c.toNat / 16), hxc (c.toNat % 16)] := by unfold qzc; rw [if_neg h1, if_pos h2]
        rw [e] at hl hr ⊢
        obtain ⟨hp, hc, hl2⟩ := hl.cons
        obtain ⟨hp2, hc2, hl3⟩ := hl2.cons
        obtain ⟨hp3, hc3, hl4⟩ := hl3.cons
        obtain ⟨hp4, hc4, _⟩ := hl4.cons
        have hclt : c.toNat < 256 := c.toNat_lt
        have a1 : hexAt t (p + 1 + 1) = some (c.toNat / 16) := by unfold hexAt; rw [if_pos hp3, hc3]; exact hxc_nat _ (by omega)
        have a2 : hexAt t (p + 1 + 1 + 1) = some (c.toNat % 16) := by unfold hexAt; rw [if_pos hp4, hc4]; exact hxc_nat _ (by omega)
        have hc120 : bt t (p + 1) = 120 := hc2
        have hx : escAt t (p + 1) = some (c.toNat, p + 4) := by
          unfold escAt
          rw [if_pos hp2, hc120, if_neg (by decide), if_neg (by decide), if_neg (by decide), if_pos rfl, hexN_some t 1 _ 0 _ a1, hexN_some t 0 _ _ _ a2]
          simp only [hexN, Option.map_some]
          congr 2
          omega
        rw [quotN_esc t 39 k p acc hp hc (by decide), hx]
        simp only [Option.bind_some, hcc]
        rw [ih (p + 4) k _ hr (by omega)]
        congr 2
        simp only [List.length_cons, List.length_nil]
        omega
      · have e : qzc c = [c] := by unfold qzc; rw [if_neg h1, if_neg h2]
        rw [e] at hl hr ⊢
        obtain ⟨hp, hc, _⟩ := hl.cons
        have n39 : bt t p ≠ 39 := fun hh => h1 (.inr (UInt8.toNat_inj.1 (hc.symm.trans hh)))
        have n92 : bt t p ≠ 92 := fun hh => h1 (.inl (UInt8.toNat_inj.1 (hc.symm.trans hh)))
        rw [quotN_byte t 39 k p acc hp n39 n92, hc, hcc, ih (p + 1) (k + 1) _ hr (by omega)]
        congr 2
        simp only [List.length_cons, List.length_nil]
        omega

theorem qz_len (s : List UInt8) : s.length ≤ (qz s).length := by
  induction s with
  | nil => simp [qz]
  | cons c s ih =>
    have hq : qz (c :: s) = qzc c ++ qz s := rfl
    have h1 : 1 ≤ (qzc c).length := by unfold qzc; split; · simp
                                       · split <;> simp
    rw [hq, List.length_append, List.length_cons]
    omega

/-- An atom in quotation marks. -/
theorem steps_quoted (t : ByteArray) (p : Nat) (s : List UInt8) (h64 : s.length ≤ 64) (h : Occ t p (39 :: (qz s ++ [39]))) : Steps t p (p + (qz s).length + 2) [⟨1, ⟨s.toArray⟩, 0, 0, 0⟩] := by
  obtain ⟨hp, hc, h2⟩ := h.cons
  have hc39 : bt t p = 39 := hc
  have hlen := h2.1
  have hql := qz_len s
  rw [List.length_append] at hlen
  have hq := quot_back t s (p + 1) (t.size + 1) [] h2 (by omega)
  rw [List.nil_append] at hq
  have qv : quoteV t p = .tuple #[.agg #[.int .i64 (1), .string (⟨s.toArray⟩), .int .i64 (0), .float .f64 (0), .int .i64 (0)], .int .i64 0] := by
    unfold quoteV
    rw [hc39, hq]
    show (if 39 = 39 then atomV ⟨s.toArray⟩ else _) = _
    rw [if_pos rfl]
    unfold atomV
    rw [if_neg (by show ¬ 64 < s.length; omega)]
  have tv : tokV t p = quoteV t p := by unfold tokV; rw [hc39]; rfl
  have te : tokE t p = p + (qz s).length + 2 := by
    have : tokE t p = quoteE t p := by unfold tokE; rw [hc39]; rfl
    rw [this]
    unfold quoteE
    rw [hc39, hq]
    show p + 1 + (qz s).length + 1 = _
    omega
  rw [qv] at tv
  exact steps_tok t p _ _ hp (by rw [hc39]; rfl) (by omega) (by rw [tv]; rfl) te (by rw [tv]; rfl)
end Go.Proofs.YtecgddiohoeboaaDoor


/- A term that is read out of memory is a tree: its five fields, and behind its slice the terms that it has, each a tree again. -/
namespace Go.Proofs.YtecgddiohoeboaaDoor
open Go.Deep Go.ChangeShapes Go.WideShapes

/-- A term as it lies: kind, number, float's bits, text, the slice's address and room, the elements. -/
inductive Tr where
  | mk (k n : Int) (f : Nat) (s : ByteArray) (a : Option Addr) (c : Nat) (kids : List Tr)

def Tr.cells : Tr → List Value
  | .mk k n f s a c kids => [.int .i64 k, .int .i64 n, .float .f64 f, .string s, .slice a kids.length c]

def Tr.kids : Tr → List Tr
  | .mk _ _ _ _ _ _ kids => kids

/-- The numbers of one term fit. -/
def Tr.fit : Tr → Prop
  | .mk k n f s a c kids => (Lit.int .i64 k).wf = true ∧ (Lit.int .i64 n).wf = true ∧ (Lit.float .f64 f).wf = true ∧ s.size ≤ maxLen ∧ kids.length ≤ c ∧ c ≤ maxLen ∧ (a = none → c = 0)

mutual
/-- The tree lies in a world, from block 'base' on. -/
def Tr.In (w : World) (base : Nat) : Tr → Prop
  | .mk k n f s a c kids => Tr.fit (.mk k n f s a c kids) ∧ ∀ ad, a = some ad → base ≤ ad.block ∧ Tr.InAll w base ad kids
def Tr.InAll (w : World) (base : Nat) (a : Addr) : List Tr → Prop
  | [] => True
  | t :: r => (∀ i, i < 5 → w.cell? (a.add i) = t.cells[i]?) ∧ Tr.In w base t ∧ Tr.InAll w base (a.add 5) r
end

section
variable {H : Type} {enc : TypeId × Value → H} {P : Program} {w : World} {base : Nat} {spare : Nat → Bool} {held : Bool}

theorem trod_float {t : TypeId} {k : FloatKind} {fuel : Nat} {cs : List Value} {x : DataW H × List MemPlace} (ht : P.underlying t = some (.float k)) (h : DataW.trod enc P w base spare held fuel t cs = some x) :
    ∃ b, cs = [.float k b] ∧ x = (.lit (.float k b), []) ∧ (Lit.float k b).wf = true := by
  cases fuel with
  | zero => simp [DataW.trod] at h
  | succ n =>
    unfold DataW.trod at h
    rw [ht] at h
    split at h <;> simp_all

/-- The type of a term in a program: a struct of five one-cell fields, the last a slice of itself. -/
structure TermType (P : Program) (e : TypeId) where
  (f0 f1 f2 f3 f4 : Field)
  under : P.underlying e = some (.struct #[f0, f1, f2, f3, f4])
  size : P.cellsOf e = 5
  o0 : f0.offset = 0
  o1 : f1.offset = 1
  o2 : f2.offset = 2
  o3 : f3.offset = 3
  o4 : f4.offset = 4
  c0 : P.cellsOf f0.type = 1
  c1 : P.cellsOf f1.type = 1
  c2 : P.cellsOf f2.type = 1
  c3 : P.cellsOf f3.type = 1
  c4 : P.cellsOf f4.type = 1
  u0 : P.underlying f0.type = some (.int .i64)
  u1 : P.underlying f1.type = some (.int .i64)
  u2 : P.underlying f2.type = some (.float .f64)
  u3 : P.underlying f3.type = some .string
  u4 : P.underlying f4.type = some (.slice e)

theorem inAll_of {kids : List Tr} : ∀ {a : Addr}, (∀ (j : Nat) (t : Tr), kids[j]? = some t → (∀ i, i < 5 → w.cell? ((a.add (j * 5)).add i) = t.cells[i]?) ∧ t.In w base) → Tr.InAll w base a kids := by
  induction kids with
  | nil => intro a _; unfold Tr.InAll; trivial
  | cons t r ih =>
    intro a h
    unfold Tr.InAll
    refine ⟨fun i hi => ?_, (h 0 t rfl).2, ih fun j u hu => ?_⟩
    · have := (h 0 t rfl).1 i hi
      rw [add_add] at this
      simpa using this
    · have g := h (j + 1) u (by simpa using hu)
      refine ⟨fun i hi => ?_, g.2⟩
      have := g.1 i hi
      rw [add_add] at this ⊢
      rw [add_add]
      rw [← this]
      congr 2
      omega

/-- What is read as a term is a tree that lies there. -/
theorem open_term {e : TypeId} (T : TermType P e) : ∀ (fuel : Nat) (cs : List Value) (x : DataW H × List MemPlace), DataW.trod enc P w base spare held fuel e cs = some x →
    ∃ t : Tr, cs = t.cells ∧ t.In w base := by
  intro fuel
  induction fuel using Nat.strongRecOn with
  | ind fuel ih =>
  intro cs x h
  obtain ⟨xs, n, hn, hx, hlen, hxl, hf⟩ := DataW.trod_struct T.under h
  rw [T.size] at hlen
  match xs, hxl, cs, hlen with
  | [y0, y1, y2, y3, y4], _, [v0, v1, v2, v3, v4], _ =>
    have g0 := hf 0 T.f0 rfl
    have g1 := hf 1 T.f1 rfl
    have g2 := hf 2 T.f2 rfl
    have g3 := hf 3 T.f3 rfl
    have g4 := hf 4 T.f4 rfl
    simp [T.o0, T.o1, T.o2, T.o3, T.o4, T.c0, T.c1, T.c2, T.c3, T.c4] at g0 g1 g2 g3 g4
    obtain ⟨k, e0, _, w0⟩ := DataW.trod_int T.u0 g0
    obtain ⟨m, e1, _, w1⟩ := DataW.trod_int T.u1 g1
    obtain ⟨f, e2, _, w2⟩ := trod_float T.u2 g2
    obtain ⟨s, e3, _, w3⟩ := DataW.trod_string T.u3 g3
    obtain rfl : v0 = .int .i64 k := by simpa using e0
    obtain rfl : v1 = .int .i64 m := by simpa using e1
    obtain rfl : v2 = .float .f64 f := by simpa using e2
    obtain rfl : v3 = .string s := by simpa using e3
    rcases DataW.trod_slice T.u4 g4 with ⟨e4, _⟩ | ⟨a, len, cap, elems, rest, q, hq, e4, _, hb, hl, hm, hel, hx4, _, _⟩
    · obtain rfl : v4 = .slice none 0 0 := by simpa using e4
      refine ⟨.mk k m f s none 0 [], rfl, ?_⟩
      unfold Tr.In
      exact ⟨⟨w0, w1, w2, w3, Nat.le_refl _, Nat.zero_le _, fun _ => rfl⟩, fun ad h => by simp at h⟩
    · obtain rfl : v4 = .slice (some a) len cap := by simpa using e4
      have each : ∀ i, i < len → ∃ t : Tr, (∀ j, j < 5 → w.cell? ((a.add (i * 5)).add j) = t.cells[j]?) ∧ t.In w base := by
        intro i hi
        have hb := hx4 i hi
        have hsome : elems[i]? = some (elems[i]'(by omega)) := List.getElem?_eq_getElem (by omega)
        rw [hsome, T.size, Option.bind_eq_some_iff] at hb
        obtain ⟨cs', hc, ht⟩ := hb
        obtain ⟨t, ht1, ht2⟩ := ih q (by omega) cs' _ ht
        refine ⟨t, fun j hj => ?_, ht2⟩
        have := (World.cells?_some hc).2.2 j hj
        rw [this, ht1]
      obtain ⟨tf, htf⟩ : ∃ tf : Nat → Tr, ∀ i, i < len → (∀ j, j < 5 → w.cell? ((a.add (i * 5)).add j) = (tf i).cells[j]?) ∧ (tf i).In w base := by
        refine ⟨fun i => if h : i < len then Classical.choose (each i h) else .mk 0 0 0 ⟨#[]⟩ none 0 [], fun i hi => ?_⟩
        simp only [hi, dif_pos]
        exact Classical.choose_spec (each i hi)
      refine ⟨.mk k m f s (some a) cap ((List.range len).map tf), by simp [Tr.cells], ?_⟩
      unfold Tr.In
      refine ⟨⟨w0, w1, w2, w3, by simpa using hl, hm, fun h => by simp at h⟩, fun ad had => ?_⟩
      obtain rfl : a = ad := by simpa using had
      refine ⟨hb, inAll_of fun j t hj => ?_⟩
      have hj' : j < len := by
        rcases Nat.lt_or_ge j len with h | h
        · exact h
        · rw [List.getElem?_eq_none (by simpa using h)] at hj; simp at hj
      rw [List.getElem?_map, List.getElem?_range hj'] at hj
      obtain rfl : tf j = t := by simpa using hj
      exact htf j hj'
end
end Go.Proofs.YtecgddiohoeboaaDoor


