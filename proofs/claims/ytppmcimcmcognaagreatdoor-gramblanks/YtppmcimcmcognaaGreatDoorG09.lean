import Derived.Test.YtppmcimcmcognaaGreatDoorG03
import Derived.Deep.MidRow
import Derived.Test.YtppmcimcmcognaaGreatDoorG08
/- Signs. -/
namespace Go.Proofs.YtppmcimcmcognaaGreatDoor
open Go.RowKit Go.Lib
attribute [local go_sem] store_float f64bits
attribute [local go_sem ↓] Go.wp_at_zero Go.wp_at_succ

abbrev GS : Nat := 1

def signL : List (List UInt8) := [[61, 58, 61], [61, 47, 61], [45, 62], [61, 61], [47, 61], [61, 60], [62, 61], [43, 43], [40], [41], [123], [125], [91], [93], [44], [59], [46], [124], [61], [60], [62], [43], [45], [42], [47], [33], [58]]

def signV : List Value := signL.map fun l => .string ⟨l.toArray⟩

/-- The table of signs lies where it must. -/
def SignTab (w : World) : Prop := w.rangeAt GS 0 signV

theorem sign_at (j : Nat) (l : List UInt8) (hl : signL[j]? = some l) : signV.toArray[j]? = some (.string ⟨l.toArray⟩) := by
  simp [signV, hl]

theorem index_sign (W : World) (j : Nat) (l : List UInt8) (hl : signL[j]? = some l) : (Instr.index 95 (.agg signV.toArray) (.int .i64 (j : Int))).run Tryz.prog W = .ok (.string ⟨l.toArray⟩) W := by
  have hj : j < 27 := by
    have := (List.getElem?_eq_some_iff.1 hl).1
    simpa [signL] using this
  have hv := sign_at j l hl
  have h1 : (0 : Int) ≤ (j : Int) := by omega
  have h2 : (j : Int) < 27 := by omega
  have hi : (Tryz.prog.info? 9).map (fun i => (i.size)) = some 1 := by kernel_rfl
  generalize signV.toArray = A at *
  cases hq : Tryz.prog.info? 9 with
  | none => simp [hq] at hi
  | some i =>
    have hs : i.size = 1 := by simpa [hq] using hi
    simp [Instr.index, asIntOf, run_underlying Tryz.underlying95, h1, sizeOf, typeInfo, hq, hs, part, hv]
    intro h; omega

/-- The sign that stands there. -/
def signAt (s : ByteArray) (i : Nat) : Option (List UInt8) := signL.find? fun l => Lib.hasPrefix (s.extract i s.size).data.toList l

theorem sign_len : ∀ l ∈ signL, l.length ≤ 3 := by decide
theorem sign_none (Pf : List UInt8 → Bool) : (signL.drop 27).find? Pf = none := rfl
theorem sign_has (j : Nat) (hj : j < 27) : ∃ l, signL[j]? = some l := ⟨signL[j]'(by simpa [signL] using hj), by simp⟩
theorem sign_drop (j : Nat) (l : List UInt8) (hl : signL[j]? = some l) : signL.drop j = l :: signL.drop (j + 1) := by
  obtain ⟨h1, h2⟩ := List.getElem?_eq_some_iff.1 hl
  rw [← h2]; exact List.drop_eq_getElem_cons h1

def sgV : Option (List UInt8) → Value
  | some l => .tuple #[.agg #[.int .i64 (6), .string (⟨l.toArray⟩), .int .i64 (0), .float .f64 (0), .int .i64 (0)], .int .i64 0]
  | none => .tuple #[.agg #[.int .i64 (0), .string (⟨#[]⟩), .int .i64 (0), .float .f64 (0), .int .i64 (0)], .int .i64 21]
def sgN : Option (List UInt8) → Nat
  | some l => l.length
  | none => 0

set_option maxHeartbeats 1000000 in
set_option maxRecDepth 1000000 in
theorem sign_core (A : List Value) (hsi : (Tryz.prog.info? 95).map (·.size) = some A.length) (hIX : ∀ (W : World) (j : Nat) (l : List UInt8), signL[j]? = some l → (Instr.index 95 (.agg A.toArray) (.int .i64 (j : Int))).run Tryz.prog W = .ok (.string ⟨l.toArray⟩) W) (s : ByteArray) (i b : Nat) (hi : i ≤ s.size) (hs : s.size ≤ 65536) (w : World) (h : Sc w b s i) (hS : w.rangeAt GS 0 A) :
    Calls Tryz.prog 45 #[.pointer (some ⟨b, 0, none⟩)] w fun e w' => e = .returned (sgV (signAt s i)) ∧ Sc w' b s (i + sgN (signAt s i)) ∧ But (· = b) w w' := by
  have hlt := h.lt
  have hS2 : (wbox w).rangeAt GS 0 A := fun j v hj => by
    have hc := hS j v hj
    have lt : GS < w.heap.size := by
      rcases Nat.lt_or_ge GS w.heap.size with h' | h'
      · exact h'
      · simp [World.cell?, Array.getElem?_eq_none h'] at hc
    exact ((wbox_below w).cell (p := ⟨GS, 0 + j, none⟩) lt).trans hc
  have h0 : (0 : Int) ≤ (i : Int) := by omega
  have h1 : (i : Int) ≤ (s.size : Int) := by omega
  have hlen := sign_len
  have hnil : ∀ l ∈ signL, (⟨l.toArray⟩ : ByteArray).size = l.length := fun l _ => by simp [ByteArray.size]
  have cP : ∀ l W, Calls Tryz.prog 75 #[.string (s.extract i s.size), .string ⟨l.toArray⟩] W fun e W' => e = .returned (.bool (Lib.hasPrefix (s.extract i s.size).data.toList l)) ∧ W' = W := fun l W => Tryz.strings_HasPrefix _ _ W
  unfold signAt
  obtain ⟨Pf, hPf⟩ : ∃ Pf : List UInt8 → Bool, (fun l => Lib.hasPrefix (s.extract i s.size).data.toList l) = Pf := ⟨_, rfl⟩
  have cQ : ∀ l W, Calls Tryz.prog 75 #[.string (s.extract i s.size), .string ⟨l.toArray⟩] W fun e W' => e = .returned (.bool (Pf l)) ∧ W' = W := by rw [← hPf]; exact cP
  rw [hPf]
  obtain ⟨o, ho⟩ : ∃ o, signL.find? Pf = o := ⟨_, rfl⟩
  rw [ho]
  have hfs : (signL.drop 0).find? Pf = o := ho
  clear cP hPf hS ho
  go_enter Tryz.func45, Tryz.ntmps45
  go_wp2_with (refine wpList_load_mid rfl 95 _ rfl GS 0 rfl A _ hS2 Tryz.underlying95 rfl hsi ?_)
  go_loopg [7] 27 (fun gf s7 wx => ∃ j : Nat, s7 = .int .i64 (j : Int) ∧ j + gf = 27 ∧ Below (wbox w).heap.size (wbox w) wx ∧ (signL.drop j).find? Pf = o)
  case atStart => exact ⟨0, rfl, rfl, Below.refl _ _, hfs⟩
  case round =>
    obtain ⟨j, rfl, hjg, hbw, hfi⟩ := hrel
    have hD : Duo wr b (.string s) (.int .i64 i) := Duo.keep (Duo.keep h (wbox_below w)) hbw
    have HBX := hidb ((wbox_box w).keep hbw)
    have HBW := hidb hbw
    obtain ⟨d0, d1, d2, d3, d4, g0, g1, g2, g3, g4, _⟩ := (wbox_box w).keep hbw
    have c0 := hD.c0; have c1 := hD.c1; have f1 := hD.f1
    by_cases hj : j < 27
    · obtain ⟨g', rfl⟩ : ∃ g', gk = g' + 1 := ⟨gk - 1, by omega⟩
      obtain ⟨l, hl⟩ := sign_has j hj
      have hmem : l ∈ signL := List.mem_of_getElem? hl
      have hix := fun W => hIX W j l hl
      have hd := sign_drop j l hl
      have hl3 := hlen l hmem
      have hsz := hnil l hmem
      rw [hd] at hfi
      have hj2 : (j : Int) < 27 := by omega
      have hw1 : wrap64 ((j : Int) + 1) = (j : Int) + 1 := by unfold wrap64; omega
      have hcl := cQ l
      obtain ⟨x, hx⟩ : ∃ x, (⟨l.toArray⟩ : ByteArray) = x := ⟨_, rfl⟩
      rw [hx] at hsz hcl
      simp only [hx] at hix
      have hw2 : wrap64 ((i : Int) + (x.size : Int)) = (i : Int) + (x.size : Int) := by unfold wrap64; omega
      clear hlen hnil cQ hl hmem hbw hd hIX hsi hS2
      have HSZ := hidb hsz
      have HX := hidb hx
      clear hsz hx
      cases hp : Pf l <;> rw [hp] at hcl <;> simp only [List.find?_cons, hp] at hfi
      · go_wp2_with fail
        go_region_held3 (fun w' => w'.cell? ⟨b, 0, none⟩ = some (.string s) ∧ w'.cell? ⟨b, 1, none⟩ = some (.int .i64 i))
          (go_keep)
          (first | (go_at_call 75; refine (hcl _).mono ?_; rintro e w' ⟨rfl, rfl⟩))
        go_wp2_with fail
        go_roundg g'
        case measure => omega
        case rel => exact ⟨j + 1, by simp, by omega, HBW.out.drew, hfi⟩
      · go_wp2_with fail
        go_region_held3 (fun w' => w'.cell? ⟨b, 0, none⟩ = some (.string s) ∧ w'.cell? ⟨b, 1, none⟩ = some (.int .i64 i))
          (go_keep)
          (first | (go_at_call 75; refine (hcl _).mono ?_; rintro e w' ⟨rfl, rfl⟩))
        go_wp2_with fail
        subst hfi
        refine bodyPost_ret (v := .tuple #[.agg #[.int .i64 (6), .string (x), .int .i64 (0), .float .f64 (0), .int .i64 (0)], .int .i64 0]) (by simp [results, Tryz.results45, go_sem, d0, d1, d2, d3, d4]) rfl ⟨by rw [← HX.out]; rfl, ?_, ?_⟩
        · have hD2 := (hD.set1 (.int .i64 ((i : Int) + (x.size : Int)))).set5 (c := w.heap.size) (by omega) (.int .i64 6) (.string x) (.int .i64 0) (.float .f64 0) (.int .i64 0)
          have e : ((i + l.length : Nat) : Int) = (i : Int) + (x.size : Int) := by have := HSZ.out; omega
          show Duo _ b (.string s) (.int .i64 ((i + l.length : Nat) : Int))
          rw [e]
          exact hD2.keep ((Below.refl _ _).drew)
        · exact ((((But.of_below (S := (· = b)) (wbox_below w)).trans (But.of_below HBW.out)).setCell (p := ⟨b, 1, none⟩) (fun _ => rfl) _).set5 (fun h => absurd h (Nat.lt_irrefl _)) _ _ _ _ _).drew
    · obtain rfl : j = 27 := by omega
      obtain rfl : none = o := (sign_none Pf).symm.trans hfi
      clear hlen hnil cQ hbw
      go_wp2_with fail
      refine bodyPost_ret (v := .tuple #[.agg #[.int .i64 (0), .string (⟨#[]⟩), .int .i64 (0), .float .f64 (0), .int .i64 (0)], .int .i64 21]) (by simp [results, Tryz.results45, go_sem, d0, d1, d2, d3, d4]) rfl ⟨rfl, ?_, ?_⟩
      · exact hD.set5 (by omega) _ _ _ _ _
      · exact (((But.of_below (wbox_below w)).trans (But.of_below HBW.out))).set5 (fun h => absurd h (Nat.lt_irrefl _)) _ _ _ _ _

theorem sign_any (s : ByteArray) (i b : Nat) (hi : i ≤ s.size) (hs : s.size ≤ 65536) (w : World) (h : Sc w b s i) (hS : SignTab w) :
    Calls Tryz.prog 45 #[.pointer (some ⟨b, 0, none⟩)] w fun e w' => e = .returned (sgV (signAt s i)) ∧ Sc w' b s (i + sgN (signAt s i)) ∧ But (· = b) w w' :=
  sign_core signV (by kernel_rfl) index_sign s i b hi hs w h hS
end Go.Proofs.YtppmcimcmcognaaGreatDoor


/- What a token is, and all of them. -/
namespace Go.Proofs.YtppmcimcmcognaaGreatDoor
open Go.RowKit Go.Lib
attribute [local go_sem] store_float f64bits
attribute [local go_sem ↓] Go.wp_at_zero Go.wp_at_succ

def wordV (s : ByteArray) (i : Nat) : Value := if kept (s.extract i (goes pName s i)) = true then .tuple #[.agg #[.int .i64 (7), .string (s.extract i (goes pName s i)), .int .i64 (0), .float .f64 (0), .int .i64 (0)], .int .i64 0] else if 64 < (s.extract i (goes pName s i)).size then .tuple #[.agg #[.int .i64 (0), .string (⟨#[]⟩), .int .i64 (0), .float .f64 (0), .int .i64 (0)], .int .i64 23] else .tuple #[.agg #[.int .i64 (1), .string (s.extract i (goes pName s i)), .int .i64 (0), .float .f64 (0), .int .i64 (0)], .int .i64 0]
def varV (s : ByteArray) (i : Nat) : Value := .tuple #[.agg #[.int .i64 (2), .string (s.extract i (goes pName s i)), .int .i64 (0), .float .f64 (0), .int .i64 (0)], .int .i64 0]

/-- The token that begins there, or its error. -/
def tokV (s : ByteArray) (i : Nat) : Value :=
  if pSmall (bt s i) = true then wordV s i
  else if pCapital (bt s i) = true ∨ bt s i = 95 then varV s i
  else if pDigit (bt s i) = true then numV s i
  else if bt s i = 35 then bitsV s i
  else if bt s i = 39 ∨ bt s i = 34 then quoteV s i
  else sgV (signAt s i)
/-- The place behind it. -/
def tokE (s : ByteArray) (i : Nat) : Nat :=
  if pSmall (bt s i) = true then goes pName s i
  else if pCapital (bt s i) = true ∨ bt s i = 95 then goes pName s i
  else if pDigit (bt s i) = true then fracEnd s (goes pDigit s i)
  else if bt s i = 35 then i + 17
  else if bt s i = 39 ∨ bt s i = 34 then quoteE s i
  else i + sgN (signAt s i)

theorem wordV_tk (s : ByteArray) (i : Nat) : IsTk (wordV s i) := by
  unfold wordV
  split
  · exact ⟨_, _, _, _, _, rfl⟩
  · split
    · exact ⟨_, _, _, _, _, rfl⟩
    · exact ⟨_, _, _, _, _, rfl⟩
theorem numV_tk (s : ByteArray) (i : Nat) : IsTk (numV s i) := by
  unfold numV
  split
  · exact badV_tk _
  · split
    · exact wholeV_tk _
    · exact floatV_tk _ _
theorem bitsV_tk (s : ByteArray) (i : Nat) : IsTk (bitsV s i) := by
  unfold bitsV
  split
  · split
    · exact ⟨_, _, _, _, _, rfl⟩
    · exact badV_tk _
  · exact badV_tk _
theorem quoteV_tk (s : ByteArray) (i : Nat) : IsTk (quoteV s i) := by
  unfold quoteV
  split
  · split
    · exact atomV_tk _
    · exact ⟨_, _, _, _, _, rfl⟩
  · exact badV_tk _
theorem sgV_tk (o : Option (List UInt8)) : IsTk (sgV o) := by
  cases o with
  | none => exact ⟨_, _, _, _, _, rfl⟩
  | some l => exact ⟨_, _, _, _, _, rfl⟩
theorem tokV_tk (s : ByteArray) (i : Nat) : IsTk (tokV s i) := by
  unfold tokV
  repeat' split
  · exact wordV_tk s i
  · exact ⟨_, _, _, _, _, rfl⟩
  · exact numV_tk s i
  · exact bitsV_tk s i
  · exact quoteV_tk s i
  · exact sgV_tk _

theorem sign_in (s : ByteArray) (i : Nat) (hi : i ≤ s.size) (l : List UInt8) (h : signAt s i = some l) : 1 ≤ l.length ∧ i + l.length ≤ s.size := by
  have h1 := List.find?_some h
  have h2 := List.mem_of_find?_eq_some h
  have h3 : ∀ l ∈ signL, 1 ≤ l.length := by decide
  have h4 : l.length ≤ (s.extract i s.size).data.toList.length := by
    unfold Lib.hasPrefix at h1
    exact List.IsPrefix.length_le (List.isPrefixOf_iff_prefix.1 h1)
  have h5 : (s.extract i s.size).data.toList.length = s.size - i := by
    have : (s.extract i s.size).size = s.size - i := by rw [size_ext]; omega
    exact this
  have := h3 l h2
  omega

theorem okV_tk (k : Int) (x : ByteArray) (n : Int) (f : Nat) (p e : Int) : okV (.tuple #[.agg #[.int .i64 k, .string x, .int .i64 n, .float .f64 f, .int .i64 p], .int .i64 e]) = (e == 0) := rfl

theorem tokE_in (s : ByteArray) (i : Nat) (hi : i < s.size) (hok : okV (tokV s i) = true) : i < tokE s i ∧ tokE s i ≤ s.size := by
  unfold tokV at hok
  unfold tokE
  have hn : ∀ p : Nat → Bool, p (bt s i) = true → i < goes p s i ∧ goes p s i ≤ s.size := fun p hp => by
    rw [goes_on hi hp]
    exact ⟨goes_ge p s (i + 1), goes_le p s (i + 1) hi⟩
  split
  · rename_i h1; exact hn pName (by simp [pName, h1])
  · rename_i h1
    rw [if_neg h1] at hok
    split
    · rename_i h2; exact hn pName (by rcases h2 with h2 | h2 <;> simp [pName, h2])
    · rename_i h2
      rw [if_neg h2] at hok
      split
      · rename_i h3
        have := hn pDigit h3
        have := frac_end s (goes pDigit s i) (by omega)
        omega
      · rename_i h3
        rw [if_neg h3] at hok
        split
        · rename_i h4
          rw [if_pos h4] at hok
          unfold bitsV at hok
          split at hok
          · rename_i u hu
            have := hexN_in s 15 (i + 1) 0 u hu
            omega
          · cases hok
        · rename_i h4
          rw [if_neg h4] at hok
          split
          · rename_i h5
            rw [if_pos h5] at hok
            unfold quoteV at hok
            unfold quoteE
            split at hok
            · rename_i l e hq
              have := quotN_len s _ _ _ _ _ _ (by omega) hq
              rw [hq]
              simp
              omega
            · cases hok
          · rename_i h5
            rw [if_neg h5] at hok
            cases hs : signAt s i with
            | none => rw [hs] at hok; cases hok
            | some l => have := sign_in s i (by omega) l hs; simp only [sgN]; omega

/-- The tables that the scanner reads. -/
structure LexTab (w : World) : Prop where
  u : Lib.Utf8Tabs G1 G2 w
  p : PowTab w
  s : SignTab w

theorem LexTab.but {S : Nat → Prop} {w w' : World} (h : LexTab w) (hb : But S w w') (hS : ∀ k, S k → GB ≤ k) : LexTab w' := by
  unfold GB at hS
  refine ⟨Utf8Tabs_but h.u hb (fun e => ?_) (fun e => ?_), PowTab_but h.p hb (fun e => ?_) (fun e => ?_), fun j v hj => ?_⟩
  · have := hS _ e; unfold G1 at this; omega
  · have := hS _ e; unfold G2 at this; omega
  · have := hS _ e; omega
  · have := hS _ e; omega
  · have hc := h.s j v hj
    exact (hb.cell (p := ⟨GS, 0 + j, none⟩) (cell_lt hc) (fun e => absurd (show 7 ≤ GS from hS _ e) (by decide))).trans hc

/-- A method that tells the token. -/
def TokC (fn : Nat) (s : ByteArray) (j b : Nat) (w : World) : Prop :=
  Calls Tryz.prog fn #[.pointer (some ⟨b, 0, none⟩)] w fun e w' => e = .returned (tokV s j) ∧ But (· = b) w w' ∧ ∃ p, p ≤ s.size ∧ Sc w' b s p ∧ (okV (tokV s j) = true → p = tokE s j)

theorem tok_word (s : ByteArray) (j b : Nat) (hj : j < s.size) (hs : s.size ≤ 65536) (w : World) (h : Sc w b s j) (hc : pSmall (bt s j) = true) : TokC 40 s j b w := by
  unfold TokC tokV tokE
  rw [if_pos hc, if_pos hc]
  exact (word_any s j b (by omega) hs w h).mono fun e w' ⟨h1, h2, h3⟩ => ⟨h1, h3, _, goes_le _ _ _ (by omega), h2, fun _ => rfl⟩
theorem tok_var (s : ByteArray) (j b : Nat) (hj : j < s.size) (hs : s.size ≤ 65536) (w : World) (h : Sc w b s j) (hc : ¬ pSmall (bt s j) = true) (hd : pCapital (bt s j) = true ∨ bt s j = 95) : TokC 41 s j b w := by
  unfold TokC tokV tokE
  rw [if_neg hc, if_pos hd, if_neg hc, if_pos hd]
  exact (variable_any s j b (by omega) hs w h).mono fun e w' ⟨h1, h2, h3⟩ => ⟨h1, h3, _, goes_le _ _ _ (by omega), h2, fun _ => rfl⟩
theorem tok_num (s : ByteArray) (j b : Nat) (hj : j < s.size) (hs : s.size ≤ 65536) (w : World) (h : Sc w b s j) (hT : LexTab w) (hg : GB ≤ b) (hc : ¬ pSmall (bt s j) = true) (hd : ¬ (pCapital (bt s j) = true ∨ bt s j = 95)) (he : pDigit (bt s j) = true) : TokC 42 s j b w := by
  unfold TokC tokV tokE
  rw [if_neg hc, if_neg hd, if_pos he, if_neg hc, if_neg hd, if_pos he]
  exact (number_any s j b (by omega) hs w h hT.u hT.p hg).mono fun e w' ⟨h1, h2, h3⟩ => ⟨h1, h3, _, (frac_end s _ (goes_le _ _ _ (by omega))).2, h2, fun _ => rfl⟩
theorem tok_bits (s : ByteArray) (j b : Nat) (hj : j < s.size) (hs : s.size ≤ 65536) (w : World) (h : Sc w b s j) (hT : LexTab w) (hg : GB ≤ b) (hc : ¬ pSmall (bt s j) = true) (hd : ¬ (pCapital (bt s j) = true ∨ bt s j = 95)) (he : ¬ pDigit (bt s j) = true) (hf : bt s j = 35) : TokC 43 s j b w := by
  unfold TokC tokV tokE
  rw [if_neg hc, if_neg hd, if_neg he, if_pos hf, if_neg hc, if_neg hd, if_neg he, if_pos hf]
  exact (bits_any s j b hj hf hs w h hT.u hg).mono fun e w' ⟨h1, h2, p, _, hp, h3, h4⟩ => ⟨h1, h2, p, hp, h3, h4⟩
theorem tok_quot (s : ByteArray) (j b : Nat) (hj : j < s.size) (hs : s.size ≤ 65536) (w : World) (h : Sc w b s j) (hT : LexTab w) (hg : GB ≤ b) (hc : ¬ pSmall (bt s j) = true) (hd : ¬ (pCapital (bt s j) = true ∨ bt s j = 95)) (he : ¬ pDigit (bt s j) = true) (hf : ¬ bt s j = 35) (hq : bt s j = 39 ∨ bt s j = 34) : TokC 44 s j b w := by
  unfold TokC tokV tokE
  rw [if_neg hc, if_neg hd, if_neg he, if_neg hf, if_pos hq, if_neg hc, if_neg hd, if_neg he, if_neg hf, if_pos hq]
  exact (quotation_any s j b hj hq hs w h hT.u hg).mono fun e w' ⟨h1, h2, p, hp, h3, h4⟩ => ⟨h1, h2, p, hp, h3, h4⟩
theorem tok_sign (s : ByteArray) (j b : Nat) (hj : j < s.size) (hs : s.size ≤ 65536) (w : World) (h : Sc w b s j) (hT : LexTab w) (hc : ¬ pSmall (bt s j) = true) (hd : ¬ (pCapital (bt s j) = true ∨ bt s j = 95)) (he : ¬ pDigit (bt s j) = true) (hf : ¬ bt s j = 35) (hq : ¬ (bt s j = 39 ∨ bt s j = 34)) : TokC 45 s j b w := by
  unfold TokC tokV tokE
  rw [if_neg hc, if_neg hd, if_neg he, if_neg hf, if_neg hq, if_neg hc, if_neg hd, if_neg he, if_neg hf, if_neg hq]
  refine (sign_any s j b (by omega) hs w h hT.s).mono fun e w' hh => ?_
  refine ⟨hh.1, hh.2.2, _, ?_, hh.2.1, fun _ => rfl⟩
  cases hs : signAt s j with
  | none => simp only [sgN]; omega
  | some l => have := sign_in s j (by omega) l hs; simp only [sgN]; omega
end Go.Proofs.YtppmcimcmcognaaGreatDoor


