import Derived.Test.YtdpfmmbfidknfaaGreatDoorG11
/- What a token is, and all of them. -/
namespace Go.Proofs.YtdpfmmbfidknfaaGreatDoor
open Go.RowKit Go.Lib
attribute [local go_sem] store_float f64bits
attribute [local go_sem ↓] Go.wp_at_zero Go.wp_at_succ

def wordV (s : ByteArray) (i : Nat) : Value := if kept (s.extract i (goes pName s i)) = true then .tuple #[.agg #[.int .i64 (7), .string (s.extract i (goes pName s i)), .int .i64 (0), .float .f64 (0), .int .i64 (0)], .int .i64 0] else if 64 < (s.extract i (goes pName s i)).size then .tuple #[.agg #[.int .i64 (0), .string (⟨#[]⟩), .int .i64 (0), .float .f64 (0), .int .i64 (0)], .int .i64 23] else .tuple #[.agg #[.int .i64 (1), .string (s.extract i (goes pName s i)), .int .i64 (0), .float .f64 (0), .int .i64 (0)], .int .i64 0]
def varV (s : ByteArray) (i : Nat) : Value := .tuple #[.agg #[.int .i64 (2), .string (s.extract i (goes pName s i)), .int .i64 (0), .float .f64 (0), .int .i64 (0)], .int .i64 0]

/-- The token that begins there, or its error. -/
def tokV (s : ByteArray) (i : Nat) : Value :=
  if pSmall (bt s i) = true then wordV s i
  else if pCapital (bt s i) = true ∨ bt s i = 95 then varV s i
  else if pDigit (bt s i) = true then numV s i
  else if bt s i = 35 then bitsV s i
  else if bt s i = 39 ∨ bt s i = 34 then quoteV s i
  else sgV (signAt s i)
/-- The place behind it. -/
def tokE (s : ByteArray) (i : Nat) : Nat :=
  if pSmall (bt s i) = true then goes pName s i
  else if pCapital (bt s i) = true ∨ bt s i = 95 then goes pName s i
  else if pDigit (bt s i) = true then fracEnd s (goes pDigit s i)
  else if bt s i = 35 then i + 17
  else if bt s i = 39 ∨ bt s i = 34 then quoteE s i
  else i + sgN (signAt s i)

theorem wordV_tk (s : ByteArray) (i : Nat) : IsTk (wordV s i) := by
  unfold wordV
  split
  · exact ⟨_, _, _, _, _, rfl⟩
  · split
    · exact ⟨_, _, _, _, _, rfl⟩
    · exact ⟨_, _, _, _, _, rfl⟩
theorem numV_tk (s : ByteArray) (i : Nat) : IsTk (numV s i) := by
  unfold numV
  split
  · exact badV_tk _
  · split
    · exact wholeV_tk _
    · exact floatV_tk _ _
theorem bitsV_tk (s : ByteArray) (i : Nat) : IsTk (bitsV s i) := by
  unfold bitsV
  split
  · split
    · exact ⟨_, _, _, _, _, rfl⟩
    · exact badV_tk _
  · exact badV_tk _
theorem quoteV_tk (s : ByteArray) (i : Nat) : IsTk (quoteV s i) := by
  unfold quoteV
  split
  · split
    · exact atomV_tk _
    · exact ⟨_, _, _, _, _, rfl⟩
  · exact badV_tk _
theorem sgV_tk (o : Option (List UInt8)) : IsTk (sgV o) := by
  cases o with
  | none => exact ⟨_, _, _, _, _, rfl⟩
  | some l => exact ⟨_, _, _, _, _, rfl⟩
theorem tokV_tk (s : ByteArray) (i : Nat) : IsTk (tokV s i) := by
  unfold tokV
  repeat' split
  · exact wordV_tk s i
  · exact ⟨_, _, _, _, _, rfl⟩
  · exact numV_tk s i
  · exact bitsV_tk s i
  · exact quoteV_tk s i
  · exact sgV_tk _

theorem sign_in (s : ByteArray) (i : Nat) (hi : i ≤ s.size) (l : List UInt8) (h : signAt s i = some l) : 1 ≤ l.length ∧ i + l.length ≤ s.size := by
  have h1 := List.find?_some h
  have h2 := List.mem_of_find?_eq_some h
  have h3 : ∀ l ∈ signL, 1 ≤ l.length := by decide
  have h4 : l.length ≤ (s.extract i s.size).data.toList.length := by
    unfold Lib.hasPrefix at h1
    exact List.IsPrefix.length_le (List.isPrefixOf_iff_prefix.1 h1)
  have h5 : (s.extract i s.size).data.toList.length = s.size - i := by
    have : (s.extract i s.size).size = s.size - i := by rw [size_ext]; omega
    exact this
  have := h3 l h2
  omega

theorem okV_tk (k : Int) (x : ByteArray) (n : Int) (f : Nat) (p e : Int) : okV (.tuple #[.agg #[.int .i64 k, .string x, .int .i64 n, .float .f64 f, .int .i64 p], .int .i64 e]) = (e == 0) := rfl

theorem tokE_in (s : ByteArray) (i : Nat) (hi : i < s.size) (hok : okV (tokV s i) = true) : i < tokE s i ∧ tokE s i ≤ s.size := by
  unfold tokV at hok
  unfold tokE
  have hn : ∀ p : Nat → Bool, p (bt s i) = true → i < goes p s i ∧ goes p s i ≤ s.size := fun p hp => by
    rw [goes_on hi hp]
    exact ⟨goes_ge p s (i + 1), goes_le p s (i + 1) hi⟩
  split
  · rename_i h1; exact hn pName (by simp [pName, h1])
  · rename_i h1
    rw [if_neg h1] at hok
    split
    · rename_i h2; exact hn pName (by rcases h2 with h2 | h2 <;> simp [pName, h2])
    · rename_i h2
      rw [if_neg h2] at hok
      split
      · rename_i h3
        have := hn pDigit h3
        have := frac_end s (goes pDigit s i) (by omega)
        omega
      · rename_i h3
        rw [if_neg h3] at hok
        split
        · rename_i h4
          rw [if_pos h4] at hok
          unfold bitsV at hok
          split at hok
          · rename_i u hu
            have := hexN_in s 15 (i + 1) 0 u hu
            omega
          · cases hok
        · rename_i h4
          rw [if_neg h4] at hok
          split
          · rename_i h5
            rw [if_pos h5] at hok
            unfold quoteV at hok
            unfold quoteE
            split at hok
            · rename_i l e hq
              have := quotN_len s _ _ _ _ _ _ (by omega) hq
              rw [hq]
              simp
              omega
            · cases hok
          · rename_i h5
            rw [if_neg h5] at hok
            cases hs : signAt s i with
            | none => rw [hs] at hok; cases hok
            | some l => have := sign_in s i (by omega) l hs; simp only [sgN]; omega

/-- The tables that the scanner reads. -/
structure LexTab (w : World) : Prop where
  u : Lib.Utf8Tabs G1 G2 w
  p : PowTab w
  s : SignTab w

theorem LexTab.but {S : Nat → Prop} {w w' : World} (h : LexTab w) (hb : But S w w') (hS : ∀ k, S k → GB ≤ k) : LexTab w' := by
  unfold GB at hS
  refine ⟨Utf8Tabs_but h.u hb (fun e => ?_) (fun e => ?_), PowTab_but h.p hb (fun e => ?_) (fun e => ?_), fun j v hj => ?_⟩
  · have := hS _ e; unfold G1 at this; omega
  · have := hS _ e; unfold G2 at this; omega
  · have := hS _ e; omega
  · have := hS _ e; omega
  · have hc := h.s j v hj
    exact (hb.cell (p := ⟨GS, 0 + j, none⟩) (cell_lt hc) (fun e => absurd (show 7 ≤ GS from hS _ e) (by decide))).trans hc

/-- A method that tells the token. -/
def TokC (fn : Nat) (s : ByteArray) (j b : Nat) (w : World) : Prop :=
  Calls Tryz.prog fn #[.pointer (some ⟨b, 0, none⟩)] w fun e w' => e = .returned (tokV s j) ∧ But (· = b) w w' ∧ ∃ p, p ≤ s.size ∧ Sc w' b s p ∧ (okV (tokV s j) = true → p = tokE s j)

theorem tok_word (s : ByteArray) (j b : Nat) (hj : j < s.size) (hs : s.size ≤ 65536) (w : World) (h : Sc w b s j) (hc : pSmall (bt s j) = true) : TokC 26 s j b w := by
  unfold TokC tokV tokE
  rw [if_pos hc, if_pos hc]
  exact (word_any s j b (by omega) hs w h).mono fun e w' ⟨h1, h2, h3⟩ => ⟨h1, h3, _, goes_le _ _ _ (by omega), h2, fun _ => rfl⟩
theorem tok_var (s : ByteArray) (j b : Nat) (hj : j < s.size) (hs : s.size ≤ 65536) (w : World) (h : Sc w b s j) (hc : ¬ pSmall (bt s j) = true) (hd : pCapital (bt s j) = true ∨ bt s j = 95) : TokC 27 s j b w := by
  unfold TokC tokV tokE
  rw [if_neg hc, if_pos hd, if_neg hc, if_pos hd]
  exact (variable_any s j b (by omega) hs w h).mono fun e w' ⟨h1, h2, h3⟩ => ⟨h1, h3, _, goes_le _ _ _ (by omega), h2, fun _ => rfl⟩
theorem tok_num (s : ByteArray) (j b : Nat) (hj : j < s.size) (hs : s.size ≤ 65536) (w : World) (h : Sc w b s j) (hT : LexTab w) (hg : GB ≤ b) (hc : ¬ pSmall (bt s j) = true) (hd : ¬ (pCapital (bt s j) = true ∨ bt s j = 95)) (he : pDigit (bt s j) = true) : TokC 28 s j b w := by
  unfold TokC tokV tokE
  rw [if_neg hc, if_neg hd, if_pos he, if_neg hc, if_neg hd, if_pos he]
  exact (number_any s j b (by omega) hs w h hT.u hT.p hg).mono fun e w' ⟨h1, h2, h3⟩ => ⟨h1, h3, _, (frac_end s _ (goes_le _ _ _ (by omega))).2, h2, fun _ => rfl⟩
theorem tok_bits (s : ByteArray) (j b : Nat) (hj : j < s.size) (hs : s.size ≤ 65536) (w : World) (h : Sc w b s j) (hT : LexTab w) (hg : GB ≤ b) (hc : ¬ pSmall (bt s j) = true) (hd : ¬ (pCapital (bt s j) = true ∨ bt s j = 95)) (he : ¬ pDigit (bt s j) = true) (hf : bt s j = 35) : TokC 29 s j b w := by
  unfold TokC tokV tokE
  rw [if_neg hc, if_neg hd, if_neg he, if_pos hf, if_neg hc, if_neg hd, if_neg he, if_pos hf]
  exact (bits_any s j b hj hf hs w h hT.u hg).mono fun e w' ⟨h1, h2, p, _, hp, h3, h4⟩ => ⟨h1, h2, p, hp, h3, h4⟩
theorem tok_quot (s : ByteArray) (j b : Nat) (hj : j < s.size) (hs : s.size ≤ 65536) (w : World) (h : Sc w b s j) (hT : LexTab w) (hg : GB ≤ b) (hc : ¬ pSmall (bt s j) = true) (hd : ¬ (pCapital (bt s j) = true ∨ bt s j = 95)) (he : ¬ pDigit (bt s j) = true) (hf : ¬ bt s j = 35) (hq : bt s j = 39 ∨ bt s j = 34) : TokC 30 s j b w := by
  unfold TokC tokV tokE
  rw [if_neg hc, if_neg hd, if_neg he, if_neg hf, if_pos hq, if_neg hc, if_neg hd, if_neg he, if_neg hf, if_pos hq]
  exact (quotation_any s j b hj hq hs w h hT.u hg).mono fun e w' ⟨h1, h2, p, hp, h3, h4⟩ => ⟨h1, h2, p, hp, h3, h4⟩
theorem tok_sign (s : ByteArray) (j b : Nat) (hj : j < s.size) (hs : s.size ≤ 65536) (w : World) (h : Sc w b s j) (hT : LexTab w) (hc : ¬ pSmall (bt s j) = true) (hd : ¬ (pCapital (bt s j) = true ∨ bt s j = 95)) (he : ¬ pDigit (bt s j) = true) (hf : ¬ bt s j = 35) (hq : ¬ (bt s j = 39 ∨ bt s j = 34)) : TokC 31 s j b w := by
  unfold TokC tokV tokE
  rw [if_neg hc, if_neg hd, if_neg he, if_neg hf, if_neg hq, if_neg hc, if_neg hd, if_neg he, if_neg hf, if_neg hq]
  refine (sign_any s j b (by omega) hs w h hT.s).mono fun e w' hh => ?_
  refine ⟨hh.1, hh.2.2, _, ?_, hh.2.1, fun _ => rfl⟩
  cases hs : signAt s j with
  | none => simp only [sgN]; omega
  | some l => have := sign_in s j (by omega) l hs; simp only [sgN]; omega
end Go.Proofs.YtdpfmmbfidknfaaGreatDoor


/- All tokens: the spec, and the state of the run at its labels. -/
namespace Go.Proofs.YtdpfmmbfidknfaaGreatDoor
open Go.RowKit Go.Lib

structure Tk where
  k : Int
  x : ByteArray
  n : Int
  f : Nat
  p : Nat

def Tk.cells (t : Tk) : List Value := [.int .i64 t.k, .string t.x, .int .i64 t.n, .float .f64 t.f, .int .i64 (t.p : Int)]
def tkCells (l : List Tk) : List Value := l.flatMap Tk.cells
def tkOf : Value → Nat → Tk
  | .tuple #[.agg #[.int _ k, .string x, .int _ n, .float _ f, _], _], p => ⟨k, x, n, f, p⟩
  | _, p => ⟨0, ⟨#[]⟩, 0, 0, p⟩
def erOf : Value → Int
  | .tuple #[_, .int _ e] => e
  | _ => 1

abbrev Res := List Tk ⊕ (Int × Nat)

/-- All tokens from a place on, or the first fault. -/
def toks (s : ByteArray) : Nat → Nat → List Tk → Res
  | 0, _, _ => .inr (0, 0)
  | k + 1, p, done =>
    if goes pBlank s p < s.size then
      if bt s (goes pBlank s p) = 37 then toks s k (goes pLine s (goes pBlank s p)) done
      else if erOf (tokV s (goes pBlank s p)) = 0 then toks s k (tokE s (goes pBlank s p)) (done ++ [tkOf (tokV s (goes pBlank s p)) (goes pBlank s p)])
      else .inr (erOf (tokV s (goes pBlank s p)), goes pBlank s p)
    else .inl (done ++ [⟨8, ⟨#[]⟩, 0, 0, goes pBlank s p⟩])

def layT (s : ByteArray) (k j : Nat) (done : List Tk) : Res := if erOf (tokV s j) = 0 then toks s k (tokE s j) (done ++ [tkOf (tokV s j) j]) else .inr (erOf (tokV s j), j)

theorem tkCells_length (l : List Tk) : (tkCells l).length = l.length * 5 := by
  induction l with
  | nil => rfl
  | cons t l ih => simp only [tkCells, List.flatMap_cons, List.length_append, List.length_cons] at *; rw [ih]; simp [Tk.cells]; omega
theorem tkCells_snoc (l : List Tk) (t : Tk) : tkCells (l ++ [t]) = tkCells l ++ t.cells := by simp [tkCells]

abbrev TT : Nat := 59

/-- What the run has told. -/
def TP (base : Nat) (R : Res) (e : Ending) (w' : World) : Prop :=
  (∃ l V, R = .inl l ∧ e = .returned (.tuple #[V, .agg #[.int .i64 0, .int .i64 0]]) ∧ w'.ownsRow base TT 5 V l.length (tkCells l)) ∨
  (∃ er p, R = .inr (er, p) ∧ e = .returned (.tuple #[.slice none 0 0, .agg #[.int .i64 er, .int .i64 (p : Int)]]))

/-- What lies in the frame besides. -/
structure Un where
  u8 : Value
  u9 : Value
  u10 : Value
  u11 : Value
  u12 : Value
  u13 : Value
  u14 : Value
  u15 : Value
  u16 : Value
  u17 : Value
  u18 : Value
  u19 : Value
  u20 : Value
  u21 : Value
  u22 : Value
  u23 : Value
  u24 : Value
  u25 : Value
  u26 : Value
  u27 : Value
  u28 : Value
  u29 : Value
  u30 : Value
  u31 : Value
  u32 : Value
  u33 : Value
  u34 : Value
  u35 : Value
  u36 : Value
  u37 : Value
  u38 : Value
  u39 : Value
  u40 : Value
  u41 : Value
  u42 : Value
  u43 : Value
  u44 : Value
  u45 : Value
  u46 : Value
  u47 : Value
  u48 : Value
  u49 : Value
  u50 : Value
  u51 : Value
  u52 : Value
  u53 : Value
  u54 : Value
  u55 : Value
  u56 : Value
  u57 : Value
  u58 : Value
  u59 : Value
  u60 : Value
  u61 : Value
  u62 : Value
  u63 : Value
  u64 : Value
  u65 : Value
  u66 : Value
  u67 : Value
  u68 : Value
  u69 : Value
  u70 : Value
  u71 : Value
  u72 : Value
  u73 : Value
  u74 : Value
  u75 : Value
  u76 : Value
  u77 : Value
  u78 : Value
  u79 : Value
  u80 : Value
  u81 : Value
  u82 : Value
  u83 : Value
  u84 : Value
  u85 : Value
  u86 : Value
  u87 : Value
  u88 : Value
  u89 : Value
  u90 : Value
  u91 : Value
  u92 : Value
  u93 : Value
  u94 : Value

/-- The frame. -/
def TF (b fb tb : Nat) (v x6 x7 : Value) (a : Act) : Prop := ∃ u : Un, a = { tmps := #[.pointer (some ⟨b, 0, none⟩), undef, .slice none 0 0, .pointer (some ⟨fb, 0, none⟩), v, .pointer (some ⟨tb, 0, none⟩), x6, x7, u.u8, u.u9, u.u10, u.u11, u.u12, u.u13, u.u14, u.u15, u.u16, u.u17, u.u18, u.u19, u.u20, u.u21, u.u22, u.u23, u.u24, u.u25, u.u26, u.u27, u.u28, u.u29, u.u30, u.u31, u.u32, u.u33, u.u34, u.u35, u.u36, u.u37, u.u38, u.u39, u.u40, u.u41, u.u42, u.u43, u.u44, u.u45, u.u46, u.u47, u.u48, u.u49, u.u50, u.u51, u.u52, u.u53, u.u54, u.u55, u.u56, u.u57, u.u58, u.u59, u.u60, u.u61, u.u62, u.u63, u.u64, u.u65, u.u66, u.u67, u.u68, u.u69, u.u70, u.u71, u.u72, u.u73, u.u74, u.u75, u.u76, u.u77, u.u78, u.u79, u.u80, u.u81, u.u82, u.u83, u.u84, u.u85, u.u86, u.u87, u.u88, u.u89, u.u90, u.u91, u.u92, u.u93, u.u94], defers := [] }

theorem TF.of (b fb tb : Nat) (v x6 x7 : Value) (u8 u9 u10 u11 u12 u13 u14 u15 u16 u17 u18 u19 u20 u21 u22 u23 u24 u25 u26 u27 u28 u29 u30 u31 u32 u33 u34 u35 u36 u37 u38 u39 u40 u41 u42 u43 u44 u45 u46 u47 u48 u49 u50 u51 u52 u53 u54 u55 u56 u57 u58 u59 u60 u61 u62 u63 u64 u65 u66 u67 u68 u69 u70 u71 u72 u73 u74 u75 u76 u77 u78 u79 u80 u81 u82 u83 u84 u85 u86 u87 u88 u89 u90 u91 u92 u93 u94 : Value) : TF b fb tb v x6 x7 { tmps := #[.pointer (some ⟨b, 0, none⟩), undef, .slice none 0 0, .pointer (some ⟨fb, 0, none⟩), v, .pointer (some ⟨tb, 0, none⟩), x6, x7, u8, u9, u10, u11, u12, u13, u14, u15, u16, u17, u18, u19, u20, u21, u22, u23, u24, u25, u26, u27, u28, u29, u30, u31, u32, u33, u34, u35, u36, u37, u38, u39, u40, u41, u42, u43, u44, u45, u46, u47, u48, u49, u50, u51, u52, u53, u54, u55, u56, u57, u58, u59, u60, u61, u62, u63, u64, u65, u66, u67, u68, u69, u70, u71, u72, u73, u74, u75, u76, u77, u78, u79, u80, u81, u82, u83, u84, u85, u86, u87, u88, u89, u90, u91, u92, u93, u94], defers := [] } := ⟨⟨u8, u9, u10, u11, u12, u13, u14, u15, u16, u17, u18, u19, u20, u21, u22, u23, u24, u25, u26, u27, u28, u29, u30, u31, u32, u33, u34, u35, u36, u37, u38, u39, u40, u41, u42, u43, u44, u45, u46, u47, u48, u49, u50, u51, u52, u53, u54, u55, u56, u57, u58, u59, u60, u61, u62, u63, u64, u65, u66, u67, u68, u69, u70, u71, u72, u73, u74, u75, u76, u77, u78, u79, u80, u81, u82, u83, u84, u85, u86, u87, u88, u89, u90, u91, u92, u93, u94⟩, rfl⟩

/-- Which blocks may have turned. -/
abbrev TS (b tb base : Nat) (k : Nat) : Prop := k = b ∨ k = tb ∨ base ≤ k

structure TW (s : ByteArray) (b tb base : Nat) (W1 wx : World) (v : Value) (p : Nat) (done : List Tk) : Prop where
  sc : Sc wx b s p
  bt : But (TS b tb base) W1 wx
  bx : ∃ t0 t1 t2 t3 t4, Box wx tb t0 t1 t2 t3 t4
  ow : wx.ownsRow base TT 5 v done.length (tkCells done)
  le : p ≤ s.size
  ln : done.length ≤ p

theorem own_but {S : Nat → Prop} {w w' : World} {base e size n : Nat} {v : Value} {xs : List Value} (h : w.ownsRow base e size v n xs) (hb : But S w w') (hS : ∀ k, base ≤ k → ¬ S k) : w'.ownsRow base e size v n xs := by
  refine ⟨h.1, ?_⟩
  rcases h.2 with h0 | ⟨g, cap, cur, hv, hg, hh, rest⟩
  · exact .inl h0
  · exact .inr ⟨g, cap, cur, hv, hg, (hb.block g (Array.getElem?_eq_some_iff.1 hh).1 (hS g hg)).trans hh, rest⟩

theorem ts_b {b tb base : Nat} {w w' : World} (h : But (· = b) w w') : But (TS b tb base) w w' := h.mono fun _ _ e => .inl e

/-- The classes by the rune. -/
theorem nx_class (s : ByteArray) (j : Nat) (hj : j < s.size) : zSmall (nxR s j) = pSmall (bt s j) ∧ zCapital (nxR s j) = pCapital (bt s j) ∧ zDigit (nxR s j) = pDigit (bt s j) ∧ (nxR s j == -1) = false ∧ ∀ c : Nat, c < 128 → (nxR s j == (c : Int)) = decide (bt s j = c) := by
  rcases Nat.lt_or_ge (bt s j) 128 with hb | hb
  · rw [(nx_low hj hb).1, zSmall_nat, zCapital_nat, zDigit_nat]
    refine ⟨rfl, rfl, rfl, by first | (simp; done) | (simp; omega), fun c hc => ?_⟩
    rw [Bool.eq_iff_iff]; simp; omega
  · have := (nx_high hj hb).1
    rw [flat_small _ hb, flat_capital _ hb, flat_digit _ hb]
    refine ⟨by simp [zSmall]; omega, by simp [zCapital]; omega, by simp [zDigit]; omega, by simp; omega, fun c hc => ?_⟩
    rw [Bool.eq_iff_iff]; simp; omega

/-- The state at the labels. -/
def TJ (s : ByteArray) (b fb tb base : Nat) (W1 : World) (R : Res) (n l : Nat) (a : Act) (wx : World) : Prop :=
  (l = 0 ∧ ∃ (v x6 x7 : Value) (k p : Nat) (done : List Tk), TF b fb tb v x6 x7 a ∧ n = 3 * k ∧ s.size < p + k ∧ toks s k p done = R ∧ TW s b tb base W1 wx v p done) ∨
  (l = 1 ∧ ∃ (v x6 : Value) (done : List Tk), TF b fb tb v x6 (.int .i64 (s.size : Int)) a ∧ .inl (done ++ [⟨8, ⟨#[]⟩, 0, 0, s.size⟩]) = R ∧ TW s b tb base W1 wx v s.size done) ∨
  (l = 2 ∧ ∃ (v x6 x7 : Value) (k j : Nat) (done : List Tk), TF b fb tb v x6 x7 a ∧ n = 3 * k + 2 ∧ s.size < j + 1 + k ∧ j < s.size ∧ bt s j = 37 ∧ toks s k (goes pLine s j) done = R ∧ TW s b tb base W1 wx v j done) ∨
  (3 ≤ l ∧ l ≤ 8 ∧ ∃ (v x6 : Value) (k j : Nat) (done : List Tk), TF b fb tb v x6 (.int .i64 (j : Int)) a ∧ n = 3 * k + 2 ∧ s.size < j + 1 + k ∧ j < s.size ∧ layT s k j done = R ∧ TW s b tb base W1 wx v j done ∧
    (l = 3 → pSmall (bt s j) = true) ∧ (4 ≤ l → ¬ pSmall (bt s j) = true) ∧ (l = 4 → (pCapital (bt s j) = true ∨ bt s j = 95)) ∧ (5 ≤ l → ¬ (pCapital (bt s j) = true ∨ bt s j = 95)) ∧
    (l = 5 → pDigit (bt s j) = true) ∧ (6 ≤ l → ¬ pDigit (bt s j) = true) ∧ (l = 6 → bt s j = 35) ∧ (7 ≤ l → ¬ bt s j = 35) ∧ (l = 7 → (bt s j = 39 ∨ bt s j = 34)) ∧ (8 ≤ l → ¬ (bt s j = 39 ∨ bt s j = 34))) ∨
  (l = 9 ∧ ∃ (v : Value) (k j p : Nat) (done : List Tk) (tk : Int) (x : ByteArray) (tn : Int) (tf : Nat) (er : Int), TF b fb tb v (.int .i64 er) (.int .i64 (j : Int)) a ∧ n = 3 * k + 1 ∧ s.size < j + 1 + k ∧ j < s.size ∧ layT s k j done = R ∧ tokV s j = .tuple #[.agg #[.int .i64 (tk), .string (x), .int .i64 (tn), .float .f64 (tf), .int .i64 (0)], .int .i64 er] ∧
    Sc wx b s p ∧ p ≤ s.size ∧ (er = 0 → p = tokE s j) ∧ But (TS b tb base) W1 wx ∧ Box wx tb (.int .i64 tk) (.string x) (.int .i64 tn) (.float .f64 tf) (.int .i64 0) ∧ wx.ownsRow base TT 5 v done.length (tkCells done) ∧ done.length ≤ j)
theorem TJ.at0 {s : ByteArray} {b fb tb base : Nat} {W1 : World} {R : Res} {n : Nat} {a : Act} {wx : World} (h : TJ s b fb tb base W1 R n 0 a wx) : ∃ (v x6 x7 : Value) (k p : Nat) (done : List Tk), TF b fb tb v x6 x7 a ∧ n = 3 * k ∧ s.size < p + k ∧ toks s k p done = R ∧ TW s b tb base W1 wx v p done := by
  rcases h with ⟨_, h⟩ | ⟨h, _⟩ | ⟨h, _⟩ | ⟨h, _⟩ | ⟨h, _⟩
  · exact h
  all_goals omega
theorem TJ.at1 {s : ByteArray} {b fb tb base : Nat} {W1 : World} {R : Res} {n : Nat} {a : Act} {wx : World} (h : TJ s b fb tb base W1 R n 1 a wx) : ∃ (v x6 : Value) (done : List Tk), TF b fb tb v x6 (.int .i64 (s.size : Int)) a ∧ .inl (done ++ [⟨8, ⟨#[]⟩, 0, 0, s.size⟩]) = R ∧ TW s b tb base W1 wx v s.size done := by
  rcases h with ⟨h, _⟩ | ⟨_, h⟩ | ⟨h, _⟩ | ⟨h, _⟩ | ⟨h, _⟩
  case inr.inl => exact h
  all_goals omega
theorem TJ.at2 {s : ByteArray} {b fb tb base : Nat} {W1 : World} {R : Res} {n : Nat} {a : Act} {wx : World} (h : TJ s b fb tb base W1 R n 2 a wx) : ∃ (v x6 x7 : Value) (k j : Nat) (done : List Tk), TF b fb tb v x6 x7 a ∧ n = 3 * k + 2 ∧ s.size < j + 1 + k ∧ j < s.size ∧ bt s j = 37 ∧ toks s k (goes pLine s j) done = R ∧ TW s b tb base W1 wx v j done := by
  rcases h with ⟨h, _⟩ | ⟨h, _⟩ | ⟨_, h⟩ | ⟨h, _⟩ | ⟨h, _⟩
  case inr.inr.inl => exact h
  all_goals omega
theorem TJ.at3 {s : ByteArray} {b fb tb base : Nat} {W1 : World} {R : Res} {n l : Nat} {a : Act} {wx : World} (h : TJ s b fb tb base W1 R n l a wx) (h3 : 3 ≤ l) (h8 : l ≤ 8) : ∃ (v x6 : Value) (k j : Nat) (done : List Tk), TF b fb tb v x6 (.int .i64 (j : Int)) a ∧ n = 3 * k + 2 ∧ s.size < j + 1 + k ∧ j < s.size ∧ layT s k j done = R ∧ TW s b tb base W1 wx v j done ∧
    (l = 3 → pSmall (bt s j) = true) ∧ (4 ≤ l → ¬ pSmall (bt s j) = true) ∧ (l = 4 → (pCapital (bt s j) = true ∨ bt s j = 95)) ∧ (5 ≤ l → ¬ (pCapital (bt s j) = true ∨ bt s j = 95)) ∧
    (l = 5 → pDigit (bt s j) = true) ∧ (6 ≤ l → ¬ pDigit (bt s j) = true) ∧ (l = 6 → bt s j = 35) ∧ (7 ≤ l → ¬ bt s j = 35) ∧ (l = 7 → (bt s j = 39 ∨ bt s j = 34)) ∧ (8 ≤ l → ¬ (bt s j = 39 ∨ bt s j = 34)) := by
  rcases h with ⟨h, _⟩ | ⟨h, _⟩ | ⟨h, _⟩ | ⟨_, _, h⟩ | ⟨h, _⟩
  case inr.inr.inr.inl => exact h
  all_goals omega
theorem TJ.at9 {s : ByteArray} {b fb tb base : Nat} {W1 : World} {R : Res} {n : Nat} {a : Act} {wx : World} (h : TJ s b fb tb base W1 R n 9 a wx) : ∃ (v : Value) (k j p : Nat) (done : List Tk) (tk : Int) (x : ByteArray) (tn : Int) (tf : Nat) (er : Int), TF b fb tb v (.int .i64 er) (.int .i64 (j : Int)) a ∧ n = 3 * k + 1 ∧ s.size < j + 1 + k ∧ j < s.size ∧ layT s k j done = R ∧ tokV s j = .tuple #[.agg #[.int .i64 (tk), .string (x), .int .i64 (tn), .float .f64 (tf), .int .i64 (0)], .int .i64 er] ∧
    Sc wx b s p ∧ p ≤ s.size ∧ (er = 0 → p = tokE s j) ∧ But (TS b tb base) W1 wx ∧ Box wx tb (.int .i64 tk) (.string x) (.int .i64 tn) (.float .f64 tf) (.int .i64 0) ∧ wx.ownsRow base TT 5 v done.length (tkCells done) ∧ done.length ≤ j := by
  rcases h with ⟨h, _⟩ | ⟨h, _⟩ | ⟨h, _⟩ | ⟨_, h, _⟩ | ⟨_, h⟩
  case inr.inr.inr.inr => exact h
  all_goals omega
end Go.Proofs.YtdpfmmbfidknfaaGreatDoor


