import Derived.Test.YtppmcimcmcognaaGreatDoorG09
/- All tokens: the spec, and the state of the run at its labels. -/
namespace Go.Proofs.YtppmcimcmcognaaGreatDoor
open Go.RowKit Go.Lib

structure Tk where
  k : Int
  x : ByteArray
  n : Int
  f : Nat
  p : Nat

def Tk.cells (t : Tk) : List Value := [.int .i64 t.k, .string t.x, .int .i64 t.n, .float .f64 t.f, .int .i64 (t.p : Int)]
def tkCells (l : List Tk) : List Value := l.flatMap Tk.cells
def tkOf : Value → Nat → Tk
  | .tuple #[.agg #[.int _ k, .string x, .int _ n, .float _ f, _], _], p => ⟨k, x, n, f, p⟩
  | _, p => ⟨0, ⟨#[]⟩, 0, 0, p⟩
def erOf : Value → Int
  | .tuple #[_, .int _ e] => e
  | _ => 1

abbrev Res := List Tk ⊕ (Int × Nat)

/-- All tokens from a place on, or the first fault. -/
def toks (s : ByteArray) : Nat → Nat → List Tk → Res
  | 0, _, _ => .inr (0, 0)
  | k + 1, p, done =>
    if goes pBlank s p < s.size then
      if bt s (goes pBlank s p) = 37 then toks s k (goes pLine s (goes pBlank s p)) done
      else if erOf (tokV s (goes pBlank s p)) = 0 then toks s k (tokE s (goes pBlank s p)) (done ++ [tkOf (tokV s (goes pBlank s p)) (goes pBlank s p)])
      else .inr (erOf (tokV s (goes pBlank s p)), goes pBlank s p)
    else .inl (done ++ [⟨8, ⟨#[]⟩, 0, 0, goes pBlank s p⟩])

def layT (s : ByteArray) (k j : Nat) (done : List Tk) : Res := if erOf (tokV s j) = 0 then toks s k (tokE s j) (done ++ [tkOf (tokV s j) j]) else .inr (erOf (tokV s j), j)

theorem tkCells_length (l : List Tk) : (tkCells l).length = l.length * 5 := by
  induction l with
  | nil => rfl
  | cons t l ih => simp only [tkCells, List.flatMap_cons, List.length_append, List.length_cons] at *; rw [ih]; simp [Tk.cells]; omega
theorem tkCells_snoc (l : List Tk) (t : Tk) : tkCells (l ++ [t]) = tkCells l ++ t.cells := by simp [tkCells]

abbrev TT : Nat := 41

/-- What the run has told. -/
def TP (base : Nat) (R : Res) (e : Ending) (w' : World) : Prop :=
  (∃ l V, R = .inl l ∧ e = .returned (.tuple #[V, .agg #[.int .i64 0, .int .i64 0]]) ∧ w'.ownsRow base TT 5 V l.length (tkCells l)) ∨
  (∃ er p, R = .inr (er, p) ∧ e = .returned (.tuple #[.slice none 0 0, .agg #[.int .i64 er, .int .i64 (p : Int)]]))

/-- What lies in the frame besides. -/
structure Un where
  u8 : Value
  u9 : Value
  u10 : Value
  u11 : Value
  u12 : Value
  u13 : Value
  u14 : Value
  u15 : Value
  u16 : Value
  u17 : Value
  u18 : Value
  u19 : Value
  u20 : Value
  u21 : Value
  u22 : Value
  u23 : Value
  u24 : Value
  u25 : Value
  u26 : Value
  u27 : Value
  u28 : Value
  u29 : Value
  u30 : Value
  u31 : Value
  u32 : Value
  u33 : Value
  u34 : Value
  u35 : Value
  u36 : Value
  u37 : Value
  u38 : Value
  u39 : Value
  u40 : Value
  u41 : Value
  u42 : Value
  u43 : Value
  u44 : Value
  u45 : Value
  u46 : Value
  u47 : Value
  u48 : Value
  u49 : Value
  u50 : Value
  u51 : Value
  u52 : Value
  u53 : Value
  u54 : Value
  u55 : Value
  u56 : Value
  u57 : Value
  u58 : Value
  u59 : Value
  u60 : Value
  u61 : Value
  u62 : Value
  u63 : Value
  u64 : Value
  u65 : Value
  u66 : Value
  u67 : Value
  u68 : Value
  u69 : Value
  u70 : Value
  u71 : Value
  u72 : Value
  u73 : Value
  u74 : Value
  u75 : Value
  u76 : Value
  u77 : Value
  u78 : Value
  u79 : Value
  u80 : Value
  u81 : Value
  u82 : Value
  u83 : Value
  u84 : Value
  u85 : Value
  u86 : Value
  u87 : Value
  u88 : Value
  u89 : Value
  u90 : Value
  u91 : Value
  u92 : Value
  u93 : Value
  u94 : Value

/-- The frame. -/
def TF (b fb tb : Nat) (v x6 x7 : Value) (a : Act) : Prop := ∃ u : Un, a = { tmps := #[.pointer (some ⟨b, 0, none⟩), undef, .slice none 0 0, .pointer (some ⟨fb, 0, none⟩), v, .pointer (some ⟨tb, 0, none⟩), x6, x7, u.u8, u.u9, u.u10, u.u11, u.u12, u.u13, u.u14, u.u15, u.u16, u.u17, u.u18, u.u19, u.u20, u.u21, u.u22, u.u23, u.u24, u.u25, u.u26, u.u27, u.u28, u.u29, u.u30, u.u31, u.u32, u.u33, u.u34, u.u35, u.u36, u.u37, u.u38, u.u39, u.u40, u.u41, u.u42, u.u43, u.u44, u.u45, u.u46, u.u47, u.u48, u.u49, u.u50, u.u51, u.u52, u.u53, u.u54, u.u55, u.u56, u.u57, u.u58, u.u59, u.u60, u.u61, u.u62, u.u63, u.u64, u.u65, u.u66, u.u67, u.u68, u.u69, u.u70, u.u71, u.u72, u.u73, u.u74, u.u75, u.u76, u.u77, u.u78, u.u79, u.u80, u.u81, u.u82, u.u83, u.u84, u.u85, u.u86, u.u87, u.u88, u.u89, u.u90, u.u91, u.u92, u.u93, u.u94], defers := [] }

theorem TF.of (b fb tb : Nat) (v x6 x7 : Value) (u8 u9 u10 u11 u12 u13 u14 u15 u16 u17 u18 u19 u20 u21 u22 u23 u24 u25 u26 u27 u28 u29 u30 u31 u32 u33 u34 u35 u36 u37 u38 u39 u40 u41 u42 u43 u44 u45 u46 u47 u48 u49 u50 u51 u52 u53 u54 u55 u56 u57 u58 u59 u60 u61 u62 u63 u64 u65 u66 u67 u68 u69 u70 u71 u72 u73 u74 u75 u76 u77 u78 u79 u80 u81 u82 u83 u84 u85 u86 u87 u88 u89 u90 u91 u92 u93 u94 : Value) : TF b fb tb v x6 x7 { tmps := #[.pointer (some ⟨b, 0, none⟩), undef, .slice none 0 0, .pointer (some ⟨fb, 0, none⟩), v, .pointer (some ⟨tb, 0, none⟩), x6, x7, u8, u9, u10, u11, u12, u13, u14, u15, u16, u17, u18, u19, u20, u21, u22, u23, u24, u25, u26, u27, u28, u29, u30, u31, u32, u33, u34, u35, u36, u37, u38, u39, u40, u41, u42, u43, u44, u45, u46, u47, u48, u49, u50, u51, u52, u53, u54, u55, u56, u57, u58, u59, u60, u61, u62, u63, u64, u65, u66, u67, u68, u69, u70, u71, u72, u73, u74, u75, u76, u77, u78, u79, u80, u81, u82, u83, u84, u85, u86, u87, u88, u89, u90, u91, u92, u93, u94], defers := [] } := ⟨⟨u8, u9, u10, u11, u12, u13, u14, u15, u16, u17, u18, u19, u20, u21, u22, u23, u24, u25, u26, u27, u28, u29, u30, u31, u32, u33, u34, u35, u36, u37, u38, u39, u40, u41, u42, u43, u44, u45, u46, u47, u48, u49, u50, u51, u52, u53, u54, u55, u56, u57, u58, u59, u60, u61, u62, u63, u64, u65, u66, u67, u68, u69, u70, u71, u72, u73, u74, u75, u76, u77, u78, u79, u80, u81, u82, u83, u84, u85, u86, u87, u88, u89, u90, u91, u92, u93, u94⟩, rfl⟩

/-- Which blocks may have turned. -/
abbrev TS (b tb base : Nat) (k : Nat) : Prop := k = b ∨ k = tb ∨ base ≤ k

structure TW (s : ByteArray) (b tb base : Nat) (W1 wx : World) (v : Value) (p : Nat) (done : List Tk) : Prop where
  sc : Sc wx b s p
  bt : But (TS b tb base) W1 wx
  bx : ∃ t0 t1 t2 t3 t4, Box wx tb t0 t1 t2 t3 t4
  ow : wx.ownsRow base TT 5 v done.length (tkCells done)
  le : p ≤ s.size
  ln : done.length ≤ p

theorem own_but {S : Nat → Prop} {w w' : World} {base e size n : Nat} {v : Value} {xs : List Value} (h : w.ownsRow base e size v n xs) (hb : But S w w') (hS : ∀ k, base ≤ k → ¬ S k) : w'.ownsRow base e size v n xs := by
  refine ⟨h.1, ?_⟩
  rcases h.2 with h0 | ⟨g, cap, cur, hv, hg, hh, rest⟩
  · exact .inl h0
  · exact .inr ⟨g, cap, cur, hv, hg, (hb.block g (Array.getElem?_eq_some_iff.1 hh).1 (hS g hg)).trans hh, rest⟩

theorem ts_b {b tb base : Nat} {w w' : World} (h : But (· = b) w w') : But (TS b tb base) w w' := h.mono fun _ _ e => .inl e

/-- The classes by the rune. -/
theorem nx_class (s : ByteArray) (j : Nat) (hj : j < s.size) : zSmall (nxR s j) = pSmall (bt s j) ∧ zCapital (nxR s j) = pCapital (bt s j) ∧ zDigit (nxR s j) = pDigit (bt s j) ∧ (nxR s j == -1) = false ∧ ∀ c : Nat, c < 128 → (nxR s j == (c : Int)) = decide (bt s j = c) := by
  rcases Nat.lt_or_ge (bt s j) 128 with hb | hb
  · rw [(nx_low hj hb).1, zSmall_nat, zCapital_nat, zDigit_nat]
    refine ⟨rfl, rfl, rfl, by first | (simp; done) | (simp; omega), fun c hc => ?_⟩
    rw [Bool.eq_iff_iff]; simp; omega
  · have := (nx_high hj hb).1
    rw [flat_small _ hb, flat_capital _ hb, flat_digit _ hb]
    refine ⟨by simp [zSmall]; omega, by simp [zCapital]; omega, by simp [zDigit]; omega, by simp; omega, fun c hc => ?_⟩
    rw [Bool.eq_iff_iff]; simp; omega

/-- The state at the labels. -/
def TJ (s : ByteArray) (b fb tb base : Nat) (W1 : World) (R : Res) (n l : Nat) (a : Act) (wx : World) : Prop :=
  (l = 0 ∧ ∃ (v x6 x7 : Value) (k p : Nat) (done : List Tk), TF b fb tb v x6 x7 a ∧ n = 3 * k ∧ s.size < p + k ∧ toks s k p done = R ∧ TW s b tb base W1 wx v p done) ∨
  (l = 1 ∧ ∃ (v x6 : Value) (done : List Tk), TF b fb tb v x6 (.int .i64 (s.size : Int)) a ∧ .inl (done ++ [⟨8, ⟨#[]⟩, 0, 0, s.size⟩]) = R ∧ TW s b tb base W1 wx v s.size done) ∨
  (l = 2 ∧ ∃ (v x6 x7 : Value) (k j : Nat) (done : List Tk), TF b fb tb v x6 x7 a ∧ n = 3 * k + 2 ∧ s.size < j + 1 + k ∧ j < s.size ∧ bt s j = 37 ∧ toks s k (goes pLine s j) done = R ∧ TW s b tb base W1 wx v j done) ∨
  (3 ≤ l ∧ l ≤ 8 ∧ ∃ (v x6 : Value) (k j : Nat) (done : List Tk), TF b fb tb v x6 (.int .i64 (j : Int)) a ∧ n = 3 * k + 2 ∧ s.size < j + 1 + k ∧ j < s.size ∧ layT s k j done = R ∧ TW s b tb base W1 wx v j done ∧
    (l = 3 → pSmall (bt s j) = true) ∧ (4 ≤ l → ¬ pSmall (bt s j) = true) ∧ (l = 4 → (pCapital (bt s j) = true ∨ bt s j = 95)) ∧ (5 ≤ l → ¬ (pCapital (bt s j) = true ∨ bt s j = 95)) ∧
    (l = 5 → pDigit (bt s j) = true) ∧ (6 ≤ l → ¬ pDigit (bt s j) = true) ∧ (l = 6 → bt s j = 35) ∧ (7 ≤ l → ¬ bt s j = 35) ∧ (l = 7 → (bt s j = 39 ∨ bt s j = 34)) ∧ (8 ≤ l → ¬ (bt s j = 39 ∨ bt s j = 34))) ∨
  (l = 9 ∧ ∃ (v : Value) (k j p : Nat) (done : List Tk) (tk : Int) (x : ByteArray) (tn : Int) (tf : Nat) (er : Int), TF b fb tb v (.int .i64 er) (.int .i64 (j : Int)) a ∧ n = 3 * k + 1 ∧ s.size < j + 1 + k ∧ j < s.size ∧ layT s k j done = R ∧ tokV s j = .tuple #[.agg #[.int .i64 (tk), .string (x), .int .i64 (tn), .float .f64 (tf), .int .i64 (0)], .int .i64 er] ∧
    Sc wx b s p ∧ p ≤ s.size ∧ (er = 0 → p = tokE s j) ∧ But (TS b tb base) W1 wx ∧ Box wx tb (.int .i64 tk) (.string x) (.int .i64 tn) (.float .f64 tf) (.int .i64 0) ∧ wx.ownsRow base TT 5 v done.length (tkCells done) ∧ done.length ≤ j)
theorem TJ.at0 {s : ByteArray} {b fb tb base : Nat} {W1 : World} {R : Res} {n : Nat} {a : Act} {wx : World} (h : TJ s b fb tb base W1 R n 0 a wx) : ∃ (v x6 x7 : Value) (k p : Nat) (done : List Tk), TF b fb tb v x6 x7 a ∧ n = 3 * k ∧ s.size < p + k ∧ toks s k p done = R ∧ TW s b tb base W1 wx v p done := by
  rcases h with ⟨_, h⟩ | ⟨h, _⟩ | ⟨h, _⟩ | ⟨h, _⟩ | ⟨h, _⟩
  · exact h
  all_goals omega
theorem TJ.at1 {s : ByteArray} {b fb tb base : Nat} {W1 : World} {R : Res} {n : Nat} {a : Act} {wx : World} (h : TJ s b fb tb base W1 R n 1 a wx) : ∃ (v x6 : Value) (done : List Tk), TF b fb tb v x6 (.int .i64 (s.size : Int)) a ∧ .inl (done ++ [⟨8, ⟨#[]⟩, 0, 0, s.size⟩]) = R ∧ TW s b tb base W1 wx v s.size done := by
  rcases h with ⟨h, _⟩ | ⟨_, h⟩ | ⟨h, _⟩ | ⟨h, _⟩ | ⟨h, _⟩
  case inr.inl => exact h
  all_goals omega
theorem TJ.at2 {s : ByteArray} {b fb tb base : Nat} {W1 : World} {R : Res} {n : Nat} {a : Act} {wx : World} (h : TJ s b fb tb base W1 R n 2 a wx) : ∃ (v x6 x7 : Value) (k j : Nat) (done : List Tk), TF b fb tb v x6 x7 a ∧ n = 3 * k + 2 ∧ s.size < j + 1 + k ∧ j < s.size ∧ bt s j = 37 ∧ toks s k (goes pLine s j) done = R ∧ TW s b tb base W1 wx v j done := by
  rcases h with ⟨h, _⟩ | ⟨h, _⟩ | ⟨_, h⟩ | ⟨h, _⟩ | ⟨h, _⟩
  case inr.inr.inl => exact h
  all_goals omega
theorem TJ.at3 {s : ByteArray} {b fb tb base : Nat} {W1 : World} {R : Res} {n l : Nat} {a : Act} {wx : World} (h : TJ s b fb tb base W1 R n l a wx) (h3 : 3 ≤ l) (h8 : l ≤ 8) : ∃ (v x6 : Value) (k j : Nat) (done : List Tk), TF b fb tb v x6 (.int .i64 (j : Int)) a ∧ n = 3 * k + 2 ∧ s.size < j + 1 + k ∧ j < s.size ∧ layT s k j done = R ∧ TW s b tb base W1 wx v j done ∧
    (l = 3 → pSmall (bt s j) = true) ∧ (4 ≤ l → ¬ pSmall (bt s j) = true) ∧ (l = 4 → (pCapital (bt s j) = true ∨ bt s j = 95)) ∧ (5 ≤ l → ¬ (pCapital (bt s j) = true ∨ bt s j = 95)) ∧
    (l = 5 → pDigit (bt s j) = true) ∧ (6 ≤ l → ¬ pDigit (bt s j) = true) ∧ (l = 6 → bt s j = 35) ∧ (7 ≤ l → ¬ bt s j = 35) ∧ (l = 7 → (bt s j = 39 ∨ bt s j = 34)) ∧ (8 ≤ l → ¬ (bt s j = 39 ∨ bt s j = 34)) := by
  rcases h with ⟨h, _⟩ | ⟨h, _⟩ | ⟨h, _⟩ | ⟨_, _, h⟩ | ⟨h, _⟩
  case inr.inr.inr.inl => exact h
  all_goals omega
theorem TJ.at9 {s : ByteArray} {b fb tb base : Nat} {W1 : World} {R : Res} {n : Nat} {a : Act} {wx : World} (h : TJ s b fb tb base W1 R n 9 a wx) : ∃ (v : Value) (k j p : Nat) (done : List Tk) (tk : Int) (x : ByteArray) (tn : Int) (tf : Nat) (er : Int), TF b fb tb v (.int .i64 er) (.int .i64 (j : Int)) a ∧ n = 3 * k + 1 ∧ s.size < j + 1 + k ∧ j < s.size ∧ layT s k j done = R ∧ tokV s j = .tuple #[.agg #[.int .i64 (tk), .string (x), .int .i64 (tn), .float .f64 (tf), .int .i64 (0)], .int .i64 er] ∧
    Sc wx b s p ∧ p ≤ s.size ∧ (er = 0 → p = tokE s j) ∧ But (TS b tb base) W1 wx ∧ Box wx tb (.int .i64 tk) (.string x) (.int .i64 tn) (.float .f64 tf) (.int .i64 0) ∧ wx.ownsRow base TT 5 v done.length (tkCells done) ∧ done.length ≤ j := by
  rcases h with ⟨h, _⟩ | ⟨h, _⟩ | ⟨h, _⟩ | ⟨_, h, _⟩ | ⟨_, h⟩
  case inr.inr.inr.inr => exact h
  all_goals omega
end Go.Proofs.YtppmcimcmcognaaGreatDoor


