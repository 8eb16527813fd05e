import Derived.Test.YthdljnakmekhkaaGreatDoorG04
/- All tokens: the spec, and the state of the run at its labels. -/
namespace Go.Proofs.YthdljnakmekhkaaGreatDoor
open Go.RowKit Go.Lib

structure Tk where
  k : Int
  x : ByteArray
  n : Int
  f : Nat
  p : Nat

def Tk.cells (t : Tk) : List Value := [.int .i64 t.k, .string t.x, .int .i64 t.n, .float .f64 t.f, .int .i64 (t.p : Int)]
def tkCells (l : List Tk) : List Value := l.flatMap Tk.cells
def tkOf : Value → Nat → Tk
  | .tuple #[.agg #[.int _ k, .string x, .int _ n, .float _ f, _], _], p => ⟨k, x, n, f, p⟩
  | _, p => ⟨0, ⟨#[]⟩, 0, 0, p⟩
def erOf : Value → Int
  | .tuple #[_, .int _ e] => e
  | _ => 1

abbrev Res := List Tk ⊕ (Int × Nat)

/-- All tokens from a place on, or the first fault. -/
def toks (s : ByteArray) : Nat → Nat → List Tk → Res
  | 0, _, _ => .inr (0, 0)
  | k + 1, p, done =>
    if goes pBlank s p < s.size then
      if bt s (goes pBlank s p) = 37 then toks s k (goes pLine s (goes pBlank s p)) done
      else if erOf (tokV s (goes pBlank s p)) = 0 then toks s k (tokE s (goes pBlank s p)) (done ++ [tkOf (tokV s (goes pBlank s p)) (goes pBlank s p)])
      else .inr (erOf (tokV s (goes pBlank s p)), goes pBlank s p)
    else .inl (done ++ [⟨8, ⟨#[]⟩, 0, 0, goes pBlank s p⟩])

def layT (s : ByteArray) (k j : Nat) (done : List Tk) : Res := if erOf (tokV s j) = 0 then toks s k (tokE s j) (done ++ [tkOf (tokV s j) j]) else .inr (erOf (tokV s j), j)

theorem tkCells_snoc (l : List Tk) (t : Tk) : tkCells (l ++ [t]) = tkCells l ++ t.cells := by simp [tkCells]

abbrev TT : Nat := 41

/-- What the run has told. -/
def TP (base : Nat) (R : Res) (e : Ending) (w' : World) : Prop :=
  (∃ l V, R = .inl l ∧ e = .returned (.tuple #[V, .agg #[.int .i64 0, .int .i64 0]]) ∧ w'.ownsRow base TT 5 V l.length (tkCells l)) ∨
  (∃ er p, R = .inr (er, p) ∧ e = .returned (.tuple #[.slice none 0 0, .agg #[.int .i64 er, .int .i64 (p : Int)]]))

/-- What lies in the frame besides. -/
structure Un where
  u8 : Value
  u9 : Value
  u10 : Value
  u11 : Value
  u12 : Value
  u13 : Value
  u14 : Value
  u15 : Value
  u16 : Value
  u17 : Value
  u18 : Value
  u19 : Value
  u20 : Value
  u21 : Value
  u22 : Value
  u23 : Value
  u24 : Value
  u25 : Value
  u26 : Value
  u27 : Value
  u28 : Value
  u29 : Value
  u30 : Value
  u31 : Value
  u32 : Value
  u33 : Value
  u34 : Value
  u35 : Value
  u36 : Value
  u37 : Value
  u38 : Value
  u39 : Value
  u40 : Value
  u41 : Value
  u42 : Value
  u43 : Value
  u44 : Value
  u45 : Value
  u46 : Value
  u47 : Value
  u48 : Value
  u49 : Value
  u50 : Value
  u51 : Value
  u52 : Value
  u53 : Value
  u54 : Value
  u55 : Value
  u56 : Value
  u57 : Value
  u58 : Value
  u59 : Value
  u60 : Value
  u61 : Value
  u62 : Value
  u63 : Value
  u64 : Value
  u65 : Value
  u66 : Value
  u67 : Value
  u68 : Value
  u69 : Value
  u70 : Value
  u71 : Value
  u72 : Value
  u73 : Value
  u74 : Value
  u75 : Value
  u76 : Value
  u77 : Value
  u78 : Value
  u79 : Value
  u80 : Value
  u81 : Value
  u82 : Value
  u83 : Value
  u84 : Value
  u85 : Value
  u86 : Value
  u87 : Value
  u88 : Value
  u89 : Value
  u90 : Value
  u91 : Value
  u92 : Value
  u93 : Value
  u94 : Value

/-- The frame. -/
def TF (b fb tb : Nat) (v x6 x7 : Value) (a : Act) : Prop := ∃ u : Un, a = { tmps := #[.pointer (some ⟨b, 0, none⟩), undef, .slice none 0 0, .pointer (some ⟨fb, 0, none⟩), v, .pointer (some ⟨tb, 0, none⟩), x6, x7, u.u8, u.u9, u.u10, u.u11, u.u12, u.u13, u.u14, u.u15, u.u16, u.u17, u.u18, u.u19, u.u20, u.u21, u.u22, u.u23, u.u24, u.u25, u.u26, u.u27, u.u28, u.u29, u.u30, u.u31, u.u32, u.u33, u.u34, u.u35, u.u36, u.u37, u.u38, u.u39, u.u40, u.u41, u.u42, u.u43, u.u44, u.u45, u.u46, u.u47, u.u48, u.u49, u.u50, u.u51, u.u52, u.u53, u.u54, u.u55, u.u56, u.u57, u.u58, u.u59, u.u60, u.u61, u.u62, u.u63, u.u64, u.u65, u.u66, u.u67, u.u68, u.u69, u.u70, u.u71, u.u72, u.u73, u.u74, u.u75, u.u76, u.u77, u.u78, u.u79, u.u80, u.u81, u.u82, u.u83, u.u84, u.u85, u.u86, u.u87, u.u88, u.u89, u.u90, u.u91, u.u92, u.u93, u.u94], defers := [] }

theorem TF.of (b fb tb : Nat) (v x6 x7 : Value) (u8 u9 u10 u11 u12 u13 u14 u15 u16 u17 u18 u19 u20 u21 u22 u23 u24 u25 u26 u27 u28 u29 u30 u31 u32 u33 u34 u35 u36 u37 u38 u39 u40 u41 u42 u43 u44 u45 u46 u47 u48 u49 u50 u51 u52 u53 u54 u55 u56 u57 u58 u59 u60 u61 u62 u63 u64 u65 u66 u67 u68 u69 u70 u71 u72 u73 u74 u75 u76 u77 u78 u79 u80 u81 u82 u83 u84 u85 u86 u87 u88 u89 u90 u91 u92 u93 u94 : Value) : TF b fb tb v x6 x7 { tmps := #[.pointer (some ⟨b, 0, none⟩), undef, .slice none 0 0, .pointer (some ⟨fb, 0, none⟩), v, .pointer (some ⟨tb, 0, none⟩), x6, x7, u8, u9, u10, u11, u12, u13, u14, u15, u16, u17, u18, u19, u20, u21, u22, u23, u24, u25, u26, u27, u28, u29, u30, u31, u32, u33, u34, u35, u36, u37, u38, u39, u40, u41, u42, u43, u44, u45, u46, u47, u48, u49, u50, u51, u52, u53, u54, u55, u56, u57, u58, u59, u60, u61, u62, u63, u64, u65, u66, u67, u68, u69, u70, u71, u72, u73, u74, u75, u76, u77, u78, u79, u80, u81, u82, u83, u84, u85, u86, u87, u88, u89, u90, u91, u92, u93, u94], defers := [] } := ⟨⟨u8, u9, u10, u11, u12, u13, u14, u15, u16, u17, u18, u19, u20, u21, u22, u23, u24, u25, u26, u27, u28, u29, u30, u31, u32, u33, u34, u35, u36, u37, u38, u39, u40, u41, u42, u43, u44, u45, u46, u47, u48, u49, u50, u51, u52, u53, u54, u55, u56, u57, u58, u59, u60, u61, u62, u63, u64, u65, u66, u67, u68, u69, u70, u71, u72, u73, u74, u75, u76, u77, u78, u79, u80, u81, u82, u83, u84, u85, u86, u87, u88, u89, u90, u91, u92, u93, u94⟩, rfl⟩

/-- Which blocks may have turned. -/
abbrev TS (b tb base : Nat) (k : Nat) : Prop := k = b ∨ k = tb ∨ base ≤ k

structure TW (s : ByteArray) (b tb base : Nat) (W1 wx : World) (v : Value) (p : Nat) (done : List Tk) : Prop where
  sc : Sc wx b s p
  bt : But (TS b tb base) W1 wx
  bx : ∃ t0 t1 t2 t3 t4, Box wx tb t0 t1 t2 t3 t4
  ow : wx.ownsRow base TT 5 v done.length (tkCells done)
  le : p ≤ s.size
  ln : done.length ≤ p

theorem own_but {S : Nat → Prop} {w w' : World} {base e size n : Nat} {v : Value} {xs : List Value} (h : w.ownsRow base e size v n xs) (hb : But S w w') (hS : ∀ k, base ≤ k → ¬ S k) : w'.ownsRow base e size v n xs := by
  refine ⟨h.1, ?_⟩
  rcases h.2 with h0 | ⟨g, cap, cur, hv, hg, hh, rest⟩
  · exact .inl h0
  · exact .inr ⟨g, cap, cur, hv, hg, (hb.block g (Array.getElem?_eq_some_iff.1 hh).1 (hS g hg)).trans hh, rest⟩

theorem ts_b {b tb base : Nat} {w w' : World} (h : But (· = b) w w') : But (TS b tb base) w w' := h.mono fun _ _ e => .inl e

/-- The classes by the rune. -/
theorem nx_class (s : ByteArray) (j : Nat) (hj : j < s.size) : zSmall (nxR s j) = pSmall (bt s j) ∧ zCapital (nxR s j) = pCapital (bt s j) ∧ zDigit (nxR s j) = pDigit (bt s j) ∧ (nxR s j == -1) = false ∧ ∀ c : Nat, c < 128 → (nxR s j == (c : Int)) = decide (bt s j = c) := by
  rcases Nat.lt_or_ge (bt s j) 128 with hb | hb
  · rw [(nx_low hj hb).1, zSmall_nat, zCapital_nat, zDigit_nat]
    refine ⟨rfl, rfl, rfl, by first | (simp; done) | (simp; omega), fun c hc => ?_⟩
    rw [Bool.eq_iff_iff]; simp; omega
  · have := (nx_high hj hb).1
    rw [flat_small _ hb, flat_capital _ hb, flat_digit _ hb]
    refine ⟨by simp [zSmall]; omega, by simp [zCapital]; omega, by simp [zDigit]; omega, by simp; omega, fun c hc => ?_⟩
    rw [Bool.eq_iff_iff]; simp; omega

/-- The state at the labels. -/
def TJ (s : ByteArray) (b fb tb base : Nat) (W1 : World) (R : Res) (n l : Nat) (a : Act) (wx : World) : Prop :=
  (l = 0 ∧ ∃ (v x6 x7 : Value) (k p : Nat) (done : List Tk), TF b fb tb v x6 x7 a ∧ n = 3 * k ∧ s.size < p + k ∧ toks s k p done = R ∧ TW s b tb base W1 wx v p done) ∨
  (l = 1 ∧ ∃ (v x6 : Value) (done : List Tk), TF b fb tb v x6 (.int .i64 (s.size : Int)) a ∧ .inl (done ++ [⟨8, ⟨#[]⟩, 0, 0, s.size⟩]) = R ∧ TW s b tb base W1 wx v s.size done) ∨
  (l = 2 ∧ ∃ (v x6 x7 : Value) (k j : Nat) (done : List Tk), TF b fb tb v x6 x7 a ∧ n = 3 * k + 2 ∧ s.size < j + 1 + k ∧ j < s.size ∧ bt s j = 37 ∧ toks s k (goes pLine s j) done = R ∧ TW s b tb base W1 wx v j done) ∨
  (3 ≤ l ∧ l ≤ 8 ∧ ∃ (v x6 : Value) (k j : Nat) (done : List Tk), TF b fb tb v x6 (.int .i64 (j : Int)) a ∧ n = 3 * k + 2 ∧ s.size < j + 1 + k ∧ j < s.size ∧ layT s k j done = R ∧ TW s b tb base W1 wx v j done ∧
    (l = 3 → pSmall (bt s j) = true) ∧ (4 ≤ l → ¬ pSmall (bt s j) = true) ∧ (l = 4 → (pCapital (bt s j) = true ∨ bt s j = 95)) ∧ (5 ≤ l → ¬ (pCapital (bt s j) = true ∨ bt s j = 95)) ∧
    (l = 5 → pDigit (bt s j) = true) ∧ (6 ≤ l → ¬ pDigit (bt s j) = true) ∧ (l = 6 → bt s j = 35) ∧ (7 ≤ l → ¬ bt s j = 35) ∧ (l = 7 → (bt s j = 39 ∨ bt s j = 34)) ∧ (8 ≤ l → ¬ (bt s j = 39 ∨ bt s j = 34))) ∨
  (l = 9 ∧ ∃ (v : Value) (k j p : Nat) (done : List Tk) (tk : Int) (x : ByteArray) (tn : Int) (tf : Nat) (er : Int), TF b fb tb v (.int .i64 er) (.int .i64 (j : Int)) a ∧ n = 3 * k + 1 ∧ s.size < j + 1 + k ∧ j < s.size ∧ layT s k j done = R ∧ tokV s j = .tuple #[.agg #[.int .i64 (tk), .string (x), .int .i64 (tn), .float .f64 (tf), .int .i64 (0)], .int .i64 er] ∧
    Sc wx b s p ∧ p ≤ s.size ∧ (er = 0 → p = tokE s j) ∧ But (TS b tb base) W1 wx ∧ Box wx tb (.int .i64 tk) (.string x) (.int .i64 tn) (.float .f64 tf) (.int .i64 0) ∧ wx.ownsRow base TT 5 v done.length (tkCells done) ∧ done.length ≤ j)
theorem TJ.at0 {s : ByteArray} {b fb tb base : Nat} {W1 : World} {R : Res} {n : Nat} {a : Act} {wx : World} (h : TJ s b fb tb base W1 R n 0 a wx) : ∃ (v x6 x7 : Value) (k p : Nat) (done : List Tk), TF b fb tb v x6 x7 a ∧ n = 3 * k ∧ s.size < p + k ∧ toks s k p done = R ∧ TW s b tb base W1 wx v p done := by
  rcases h with ⟨_, h⟩ | ⟨h, _⟩ | ⟨h, _⟩ | ⟨h, _⟩ | ⟨h, _⟩
  · exact h
  all_goals omega
theorem TJ.at1 {s : ByteArray} {b fb tb base : Nat} {W1 : World} {R : Res} {n : Nat} {a : Act} {wx : World} (h : TJ s b fb tb base W1 R n 1 a wx) : ∃ (v x6 : Value) (done : List Tk), TF b fb tb v x6 (.int .i64 (s.size : Int)) a ∧ .inl (done ++ [⟨8, ⟨#[]⟩, 0, 0, s.size⟩]) = R ∧ TW s b tb base W1 wx v s.size done := by
  rcases h with ⟨h, _⟩ | ⟨_, h⟩ | ⟨h, _⟩ | ⟨h, _⟩ | ⟨h, _⟩
  case inr.inl => exact h
  all_goals omega
theorem TJ.at2 {s : ByteArray} {b fb tb base : Nat} {W1 : World} {R : Res} {n : Nat} {a : Act} {wx : World} (h : TJ s b fb tb base W1 R n 2 a wx) : ∃ (v x6 x7 : Value) (k j : Nat) (done : List Tk), TF b fb tb v x6 x7 a ∧ n = 3 * k + 2 ∧ s.size < j + 1 + k ∧ j < s.size ∧ bt s j = 37 ∧ toks s k (goes pLine s j) done = R ∧ TW s b tb base W1 wx v j done := by
  rcases h with ⟨h, _⟩ | ⟨h, _⟩ | ⟨_, h⟩ | ⟨h, _⟩ | ⟨h, _⟩
  case inr.inr.inl => exact h
  all_goals omega
theorem TJ.at3 {s : ByteArray} {b fb tb base : Nat} {W1 : World} {R : Res} {n l : Nat} {a : Act} {wx : World} (h : TJ s b fb tb base W1 R n l a wx) (h3 : 3 ≤ l) (h8 : l ≤ 8) : ∃ (v x6 : Value) (k j : Nat) (done : List Tk), TF b fb tb v x6 (.int .i64 (j : Int)) a ∧ n = 3 * k + 2 ∧ s.size < j + 1 + k ∧ j < s.size ∧ layT s k j done = R ∧ TW s b tb base W1 wx v j done ∧
    (l = 3 → pSmall (bt s j) = true) ∧ (4 ≤ l → ¬ pSmall (bt s j) = true) ∧ (l = 4 → (pCapital (bt s j) = true ∨ bt s j = 95)) ∧ (5 ≤ l → ¬ (pCapital (bt s j) = true ∨ bt s j = 95)) ∧
    (l = 5 → pDigit (bt s j) = true) ∧ (6 ≤ l → ¬ pDigit (bt s j) = true) ∧ (l = 6 → bt s j = 35) ∧ (7 ≤ l → ¬ bt s j = 35) ∧ (l = 7 → (bt s j = 39 ∨ bt s j = 34)) ∧ (8 ≤ l → ¬ (bt s j = 39 ∨ bt s j = 34)) := by
  rcases h with ⟨h, _⟩ | ⟨h, _⟩ | ⟨h, _⟩ | ⟨_, _, h⟩ | ⟨h, _⟩
  case inr.inr.inr.inl => exact h
  all_goals omega
theorem TJ.at9 {s : ByteArray} {b fb tb base : Nat} {W1 : World} {R : Res} {n : Nat} {a : Act} {wx : World} (h : TJ s b fb tb base W1 R n 9 a wx) : ∃ (v : Value) (k j p : Nat) (done : List Tk) (tk : Int) (x : ByteArray) (tn : Int) (tf : Nat) (er : Int), TF b fb tb v (.int .i64 er) (.int .i64 (j : Int)) a ∧ n = 3 * k + 1 ∧ s.size < j + 1 + k ∧ j < s.size ∧ layT s k j done = R ∧ tokV s j = .tuple #[.agg #[.int .i64 (tk), .string (x), .int .i64 (tn), .float .f64 (tf), .int .i64 (0)], .int .i64 er] ∧
    Sc wx b s p ∧ p ≤ s.size ∧ (er = 0 → p = tokE s j) ∧ But (TS b tb base) W1 wx ∧ Box wx tb (.int .i64 tk) (.string x) (.int .i64 tn) (.float .f64 tf) (.int .i64 0) ∧ wx.ownsRow base TT 5 v done.length (tkCells done) ∧ done.length ≤ j := by
  rcases h with ⟨h, _⟩ | ⟨h, _⟩ | ⟨h, _⟩ | ⟨_, h, _⟩ | ⟨_, h⟩
  case inr.inr.inr.inr => exact h
  all_goals omega
end Go.Proofs.YthdljnakmekhkaaGreatDoor


/- The grammar as a pure function: what package gram's parser does, over a list of tokens. -/
namespace Go.Proofs.YthdljnakmekhkaaGreatDoor

/-- A node. -/
structure Nd where
  k : Int
  x : ByteArray
  n : Int
  f : Nat
  l : List Nat
  p : Nat

/-- The parser's state: tokens that are not gone through, nodes that are laid, how many expressions are open. -/
structure PS where
  ts : List Tk
  ns : List Nd
  o : Nat

/-- A step of the parser: what it tells and the state behind it, or the fault. -/
def PM (α : Type) : Type := PS → Except (Int × Nat) (α × PS)

instance : Monad PM where
  pure a := fun s => .ok (a, s)
  bind m f := fun s => match m s with
    | .error e => .error e
    | .ok (a, s') => f a s'

namespace Gm
def hd (s : PS) : Tk := s.ts.headD ⟨8, ⟨#[]⟩, 0, 0, 0⟩
def hd2 (s : PS) : Tk := s.ts.tail.headD ⟨8, ⟨#[]⟩, 0, 0, 0⟩
def cut (s : PS) : PS := { s with ts := s.ts.tail }
def isM (t : Tk) (w : ByteArray) : Bool := (decide (t.k = 6) || decide (t.k = 7)) && decide (t.x = w)
def isA (t : Tk) (w : ByteArray) : Bool := decide (t.k = 1) && decide (t.x = w)

def here : PM Tk := fun s => .ok (hd s, s)
def ahead : PM Tk := fun s => .ok (hd2 s, s)
def left : PM Nat := fun s => .ok (s.ts.length, s)
def next : PM Tk := fun s => .ok (hd s, cut s)
def fault {α : Type} (e : Int) (p : Nat) : PM α := fun _ => .error (e, p)
def giveUp {α : Type} (e : Int) : PM α := fun s => .error (e, (hd s).p)
def take (w : ByteArray) : PM Bool := fun s => if isM (hd s) w then .ok (true, cut s) else .ok (false, s)
def need (w : ByteArray) : PM Unit := fun s => if isM (hd s) w then .ok ((), cut s) else .error (24, (hd s).p)
def needK (k : Int) : PM Tk := fun s => if (hd s).k = k then .ok (hd s, cut s) else .error (24, (hd s).p)
def lay (n : Nd) : PM Nat := fun s => if s.ns.length = 16384 then .error (2, n.p) else .ok (s.ns.length, { s with ns := s.ns ++ [n] })
def layNone (k : Int) : PM Nat := do let t ← here; lay ⟨k, ⟨#[]⟩, 0, 0, [], t.p⟩
def op (p : Nat) (x : ByteArray) (l : List Nat) : PM Nat := lay ⟨9, x, 0, 0, l, p⟩

/-- Expressions behind a comma, as many as may be. -/
def more (e : PM Nat) (most : Nat) : Nat → List Nat → PM (List Nat)
  | 0, l => pure l
  | k + 1, l => do
    let b ← take ⟨#[44]⟩
    if b then (if l.length = most then giveUp 2 else do let x ← e; more e most k (l ++ [x])) else pure l
def exprs (e : PM Nat) (most : Nat) : PM (List Nat) := do let x ← e; let k ← left; more e most k [x]
def noBound : Nat := 9223372036854775807
def group (e : PM Nat) (kind : Int) : PM Nat := do
  let t ← here
  let l ← exprs e noBound
  lay ⟨kind, ⟨#[]⟩, 0, 0, l, t.p⟩
def body (e : PM Nat) : PM Nat := group e 19
def guard (e : PM Nat) : PM Nat := do
  let b ← take ⟨#[119, 104, 101, 110]⟩
  if b then group e 22 else layNone 22
def args (e : PM Nat) : PM (List Nat) := do
  need ⟨#[40]⟩
  let b ← take ⟨#[41]⟩
  if b then pure [] else do
    let l ← exprs e 16
    need ⟨#[41]⟩
    pure l
def tail (e : PM Nat) (p : Nat) (x : ByteArray) (l : List Nat) : PM Nat := do
  let g ← guard e
  need ⟨#[45, 62]⟩
  let b ← body e
  lay ⟨21, x, (l.length : Int), 0, l ++ [g, b], p⟩

def fclause (e : PM Nat) : PM Nat := do
  let t ← needK 1
  let l ← args e
  tail e t.p t.x l
def gclause (e : PM Nat) : PM Nat := do
  let t ← here
  let l ← args e
  tail e t.p ⟨#[]⟩ l
def clause (e : PM Nat) : PM Nat := do
  let t ← here
  let x ← e
  tail e t.p ⟨#[]⟩ [x]
def leafKind (k : Int) : Int := if k = 1 then 3 else if k = 2 then 4 else if k = 3 then 1 else if k = 4 then 2 else 5
def leaf : PM Nat := do
  let t ← next
  lay ⟨leafKind t.k, t.x, t.n, t.f, [], t.p⟩
def isClass (t : Tk) : Bool := if t.k = 2 then decide (t.x = ⟨#[95]⟩) else decide (t.x = ⟨#[101, 114, 114, 111, 114]⟩) || decide (t.x = ⟨#[101, 120, 105, 116]⟩) || decide (t.x = ⟨#[116, 104, 114, 111, 119]⟩)
def cls : PM Nat := do
  let t ← here
  let u ← ahead
  if (t.k = 1 ∨ t.k = 2) ∧ isM u ⟨#[58]⟩ = true then
    (if isClass t then do
      let x ← leaf
      need ⟨#[58]⟩
      pure x
    else giveUp 24)
  else lay ⟨3, ⟨#[116, 104, 114, 111, 119]⟩, 0, 0, [], t.p⟩
def cclause (e : PM Nat) : PM Nat := do
  let t ← here
  let c ← cls
  let x ← e
  tail e t.p ⟨#[]⟩ [c, x]

def moreC (c : PM Nat) : Nat → List Nat → PM (List Nat)
  | 0, l => pure l
  | k + 1, l => do
    let b ← take ⟨#[59]⟩
    if b then do let x ← c; moreC c k (l ++ [x]) else pure l
def clauses (c : PM Nat) : PM Nat := do
  let t ← here
  let x ← c
  let k ← left
  let l ← moreC c k [x]
  lay ⟨20, ⟨#[]⟩, 0, 0, l, t.p⟩
def clausesBehind (w : ByteArray) (c : PM Nat) : PM Nat := do
  let b ← take w
  if b then clauses c else layNone 20

def begin (e : PM Nat) : PM Nat := do
  let t ← next
  let l ← exprs e noBound
  need ⟨#[101, 110, 100]⟩
  lay ⟨19, ⟨#[]⟩, 0, 0, l, t.p⟩
def choice (e : PM Nat) : PM Nat := do
  let t ← next
  let x ← e
  need ⟨#[111, 102]⟩
  let c ← clauses (clause e)
  need ⟨#[101, 110, 100]⟩
  lay ⟨15, ⟨#[]⟩, 0, 0, [x, c], t.p⟩
def funName (p : Nat) : PM Nat := do
  let t ← next
  need ⟨#[47]⟩
  let n ← needK 3
  if 16 < n.n then fault 2 n.p else lay ⟨14, t.x, n.n, 0, [], p⟩
def fn (e : PM Nat) : PM Nat := do
  let t ← next
  let u ← here
  if u.k = 1 then funName t.p else do
    let c ← clauses (gclause e)
    need ⟨#[101, 110, 100]⟩
    lay ⟨13, ⟨#[]⟩, 0, 0, [c], t.p⟩
def afterB (e : PM Nat) : PM (Int × Nat) := do
  let b ← take ⟨#[97, 102, 116, 101, 114]⟩
  if b then do let x ← body e; pure (1, x) else do let x ← layNone 19; pure (0, x)
def tryOf (e : PM Nat) : PM Nat := do
  let t ← next
  let b ← body e
  let o ← clausesBehind ⟨#[111, 102]⟩ (clause e)
  let u ← here
  let c ← clausesBehind ⟨#[99, 97, 116, 99, 104]⟩ (cclause e)
  let v ← here
  if isM u ⟨#[99, 97, 116, 99, 104]⟩ = true ∨ isM v ⟨#[97, 102, 116, 101, 114]⟩ = true then do
    let a ← afterB e
    need ⟨#[101, 110, 100]⟩
    lay ⟨16, ⟨#[]⟩, a.1, 0, [b, o, c, a.2], t.p⟩
  else giveUp 24
def patience : PM Int := do
  let t ← here
  if isA t ⟨#[105, 110, 102, 105, 110, 105, 116, 121]⟩ then do let _ ← next; pure 2
  else if t.k = 3 ∧ t.n = 0 then do let _ ← next; pure 1
  else giveUp 24
def received (e : PM Nat) : PM Nat := do
  let t ← here
  if isM t ⟨#[97, 102, 116, 101, 114]⟩ then layNone 20 else clauses (clause e)
def afterR (e : PM Nat) : PM (Int × Nat) := do
  let b ← take ⟨#[97, 102, 116, 101, 114]⟩
  if b then do
    let n ← patience
    need ⟨#[45, 62]⟩
    let x ← body e
    pure (n, x)
  else do let x ← layNone 19; pure (0, x)
def receive (e : PM Nat) : PM Nat := do
  let t ← next
  let c ← received e
  let a ← afterR e
  need ⟨#[101, 110, 100]⟩
  lay ⟨18, ⟨#[]⟩, a.1, 0, [c, a.2], t.p⟩
def worded (e : PM Nat) : PM Nat := do
  let t ← here
  if t.x = ⟨#[98, 101, 103, 105, 110]⟩ then begin e
  else if t.x = ⟨#[99, 97, 115, 101]⟩ then choice e
  else if t.x = ⟨#[102, 117, 110]⟩ then fn e
  else if t.x = ⟨#[116, 114, 121]⟩ then tryOf e
  else if t.x = ⟨#[114, 101, 99, 101, 105, 118, 101]⟩ then receive e
  else giveUp 24

def tuple (e : PM Nat) : PM Nat := do
  let t ← next
  let u ← here
  if isM u ⟨#[125]⟩ then do
    need ⟨#[125]⟩
    lay ⟨6, ⟨#[]⟩, 0, 0, [], t.p⟩
  else do
    let l ← exprs e noBound
    need ⟨#[125]⟩
    lay ⟨6, ⟨#[]⟩, 0, 0, l, t.p⟩
def list (e : PM Nat) : PM Nat := do
  let t ← next
  let u ← here
  if isM u ⟨#[93]⟩ then do
    need ⟨#[93]⟩
    lay ⟨7, ⟨#[]⟩, 0, 0, [], t.p⟩
  else do
    let l ← exprs e noBound
    let b ← take ⟨#[124]⟩
    if b then do
      let x ← e
      need ⟨#[93]⟩
      lay ⟨8, ⟨#[]⟩, 0, 0, l ++ [x], t.p⟩
    else do
      need ⟨#[93]⟩
      lay ⟨7, ⟨#[]⟩, 0, 0, l, t.p⟩
def bracketed (e : PM Nat) : PM Nat := do
  let t ← here
  if t.x = ⟨#[40]⟩ then do
    let _ ← next
    let x ← e
    need ⟨#[41]⟩
    pure x
  else if t.x = ⟨#[123]⟩ then tuple e
  else if t.x = ⟨#[91]⟩ then list e
  else giveUp 24
def primary (e : PM Nat) : PM Nat := do
  let t ← here
  if t.k = 1 ∨ t.k = 2 ∨ t.k = 3 ∨ t.k = 4 ∨ t.k = 5 then leaf
  else if t.k = 6 then bracketed e
  else if t.k = 7 then worded e
  else giveUp 24
def called (e : PM Nat) : PM Nat := do
  let t ← here
  let u ← ahead
  if t.k = 1 ∧ isM u ⟨#[40]⟩ = true then do
    let _ ← next
    let l ← args e
    lay ⟨11, t.x, 0, 0, l, t.p⟩
  else primary e
def applied (e : PM Nat) (p : Nat) : Nat → Nat → PM Nat
  | 0, x => pure x
  | k + 1, x => do
    let t ← here
    if isM t ⟨#[40]⟩ then do
      let l ← args e
      let y ← lay ⟨12, ⟨#[]⟩, 0, 0, x :: l, p⟩
      applied e p k y
    else pure x
def call (e : PM Nat) : PM Nat := do
  let t ← here
  let x ← called e
  let k ← left
  applied e t.p k x
def signs : Nat → List Tk → PM (List Tk)
  | 0, l => pure l
  | k + 1, l => do
    let t ← here
    if isM t ⟨#[45]⟩ = true ∨ isM t ⟨#[110, 111, 116]⟩ = true then do
      let _ ← next
      signs k (l ++ [t])
    else pure l
def layOps : List Tk → Nat → PM Nat
  | [], x => pure x
  | t :: r, x => do
    let y ← layOps r x
    op t.p t.x [y]
def unary (e : PM Nat) : PM Nat := do
  let k ← left
  let l ← signs k []
  let x ← call e
  layOps l x
/-- A row of operators that goes from the left. -/
def leftward (m : PM Nat) (sg : Tk → Bool) (p : Nat) : Nat → Nat → PM Nat
  | 0, x => pure x
  | k + 1, x => do
    let t ← here
    if sg t then do
      let _ ← next
      let y ← m
      let z ← op p t.x [x, y]
      leftward m sg p k z
    else pure x
def isMul (t : Tk) : Bool := isM t ⟨#[42]⟩ || isM t ⟨#[47]⟩ || isM t ⟨#[100, 105, 118]⟩ || isM t ⟨#[114, 101, 109]⟩
def isAdd (t : Tk) : Bool := isM t ⟨#[43]⟩ || isM t ⟨#[45]⟩
def mul (e : PM Nat) : PM Nat := do
  let t ← here
  let x ← unary e
  let k ← left
  leftward (unary e) isMul t.p k x
def add (e : PM Nat) : PM Nat := do
  let t ← here
  let x ← mul e
  let k ← left
  leftward (mul e) isAdd t.p k x
/-- A row of operators that goes from the right. -/
def rightward (m : PM Nat) (w : ByteArray) : Nat → PM Nat
  | 0 => m
  | k + 1 => do
    let t ← here
    let x ← m
    let b ← take w
    if b then do
      let y ← rightward m w k
      op t.p w [x, y]
    else pure x
def right (m : PM Nat) (w : ByteArray) : PM Nat := do let k ← left; rightward m w k
def appends (e : PM Nat) : PM Nat := right (add e) ⟨#[43, 43]⟩
def isCmp (t : Tk) : Bool := isM t ⟨#[61, 61]⟩ || isM t ⟨#[47, 61]⟩ || isM t ⟨#[61, 60]⟩ || isM t ⟨#[60]⟩ || isM t ⟨#[62, 61]⟩ || isM t ⟨#[62]⟩ || isM t ⟨#[61, 58, 61]⟩ || isM t ⟨#[61, 47, 61]⟩
def compare (e : PM Nat) : PM Nat := do
  let t ← here
  let x ← appends e
  let u ← here
  if isCmp u then do
    let _ ← next
    let y ← appends e
    op t.p u.x [x, y]
  else pure x
def andalso (e : PM Nat) : PM Nat := right (compare e) ⟨#[97, 110, 100, 97, 108, 115, 111]⟩
def orelse (e : PM Nat) : PM Nat := right (andalso e) ⟨#[111, 114, 101, 108, 115, 101]⟩
def opened (e : PM Nat) : PM Nat := do
  let t ← here
  let b ← take ⟨#[99, 97, 116, 99, 104]⟩
  if b then do
    let x ← e
    lay ⟨17, ⟨#[]⟩, 0, 0, [x], t.p⟩
  else do
    let x ← orelse e
    let c ← take ⟨#[61]⟩
    if c then do
      let y ← e
      lay ⟨10, ⟨#[]⟩, 0, 0, [x, y], t.p⟩
    else do
      let d ← take ⟨#[33]⟩
      if d then do
        let y ← e
        op t.p ⟨#[33]⟩ [x, y]
      else pure x
/-- An expression: the fuel is how many may still be begun; as many as there are tokens do. -/
def expr : Nat → PM Nat
  | 0 => giveUp 24
  | k + 1 => fun s =>
    if s.o = 200 then .error (25, (hd s).p)
    else match opened (expr k) { s with o := s.o + 1 } with
      | .error e => .error e
      | .ok (x, s') => .ok (x, { s' with o := s'.o - 1 })

def functionOf (e : PM Nat) : PM Nat := do
  let t ← here
  let c ← clauses (fclause e)
  need ⟨#[46]⟩
  fun s =>
    let f := s.ns.getD ((s.ns.getD c ⟨0, ⟨#[]⟩, 0, 0, [], 0⟩).l.headD 0) ⟨0, ⟨#[]⟩, 0, 0, [], 0⟩
    lay ⟨23, f.x, f.n, 0, [c], t.p⟩ s
def functions (e : PM Nat) : Nat → List Nat → PM (List Nat)
  | 0, l => pure l
  | k + 1, l => do
    let t ← here
    if t.k = 8 then pure l else do
      let x ← functionOf e
      functions e k (l ++ [x])
def module (e : PM Nat) : PM Nat := do
  let t ← here
  need ⟨#[45]⟩
  let u ← here
  if isA u ⟨#[109, 111, 100, 117, 108, 101]⟩ then do
    let _ ← next
    need ⟨#[40]⟩
    let n ← needK 1
    need ⟨#[41]⟩
    need ⟨#[46]⟩
    let k ← left
    let l ← functions e k []
    lay ⟨24, n.x, 0, 0, l, t.p⟩
  else giveUp 24
end Gm

/-- The tree of tokens: its nodes and its root, or the fault. -/
def treeOf (ts : List Tk) : Except (Int × Nat) (List Nd × Nat) :=
  match Gm.module (Gm.expr ts.length) ⟨ts, [], 0⟩ with
  | .error e => .error e
  | .ok (r, s) => .ok (s.ns, r)

/-- What every step of the parser keeps: it goes through tokens from the front, lays nodes behind, and shuts what it opened. -/
structure Fr (s s' : PS) : Prop where
  ts : ∃ a, s.ts = a ++ s'.ts
  ns : ∃ b, s'.ns = s.ns ++ b
  o : s'.o = s.o

theorem Fr.refl (s : PS) : Fr s s := ⟨⟨[], rfl⟩, ⟨[], by simp⟩, rfl⟩
theorem Fr.trans {a b c : PS} (h : Fr a b) (g : Fr b c) : Fr a c := by
  obtain ⟨⟨x, hx⟩, ⟨y, hy⟩, ho⟩ := h
  obtain ⟨⟨x', hx'⟩, ⟨y', hy'⟩, ho'⟩ := g
  exact ⟨⟨x ++ x', by rw [hx, hx', List.append_assoc]⟩, ⟨y ++ y', by rw [hy', hy, List.append_assoc]⟩, by rw [ho', ho]⟩
theorem Fr.len {a b : PS} (h : Fr a b) : b.ts.length ≤ a.ts.length := by
  obtain ⟨⟨x, hx⟩, _, _⟩ := h
  rw [hx]; simp

/-- The tokens end with the end, which stands nowhere else. -/
def Ne (s : PS) : Prop := ∃ a t, s.ts = a ++ [t] ∧ t.k = 8 ∧ ∀ u ∈ a, u.k ≠ 8

namespace Gm
theorem ne_hd {s : PS} (h : Ne s) : ∃ r, s.ts = hd s :: r := by
  obtain ⟨a, t, hs, _, _⟩ := h
  cases a with
  | nil => exact ⟨[], by simp [hd, hs]⟩
  | cons u a => exact ⟨a ++ [t], by simp [hd, hs]⟩
theorem ne_cut {s : PS} (h : Ne s) (hk : (hd s).k ≠ 8) : Ne (cut s) ∧ Fr s (cut s) := by
  obtain ⟨a, t, hs, h8, ha⟩ := h
  cases a with
  | nil => exact absurd (by simp [hd, hs, h8]) hk
  | cons u a =>
    exact ⟨⟨a, t, by simp [cut, hs], h8, fun v hv => ha v (List.mem_cons_of_mem _ hv)⟩, ⟨⟨[u], by simp [cut, hs]⟩, ⟨[], by simp [cut]⟩, rfl⟩⟩
/-- A token that is not the end has another one behind it. -/
theorem ne_hd2 {s : PS} (h : Ne s) (hk : (hd s).k ≠ 8) : ∃ r, s.ts = hd s :: hd2 s :: r := by
  obtain ⟨a, t, hs, h8, ha⟩ := h
  cases a with
  | nil => exact absurd (by simp [hd, hs, h8]) hk
  | cons u a =>
    cases a with
    | nil => exact ⟨[], by simp [hd, hd2, hs]⟩
    | cons v a => exact ⟨a ++ [t], by simp [hd, hd2, hs]⟩
theorem isM_k {t : Tk} {w : ByteArray} (h : isM t w = true) : t.k ≠ 8 := by
  simp only [isM, Bool.and_eq_true, Bool.or_eq_true, decide_eq_true_eq] at h
  omega
theorem isA_k {t : Tk} {w : ByteArray} (h : isA t w = true) : t.k ≠ 8 := by
  simp only [isA, Bool.and_eq_true, decide_eq_true_eq] at h
  omega
/-- A step keeps what is to be kept, from one state on. -/
def Good {α : Type} (s : PS) (m : PM α) : Prop := Ne s → ∀ a s', m s = .ok (a, s') → Fr s s' ∧ Ne s'
def All {α : Type} (m : PM α) : Prop := ∀ s, Good s m

theorem bind_at {α β : Type} (m : PM α) (f : α → PM β) (s : PS) : (m >>= f) s = match m s with | .error e => .error e | .ok (a, s') => f a s' := rfl
theorem good_bind {α β : Type} {m : PM α} {f : α → PM β} {s : PS} (h : Good s m) (g : ∀ a s', m s = .ok (a, s') → Good s' (f a)) : Good s (m >>= f) := by
  intro hn b t hb
  rw [bind_at] at hb
  cases hm : m s with
  | error e => simp [hm] at hb
  | ok p =>
    obtain ⟨a, s'⟩ := p
    simp only [hm] at hb
    obtain ⟨h1, h2⟩ := h hn a s' hm
    obtain ⟨h3, h4⟩ := g a s' hm h2 b t hb
    exact ⟨h1.trans h3, h4⟩
theorem all_bind {α β : Type} {m : PM α} {f : α → PM β} (h : All m) (g : ∀ a, All (f a)) : All (m >>= f) := fun s => good_bind (h s) fun a s' _ => g a s'
theorem all_pure {α : Type} (a : α) : All (pure a : PM α) := by
  intro s hn b t hb
  cases hb
  exact ⟨Fr.refl _, hn⟩
theorem all_here : All here := by intro s hn b t hb; cases hb; exact ⟨Fr.refl _, hn⟩
theorem all_ahead : All ahead := by intro s hn b t hb; cases hb; exact ⟨Fr.refl _, hn⟩
theorem all_left : All left := by intro s hn b t hb; cases hb; exact ⟨Fr.refl _, hn⟩
theorem all_giveUp {α : Type} (e : Int) : All (giveUp e : PM α) := by intro s hn b t hb; cases hb
theorem all_fault {α : Type} (e : Int) (p : Nat) : All (fault e p : PM α) := by intro s hn b t hb; cases hb
theorem all_take (w : ByteArray) : All (take w) := by
  intro s hn b t hb
  simp only [take] at hb
  split at hb
  · rename_i h; cases hb; exact ⟨(ne_cut hn (isM_k h)).2, (ne_cut hn (isM_k h)).1⟩
  · cases hb; exact ⟨Fr.refl _, hn⟩
theorem all_need (w : ByteArray) : All (need w) := by
  intro s hn b t hb
  simp only [need] at hb
  split at hb
  · rename_i h; cases hb; exact ⟨(ne_cut hn (isM_k h)).2, (ne_cut hn (isM_k h)).1⟩
  · cases hb
theorem all_needK {k : Int} (hk : k ≠ 8) : All (needK k) := by
  intro s hn b t hb
  simp only [needK] at hb
  split at hb
  · rename_i h; cases hb; exact ⟨(ne_cut hn (by omega)).2, (ne_cut hn (by omega)).1⟩
  · cases hb
theorem all_lay (n : Nd) : All (lay n) := by
  intro s hn b t hb
  simp only [lay] at hb
  split at hb
  · cases hb
  · cases hb; exact ⟨⟨⟨[], rfl⟩, ⟨[n], rfl⟩, rfl⟩, hn⟩
theorem all_op (p : Nat) (x : ByteArray) (l : List Nat) : All (op p x l) := all_lay _
theorem all_layNone (k : Int) : All (layNone k) := all_bind all_here fun _ => all_lay _
theorem good_next {s : PS} (hk : (hd s).k ≠ 8) : Good s next := by
  intro hn b t hb
  cases hb
  exact ⟨(ne_cut hn hk).2, (ne_cut hn hk).1⟩
theorem all_ite {α : Type} {c : Prop} [Decidable c] {m n : PM α} (h : All m) (g : All n) : All (if c then m else n) := by split <;> assumption
/-- 'here', and what hangs on it. -/
theorem all_on {β : Type} {f : Tk → PM β} (h : ∀ s, Good s (f (hd s))) : All (here >>= f) := fun s => h s
theorem good_ite {α : Type} {c : Prop} [Decidable c] {m n : PM α} {s : PS} (h : c → Good s m) (g : ¬ c → Good s n) : Good s (if c then m else n) := by
  split
  · exact h (by assumption)
  · exact g (by assumption)

theorem all_more {e : PM Nat} (he : All e) (most : Nat) : ∀ k l, All (more e most k l)
  | 0, _ => all_pure _
  | k + 1, _ => all_bind (all_take _) fun _ => all_ite (all_ite (all_giveUp _) (all_bind he fun _ => all_more he most k _)) (all_pure _)
theorem all_exprs {e : PM Nat} (he : All e) (most : Nat) : All (exprs e most) := all_bind he fun _ => all_bind all_left fun _ => all_more he _ _ _
theorem all_group {e : PM Nat} (he : All e) (k : Int) : All (group e k) := all_bind all_here fun _ => all_bind (all_exprs he _) fun _ => all_lay _
theorem all_body {e : PM Nat} (he : All e) : All (body e) := all_group he _
theorem all_guard {e : PM Nat} (he : All e) : All (guard e) := all_bind (all_take _) fun _ => all_ite (all_group he _) (all_layNone _)
theorem all_args {e : PM Nat} (he : All e) : All (args e) :=
  all_bind (all_need _) fun _ => all_bind (all_take _) fun _ => all_ite (all_pure _) (all_bind (all_exprs he _) fun _ => all_bind (all_need _) fun _ => all_pure _)
theorem all_tail {e : PM Nat} (he : All e) (p : Nat) (x : ByteArray) (l : List Nat) : All (tail e p x l) :=
  all_bind (all_guard he) fun _ => all_bind (all_need _) fun _ => all_bind (all_body he) fun _ => all_lay _
theorem all_fclause {e : PM Nat} (he : All e) : All (fclause e) := all_bind (all_needK (by omega)) fun _ => all_bind (all_args he) fun _ => all_tail he _ _ _
theorem all_gclause {e : PM Nat} (he : All e) : All (gclause e) := all_bind all_here fun _ => all_bind (all_args he) fun _ => all_tail he _ _ _
theorem all_clause {e : PM Nat} (he : All e) : All (clause e) := all_bind all_here fun _ => all_bind he fun _ => all_tail he _ _ _
theorem good_leaf {s : PS} (hk : (hd s).k ≠ 8) : Good s leaf := good_bind (good_next hk) fun _ s' _ => all_lay _ s'
theorem all_cls : All cls :=
  all_on fun s => good_bind (all_ahead s) fun u s' hu => by
    cases hu
    exact good_ite (fun h => good_ite (fun _ => good_bind (good_leaf (by omega)) fun _ s' _ => all_bind (all_need _) (fun _ => all_pure _) s') fun _ => all_giveUp _ s) fun _ => all_lay _ s
theorem all_cclause {e : PM Nat} (he : All e) : All (cclause e) := all_bind all_here fun _ => all_bind all_cls fun _ => all_bind he fun _ => all_tail he _ _ _
theorem all_moreC {c : PM Nat} (hc : All c) : ∀ k l, All (moreC c k l)
  | 0, _ => all_pure _
  | k + 1, _ => all_bind (all_take _) fun _ => all_ite (all_bind hc fun _ => all_moreC hc k _) (all_pure _)
theorem all_clauses {c : PM Nat} (hc : All c) : All (clauses c) :=
  all_bind all_here fun _ => all_bind hc fun _ => all_bind all_left fun _ => all_bind (all_moreC hc _ _) fun _ => all_lay _
theorem all_clausesBehind {c : PM Nat} (w : ByteArray) (hc : All c) : All (clausesBehind w c) := all_bind (all_take _) fun _ => all_ite (all_clauses hc) (all_layNone _)
theorem good_begin {e : PM Nat} (he : All e) {s : PS} (hk : (hd s).k ≠ 8) : Good s (begin e) :=
  good_bind (good_next hk) fun _ s' _ => all_bind (all_exprs he _) (fun _ => all_bind (all_need _) fun _ => all_lay _) s'
theorem good_choice {e : PM Nat} (he : All e) {s : PS} (hk : (hd s).k ≠ 8) : Good s (choice e) :=
  good_bind (good_next hk) fun _ s' _ => all_bind he (fun _ => all_bind (all_need _) fun _ => all_bind (all_clauses (all_clause he)) fun _ => all_bind (all_need _) fun _ => all_lay _) s'
theorem good_funName (p : Nat) {s : PS} (hk : (hd s).k ≠ 8) : Good s (funName p) :=
  good_bind (good_next hk) fun _ s' _ => all_bind (all_need _) (fun _ => all_bind (all_needK (by omega)) fun _ => all_ite (all_fault _ _) (all_lay _)) s'
theorem good_fn {e : PM Nat} (he : All e) {s : PS} (hk : (hd s).k ≠ 8) : Good s (fn e) :=
  good_bind (good_next hk) fun _ s' _ => all_on (fun s => good_ite (fun h => good_funName _ (by omega)) fun _ => all_bind (all_clauses (all_gclause he)) (fun _ => all_bind (all_need _) fun _ => all_lay _) s) s'
theorem all_afterB {e : PM Nat} (he : All e) : All (afterB e) :=
  all_bind (all_take _) fun _ => all_ite (all_bind (all_body he) fun _ => all_pure _) (all_bind (all_layNone _) fun _ => all_pure _)
theorem good_tryOf {e : PM Nat} (he : All e) {s : PS} (hk : (hd s).k ≠ 8) : Good s (tryOf e) :=
  good_bind (good_next hk) fun _ s' _ => all_bind (all_body he) (fun _ => all_bind (all_clausesBehind _ (all_clause he)) fun _ => all_bind all_here fun _ =>
    all_bind (all_clausesBehind _ (all_cclause he)) fun _ => all_bind all_here fun _ => all_ite (all_bind (all_afterB he) fun _ => all_bind (all_need _) fun _ => all_lay _) (all_giveUp _)) s'
theorem all_patience : All patience :=
  all_on fun s => good_ite (fun h => good_bind (good_next (isA_k h)) fun _ s' _ => all_pure _ s') fun _ =>
    good_ite (fun h => good_bind (good_next (by omega)) fun _ s' _ => all_pure _ s') fun _ => all_giveUp _ s
theorem all_received {e : PM Nat} (he : All e) : All (received e) := all_bind all_here fun _ => all_ite (all_layNone _) (all_clauses (all_clause he))
theorem all_afterR {e : PM Nat} (he : All e) : All (afterR e) :=
  all_bind (all_take _) fun _ => all_ite (all_bind all_patience fun _ => all_bind (all_need _) fun _ => all_bind (all_body he) fun _ => all_pure _) (all_bind (all_layNone _) fun _ => all_pure _)
theorem good_receive {e : PM Nat} (he : All e) {s : PS} (hk : (hd s).k ≠ 8) : Good s (receive e) :=
  good_bind (good_next hk) fun _ s' _ => all_bind (all_received he) (fun _ => all_bind (all_afterR he) fun _ => all_bind (all_need _) fun _ => all_lay _) s'
theorem good_worded {e : PM Nat} (he : All e) {s : PS} (hk : (hd s).k ≠ 8) : Good s (worded e) :=
  good_bind (all_here s) fun t s' h => by
    cases h
    exact good_ite (fun _ => good_begin he hk) fun _ => good_ite (fun _ => good_choice he hk) fun _ => good_ite (fun _ => good_fn he hk) fun _ =>
      good_ite (fun _ => good_tryOf he hk) fun _ => good_ite (fun _ => good_receive he hk) fun _ => all_giveUp _ s
theorem good_tuple {e : PM Nat} (he : All e) {s : PS} (hk : (hd s).k ≠ 8) : Good s (tuple e) :=
  good_bind (good_next hk) fun _ s' _ => all_bind all_here (fun _ => all_ite (all_bind (all_need _) fun _ => all_lay _) (all_bind (all_exprs he _) fun _ => all_bind (all_need _) fun _ => all_lay _)) s'
theorem good_list {e : PM Nat} (he : All e) {s : PS} (hk : (hd s).k ≠ 8) : Good s (list e) :=
  good_bind (good_next hk) fun _ s' _ => all_bind all_here (fun _ => all_ite (all_bind (all_need _) fun _ => all_lay _) (all_bind (all_exprs he _) fun _ => all_bind (all_take _) fun _ =>
    all_ite (all_bind he fun _ => all_bind (all_need _) fun _ => all_lay _) (all_bind (all_need _) fun _ => all_lay _))) s'
theorem good_bracketed {e : PM Nat} (he : All e) {s : PS} (hk : (hd s).k ≠ 8) : Good s (bracketed e) :=
  good_bind (all_here s) fun t s' h => by
    cases h
    exact good_ite (fun _ => good_bind (good_next hk) fun _ s' _ => all_bind he (fun _ => all_bind (all_need _) fun _ => all_pure _) s') fun _ =>
      good_ite (fun _ => good_tuple he hk) fun _ => good_ite (fun _ => good_list he hk) fun _ => all_giveUp _ s
theorem all_primary {e : PM Nat} (he : All e) : All (primary e) :=
  all_on fun s => good_ite (fun h => good_leaf (by omega)) fun _ => good_ite (fun h => good_bracketed he (by omega)) fun _ => good_ite (fun h => good_worded he (by omega)) fun _ => all_giveUp _ s
theorem all_called {e : PM Nat} (he : All e) : All (called e) :=
  all_on fun s => good_bind (all_ahead s) fun u s' hu => by
    cases hu
    exact good_ite (fun h => good_bind (good_next (by omega)) fun _ s' _ => all_bind (all_args he) (fun _ => all_lay _) s') fun _ => all_primary he s
theorem all_applied {e : PM Nat} (he : All e) (p : Nat) : ∀ k x, All (applied e p k x)
  | 0, _ => all_pure _
  | k + 1, _ => all_bind all_here fun _ => all_ite (all_bind (all_args he) fun _ => all_bind (all_lay _) fun _ => all_applied he p k _) (all_pure _)
theorem all_call {e : PM Nat} (he : All e) : All (call e) := all_bind all_here fun _ => all_bind (all_called he) fun _ => all_bind all_left fun _ => all_applied he _ _ _
theorem all_signs : ∀ k l, All (signs k l)
  | 0, _ => all_pure _
  | k + 1, _ => all_on fun s => good_ite (fun h => good_bind (good_next (by rcases h with h | h <;> exact isM_k h)) fun _ s' _ => all_signs k _ s') fun _ => all_pure _ s
theorem all_layOps : ∀ l x, All (layOps l x)
  | [], _ => all_pure _
  | _ :: r, x => all_bind (all_layOps r x) fun _ => all_op _ _ _
theorem all_unary {e : PM Nat} (he : All e) : All (unary e) := all_bind all_left fun _ => all_bind (all_signs _ _) fun _ => all_bind (all_call he) fun _ => all_layOps _ _
theorem all_leftward {m : PM Nat} (hm : All m) {sg : Tk → Bool} (hs : ∀ t, sg t = true → t.k ≠ 8) (p : Nat) : ∀ k x, All (leftward m sg p k x)
  | 0, _ => all_pure _
  | k + 1, _ => all_on fun s => good_ite (fun h => good_bind (good_next (hs _ h)) fun _ s' _ => all_bind hm (fun _ => all_bind (all_op _ _ _) fun _ => all_leftward hm hs p k _) s') fun _ => all_pure _ s
theorem isMul_k (t : Tk) (h : isMul t = true) : t.k ≠ 8 := by
  simp only [isMul, Bool.or_eq_true] at h
  rcases h with ((h | h) | h) | h <;> exact isM_k h
theorem isAdd_k (t : Tk) (h : isAdd t = true) : t.k ≠ 8 := by
  simp only [isAdd, Bool.or_eq_true] at h
  rcases h with h | h <;> exact isM_k h
theorem isCmp_k (t : Tk) (h : isCmp t = true) : t.k ≠ 8 := by
  simp only [isCmp, Bool.or_eq_true] at h
  rcases h with ((((((h | h) | h) | h) | h) | h) | h) | h <;> exact isM_k h
theorem all_mul {e : PM Nat} (he : All e) : All (mul e) := all_bind all_here fun _ => all_bind (all_unary he) fun _ => all_bind all_left fun _ => all_leftward (all_unary he) isMul_k _ _ _
theorem all_add {e : PM Nat} (he : All e) : All (add e) := all_bind all_here fun _ => all_bind (all_mul he) fun _ => all_bind all_left fun _ => all_leftward (all_mul he) isAdd_k _ _ _
theorem all_rightward {m : PM Nat} (hm : All m) (w : ByteArray) : ∀ k, All (rightward m w k)
  | 0 => hm
  | k + 1 => all_bind all_here fun _ => all_bind hm fun _ => all_bind (all_take _) fun _ => all_ite (all_bind (all_rightward hm w k) fun _ => all_op _ _ _) (all_pure _)
theorem all_right {m : PM Nat} (hm : All m) (w : ByteArray) : All (right m w) := all_bind all_left fun _ => all_rightward hm w _
theorem all_appends {e : PM Nat} (he : All e) : All (appends e) := all_right (all_add he) _
theorem all_compare {e : PM Nat} (he : All e) : All (compare e) :=
  all_bind all_here fun _ => all_bind (all_appends he) fun _ => all_on fun s => good_ite (fun h => good_bind (good_next (isCmp_k _ h)) fun _ s' _ => all_bind (all_appends he) (fun _ => all_op _ _ _) s') fun _ => all_pure _ s
theorem all_orelse {e : PM Nat} (he : All e) : All (orelse e) := all_right (all_right (all_compare he) _) _
theorem all_opened {e : PM Nat} (he : All e) : All (opened e) :=
  all_bind all_here fun _ => all_bind (all_take _) fun _ => all_ite (all_bind he fun _ => all_lay _) (all_bind (all_orelse he) fun _ => all_bind (all_take _) fun _ =>
    all_ite (all_bind he fun _ => all_lay _) (all_bind (all_take _) fun _ => all_ite (all_bind he fun _ => all_op _ _ _) (all_pure _)))
theorem all_expr : ∀ k, All (expr k)
  | 0 => all_giveUp _
  | k + 1 => by
    intro s hn b t hb
    simp only [expr] at hb
    split at hb
    · cases hb
    · cases hm : opened (expr k) { s with o := s.o + 1 } with
      | error e => simp [hm] at hb
      | ok p =>
        obtain ⟨a, s'⟩ := p
        simp only [hm] at hb
        cases hb
        obtain ⟨⟨h1, h2, h3⟩, h4⟩ := all_opened (all_expr k) { s with o := s.o + 1 } hn b s' hm
        exact ⟨⟨h1, h2, by simp only at h3 ⊢; omega⟩, h4⟩
end Gm

end Go.Proofs.YthdljnakmekhkaaGreatDoor


