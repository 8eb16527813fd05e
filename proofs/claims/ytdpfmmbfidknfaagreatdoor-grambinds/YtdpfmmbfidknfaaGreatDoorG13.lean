import Derived.Test.YtdpfmmbfidknfaaGreatDoorG12
/- The grammar as a pure function: what package gram's parser does, over a list of tokens. -/
namespace Go.Proofs.YtdpfmmbfidknfaaGreatDoor

/-- A node. -/
structure Nd where
  k : Int
  x : ByteArray
  n : Int
  f : Nat
  l : List Nat
  p : Nat

/-- The parser's state: tokens that are not gone through, nodes that are laid, how many expressions are open. -/
structure PS where
  ts : List Tk
  ns : List Nd
  o : Nat

/-- A step of the parser: what it tells and the state behind it, or the fault. -/
def PM (α : Type) : Type := PS → Except (Int × Nat) (α × PS)

instance : Monad PM where
  pure a := fun s => .ok (a, s)
  bind m f := fun s => match m s with
    | .error e => .error e
    | .ok (a, s') => f a s'

namespace Gm
def hd (s : PS) : Tk := s.ts.headD ⟨8, ⟨#[]⟩, 0, 0, 0⟩
def hd2 (s : PS) : Tk := s.ts.tail.headD ⟨8, ⟨#[]⟩, 0, 0, 0⟩
def cut (s : PS) : PS := { s with ts := s.ts.tail }
def isM (t : Tk) (w : ByteArray) : Bool := (decide (t.k = 6) || decide (t.k = 7)) && decide (t.x = w)
def isA (t : Tk) (w : ByteArray) : Bool := decide (t.k = 1) && decide (t.x = w)

def here : PM Tk := fun s => .ok (hd s, s)
def ahead : PM Tk := fun s => .ok (hd2 s, s)
def left : PM Nat := fun s => .ok (s.ts.length, s)
def next : PM Tk := fun s => .ok (hd s, cut s)
def fault {α : Type} (e : Int) (p : Nat) : PM α := fun _ => .error (e, p)
def giveUp {α : Type} (e : Int) : PM α := fun s => .error (e, (hd s).p)
def take (w : ByteArray) : PM Bool := fun s => if isM (hd s) w then .ok (true, cut s) else .ok (false, s)
def need (w : ByteArray) : PM Unit := fun s => if isM (hd s) w then .ok ((), cut s) else .error (24, (hd s).p)
def needK (k : Int) : PM Tk := fun s => if (hd s).k = k then .ok (hd s, cut s) else .error (24, (hd s).p)
def lay (n : Nd) : PM Nat := fun s => if s.ns.length = 16384 then .error (2, n.p) else .ok (s.ns.length, { s with ns := s.ns ++ [n] })
def layNone (k : Int) : PM Nat := do let t ← here; lay ⟨k, ⟨#[]⟩, 0, 0, [], t.p⟩
def op (p : Nat) (x : ByteArray) (l : List Nat) : PM Nat := lay ⟨9, x, 0, 0, l, p⟩

/-- Expressions behind a comma, as many as may be. -/
def more (e : PM Nat) (most : Nat) : Nat → List Nat → PM (List Nat)
  | 0, l => pure l
  | k + 1, l => do
    let b ← take ⟨#[44]⟩
    if b then (if l.length = most then giveUp 2 else do let x ← e; more e most k (l ++ [x])) else pure l
def exprs (e : PM Nat) (most : Nat) : PM (List Nat) := do let x ← e; let k ← left; more e most k [x]
def noBound : Nat := 9223372036854775807
def group (e : PM Nat) (kind : Int) : PM Nat := do
  let t ← here
  let l ← exprs e noBound
  lay ⟨kind, ⟨#[]⟩, 0, 0, l, t.p⟩
def body (e : PM Nat) : PM Nat := group e 19
def guard (e : PM Nat) : PM Nat := do
  let b ← take ⟨#[119, 104, 101, 110]⟩
  if b then group e 22 else layNone 22
def args (e : PM Nat) : PM (List Nat) := do
  need ⟨#[40]⟩
  let b ← take ⟨#[41]⟩
  if b then pure [] else do
    let l ← exprs e 16
    need ⟨#[41]⟩
    pure l
def tail (e : PM Nat) (p : Nat) (x : ByteArray) (l : List Nat) : PM Nat := do
  let g ← guard e
  need ⟨#[45, 62]⟩
  let b ← body e
  lay ⟨21, x, (l.length : Int), 0, l ++ [g, b], p⟩

def fclause (e : PM Nat) : PM Nat := do
  let t ← needK 1
  let l ← args e
  tail e t.p t.x l
def gclause (e : PM Nat) : PM Nat := do
  let t ← here
  let l ← args e
  tail e t.p ⟨#[]⟩ l
def clause (e : PM Nat) : PM Nat := do
  let t ← here
  let x ← e
  tail e t.p ⟨#[]⟩ [x]
def leafKind (k : Int) : Int := if k = 1 then 3 else if k = 2 then 4 else if k = 3 then 1 else if k = 4 then 2 else 5
def leaf : PM Nat := do
  let t ← next
  lay ⟨leafKind t.k, t.x, t.n, t.f, [], t.p⟩
def isClass (t : Tk) : Bool := if t.k = 2 then decide (t.x = ⟨#[95]⟩) else decide (t.x = ⟨#[101, 114, 114, 111, 114]⟩) || decide (t.x = ⟨#[101, 120, 105, 116]⟩) || decide (t.x = ⟨#[116, 104, 114, 111, 119]⟩)
def cls : PM Nat := do
  let t ← here
  let u ← ahead
  if (t.k = 1 ∨ t.k = 2) ∧ isM u ⟨#[58]⟩ = true then
    (if isClass t then do
      let x ← leaf
      need ⟨#[58]⟩
      pure x
    else giveUp 24)
  else lay ⟨3, ⟨#[116, 104, 114, 111, 119]⟩, 0, 0, [], t.p⟩
def cclause (e : PM Nat) : PM Nat := do
  let t ← here
  let c ← cls
  let x ← e
  tail e t.p ⟨#[]⟩ [c, x]

def moreC (c : PM Nat) : Nat → List Nat → PM (List Nat)
  | 0, l => pure l
  | k + 1, l => do
    let b ← take ⟨#[59]⟩
    if b then do let x ← c; moreC c k (l ++ [x]) else pure l
def clauses (c : PM Nat) : PM Nat := do
  let t ← here
  let x ← c
  let k ← left
  let l ← moreC c k [x]
  lay ⟨20, ⟨#[]⟩, 0, 0, l, t.p⟩
def clausesBehind (w : ByteArray) (c : PM Nat) : PM Nat := do
  let b ← take w
  if b then clauses c else layNone 20

def begin (e : PM Nat) : PM Nat := do
  let t ← next
  let l ← exprs e noBound
  need ⟨#[101, 110, 100]⟩
  lay ⟨19, ⟨#[]⟩, 0, 0, l, t.p⟩
def choice (e : PM Nat) : PM Nat := do
  let t ← next
  let x ← e
  need ⟨#[111, 102]⟩
  let c ← clauses (clause e)
  need ⟨#[101, 110, 100]⟩
  lay ⟨15, ⟨#[]⟩, 0, 0, [x, c], t.p⟩
def funName (p : Nat) : PM Nat := do
  let t ← next
  need ⟨#[47]⟩
  let n ← needK 3
  if 16 < n.n then fault 2 n.p else lay ⟨14, t.x, n.n, 0, [], p⟩
def fn (e : PM Nat) : PM Nat := do
  let t ← next
  let u ← here
  if u.k = 1 then funName t.p else do
    let c ← clauses (gclause e)
    need ⟨#[101, 110, 100]⟩
    lay ⟨13, ⟨#[]⟩, 0, 0, [c], t.p⟩
def afterB (e : PM Nat) : PM (Int × Nat) := do
  let b ← take ⟨#[97, 102, 116, 101, 114]⟩
  if b then do let x ← body e; pure (1, x) else do let x ← layNone 19; pure (0, x)
def tryOf (e : PM Nat) : PM Nat := do
  let t ← next
  let b ← body e
  let o ← clausesBehind ⟨#[111, 102]⟩ (clause e)
  let u ← here
  let c ← clausesBehind ⟨#[99, 97, 116, 99, 104]⟩ (cclause e)
  let v ← here
  if isM u ⟨#[99, 97, 116, 99, 104]⟩ = true ∨ isM v ⟨#[97, 102, 116, 101, 114]⟩ = true then do
    let a ← afterB e
    need ⟨#[101, 110, 100]⟩
    lay ⟨16, ⟨#[]⟩, a.1, 0, [b, o, c, a.2], t.p⟩
  else giveUp 24
def patience : PM Int := do
  let t ← here
  if isA t ⟨#[105, 110, 102, 105, 110, 105, 116, 121]⟩ then do let _ ← next; pure 2
  else if t.k = 3 ∧ t.n = 0 then do let _ ← next; pure 1
  else giveUp 24
def received (e : PM Nat) : PM Nat := do
  let t ← here
  if isM t ⟨#[97, 102, 116, 101, 114]⟩ then layNone 20 else clauses (clause e)
def afterR (e : PM Nat) : PM (Int × Nat) := do
  let b ← take ⟨#[97, 102, 116, 101, 114]⟩
  if b then do
    let n ← patience
    need ⟨#[45, 62]⟩
    let x ← body e
    pure (n, x)
  else do let x ← layNone 19; pure (0, x)
def receive (e : PM Nat) : PM Nat := do
  let t ← next
  let c ← received e
  let a ← afterR e
  need ⟨#[101, 110, 100]⟩
  lay ⟨18, ⟨#[]⟩, a.1, 0, [c, a.2], t.p⟩
def worded (e : PM Nat) : PM Nat := do
  let t ← here
  if t.x = ⟨#[98, 101, 103, 105, 110]⟩ then begin e
  else if t.x = ⟨#[99, 97, 115, 101]⟩ then choice e
  else if t.x = ⟨#[102, 117, 110]⟩ then fn e
  else if t.x = ⟨#[116, 114, 121]⟩ then tryOf e
  else if t.x = ⟨#[114, 101, 99, 101, 105, 118, 101]⟩ then receive e
  else giveUp 24

def tuple (e : PM Nat) : PM Nat := do
  let t ← next
  let u ← here
  if isM u ⟨#[125]⟩ then do
    need ⟨#[125]⟩
    lay ⟨6, ⟨#[]⟩, 0, 0, [], t.p⟩
  else do
    let l ← exprs e noBound
    need ⟨#[125]⟩
    lay ⟨6, ⟨#[]⟩, 0, 0, l, t.p⟩
def list (e : PM Nat) : PM Nat := do
  let t ← next
  let u ← here
  if isM u ⟨#[93]⟩ then do
    need ⟨#[93]⟩
    lay ⟨7, ⟨#[]⟩, 0, 0, [], t.p⟩
  else do
    let l ← exprs e noBound
    let b ← take ⟨#[124]⟩
    if b then do
      let x ← e
      need ⟨#[93]⟩
      lay ⟨8, ⟨#[]⟩, 0, 0, l ++ [x], t.p⟩
    else do
      need ⟨#[93]⟩
      lay ⟨7, ⟨#[]⟩, 0, 0, l, t.p⟩
def bracketed (e : PM Nat) : PM Nat := do
  let t ← here
  if t.x = ⟨#[40]⟩ then do
    let _ ← next
    let x ← e
    need ⟨#[41]⟩
    pure x
  else if t.x = ⟨#[123]⟩ then tuple e
  else if t.x = ⟨#[91]⟩ then list e
  else giveUp 24
def primary (e : PM Nat) : PM Nat := do
  let t ← here
  if t.k = 1 ∨ t.k = 2 ∨ t.k = 3 ∨ t.k = 4 ∨ t.k = 5 then leaf
  else if t.k = 6 then bracketed e
  else if t.k = 7 then worded e
  else giveUp 24
def called (e : PM Nat) : PM Nat := do
  let t ← here
  let u ← ahead
  if t.k = 1 ∧ isM u ⟨#[40]⟩ = true then do
    let _ ← next
    let l ← args e
    lay ⟨11, t.x, 0, 0, l, t.p⟩
  else primary e
def applied (e : PM Nat) (p : Nat) : Nat → Nat → PM Nat
  | 0, x => pure x
  | k + 1, x => do
    let t ← here
    if isM t ⟨#[40]⟩ then do
      let l ← args e
      let y ← lay ⟨12, ⟨#[]⟩, 0, 0, x :: l, p⟩
      applied e p k y
    else pure x
def call (e : PM Nat) : PM Nat := do
  let t ← here
  let x ← called e
  let k ← left
  applied e t.p k x
def signs : Nat → List Tk → PM (List Tk)
  | 0, l => pure l
  | k + 1, l => do
    let t ← here
    if isM t ⟨#[45]⟩ = true ∨ isM t ⟨#[110, 111, 116]⟩ = true then do
      let _ ← next
      signs k (l ++ [t])
    else pure l
def layOps : List Tk → Nat → PM Nat
  | [], x => pure x
  | t :: r, x => do
    let y ← layOps r x
    op t.p t.x [y]
def unary (e : PM Nat) : PM Nat := do
  let k ← left
  let l ← signs k []
  let x ← call e
  layOps l x
/-- A row of operators that goes from the left. -/
def leftward (m : PM Nat) (sg : Tk → Bool) (p : Nat) : Nat → Nat → PM Nat
  | 0, x => pure x
  | k + 1, x => do
    let t ← here
    if sg t then do
      let _ ← next
      let y ← m
      let z ← op p t.x [x, y]
      leftward m sg p k z
    else pure x
def isMul (t : Tk) : Bool := isM t ⟨#[42]⟩ || isM t ⟨#[47]⟩ || isM t ⟨#[100, 105, 118]⟩ || isM t ⟨#[114, 101, 109]⟩
def isAdd (t : Tk) : Bool := isM t ⟨#[43]⟩ || isM t ⟨#[45]⟩
def mul (e : PM Nat) : PM Nat := do
  let t ← here
  let x ← unary e
  let k ← left
  leftward (unary e) isMul t.p k x
def add (e : PM Nat) : PM Nat := do
  let t ← here
  let x ← mul e
  let k ← left
  leftward (mul e) isAdd t.p k x
/-- A row of operators that goes from the right. -/
def rightward (m : PM Nat) (w : ByteArray) : Nat → PM Nat
  | 0 => m
  | k + 1 => do
    let t ← here
    let x ← m
    let b ← take w
    if b then do
      let y ← rightward m w k
      op t.p w [x, y]
    else pure x
def right (m : PM Nat) (w : ByteArray) : PM Nat := do let k ← left; rightward m w k
def appends (e : PM Nat) : PM Nat := right (add e) ⟨#[43, 43]⟩
def isCmp (t : Tk) : Bool := isM t ⟨#[61, 61]⟩ || isM t ⟨#[47, 61]⟩ || isM t ⟨#[61, 60]⟩ || isM t ⟨#[60]⟩ || isM t ⟨#[62, 61]⟩ || isM t ⟨#[62]⟩ || isM t ⟨#[61, 58, 61]⟩ || isM t ⟨#[61, 47, 61]⟩
def compare (e : PM Nat) : PM Nat := do
  let t ← here
  let x ← appends e
  let u ← here
  if isCmp u then do
    let _ ← next
    let y ← appends e
    op t.p u.x [x, y]
  else pure x
def andalso (e : PM Nat) : PM Nat := right (compare e) ⟨#[97, 110, 100, 97, 108, 115, 111]⟩
def orelse (e : PM Nat) : PM Nat := right (andalso e) ⟨#[111, 114, 101, 108, 115, 101]⟩
def opened (e : PM Nat) : PM Nat := do
  let t ← here
  let b ← take ⟨#[99, 97, 116, 99, 104]⟩
  if b then do
    let x ← e
    lay ⟨17, ⟨#[]⟩, 0, 0, [x], t.p⟩
  else do
    let x ← orelse e
    let c ← take ⟨#[61]⟩
    if c then do
      let y ← e
      lay ⟨10, ⟨#[]⟩, 0, 0, [x, y], t.p⟩
    else do
      let d ← take ⟨#[33]⟩
      if d then do
        let y ← e
        op t.p ⟨#[33]⟩ [x, y]
      else pure x
/-- An expression: the fuel is how many may still be begun; as many as there are tokens do. -/
def expr : Nat → PM Nat
  | 0 => giveUp 24
  | k + 1 => fun s =>
    if s.o = 200 then .error (25, (hd s).p)
    else match opened (expr k) { s with o := s.o + 1 } with
      | .error e => .error e
      | .ok (x, s') => .ok (x, { s' with o := s'.o - 1 })

def functionOf (e : PM Nat) : PM Nat := do
  let t ← here
  let c ← clauses (fclause e)
  need ⟨#[46]⟩
  fun s =>
    let f := s.ns.getD ((s.ns.getD c ⟨0, ⟨#[]⟩, 0, 0, [], 0⟩).l.headD 0) ⟨0, ⟨#[]⟩, 0, 0, [], 0⟩
    lay ⟨23, f.x, f.n, 0, [c], t.p⟩ s
def functions (e : PM Nat) : Nat → List Nat → PM (List Nat)
  | 0, l => pure l
  | k + 1, l => do
    let t ← here
    if t.k = 8 then pure l else do
      let x ← functionOf e
      functions e k (l ++ [x])
def module (e : PM Nat) : PM Nat := do
  let t ← here
  need ⟨#[45]⟩
  let u ← here
  if isA u ⟨#[109, 111, 100, 117, 108, 101]⟩ then do
    let _ ← next
    need ⟨#[40]⟩
    let n ← needK 1
    need ⟨#[41]⟩
    need ⟨#[46]⟩
    let k ← left
    let l ← functions e k []
    lay ⟨24, n.x, 0, 0, l, t.p⟩
  else giveUp 24
end Gm

/-- The tree of tokens: its nodes and its root, or the fault. -/
def treeOf (ts : List Tk) : Except (Int × Nat) (List Nd × Nat) :=
  match Gm.module (Gm.expr ts.length) ⟨ts, [], 0⟩ with
  | .error e => .error e
  | .ok (r, s) => .ok (s.ns, r)

/-- What every step of the parser keeps: it goes through tokens from the front, lays nodes behind, and shuts what it opened. -/
structure Fr (s s' : PS) : Prop where
  ts : ∃ a, s.ts = a ++ s'.ts
  ns : ∃ b, s'.ns = s.ns ++ b
  o : s'.o = s.o

theorem Fr.refl (s : PS) : Fr s s := ⟨⟨[], rfl⟩, ⟨[], by simp⟩, rfl⟩
theorem Fr.trans {a b c : PS} (h : Fr a b) (g : Fr b c) : Fr a c := by
  obtain ⟨⟨x, hx⟩, ⟨y, hy⟩, ho⟩ := h
  obtain ⟨⟨x', hx'⟩, ⟨y', hy'⟩, ho'⟩ := g
  exact ⟨⟨x ++ x', by rw [hx, hx', List.append_assoc]⟩, ⟨y ++ y', by rw [hy', hy, List.append_assoc]⟩, by rw [ho', ho]⟩
theorem Fr.len {a b : PS} (h : Fr a b) : b.ts.length ≤ a.ts.length := by
  obtain ⟨⟨x, hx⟩, _, _⟩ := h
  rw [hx]; simp

/-- The tokens end with the end, which stands nowhere else. -/
def Ne (s : PS) : Prop := ∃ a t, s.ts = a ++ [t] ∧ t.k = 8 ∧ ∀ u ∈ a, u.k ≠ 8

namespace Gm
theorem ne_hd {s : PS} (h : Ne s) : ∃ r, s.ts = hd s :: r := by
  obtain ⟨a, t, hs, _, _⟩ := h
  cases a with
  | nil => exact ⟨[], by simp [hd, hs]⟩
  | cons u a => exact ⟨a ++ [t], by simp [hd, hs]⟩
theorem ne_cut {s : PS} (h : Ne s) (hk : (hd s).k ≠ 8) : Ne (cut s) ∧ Fr s (cut s) := by
  obtain ⟨a, t, hs, h8, ha⟩ := h
  cases a with
  | nil => exact absurd (by simp [hd, hs, h8]) hk
  | cons u a =>
    exact ⟨⟨a, t, by simp [cut, hs], h8, fun v hv => ha v (List.mem_cons_of_mem _ hv)⟩, ⟨⟨[u], by simp [cut, hs]⟩, ⟨[], by simp [cut]⟩, rfl⟩⟩
/-- A token that is not the end has another one behind it. -/
theorem ne_hd2 {s : PS} (h : Ne s) (hk : (hd s).k ≠ 8) : ∃ r, s.ts = hd s :: hd2 s :: r := by
  obtain ⟨a, t, hs, h8, ha⟩ := h
  cases a with
  | nil => exact absurd (by simp [hd, hs, h8]) hk
  | cons u a =>
    cases a with
    | nil => exact ⟨[], by simp [hd, hd2, hs]⟩
    | cons v a => exact ⟨a ++ [t], by simp [hd, hd2, hs]⟩
theorem isM_k {t : Tk} {w : ByteArray} (h : isM t w = true) : t.k ≠ 8 := by
  simp only [isM, Bool.and_eq_true, Bool.or_eq_true, decide_eq_true_eq] at h
  omega
theorem isA_k {t : Tk} {w : ByteArray} (h : isA t w = true) : t.k ≠ 8 := by
  simp only [isA, Bool.and_eq_true, decide_eq_true_eq] at h
  omega
theorem isM_no {t : Tk} {w : ByteArray} (h : t.k = 8) : isM t w = false := by
  cases hh : isM t w with
  | false => rfl
  | true => exact absurd h (isM_k hh)

/-- A step keeps what is to be kept, from one state on. -/
def Good {α : Type} (s : PS) (m : PM α) : Prop := Ne s → ∀ a s', m s = .ok (a, s') → Fr s s' ∧ Ne s'
def All {α : Type} (m : PM α) : Prop := ∀ s, Good s m

theorem bind_at {α β : Type} (m : PM α) (f : α → PM β) (s : PS) : (m >>= f) s = match m s with | .error e => .error e | .ok (a, s') => f a s' := rfl
theorem good_bind {α β : Type} {m : PM α} {f : α → PM β} {s : PS} (h : Good s m) (g : ∀ a s', m s = .ok (a, s') → Good s' (f a)) : Good s (m >>= f) := by
  intro hn b t hb
  rw [bind_at] at hb
  cases hm : m s with
  | error e => simp [hm] at hb
  | ok p =>
    obtain ⟨a, s'⟩ := p
    simp only [hm] at hb
    obtain ⟨h1, h2⟩ := h hn a s' hm
    obtain ⟨h3, h4⟩ := g a s' hm h2 b t hb
    exact ⟨h1.trans h3, h4⟩
theorem all_bind {α β : Type} {m : PM α} {f : α → PM β} (h : All m) (g : ∀ a, All (f a)) : All (m >>= f) := fun s => good_bind (h s) fun a s' _ => g a s'
theorem all_pure {α : Type} (a : α) : All (pure a : PM α) := by
  intro s hn b t hb
  cases hb
  exact ⟨Fr.refl _, hn⟩
theorem all_here : All here := by intro s hn b t hb; cases hb; exact ⟨Fr.refl _, hn⟩
theorem all_ahead : All ahead := by intro s hn b t hb; cases hb; exact ⟨Fr.refl _, hn⟩
theorem all_left : All left := by intro s hn b t hb; cases hb; exact ⟨Fr.refl _, hn⟩
theorem all_giveUp {α : Type} (e : Int) : All (giveUp e : PM α) := by intro s hn b t hb; cases hb
theorem all_fault {α : Type} (e : Int) (p : Nat) : All (fault e p : PM α) := by intro s hn b t hb; cases hb
theorem all_take (w : ByteArray) : All (take w) := by
  intro s hn b t hb
  simp only [take] at hb
  split at hb
  · rename_i h; cases hb; exact ⟨(ne_cut hn (isM_k h)).2, (ne_cut hn (isM_k h)).1⟩
  · cases hb; exact ⟨Fr.refl _, hn⟩
theorem all_need (w : ByteArray) : All (need w) := by
  intro s hn b t hb
  simp only [need] at hb
  split at hb
  · rename_i h; cases hb; exact ⟨(ne_cut hn (isM_k h)).2, (ne_cut hn (isM_k h)).1⟩
  · cases hb
theorem all_needK {k : Int} (hk : k ≠ 8) : All (needK k) := by
  intro s hn b t hb
  simp only [needK] at hb
  split at hb
  · rename_i h; cases hb; exact ⟨(ne_cut hn (by omega)).2, (ne_cut hn (by omega)).1⟩
  · cases hb
theorem all_lay (n : Nd) : All (lay n) := by
  intro s hn b t hb
  simp only [lay] at hb
  split at hb
  · cases hb
  · cases hb; exact ⟨⟨⟨[], rfl⟩, ⟨[n], rfl⟩, rfl⟩, hn⟩
theorem all_op (p : Nat) (x : ByteArray) (l : List Nat) : All (op p x l) := all_lay _
theorem all_layNone (k : Int) : All (layNone k) := all_bind all_here fun _ => all_lay _
theorem good_next {s : PS} (hk : (hd s).k ≠ 8) : Good s next := by
  intro hn b t hb
  cases hb
  exact ⟨(ne_cut hn hk).2, (ne_cut hn hk).1⟩
theorem all_ite {α : Type} {c : Prop} [Decidable c] {m n : PM α} (h : All m) (g : All n) : All (if c then m else n) := by split <;> assumption
/-- 'here', and what hangs on it. -/
theorem all_on {β : Type} {f : Tk → PM β} (h : ∀ s, Good s (f (hd s))) : All (here >>= f) := fun s => h s
theorem good_ite {α : Type} {c : Prop} [Decidable c] {m n : PM α} {s : PS} (h : c → Good s m) (g : ¬ c → Good s n) : Good s (if c then m else n) := by
  split
  · exact h (by assumption)
  · exact g (by assumption)

theorem all_more {e : PM Nat} (he : All e) (most : Nat) : ∀ k l, All (more e most k l)
  | 0, _ => all_pure _
  | k + 1, _ => all_bind (all_take _) fun _ => all_ite (all_ite (all_giveUp _) (all_bind he fun _ => all_more he most k _)) (all_pure _)
theorem all_exprs {e : PM Nat} (he : All e) (most : Nat) : All (exprs e most) := all_bind he fun _ => all_bind all_left fun _ => all_more he _ _ _
theorem all_group {e : PM Nat} (he : All e) (k : Int) : All (group e k) := all_bind all_here fun _ => all_bind (all_exprs he _) fun _ => all_lay _
theorem all_body {e : PM Nat} (he : All e) : All (body e) := all_group he _
theorem all_guard {e : PM Nat} (he : All e) : All (guard e) := all_bind (all_take _) fun _ => all_ite (all_group he _) (all_layNone _)
theorem all_args {e : PM Nat} (he : All e) : All (args e) :=
  all_bind (all_need _) fun _ => all_bind (all_take _) fun _ => all_ite (all_pure _) (all_bind (all_exprs he _) fun _ => all_bind (all_need _) fun _ => all_pure _)
theorem all_tail {e : PM Nat} (he : All e) (p : Nat) (x : ByteArray) (l : List Nat) : All (tail e p x l) :=
  all_bind (all_guard he) fun _ => all_bind (all_need _) fun _ => all_bind (all_body he) fun _ => all_lay _
theorem all_fclause {e : PM Nat} (he : All e) : All (fclause e) := all_bind (all_needK (by omega)) fun _ => all_bind (all_args he) fun _ => all_tail he _ _ _
theorem all_gclause {e : PM Nat} (he : All e) : All (gclause e) := all_bind all_here fun _ => all_bind (all_args he) fun _ => all_tail he _ _ _
theorem all_clause {e : PM Nat} (he : All e) : All (clause e) := all_bind all_here fun _ => all_bind he fun _ => all_tail he _ _ _
theorem good_leaf {s : PS} (hk : (hd s).k ≠ 8) : Good s leaf := good_bind (good_next hk) fun _ s' _ => all_lay _ s'
theorem all_cls : All cls :=
  all_on fun s => good_bind (all_ahead s) fun u s' hu => by
    cases hu
    exact good_ite (fun h => good_ite (fun _ => good_bind (good_leaf (by omega)) fun _ s' _ => all_bind (all_need _) (fun _ => all_pure _) s') fun _ => all_giveUp _ s) fun _ => all_lay _ s
theorem all_cclause {e : PM Nat} (he : All e) : All (cclause e) := all_bind all_here fun _ => all_bind all_cls fun _ => all_bind he fun _ => all_tail he _ _ _
theorem all_moreC {c : PM Nat} (hc : All c) : ∀ k l, All (moreC c k l)
  | 0, _ => all_pure _
  | k + 1, _ => all_bind (all_take _) fun _ => all_ite (all_bind hc fun _ => all_moreC hc k _) (all_pure _)
theorem all_clauses {c : PM Nat} (hc : All c) : All (clauses c) :=
  all_bind all_here fun _ => all_bind hc fun _ => all_bind all_left fun _ => all_bind (all_moreC hc _ _) fun _ => all_lay _
theorem all_clausesBehind {c : PM Nat} (w : ByteArray) (hc : All c) : All (clausesBehind w c) := all_bind (all_take _) fun _ => all_ite (all_clauses hc) (all_layNone _)
theorem good_begin {e : PM Nat} (he : All e) {s : PS} (hk : (hd s).k ≠ 8) : Good s (begin e) :=
  good_bind (good_next hk) fun _ s' _ => all_bind (all_exprs he _) (fun _ => all_bind (all_need _) fun _ => all_lay _) s'
theorem good_choice {e : PM Nat} (he : All e) {s : PS} (hk : (hd s).k ≠ 8) : Good s (choice e) :=
  good_bind (good_next hk) fun _ s' _ => all_bind he (fun _ => all_bind (all_need _) fun _ => all_bind (all_clauses (all_clause he)) fun _ => all_bind (all_need _) fun _ => all_lay _) s'
theorem good_funName (p : Nat) {s : PS} (hk : (hd s).k ≠ 8) : Good s (funName p) :=
  good_bind (good_next hk) fun _ s' _ => all_bind (all_need _) (fun _ => all_bind (all_needK (by omega)) fun _ => all_ite (all_fault _ _) (all_lay _)) s'
theorem good_fn {e : PM Nat} (he : All e) {s : PS} (hk : (hd s).k ≠ 8) : Good s (fn e) :=
  good_bind (good_next hk) fun _ s' _ => all_on (fun s => good_ite (fun h => good_funName _ (by omega)) fun _ => all_bind (all_clauses (all_gclause he)) (fun _ => all_bind (all_need _) fun _ => all_lay _) s) s'
theorem all_afterB {e : PM Nat} (he : All e) : All (afterB e) :=
  all_bind (all_take _) fun _ => all_ite (all_bind (all_body he) fun _ => all_pure _) (all_bind (all_layNone _) fun _ => all_pure _)
theorem good_tryOf {e : PM Nat} (he : All e) {s : PS} (hk : (hd s).k ≠ 8) : Good s (tryOf e) :=
  good_bind (good_next hk) fun _ s' _ => all_bind (all_body he) (fun _ => all_bind (all_clausesBehind _ (all_clause he)) fun _ => all_bind all_here fun _ =>
    all_bind (all_clausesBehind _ (all_cclause he)) fun _ => all_bind all_here fun _ => all_ite (all_bind (all_afterB he) fun _ => all_bind (all_need _) fun _ => all_lay _) (all_giveUp _)) s'
theorem all_patience : All patience :=
  all_on fun s => good_ite (fun h => good_bind (good_next (isA_k h)) fun _ s' _ => all_pure _ s') fun _ =>
    good_ite (fun h => good_bind (good_next (by omega)) fun _ s' _ => all_pure _ s') fun _ => all_giveUp _ s
theorem all_received {e : PM Nat} (he : All e) : All (received e) := all_bind all_here fun _ => all_ite (all_layNone _) (all_clauses (all_clause he))
theorem all_afterR {e : PM Nat} (he : All e) : All (afterR e) :=
  all_bind (all_take _) fun _ => all_ite (all_bind all_patience fun _ => all_bind (all_need _) fun _ => all_bind (all_body he) fun _ => all_pure _) (all_bind (all_layNone _) fun _ => all_pure _)
theorem good_receive {e : PM Nat} (he : All e) {s : PS} (hk : (hd s).k ≠ 8) : Good s (receive e) :=
  good_bind (good_next hk) fun _ s' _ => all_bind (all_received he) (fun _ => all_bind (all_afterR he) fun _ => all_bind (all_need _) fun _ => all_lay _) s'
theorem good_worded {e : PM Nat} (he : All e) {s : PS} (hk : (hd s).k ≠ 8) : Good s (worded e) :=
  good_bind (all_here s) fun t s' h => by
    cases h
    exact good_ite (fun _ => good_begin he hk) fun _ => good_ite (fun _ => good_choice he hk) fun _ => good_ite (fun _ => good_fn he hk) fun _ =>
      good_ite (fun _ => good_tryOf he hk) fun _ => good_ite (fun _ => good_receive he hk) fun _ => all_giveUp _ s
theorem good_tuple {e : PM Nat} (he : All e) {s : PS} (hk : (hd s).k ≠ 8) : Good s (tuple e) :=
  good_bind (good_next hk) fun _ s' _ => all_bind all_here (fun _ => all_ite (all_bind (all_need _) fun _ => all_lay _) (all_bind (all_exprs he _) fun _ => all_bind (all_need _) fun _ => all_lay _)) s'
theorem good_list {e : PM Nat} (he : All e) {s : PS} (hk : (hd s).k ≠ 8) : Good s (list e) :=
  good_bind (good_next hk) fun _ s' _ => all_bind all_here (fun _ => all_ite (all_bind (all_need _) fun _ => all_lay _) (all_bind (all_exprs he _) fun _ => all_bind (all_take _) fun _ =>
    all_ite (all_bind he fun _ => all_bind (all_need _) fun _ => all_lay _) (all_bind (all_need _) fun _ => all_lay _))) s'
theorem good_bracketed {e : PM Nat} (he : All e) {s : PS} (hk : (hd s).k ≠ 8) : Good s (bracketed e) :=
  good_bind (all_here s) fun t s' h => by
    cases h
    exact good_ite (fun _ => good_bind (good_next hk) fun _ s' _ => all_bind he (fun _ => all_bind (all_need _) fun _ => all_pure _) s') fun _ =>
      good_ite (fun _ => good_tuple he hk) fun _ => good_ite (fun _ => good_list he hk) fun _ => all_giveUp _ s
theorem all_primary {e : PM Nat} (he : All e) : All (primary e) :=
  all_on fun s => good_ite (fun h => good_leaf (by omega)) fun _ => good_ite (fun h => good_bracketed he (by omega)) fun _ => good_ite (fun h => good_worded he (by omega)) fun _ => all_giveUp _ s
theorem all_called {e : PM Nat} (he : All e) : All (called e) :=
  all_on fun s => good_bind (all_ahead s) fun u s' hu => by
    cases hu
    exact good_ite (fun h => good_bind (good_next (by omega)) fun _ s' _ => all_bind (all_args he) (fun _ => all_lay _) s') fun _ => all_primary he s
theorem all_applied {e : PM Nat} (he : All e) (p : Nat) : ∀ k x, All (applied e p k x)
  | 0, _ => all_pure _
  | k + 1, _ => all_bind all_here fun _ => all_ite (all_bind (all_args he) fun _ => all_bind (all_lay _) fun _ => all_applied he p k _) (all_pure _)
theorem all_call {e : PM Nat} (he : All e) : All (call e) := all_bind all_here fun _ => all_bind (all_called he) fun _ => all_bind all_left fun _ => all_applied he _ _ _
theorem all_signs : ∀ k l, All (signs k l)
  | 0, _ => all_pure _
  | k + 1, _ => all_on fun s => good_ite (fun h => good_bind (good_next (by rcases h with h | h <;> exact isM_k h)) fun _ s' _ => all_signs k _ s') fun _ => all_pure _ s
theorem all_layOps : ∀ l x, All (layOps l x)
  | [], _ => all_pure _
  | _ :: r, x => all_bind (all_layOps r x) fun _ => all_op _ _ _
theorem all_unary {e : PM Nat} (he : All e) : All (unary e) := all_bind all_left fun _ => all_bind (all_signs _ _) fun _ => all_bind (all_call he) fun _ => all_layOps _ _
theorem all_leftward {m : PM Nat} (hm : All m) {sg : Tk → Bool} (hs : ∀ t, sg t = true → t.k ≠ 8) (p : Nat) : ∀ k x, All (leftward m sg p k x)
  | 0, _ => all_pure _
  | k + 1, _ => all_on fun s => good_ite (fun h => good_bind (good_next (hs _ h)) fun _ s' _ => all_bind hm (fun _ => all_bind (all_op _ _ _) fun _ => all_leftward hm hs p k _) s') fun _ => all_pure _ s
theorem isMul_k (t : Tk) (h : isMul t = true) : t.k ≠ 8 := by
  simp only [isMul, Bool.or_eq_true] at h
  rcases h with ((h | h) | h) | h <;> exact isM_k h
theorem isAdd_k (t : Tk) (h : isAdd t = true) : t.k ≠ 8 := by
  simp only [isAdd, Bool.or_eq_true] at h
  rcases h with h | h <;> exact isM_k h
theorem isCmp_k (t : Tk) (h : isCmp t = true) : t.k ≠ 8 := by
  simp only [isCmp, Bool.or_eq_true] at h
  rcases h with ((((((h | h) | h) | h) | h) | h) | h) | h <;> exact isM_k h
theorem all_mul {e : PM Nat} (he : All e) : All (mul e) := all_bind all_here fun _ => all_bind (all_unary he) fun _ => all_bind all_left fun _ => all_leftward (all_unary he) isMul_k _ _ _
theorem all_add {e : PM Nat} (he : All e) : All (add e) := all_bind all_here fun _ => all_bind (all_mul he) fun _ => all_bind all_left fun _ => all_leftward (all_mul he) isAdd_k _ _ _
theorem all_rightward {m : PM Nat} (hm : All m) (w : ByteArray) : ∀ k, All (rightward m w k)
  | 0 => hm
  | k + 1 => all_bind all_here fun _ => all_bind hm fun _ => all_bind (all_take _) fun _ => all_ite (all_bind (all_rightward hm w k) fun _ => all_op _ _ _) (all_pure _)
theorem all_right {m : PM Nat} (hm : All m) (w : ByteArray) : All (right m w) := all_bind all_left fun _ => all_rightward hm w _
theorem all_appends {e : PM Nat} (he : All e) : All (appends e) := all_right (all_add he) _
theorem all_compare {e : PM Nat} (he : All e) : All (compare e) :=
  all_bind all_here fun _ => all_bind (all_appends he) fun _ => all_on fun s => good_ite (fun h => good_bind (good_next (isCmp_k _ h)) fun _ s' _ => all_bind (all_appends he) (fun _ => all_op _ _ _) s') fun _ => all_pure _ s
theorem all_orelse {e : PM Nat} (he : All e) : All (orelse e) := all_right (all_right (all_compare he) _) _
theorem all_opened {e : PM Nat} (he : All e) : All (opened e) :=
  all_bind all_here fun _ => all_bind (all_take _) fun _ => all_ite (all_bind he fun _ => all_lay _) (all_bind (all_orelse he) fun _ => all_bind (all_take _) fun _ =>
    all_ite (all_bind he fun _ => all_lay _) (all_bind (all_take _) fun _ => all_ite (all_bind he fun _ => all_op _ _ _) (all_pure _)))
theorem all_expr : ∀ k, All (expr k)
  | 0 => all_giveUp _
  | k + 1 => by
    intro s hn b t hb
    simp only [expr] at hb
    split at hb
    · cases hb
    · cases hm : opened (expr k) { s with o := s.o + 1 } with
      | error e => simp [hm] at hb
      | ok p =>
        obtain ⟨a, s'⟩ := p
        simp only [hm] at hb
        cases hb
        obtain ⟨⟨h1, h2, h3⟩, h4⟩ := all_opened (all_expr k) { s with o := s.o + 1 } hn b s' hm
        exact ⟨⟨h1, h2, by simp only at h3 ⊢; omega⟩, h4⟩
end Gm

end Go.Proofs.YtdpfmmbfidknfaaGreatDoor


/- Operators in a row, with brackets and without: what the grammar tells of both. -/
namespace Go.Proofs.YtdpfmmbfidknfaaGreatDoor

/-- A digit, an operator (by its number), brackets. -/
inductive Ex where
  | d (n : Nat)
  | o (s : Nat) (l r : Ex)
  | br (e : Ex)

def opX : Nat → ByteArray
  | 0 => ⟨#[111, 114, 101, 108, 115, 101]⟩
  | 1 => ⟨#[97, 110, 100, 97, 108, 115, 111]⟩
  | 2 => ⟨#[61, 61]⟩
  | 3 => ⟨#[60]⟩
  | 4 => ⟨#[61, 58, 61]⟩
  | 5 => ⟨#[43, 43]⟩
  | 6 => ⟨#[43]⟩
  | 7 => ⟨#[45]⟩
  | 8 => ⟨#[42]⟩
  | 9 => ⟨#[47]⟩
  | 10 => ⟨#[100, 105, 118]⟩
  | _ => ⟨#[114, 101, 109]⟩
def opK (s : Nat) : Int := if s = 0 ∨ s = 1 ∨ s = 10 ∨ s = 11 then 7 else 6
/-- How tightly an operator binds. -/
def lev : Nat → Nat
  | 0 => 1
  | 1 => 2
  | 2 => 3
  | 3 => 3
  | 4 => 3
  | 5 => 4
  | 6 => 5
  | 7 => 5
  | _ => 6
def opT (s : Nat) : Tk := ⟨opK s, opX s, 0, 0, 0⟩
def dT (n : Nat) : Tk := ⟨3, ⟨#[]⟩, (n : Int), 0, 0⟩
def lT : Tk := ⟨6, ⟨#[40]⟩, 0, 0, 0⟩
def rT : Tk := ⟨6, ⟨#[41]⟩, 0, 0, 0⟩

namespace Ex
def toks : Ex → List Tk
  | d n => [dT n]
  | o s l r => toks l ++ opT s :: toks r
  | br e => lT :: (toks e ++ [rT])
def sz : Ex → Nat
  | d _ => 1
  | o _ l r => sz l + sz r + 1
  | br e => sz e
/-- How great it is, brackets and all. -/
def big : Ex → Nat
  | d _ => 1
  | o _ l r => big l + big r + 1
  | br e => big e + 1
def emit : Nat → Ex → List Nd
  | _, d n => [⟨1, ⟨#[]⟩, (n : Int), 0, [], 0⟩]
  | b, o s l r => emit b l ++ (emit (b + sz l) r ++ [⟨9, opX s, 0, 0, [b + sz l - 1, b + sz l + sz r - 1], 0⟩])
  | b, br e => emit b e
def lo : Ex → Nat
  | o s _ _ => lev s
  | _ => 7
def dep : Ex → Nat
  | d _ => 0
  | o _ l r => max (dep l) (dep r)
  | br e => dep e + 1
/-- What may stand on both sides of an operator. -/
def Side (v a b : Nat) : Prop := if v = 5 ∨ v = 6 then v ≤ a ∧ v < b else if v = 3 then v < a ∧ v < b else v < a ∧ v ≤ b
def WF : Ex → Prop
  | d _ => True
  | o s l r => s < 12 ∧ WF l ∧ WF r ∧ Side (lev s) (lo l) (lo r)
  | br e => WF e

theorem sz_pos : ∀ e : Ex, 0 < sz e
  | d _ => by simp [sz]
  | o _ l r => by simp [sz]
  | br e => sz_pos e
theorem emit_len : ∀ (e : Ex) (b : Nat), (emit b e).length = sz e
  | d _, _ => rfl
  | o s l r, b => by simp only [emit, List.length_append, emit_len l, emit_len r, sz, List.length_singleton]; omega
  | br e, b => emit_len e b
theorem toks_hd : ∀ e : Ex, ∃ t l, toks e = t :: l ∧ ((∃ n, t = dT n) ∨ t = lT)
  | d n => ⟨_, _, rfl, .inl ⟨n, rfl⟩⟩
  | o s l r => by
    obtain ⟨t, k, h, h2⟩ := toks_hd l
    exact ⟨t, k ++ opT s :: toks r, by simp only [toks, h, List.cons_append], h2⟩
  | br e => ⟨_, _, rfl, .inr rfl⟩
end Ex

theorem of12 {P : Nat → Prop} (h0 : P 0) (h1 : P 1) (h2 : P 2) (h3 : P 3) (h4 : P 4) (h5 : P 5) (h6 : P 6) (h7 : P 7) (h8 : P 8) (h9 : P 9) (h10 : P 10) (h11 : P 11) (s : Nat) (hs : s < 12) : P s := by
  have : s = 0 ∨ s = 1 ∨ s = 2 ∨ s = 3 ∨ s = 4 ∨ s = 5 ∨ s = 6 ∨ s = 7 ∨ s = 8 ∨ s = 9 ∨ s = 10 ∨ s = 11 := by omega
  rcases this with rfl | rfl | rfl | rfl | rfl | rfl | rfl | rfl | rfl | rfl | rfl | rfl <;> assumption

namespace Gm
/-- Nothing that an expression of that level goes on with. -/
structure NoOp (v : Nat) (t : Tk) : Prop where
  b : isM t ⟨#[40]⟩ = false
  m : v ≤ 6 → isMul t = false
  a : v ≤ 5 → isAdd t = false
  c : v ≤ 4 → isM t ⟨#[43, 43]⟩ = false
  q : v ≤ 3 → isCmp t = false
  n : v ≤ 2 → isM t ⟨#[97, 110, 100, 97, 108, 115, 111]⟩ = false
  r : v ≤ 1 → isM t ⟨#[111, 114, 101, 108, 115, 101]⟩ = false
  e : v = 0 → isM t ⟨#[61]⟩ = false ∧ isM t ⟨#[33]⟩ = false
theorem NoOp.weak {v v' : Nat} {t : Tk} (h : NoOp v t) (hv : v ≤ v') : NoOp v' t :=
  ⟨h.b, fun g => h.m (by omega), fun g => h.a (by omega), fun g => h.c (by omega), fun g => h.q (by omega), fun g => h.n (by omega), fun g => h.r (by omega), fun g => h.e (by omega)⟩
theorem noOp_op (s : Nat) (hs : s < 12) : ∀ v, lev s < v → NoOp v (opT s) := by
  refine of12 (P := fun s => ∀ v, lev s < v → NoOp v (opT s)) ?_ ?_ ?_ ?_ ?_ ?_ ?_ ?_ ?_ ?_ ?_ ?_ s hs
  all_goals
    intro v hv
    simp only [lev] at hv
    exact ⟨rfl, fun h => (by first | rfl | omega), fun h => (by first | rfl | omega), fun h => (by first | rfl | omega), fun h => (by first | rfl | omega), fun h => (by first | rfl | omega), fun h => (by first | rfl | omega), fun h => (by omega)⟩
theorem noOp_r (v : Nat) : NoOp v rT := ⟨rfl, fun _ => rfl, fun _ => rfl, fun _ => rfl, fun _ => rfl, fun _ => rfl, fun _ => rfl, fun _ => ⟨rfl, rfl⟩⟩
theorem op_mul (s : Nat) (hs : s < 12) : lev s = 6 → isMul (opT s) = true := by
  refine of12 (P := fun s => lev s = 6 → isMul (opT s) = true) ?_ ?_ ?_ ?_ ?_ ?_ ?_ ?_ ?_ ?_ ?_ ?_ s hs
  all_goals (intro h; first | rfl | (simp only [lev] at h; omega))
theorem op_add (s : Nat) (hs : s < 12) : lev s = 5 → isAdd (opT s) = true := by
  refine of12 (P := fun s => lev s = 5 → isAdd (opT s) = true) ?_ ?_ ?_ ?_ ?_ ?_ ?_ ?_ ?_ ?_ ?_ ?_ s hs
  all_goals (intro h; first | rfl | (simp only [lev] at h; omega))
theorem op_cmp (s : Nat) (hs : s < 12) : lev s = 3 → isCmp (opT s) = true := by
  refine of12 (P := fun s => lev s = 3 → isCmp (opT s) = true) ?_ ?_ ?_ ?_ ?_ ?_ ?_ ?_ ?_ ?_ ?_ ?_ s hs
  all_goals (intro h; first | rfl | (simp only [lev] at h; omega))
theorem op_right (s : Nat) (hs : s < 12) : (lev s = 4 → s = 5) ∧ (lev s = 2 → s = 1) ∧ (lev s = 1 → s = 0) := by
  refine of12 (P := fun s => (lev s = 4 → s = 5) ∧ (lev s = 2 → s = 1) ∧ (lev s = 1 → s = 0)) ?_ ?_ ?_ ?_ ?_ ?_ ?_ ?_ ?_ ?_ ?_ ?_ s hs
  all_goals decide
theorem lev_in (s : Nat) (hs : s < 12) : 1 ≤ lev s ∧ lev s ≤ 6 := by
  refine of12 (P := fun s => 1 ≤ lev s ∧ lev s ≤ 6) ?_ ?_ ?_ ?_ ?_ ?_ ?_ ?_ ?_ ?_ ?_ ?_ s hs
  all_goals decide

/-- The parser of a level. -/
def lv (E : PM Nat) : Nat → PM Nat
  | 0 => opened E
  | 1 => orelse E
  | 2 => andalso E
  | 3 => compare E
  | 4 => appends E
  | 5 => add E
  | 6 => mul E
  | _ => unary E

/-- It reads such an expression, if what stands behind it does not go on with it. -/
def Run (m : PM Nat) (o : Nat) (e : Ex) (ok : Tk → Prop) : Prop :=
  ∀ (t : Tk) (rest : List Tk) (ns : List Nd), ok t → ns.length + e.sz ≤ 16384 → m ⟨e.toks ++ t :: rest, ns, o⟩ = .ok (ns.length + e.sz - 1, ⟨t :: rest, ns ++ e.emit ns.length, o⟩)

theorem here_b {β : Type} (f : Tk → PM β) (s : PS) : (here >>= f) s = f (hd s) s := rfl
theorem ahead_b {β : Type} (f : Tk → PM β) (s : PS) : (ahead >>= f) s = f (hd2 s) s := rfl
theorem left_b {β : Type} (f : Nat → PM β) (s : PS) : (left >>= f) s = f s.ts.length s := rfl
theorem next_b {β : Type} (f : Tk → PM β) (s : PS) : (next >>= f) s = f (hd s) (cut s) := rfl
theorem take_yes {β : Type} {w : ByteArray} {f : Bool → PM β} {s : PS} (h : isM (hd s) w = true) : (take w >>= f) s = f true (cut s) := by
  rw [bind_at]; unfold take; rw [if_pos h]
theorem take_no {β : Type} {w : ByteArray} {f : Bool → PM β} {s : PS} (h : isM (hd s) w = false) : (take w >>= f) s = f false s := by
  rw [bind_at]; unfold take; rw [if_neg (by rw [h]; simp)]
theorem need_b {β : Type} {w : ByteArray} {f : Unit → PM β} {s : PS} (h : isM (hd s) w = true) : (need w >>= f) s = f () (cut s) := by
  rw [bind_at]; unfold need; rw [if_pos h]
theorem run_b {α β : Type} {m : PM α} {f : α → PM β} {s s' : PS} {a : α} (h : m s = .ok (a, s')) : (m >>= f) s = f a s' := by rw [bind_at, h]
theorem lay_ok (n : Nd) (ts : List Tk) (ns : List Nd) (o : Nat) (h : ns.length + 1 ≤ 16384) : lay n ⟨ts, ns, o⟩ = .ok (ns.length, ⟨ts, ns ++ [n], o⟩) := by
  unfold lay
  rw [if_neg (by simp only; omega)]
theorem pure_at {α : Type} (a : α) (s : PS) : (pure a : PM α) s = .ok (a, s) := rfl

theorem first_p {e : Ex} {r : List Tk} {ns : List Nd} {o : Nat} : (hd ⟨e.toks ++ r, ns, o⟩).p = 0 := by
  obtain ⟨t, l, h, h2⟩ := e.toks_hd
  rw [h]
  rcases h2 with ⟨n, rfl⟩ | rfl <;> rfl
theorem first_no {e : Ex} {r : List Tk} {ns : List Nd} {o : Nat} : isM (hd ⟨e.toks ++ r, ns, o⟩) ⟨#[99, 97, 116, 99, 104]⟩ = false ∧ isM (hd ⟨e.toks ++ r, ns, o⟩) ⟨#[45]⟩ = false ∧ isM (hd ⟨e.toks ++ r, ns, o⟩) ⟨#[110, 111, 116]⟩ = false := by
  obtain ⟨t, l, h, h2⟩ := e.toks_hd
  rw [h]
  rcases h2 with ⟨n, rfl⟩ | rfl <;> exact ⟨rfl, rfl, rfl⟩

/-- A loop from the left, with what it has read. -/
def Lp (m : PM Nat) (sg : Tk → Bool) (o : Nat) (e : Ex) (ok : Tk → Prop) : Prop :=
  ∀ (t : Tk) (rest : List Tk) (ns : List Nd), ok t → ns.length + e.sz ≤ 16384 → ∃ k', rest.length < k' ∧ (do let x ← m; let k ← left; leftward m sg 0 k x : PM Nat) ⟨e.toks ++ t :: rest, ns, o⟩ = leftward m sg 0 k' (ns.length + e.sz - 1) ⟨t :: rest, ns ++ e.emit ns.length, o⟩
theorem lp_run {m : PM Nat} {sg : Tk → Bool} {o : Nat} {e : Ex} {ok : Tk → Prop} (h : Run m o e ok) : Lp m sg o e ok := by
  intro t rest ns ht hb
  exact ⟨(t :: rest).length, by simp, by rw [run_b (h t rest ns ht hb), left_b]⟩
theorem lp_step {m : PM Nat} {sg : Tk → Bool} {o s : Nat} {l r : Ex} {ok : Tk → Prop} (hs : sg (opT s) = true) (ho : ok (opT s)) (hl : Lp m sg o l ok) (hr : Run m o r ok) : Lp m sg o (.o s l r) ok := by
  intro t rest ns ht hb
  have hz := l.sz_pos
  have hzr := r.sz_pos
  have hl2 : ns.length + l.sz ≤ 16384 := by simp only [Ex.sz] at hb; omega
  obtain ⟨k', hk', he⟩ := hl (opT s) (r.toks ++ t :: rest) ns ho hl2
  obtain ⟨k, rfl⟩ : ∃ k, k' = k + 1 := ⟨k' - 1, by omega⟩
  refine ⟨k, by simp only [List.length_append, List.length_cons] at hk'; omega, ?_⟩
  have e1 : (Ex.o s l r).toks ++ t :: rest = l.toks ++ opT s :: (r.toks ++ t :: rest) := by simp only [Ex.toks, List.append_assoc, List.cons_append]
  rw [e1, he]
  simp only [leftward]
  rw [here_b]
  have h1 : hd ⟨opT s :: (r.toks ++ t :: rest), ns ++ l.emit ns.length, o⟩ = opT s := rfl
  have h2 : cut ⟨opT s :: (r.toks ++ t :: rest), ns ++ l.emit ns.length, o⟩ = ⟨r.toks ++ t :: rest, ns ++ l.emit ns.length, o⟩ := rfl
  rw [h1, if_pos hs, next_b, h2, run_b (hr t rest (ns ++ l.emit ns.length) ht (by simp only [Ex.sz] at hb; rw [List.length_append, Ex.emit_len]; omega))]
  unfold op
  rw [run_b (lay_ok _ _ _ _ (by simp only [Ex.sz] at hb; simp only [List.length_append, Ex.emit_len]; omega))]
  simp only [List.length_append, Ex.emit_len, Ex.emit, Ex.sz, List.append_assoc, opT]
  rw [show ns.length + (l.sz + r.sz) = ns.length + (l.sz + r.sz + 1) - 1 by omega]
theorem lp_all {m : PM Nat} {sg : Tk → Bool} {o v : Nat} {ok : Tk → Prop} (hsg : ∀ s, s < 12 → lev s = v → sg (opT s) = true ∧ ok (opT s)) (hv : v = 5 ∨ v = 6) (G : Ex → Prop) (hG : ∀ s l r, G (.o s l r) → G l ∧ G r) (N : Nat) (H : ∀ e, e.big < N → e.WF → G e → v < e.lo → Run m o e ok) :
    ∀ e : Ex, e.big < N → e.WF → G e → v ≤ e.lo → Lp m sg o e ok
  | .d n, hN, hw, hg, hv2 => lp_run (H _ hN hw hg (by simp only [Ex.lo]; omega))
  | .br e, hN, hw, hg, hv2 => lp_run (H _ hN hw hg (by simp only [Ex.lo]; omega))
  | .o s l r, hN, hw, hg, hv2 => by
    by_cases h : v < lev s
    · exact lp_run (H _ hN hw hg h)
    · have he : lev s = v := by simp only [Ex.lo] at hv2; omega
      obtain ⟨w1, w2, w3, w4⟩ := hw
      rw [he, Ex.Side, if_pos hv] at w4
      obtain ⟨g1, g2⟩ := hG s l r hg
      obtain ⟨a1, a2⟩ := hsg s w1 he
      simp only [Ex.big] at hN
      exact lp_step a1 a2 (lp_all hsg hv G hG N H l (by omega) w2 g1 w4.1) (H r (by omega) w3 g2 w4.2)
/-- A loop that ends. -/
theorem run_lp {m : PM Nat} {sg : Tk → Bool} {o : Nat} {e : Ex} {ok ok' : Tk → Prop} (h : Lp m sg o e ok) (hk : ∀ t, ok' t → ok t ∧ sg t = false) : Run (do let t ← here; let x ← m; let k ← left; leftward m sg t.p k x) o e ok' := by
  intro t rest ns ht hb
  obtain ⟨k', hk', he⟩ := h t rest ns (hk t ht).1 hb
  obtain ⟨k, rfl⟩ : ∃ k, k' = k + 1 := ⟨k' - 1, by omega⟩
  rw [here_b, first_p, he]
  simp only [leftward]
  rw [here_b]
  have h1 : hd ⟨t :: rest, ns ++ e.emit ns.length, o⟩ = t := rfl
  rw [h1, if_neg (by rw [(hk t ht).2]; simp), pure_at]

/-- Rows from the right. -/
theorem right_one {m : PM Nat} {w : ByteArray} {o : Nat} {e : Ex} {ok ok' : Tk → Prop} (h : Run m o e ok) (hk : ∀ t, ok' t → ok t ∧ isM t w = false) (k : Nat) (hkk : 0 < k) : Run (rightward m w k) o e ok' := by
  intro t rest ns ht hb
  obtain ⟨k, rfl⟩ : ∃ k0, k = k0 + 1 := ⟨k - 1, by omega⟩
  simp only [rightward]
  rw [here_b, run_b (h t rest ns (hk t ht).1 hb), take_no (s := ⟨t :: rest, _, _⟩) (hk t ht).2]
  rfl
theorem right_two {m : PM Nat} {w : ByteArray} {o s : Nat} {l r : Ex} {ok ok' : Tk → Prop} (hs : isM (opT s) w = true) (hx : opX s = w) (ho : ok (opT s)) (hl : Run m o l ok) (k : Nat) (hr : Run (rightward m w k) o r ok') : Run (rightward m w (k + 1)) o (.o s l r) ok' := by
  intro t rest ns ht hb
  have hz := l.sz_pos
  have hzr := r.sz_pos
  have hl2 : ns.length + l.sz ≤ 16384 := by simp only [Ex.sz] at hb; omega
  have e1 : (Ex.o s l r).toks ++ t :: rest = l.toks ++ opT s :: (r.toks ++ t :: rest) := by simp only [Ex.toks, List.append_assoc, List.cons_append]
  simp only [rightward]
  rw [here_b, e1, first_p, run_b (hl (opT s) (r.toks ++ t :: rest) ns ho hl2), take_yes (s := ⟨opT s :: (r.toks ++ t :: rest), _, _⟩) hs]
  have h2 : cut ⟨opT s :: (r.toks ++ t :: rest), ns ++ l.emit ns.length, o⟩ = ⟨r.toks ++ t :: rest, ns ++ l.emit ns.length, o⟩ := rfl
  rw [if_pos rfl, h2, run_b (hr t rest (ns ++ l.emit ns.length) ht (by simp only [Ex.sz] at hb; rw [List.length_append, Ex.emit_len]; omega))]
  unfold op
  rw [lay_ok _ _ _ _ (by simp only [Ex.sz] at hb; simp only [List.length_append, Ex.emit_len]; omega)]
  simp only [List.length_append, Ex.emit_len, Ex.emit, Ex.sz, List.append_assoc, hx]
  have n1 : ns.length + (l.sz + r.sz) = ns.length + (l.sz + r.sz + 1) - 1 := by omega
  rw [Nat.add_assoc, n1]
theorem right_all {m : PM Nat} {w : ByteArray} {o v : Nat} {ok ok' : Tk → Prop} (hsg : ∀ s, s < 12 → lev s = v → isM (opT s) w = true ∧ opX s = w ∧ ok (opT s)) (hv : v = 1 ∨ v = 2 ∨ v = 4) (hk : ∀ t, ok' t → ok t ∧ isM t w = false) (G : Ex → Prop) (hG : ∀ s l r, G (.o s l r) → G l ∧ G r) (N : Nat) (H : ∀ e, e.big < N → e.WF → G e → v < e.lo → Run m o e ok) :
    ∀ (e : Ex) (k : Nat), e.big < N → e.WF → G e → v ≤ e.lo → e.toks.length ≤ k → Run (rightward m w k) o e ok'
  | .d n, k, hN, hw, hg, hv2, hkk => right_one (H _ hN hw hg (by simp only [Ex.lo]; omega)) hk k (by simp only [Ex.toks, List.length_singleton] at hkk; omega)
  | .br e, k, hN, hw, hg, hv2, hkk => right_one (H _ hN hw hg (by simp only [Ex.lo]; omega)) hk k (by simp only [Ex.toks, List.length_cons] at hkk; omega)
  | .o s l r, k, hN, hw, hg, hv2, hkk => by
    simp only [Ex.toks, List.length_append, List.length_cons] at hkk
    by_cases h : v < lev s
    · exact right_one (H _ hN hw hg h) hk k (by omega)
    · have he : lev s = v := by simp only [Ex.lo] at hv2; omega
      obtain ⟨w1, w2, w3, w4⟩ := hw
      rw [he, Ex.Side, if_neg (by omega), if_neg (by omega)] at w4
      obtain ⟨g1, g2⟩ := hG s l r hg
      obtain ⟨a1, a2, a3⟩ := hsg s w1 he
      simp only [Ex.big] at hN
      obtain ⟨k, rfl⟩ : ∃ k0, k = k0 + 1 := ⟨k - 1, by omega⟩
      exact right_two a1 a2 a3 (H l (by omega) w2 g1 w4.1) k (right_all hsg hv hk G hG N H r k (by omega) w3 g2 w4.2 (by omega))
theorem run_right {m : PM Nat} {w : ByteArray} {o : Nat} {e : Ex} {ok' : Tk → Prop} (h : ∀ k, e.toks.length ≤ k → Run (rightward m w k) o e ok') : Run (right m w) o e ok' := by
  intro t rest ns ht hb
  unfold right
  rw [left_b]
  exact h _ (by simp only [List.length_append]; omega) t rest ns ht hb
end Gm
end Go.Proofs.YtdpfmmbfidknfaaGreatDoor


