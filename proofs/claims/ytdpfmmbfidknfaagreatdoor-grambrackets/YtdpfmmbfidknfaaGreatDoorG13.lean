import Derived.Test.YtdpfmmbfidknfaaGreatDoorG12
/- The grammar as a pure function: what package gram's parser does, over a list of tokens. -/
namespace Go.Proofs.YtdpfmmbfidknfaaGreatDoor

/-- A node. -/
structure Nd where
  k : Int
  x : ByteArray
  n : Int
  f : Nat
  l : List Nat
  p : Nat

/-- The parser's state: tokens that are not gone through, nodes that are laid, how many expressions are open. -/
structure PS where
  ts : List Tk
  ns : List Nd
  o : Nat

/-- A step of the parser: what it tells and the state behind it, or the fault. -/
def PM (α : Type) : Type := PS → Except (Int × Nat) (α × PS)

instance : Monad PM where
  pure a := fun s => .ok (a, s)
  bind m f := fun s => match m s with
    | .error e => .error e
    | .ok (a, s') => f a s'

namespace Gm
def hd (s : PS) : Tk := s.ts.headD ⟨8, ⟨#[]⟩, 0, 0, 0⟩
def hd2 (s : PS) : Tk := s.ts.tail.headD ⟨8, ⟨#[]⟩, 0, 0, 0⟩
def cut (s : PS) : PS := { s with ts := s.ts.tail }
def isM (t : Tk) (w : ByteArray) : Bool := (decide (t.k = 6) || decide (t.k = 7)) && decide (t.x = w)
def isA (t : Tk) (w : ByteArray) : Bool := decide (t.k = 1) && decide (t.x = w)

def here : PM Tk := fun s => .ok (hd s, s)
def ahead : PM Tk := fun s => .ok (hd2 s, s)
def left : PM Nat := fun s => .ok (s.ts.length, s)
def next : PM Tk := fun s => .ok (hd s, cut s)
def fault {α : Type} (e : Int) (p : Nat) : PM α := fun _ => .error (e, p)
def giveUp {α : Type} (e : Int) : PM α := fun s => .error (e, (hd s).p)
def take (w : ByteArray) : PM Bool := fun s => if isM (hd s) w then .ok (true, cut s) else .ok (false, s)
def need (w : ByteArray) : PM Unit := fun s => if isM (hd s) w then .ok ((), cut s) else .error (24, (hd s).p)
def needK (k : Int) : PM Tk := fun s => if (hd s).k = k then .ok (hd s, cut s) else .error (24, (hd s).p)
def lay (n : Nd) : PM Nat := fun s => if s.ns.length = 16384 then .error (2, n.p) else .ok (s.ns.length, { s with ns := s.ns ++ [n] })
def layNone (k : Int) : PM Nat := do let t ← here; lay ⟨k, ⟨#[]⟩, 0, 0, [], t.p⟩
def op (p : Nat) (x : ByteArray) (l : List Nat) : PM Nat := lay ⟨9, x, 0, 0, l, p⟩

/-- Expressions behind a comma, as many as may be. -/
def more (e : PM Nat) (most : Nat) : Nat → List Nat → PM (List Nat)
  | 0, l => pure l
  | k + 1, l => do
    let b ← take ⟨#[44]⟩
    if b then (if l.length = most then giveUp 2 else do let x ← e; more e most k (l ++ [x])) else pure l
def exprs (e : PM Nat) (most : Nat) : PM (List Nat) := do let x ← e; let k ← left; more e most k [x]
def noBound : Nat := 9223372036854775807
def group (e : PM Nat) (kind : Int) : PM Nat := do
  let t ← here
  let l ← exprs e noBound
  lay ⟨kind, ⟨#[]⟩, 0, 0, l, t.p⟩
def body (e : PM Nat) : PM Nat := group e 19
def guard (e : PM Nat) : PM Nat := do
  let b ← take ⟨#[119, 104, 101, 110]⟩
  if b then group e 22 else layNone 22
def args (e : PM Nat) : PM (List Nat) := do
  need ⟨#[40]⟩
  let b ← take ⟨#[41]⟩
  if b then pure [] else do
    let l ← exprs e 16
    need ⟨#[41]⟩
    pure l
def tail (e : PM Nat) (p : Nat) (x : ByteArray) (l : List Nat) : PM Nat := do
  let g ← guard e
  need ⟨#[45, 62]⟩
  let b ← body e
  lay ⟨21, x, (l.length : Int), 0, l ++ [g, b], p⟩

def fclause (e : PM Nat) : PM Nat := do
  let t ← needK 1
  let l ← args e
  tail e t.p t.x l
def gclause (e : PM Nat) : PM Nat := do
  let t ← here
  let l ← args e
  tail e t.p ⟨#[]⟩ l
def clause (e : PM Nat) : PM Nat := do
  let t ← here
  let x ← e
  tail e t.p ⟨#[]⟩ [x]
def leafKind (k : Int) : Int := if k = 1 then 3 else if k = 2 then 4 else if k = 3 then 1 else if k = 4 then 2 else 5
def leaf : PM Nat := do
  let t ← next
  lay ⟨leafKind t.k, t.x, t.n, t.f, [], t.p⟩
def isClass (t : Tk) : Bool := if t.k = 2 then decide (t.x = ⟨#[95]⟩) else decide (t.x = ⟨#[101, 114, 114, 111, 114]⟩) || decide (t.x = ⟨#[101, 120, 105, 116]⟩) || decide (t.x = ⟨#[116, 104, 114, 111, 119]⟩)
def cls : PM Nat := do
  let t ← here
  let u ← ahead
  if (t.k = 1 ∨ t.k = 2) ∧ isM u ⟨#[58]⟩ = true then
    (if isClass t then do
      let x ← leaf
      need ⟨#[58]⟩
      pure x
    else giveUp 24)
  else lay ⟨3, ⟨#[116, 104, 114, 111, 119]⟩, 0, 0, [], t.p⟩
def cclause (e : PM Nat) : PM Nat := do
  let t ← here
  let c ← cls
  let x ← e
  tail e t.p ⟨#[]⟩ [c, x]

def moreC (c : PM Nat) : Nat → List Nat → PM (List Nat)
  | 0, l => pure l
  | k + 1, l => do
    let b ← take ⟨#[59]⟩
    if b then do let x ← c; moreC c k (l ++ [x]) else pure l
def clauses (c : PM Nat) : PM Nat := do
  let t ← here
  let x ← c
  let k ← left
  let l ← moreC c k [x]
  lay ⟨20, ⟨#[]⟩, 0, 0, l, t.p⟩
def clausesBehind (w : ByteArray) (c : PM Nat) : PM Nat := do
  let b ← take w
  if b then clauses c else layNone 20

def begin (e : PM Nat) : PM Nat := do
  let t ← next
  let l ← exprs e noBound
  need ⟨#[101, 110, 100]⟩
  lay ⟨19, ⟨#[]⟩, 0, 0, l, t.p⟩
def choice (e : PM Nat) : PM Nat := do
  let t ← next
  let x ← e
  need ⟨#[111, 102]⟩
  let c ← clauses (clause e)
  need ⟨#[101, 110, 100]⟩
  lay ⟨15, ⟨#[]⟩, 0, 0, [x, c], t.p⟩
def funName (p : Nat) : PM Nat := do
  let t ← next
  need ⟨#[47]⟩
  let n ← needK 3
  if 16 < n.n then fault 2 n.p else lay ⟨14, t.x, n.n, 0, [], p⟩
def fn (e : PM Nat) : PM Nat := do
  let t ← next
  let u ← here
  if u.k = 1 then funName t.p else do
    let c ← clauses (gclause e)
    need ⟨#[101, 110, 100]⟩
    lay ⟨13, ⟨#[]⟩, 0, 0, [c], t.p⟩
def afterB (e : PM Nat) : PM (Int × Nat) := do
  let b ← take ⟨#[97, 102, 116, 101, 114]⟩
  if b then do let x ← body e; pure (1, x) else do let x ← layNone 19; pure (0, x)
def tryOf (e : PM Nat) : PM Nat := do
  let t ← next
  let b ← body e
  let o ← clausesBehind ⟨#[111, 102]⟩ (clause e)
  let u ← here
  let c ← clausesBehind ⟨#[99, 97, 116, 99, 104]⟩ (cclause e)
  let v ← here
  if isM u ⟨#[99, 97, 116, 99, 104]⟩ = true ∨ isM v ⟨#[97, 102, 116, 101, 114]⟩ = true then do
    let a ← afterB e
    need ⟨#[101, 110, 100]⟩
    lay ⟨16, ⟨#[]⟩, a.1, 0, [b, o, c, a.2], t.p⟩
  else giveUp 24
def patience : PM Int := do
  let t ← here
  if isA t ⟨#[105, 110, 102, 105, 110, 105, 116, 121]⟩ then do let _ ← next; pure 2
  else if t.k = 3 ∧ t.n = 0 then do let _ ← next; pure 1
  else giveUp 24
def received (e : PM Nat) : PM Nat := do
  let t ← here
  if isM t ⟨#[97, 102, 116, 101, 114]⟩ then layNone 20 else clauses (clause e)
def afterR (e : PM Nat) : PM (Int × Nat) := do
  let b ← take ⟨#[97, 102, 116, 101, 114]⟩
  if b then do
    let n ← patience
    need ⟨#[45, 62]⟩
    let x ← body e
    pure (n, x)
  else do let x ← layNone 19; pure (0, x)
def receive (e : PM Nat) : PM Nat := do
  let t ← next
  let c ← received e
  let a ← afterR e
  need ⟨#[101, 110, 100]⟩
  lay ⟨18, ⟨#[]⟩, a.1, 0, [c, a.2], t.p⟩
def worded (e : PM Nat) : PM Nat := do
  let t ← here
  if t.x = ⟨#[98, 101, 103, 105, 110]⟩ then begin e
  else if t.x = ⟨#[99, 97, 115, 101]⟩ then choice e
  else if t.x = ⟨#[102, 117, 110]⟩ then fn e
  else if t.x = ⟨#[116, 114, 121]⟩ then tryOf e
  else if t.x = ⟨#[114, 101, 99, 101, 105, 118, 101]⟩ then receive e
  else giveUp 24

def tuple (e : PM Nat) : PM Nat := do
  let t ← next
  let u ← here
  if isM u ⟨#[125]⟩ then do
    need ⟨#[125]⟩
    lay ⟨6, ⟨#[]⟩, 0, 0, [], t.p⟩
  else do
    let l ← exprs e noBound
    need ⟨#[125]⟩
    lay ⟨6, ⟨#[]⟩, 0, 0, l, t.p⟩
def list (e : PM Nat) : PM Nat := do
  let t ← next
  let u ← here
  if isM u ⟨#[93]⟩ then do
    need ⟨#[93]⟩
    lay ⟨7, ⟨#[]⟩, 0, 0, [], t.p⟩
  else do
    let l ← exprs e noBound
    let b ← take ⟨#[124]⟩
    if b then do
      let x ← e
      need ⟨#[93]⟩
      lay ⟨8, ⟨#[]⟩, 0, 0, l ++ [x], t.p⟩
    else do
      need ⟨#[93]⟩
      lay ⟨7, ⟨#[]⟩, 0, 0, l, t.p⟩
def bracketed (e : PM Nat) : PM Nat := do
  let t ← here
  if t.x = ⟨#[40]⟩ then do
    let _ ← next
    let x ← e
    need ⟨#[41]⟩
    pure x
  else if t.x = ⟨#[123]⟩ then tuple e
  else if t.x = ⟨#[91]⟩ then list e
  else giveUp 24
def primary (e : PM Nat) : PM Nat := do
  let t ← here
  if t.k = 1 ∨ t.k = 2 ∨ t.k = 3 ∨ t.k = 4 ∨ t.k = 5 then leaf
  else if t.k = 6 then bracketed e
  else if t.k = 7 then worded e
  else giveUp 24
def called (e : PM Nat) : PM Nat := do
  let t ← here
  let u ← ahead
  if t.k = 1 ∧ isM u ⟨#[40]⟩ = true then do
    let _ ← next
    let l ← args e
    lay ⟨11, t.x, 0, 0, l, t.p⟩
  else primary e
def applied (e : PM Nat) (p : Nat) : Nat → Nat → PM Nat
  | 0, x => pure x
  | k + 1, x => do
    let t ← here
    if isM t ⟨#[40]⟩ then do
      let l ← args e
      let y ← lay ⟨12, ⟨#[]⟩, 0, 0, x :: l, p⟩
      applied e p k y
    else pure x
def call (e : PM Nat) : PM Nat := do
  let t ← here
  let x ← called e
  let k ← left
  applied e t.p k x
def signs : Nat → List Tk → PM (List Tk)
  | 0, l => pure l
  | k + 1, l => do
    let t ← here
    if isM t ⟨#[45]⟩ = true ∨ isM t ⟨#[110, 111, 116]⟩ = true then do
      let _ ← next
      signs k (l ++ [t])
    else pure l
def layOps : List Tk → Nat → PM Nat
  | [], x => pure x
  | t :: r, x => do
    let y ← layOps r x
    op t.p t.x [y]
def unary (e : PM Nat) : PM Nat := do
  let k ← left
  let l ← signs k []
  let x ← call e
  layOps l x
/-- A row of operators that goes from the left. -/
def leftward (m : PM Nat) (sg : Tk → Bool) (p : Nat) : Nat → Nat → PM Nat
  | 0, x => pure x
  | k + 1, x => do
    let t ← here
    if sg t then do
      let _ ← next
      let y ← m
      let z ← op p t.x [x, y]
      leftward m sg p k z
    else pure x
def isMul (t : Tk) : Bool := isM t ⟨#[42]⟩ || isM t ⟨#[47]⟩ || isM t ⟨#[100, 105, 118]⟩ || isM t ⟨#[114, 101, 109]⟩
def isAdd (t : Tk) : Bool := isM t ⟨#[43]⟩ || isM t ⟨#[45]⟩
def mul (e : PM Nat) : PM Nat := do
  let t ← here
  let x ← unary e
  let k ← left
  leftward (unary e) isMul t.p k x
def add (e : PM Nat) : PM Nat := do
  let t ← here
  let x ← mul e
  let k ← left
  leftward (mul e) isAdd t.p k x
/-- A row of operators that goes from the right. -/
def rightward (m : PM Nat) (w : ByteArray) : Nat → PM Nat
  | 0 => m
  | k + 1 => do
    let t ← here
    let x ← m
    let b ← take w
    if b then do
      let y ← rightward m w k
      op t.p w [x, y]
    else pure x
def right (m : PM Nat) (w : ByteArray) : PM Nat := do let k ← left; rightward m w k
def appends (e : PM Nat) : PM Nat := right (add e) ⟨#[43, 43]⟩
def isCmp (t : Tk) : Bool := isM t ⟨#[61, 61]⟩ || isM t ⟨#[47, 61]⟩ || isM t ⟨#[61, 60]⟩ || isM t ⟨#[60]⟩ || isM t ⟨#[62, 61]⟩ || isM t ⟨#[62]⟩ || isM t ⟨#[61, 58, 61]⟩ || isM t ⟨#[61, 47, 61]⟩
def compare (e : PM Nat) : PM Nat := do
  let t ← here
  let x ← appends e
  let u ← here
  if isCmp u then do
    let _ ← next
    let y ← appends e
    op t.p u.x [x, y]
  else pure x
def andalso (e : PM Nat) : PM Nat := right (compare e) ⟨#[97, 110, 100, 97, 108, 115, 111]⟩
def orelse (e : PM Nat) : PM Nat := right (andalso e) ⟨#[111, 114, 101, 108, 115, 101]⟩
def opened (e : PM Nat) : PM Nat := do
  let t ← here
  let b ← take ⟨#[99, 97, 116, 99, 104]⟩
  if b then do
    let x ← e
    lay ⟨17, ⟨#[]⟩, 0, 0, [x], t.p⟩
  else do
    let x ← orelse e
    let c ← take ⟨#[61]⟩
    if c then do
      let y ← e
      lay ⟨10, ⟨#[]⟩, 0, 0, [x, y], t.p⟩
    else do
      let d ← take ⟨#[33]⟩
      if d then do
        let y ← e
        op t.p ⟨#[33]⟩ [x, y]
      else pure x
/-- An expression: the fuel is how many may still be begun; as many as there are tokens do. -/
def expr : Nat → PM Nat
  | 0 => giveUp 24
  | k + 1 => fun s =>
    if s.o = 200 then .error (25, (hd s).p)
    else match opened (expr k) { s with o := s.o + 1 } with
      | .error e => .error e
      | .ok (x, s') => .ok (x, { s' with o := s'.o - 1 })

def functionOf (e : PM Nat) : PM Nat := do
  let t ← here
  let c ← clauses (fclause e)
  need ⟨#[46]⟩
  fun s =>
    let f := s.ns.getD ((s.ns.getD c ⟨0, ⟨#[]⟩, 0, 0, [], 0⟩).l.headD 0) ⟨0, ⟨#[]⟩, 0, 0, [], 0⟩
    lay ⟨23, f.x, f.n, 0, [c], t.p⟩ s
def functions (e : PM Nat) : Nat → List Nat → PM (List Nat)
  | 0, l => pure l
  | k + 1, l => do
    let t ← here
    if t.k = 8 then pure l else do
      let x ← functionOf e
      functions e k (l ++ [x])
def module (e : PM Nat) : PM Nat := do
  let t ← here
  need ⟨#[45]⟩
  let u ← here
  if isA u ⟨#[109, 111, 100, 117, 108, 101]⟩ then do
    let _ ← next
    need ⟨#[40]⟩
    let n ← needK 1
    need ⟨#[41]⟩
    need ⟨#[46]⟩
    let k ← left
    let l ← functions e k []
    lay ⟨24, n.x, 0, 0, l, t.p⟩
  else giveUp 24
end Gm

/-- The tree of tokens: its nodes and its root, or the fault. -/
def treeOf (ts : List Tk) : Except (Int × Nat) (List Nd × Nat) :=
  match Gm.module (Gm.expr ts.length) ⟨ts, [], 0⟩ with
  | .error e => .error e
  | .ok (r, s) => .ok (s.ns, r)

/-- What every step of the parser keeps: it goes through tokens from the front, lays nodes behind, and shuts what it opened. -/
structure Fr (s s' : PS) : Prop where
  ts : ∃ a, s.ts = a ++ s'.ts
  ns : ∃ b, s'.ns = s.ns ++ b
  o : s'.o = s.o

theorem Fr.refl (s : PS) : Fr s s := ⟨⟨[], rfl⟩, ⟨[], by simp⟩, rfl⟩
theorem Fr.trans {a b c : PS} (h : Fr a b) (g : Fr b c) : Fr a c := by
  obtain ⟨⟨x, hx⟩, ⟨y, hy⟩, ho⟩ := h
  obtain ⟨⟨x', hx'⟩, ⟨y', hy'⟩, ho'⟩ := g
  exact ⟨⟨x ++ x', by rw [hx, hx', List.append_assoc]⟩, ⟨y ++ y', by rw [hy', hy, List.append_assoc]⟩, by rw [ho', ho]⟩
theorem Fr.len {a b : PS} (h : Fr a b) : b.ts.length ≤ a.ts.length := by
  obtain ⟨⟨x, hx⟩, _, _⟩ := h
  rw [hx]; simp

/-- The tokens end with the end, which stands nowhere else. -/
def Ne (s : PS) : Prop := ∃ a t, s.ts = a ++ [t] ∧ t.k = 8 ∧ ∀ u ∈ a, u.k ≠ 8

namespace Gm
theorem ne_hd {s : PS} (h : Ne s) : ∃ r, s.ts = hd s :: r := by
  obtain ⟨a, t, hs, _, _⟩ := h
  cases a with
  | nil => exact ⟨[], by simp [hd, hs]⟩
  | cons u a => exact ⟨a ++ [t], by simp [hd, hs]⟩
theorem ne_cut {s : PS} (h : Ne s) (hk : (hd s).k ≠ 8) : Ne (cut s) ∧ Fr s (cut s) := by
  obtain ⟨a, t, hs, h8, ha⟩ := h
  cases a with
  | nil => exact absurd (by simp [hd, hs, h8]) hk
  | cons u a =>
    exact ⟨⟨a, t, by simp [cut, hs], h8, fun v hv => ha v (List.mem_cons_of_mem _ hv)⟩, ⟨⟨[u], by simp [cut, hs]⟩, ⟨[], by simp [cut]⟩, rfl⟩⟩
/-- A token that is not the end has another one behind it. -/
theorem ne_hd2 {s : PS} (h : Ne s) (hk : (hd s).k ≠ 8) : ∃ r, s.ts = hd s :: hd2 s :: r := by
  obtain ⟨a, t, hs, h8, ha⟩ := h
  cases a with
  | nil => exact absurd (by simp [hd, hs, h8]) hk
  | cons u a =>
    cases a with
    | nil => exact ⟨[], by simp [hd, hd2, hs]⟩
    | cons v a => exact ⟨a ++ [t], by simp [hd, hd2, hs]⟩
theorem isM_k {t : Tk} {w : ByteArray} (h : isM t w = true) : t.k ≠ 8 := by
  simp only [isM, Bool.and_eq_true, Bool.or_eq_true, decide_eq_true_eq] at h
  omega
theorem isA_k {t : Tk} {w : ByteArray} (h : isA t w = true) : t.k ≠ 8 := by
  simp only [isA, Bool.and_eq_true, decide_eq_true_eq] at h
  omega
theorem isM_no {t : Tk} {w : ByteArray} (h : t.k = 8) : isM t w = false := by
  cases hh : isM t w with
  | false => rfl
  | true => exact absurd h (isM_k hh)

/-- A step keeps what is to be kept, from one state on. -/
def Good {α : Type} (s : PS) (m : PM α) : Prop := Ne s → ∀ a s', m s = .ok (a, s') → Fr s s' ∧ Ne s'
def All {α : Type} (m : PM α) : Prop := ∀ s, Good s m

theorem bind_at {α β : Type} (m : PM α) (f : α → PM β) (s : PS) : (m >>= f) s = match m s with | .error e => .error e | .ok (a, s') => f a s' := rfl
theorem good_bind {α β : Type} {m : PM α} {f : α → PM β} {s : PS} (h : Good s m) (g : ∀ a s', m s = .ok (a, s') → Good s' (f a)) : Good s (m >>= f) := by
  intro hn b t hb
  rw [bind_at] at hb
  cases hm : m s with
  | error e => simp [hm] at hb
  | ok p =>
    obtain ⟨a, s'⟩ := p
    simp only [hm] at hb
    obtain ⟨h1, h2⟩ := h hn a s' hm
    obtain ⟨h3, h4⟩ := g a s' hm h2 b t hb
    exact ⟨h1.trans h3, h4⟩
theorem all_bind {α β : Type} {m : PM α} {f : α → PM β} (h : All m) (g : ∀ a, All (f a)) : All (m >>= f) := fun s => good_bind (h s) fun a s' _ => g a s'
theorem all_pure {α : Type} (a : α) : All (pure a : PM α) := by
  intro s hn b t hb
  cases hb
  exact ⟨Fr.refl _, hn⟩
theorem all_here : All here := by intro s hn b t hb; cases hb; exact ⟨Fr.refl _, hn⟩
theorem all_ahead : All ahead := by intro s hn b t hb; cases hb; exact ⟨Fr.refl _, hn⟩
theorem all_left : All left := by intro s hn b t hb; cases hb; exact ⟨Fr.refl _, hn⟩
theorem all_giveUp {α : Type} (e : Int) : All (giveUp e : PM α) := by intro s hn b t hb; cases hb
theorem all_fault {α : Type} (e : Int) (p : Nat) : All (fault e p : PM α) := by intro s hn b t hb; cases hb
theorem all_take (w : ByteArray) : All (take w) := by
  intro s hn b t hb
  simp only [take] at hb
  split at hb
  · rename_i h; cases hb; exact ⟨(ne_cut hn (isM_k h)).2, (ne_cut hn (isM_k h)).1⟩
  · cases hb; exact ⟨Fr.refl _, hn⟩
theorem all_need (w : ByteArray) : All (need w) := by
  intro s hn b t hb
  simp only [need] at hb
  split at hb
  · rename_i h; cases hb; exact ⟨(ne_cut hn (isM_k h)).2, (ne_cut hn (isM_k h)).1⟩
  · cases hb
theorem all_needK {k : Int} (hk : k ≠ 8) : All (needK k) := by
  intro s hn b t hb
  simp only [needK] at hb
  split at hb
  · rename_i h; cases hb; exact ⟨(ne_cut hn (by omega)).2, (ne_cut hn (by omega)).1⟩
  · cases hb
theorem all_lay (n : Nd) : All (lay n) := by
  intro s hn b t hb
  simp only [lay] at hb
  split at hb
  · cases hb
  · cases hb; exact ⟨⟨⟨[], rfl⟩, ⟨[n], rfl⟩, rfl⟩, hn⟩
theorem all_op (p : Nat) (x : ByteArray) (l : List Nat) : All (op p x l) := all_lay _
theorem all_layNone (k : Int) : All (layNone k) := all_bind all_here fun _ => all_lay _
theorem good_next {s : PS} (hk : (hd s).k ≠ 8) : Good s next := by
  intro hn b t hb
  cases hb
  exact ⟨(ne_cut hn hk).2, (ne_cut hn hk).1⟩
theorem all_ite {α : Type} {c : Prop} [Decidable c] {m n : PM α} (h : All m) (g : All n) : All (if c then m else n) := by split <;> assumption
/-- 'here', and what hangs on it. -/
theorem all_on {β : Type} {f : Tk → PM β} (h : ∀ s, Good s (f (hd s))) : All (here >>= f) := fun s => h s
theorem good_ite {α : Type} {c : Prop} [Decidable c] {m n : PM α} {s : PS} (h : c → Good s m) (g : ¬ c → Good s n) : Good s (if c then m else n) := by
  split
  · exact h (by assumption)
  · exact g (by assumption)

theorem all_more {e : PM Nat} (he : All e) (most : Nat) : ∀ k l, All (more e most k l)
  | 0, _ => all_pure _
  | k + 1, _ => all_bind (all_take _) fun _ => all_ite (all_ite (all_giveUp _) (all_bind he fun _ => all_more he most k _)) (all_pure _)
theorem all_exprs {e : PM Nat} (he : All e) (most : Nat) : All (exprs e most) := all_bind he fun _ => all_bind all_left fun _ => all_more he _ _ _
theorem all_group {e : PM Nat} (he : All e) (k : Int) : All (group e k) := all_bind all_here fun _ => all_bind (all_exprs he _) fun _ => all_lay _
theorem all_body {e : PM Nat} (he : All e) : All (body e) := all_group he _
theorem all_guard {e : PM Nat} (he : All e) : All (guard e) := all_bind (all_take _) fun _ => all_ite (all_group he _) (all_layNone _)
theorem all_args {e : PM Nat} (he : All e) : All (args e) :=
  all_bind (all_need _) fun _ => all_bind (all_take _) fun _ => all_ite (all_pure _) (all_bind (all_exprs he _) fun _ => all_bind (all_need _) fun _ => all_pure _)
theorem all_tail {e : PM Nat} (he : All e) (p : Nat) (x : ByteArray) (l : List Nat) : All (tail e p x l) :=
  all_bind (all_guard he) fun _ => all_bind (all_need _) fun _ => all_bind (all_body he) fun _ => all_lay _
theorem all_fclause {e : PM Nat} (he : All e) : All (fclause e) := all_bind (all_needK (by omega)) fun _ => all_bind (all_args he) fun _ => all_tail he _ _ _
theorem all_gclause {e : PM Nat} (he : All e) : All (gclause e) := all_bind all_here fun _ => all_bind (all_args he) fun _ => all_tail he _ _ _
theorem all_clause {e : PM Nat} (he : All e) : All (clause e) := all_bind all_here fun _ => all_bind he fun _ => all_tail he _ _ _
theorem good_leaf {s : PS} (hk : (hd s).k ≠ 8) : Good s leaf := good_bind (good_next hk) fun _ s' _ => all_lay _ s'
theorem all_cls : All cls :=
  all_on fun s => good_bind (all_ahead s) fun u s' hu => by
    cases hu
    exact good_ite (fun h => good_ite (fun _ => good_bind (good_leaf (by omega)) fun _ s' _ => all_bind (all_need _) (fun _ => all_pure _) s') fun _ => all_giveUp _ s) fun _ => all_lay _ s
theorem all_cclause {e : PM Nat} (he : All e) : All (cclause e) := all_bind all_here fun _ => all_bind all_cls fun _ => all_bind he fun _ => all_tail he _ _ _
theorem all_moreC {c : PM Nat} (hc : All c) : ∀ k l, All (moreC c k l)
  | 0, _ => all_pure _
  | k + 1, _ => all_bind (all_take _) fun _ => all_ite (all_bind hc fun _ => all_moreC hc k _) (all_pure _)
theorem all_clauses {c : PM Nat} (hc : All c) : All (clauses c) :=
  all_bind all_here fun _ => all_bind hc fun _ => all_bind all_left fun _ => all_bind (all_moreC hc _ _) fun _ => all_lay _
theorem all_clausesBehind {c : PM Nat} (w : ByteArray) (hc : All c) : All (clausesBehind w c) := all_bind (all_take _) fun _ => all_ite (all_clauses hc) (all_layNone _)
theorem good_begin {e : PM Nat} (he : All e) {s : PS} (hk : (hd s).k ≠ 8) : Good s (begin e) :=
  good_bind (good_next hk) fun _ s' _ => all_bind (all_exprs he _) (fun _ => all_bind (all_need _) fun _ => all_lay _) s'
theorem good_choice {e : PM Nat} (he : All e) {s : PS} (hk : (hd s).k ≠ 8) : Good s (choice e) :=
  good_bind (good_next hk) fun _ s' _ => all_bind he (fun _ => all_bind (all_need _) fun _ => all_bind (all_clauses (all_clause he)) fun _ => all_bind (all_need _) fun _ => all_lay _) s'
theorem good_funName (p : Nat) {s : PS} (hk : (hd s).k ≠ 8) : Good s (funName p) :=
  good_bind (good_next hk) fun _ s' _ => all_bind (all_need _) (fun _ => all_bind (all_needK (by omega)) fun _ => all_ite (all_fault _ _) (all_lay _)) s'
theorem good_fn {e : PM Nat} (he : All e) {s : PS} (hk : (hd s).k ≠ 8) : Good s (fn e) :=
  good_bind (good_next hk) fun _ s' _ => all_on (fun s => good_ite (fun h => good_funName _ (by omega)) fun _ => all_bind (all_clauses (all_gclause he)) (fun _ => all_bind (all_need _) fun _ => all_lay _) s) s'
theorem all_afterB {e : PM Nat} (he : All e) : All (afterB e) :=
  all_bind (all_take _) fun _ => all_ite (all_bind (all_body he) fun _ => all_pure _) (all_bind (all_layNone _) fun _ => all_pure _)
theorem good_tryOf {e : PM Nat} (he : All e) {s : PS} (hk : (hd s).k ≠ 8) : Good s (tryOf e) :=
  good_bind (good_next hk) fun _ s' _ => all_bind (all_body he) (fun _ => all_bind (all_clausesBehind _ (all_clause he)) fun _ => all_bind all_here fun _ =>
    all_bind (all_clausesBehind _ (all_cclause he)) fun _ => all_bind all_here fun _ => all_ite (all_bind (all_afterB he) fun _ => all_bind (all_need _) fun _ => all_lay _) (all_giveUp _)) s'
theorem all_patience : All patience :=
  all_on fun s => good_ite (fun h => good_bind (good_next (isA_k h)) fun _ s' _ => all_pure _ s') fun _ =>
    good_ite (fun h => good_bind (good_next (by omega)) fun _ s' _ => all_pure _ s') fun _ => all_giveUp _ s
theorem all_received {e : PM Nat} (he : All e) : All (received e) := all_bind all_here fun _ => all_ite (all_layNone _) (all_clauses (all_clause he))
theorem all_afterR {e : PM Nat} (he : All e) : All (afterR e) :=
  all_bind (all_take _) fun _ => all_ite (all_bind all_patience fun _ => all_bind (all_need _) fun _ => all_bind (all_body he) fun _ => all_pure _) (all_bind (all_layNone _) fun _ => all_pure _)
theorem good_receive {e : PM Nat} (he : All e) {s : PS} (hk : (hd s).k ≠ 8) : Good s (receive e) :=
  good_bind (good_next hk) fun _ s' _ => all_bind (all_received he) (fun _ => all_bind (all_afterR he) fun _ => all_bind (all_need _) fun _ => all_lay _) s'
theorem good_worded {e : PM Nat} (he : All e) {s : PS} (hk : (hd s).k ≠ 8) : Good s (worded e) :=
  good_bind (all_here s) fun t s' h => by
    cases h
    exact good_ite (fun _ => good_begin he hk) fun _ => good_ite (fun _ => good_choice he hk) fun _ => good_ite (fun _ => good_fn he hk) fun _ =>
      good_ite (fun _ => good_tryOf he hk) fun _ => good_ite (fun _ => good_receive he hk) fun _ => all_giveUp _ s
theorem good_tuple {e : PM Nat} (he : All e) {s : PS} (hk : (hd s).k ≠ 8) : Good s (tuple e) :=
  good_bind (good_next hk) fun _ s' _ => all_bind all_here (fun _ => all_ite (all_bind (all_need _) fun _ => all_lay _) (all_bind (all_exprs he _) fun _ => all_bind (all_need _) fun _ => all_lay _)) s'
theorem good_list {e : PM Nat} (he : All e) {s : PS} (hk : (hd s).k ≠ 8) : Good s (list e) :=
  good_bind (good_next hk) fun _ s' _ => all_bind all_here (fun _ => all_ite (all_bind (all_need _) fun _ => all_lay _) (all_bind (all_exprs he _) fun _ => all_bind (all_take _) fun _ =>
    all_ite (all_bind he fun _ => all_bind (all_need _) fun _ => all_lay _) (all_bind (all_need _) fun _ => all_lay _))) s'
theorem good_bracketed {e : PM Nat} (he : All e) {s : PS} (hk : (hd s).k ≠ 8) : Good s (bracketed e) :=
  good_bind (all_here s) fun t s' h => by
    cases h
    exact good_ite (fun _ => good_bind (good_next hk) fun _ s' _ => all_bind he (fun _ => all_bind (all_need _) fun _ => all_pure _) s') fun _ =>
      good_ite (fun _ => good_tuple he hk) fun _ => good_ite (fun _ => good_list he hk) fun _ => all_giveUp _ s
theorem all_primary {e : PM Nat} (he : All e) : All (primary e) :=
  all_on fun s => good_ite (fun h => good_leaf (by omega)) fun _ => good_ite (fun h => good_bracketed he (by omega)) fun _ => good_ite (fun h => good_worded he (by omega)) fun _ => all_giveUp _ s
theorem all_called {e : PM Nat} (he : All e) : All (called e) :=
  all_on fun s => good_bind (all_ahead s) fun u s' hu => by
    cases hu
    exact good_ite (fun h => good_bind (good_next (by omega)) fun _ s' _ => all_bind (all_args he) (fun _ => all_lay _) s') fun _ => all_primary he s
theorem all_applied {e : PM Nat} (he : All e) (p : Nat) : ∀ k x, All (applied e p k x)
  | 0, _ => all_pure _
  | k + 1, _ => all_bind all_here fun _ => all_ite (all_bind (all_args he) fun _ => all_bind (all_lay _) fun _ => all_applied he p k _) (all_pure _)
theorem all_call {e : PM Nat} (he : All e) : All (call e) := all_bind all_here fun _ => all_bind (all_called he) fun _ => all_bind all_left fun _ => all_applied he _ _ _
theorem all_signs : ∀ k l, All (signs k l)
  | 0, _ => all_pure _
  | k + 1, _ => all_on fun s => good_ite (fun h => good_bind (good_next (by rcases h with h | h <;> exact isM_k h)) fun _ s' _ => all_signs k _ s') fun _ => all_pure _ s
theorem all_layOps : ∀ l x, All (layOps l x)
  | [], _ => all_pure _
  | _ :: r, x => all_bind (all_layOps r x) fun _ => all_op _ _ _
theorem all_unary {e : PM Nat} (he : All e) : All (unary e) := all_bind all_left fun _ => all_bind (all_signs _ _) fun _ => all_bind (all_call he) fun _ => all_layOps _ _
theorem all_leftward {m : PM Nat} (hm : All m) {sg : Tk → Bool} (hs : ∀ t, sg t = true → t.k ≠ 8) (p : Nat) : ∀ k x, All (leftward m sg p k x)
  | 0, _ => all_pure _
  | k + 1, _ => all_on fun s => good_ite (fun h => good_bind (good_next (hs _ h)) fun _ s' _ => all_bind hm (fun _ => all_bind (all_op _ _ _) fun _ => all_leftward hm hs p k _) s') fun _ => all_pure _ s
theorem isMul_k (t : Tk) (h : isMul t = true) : t.k ≠ 8 := by
  simp only [isMul, Bool.or_eq_true] at h
  rcases h with ((h | h) | h) | h <;> exact isM_k h
theorem isAdd_k (t : Tk) (h : isAdd t = true) : t.k ≠ 8 := by
  simp only [isAdd, Bool.or_eq_true] at h
  rcases h with h | h <;> exact isM_k h
theorem isCmp_k (t : Tk) (h : isCmp t = true) : t.k ≠ 8 := by
  simp only [isCmp, Bool.or_eq_true] at h
  rcases h with ((((((h | h) | h) | h) | h) | h) | h) | h <;> exact isM_k h
theorem all_mul {e : PM Nat} (he : All e) : All (mul e) := all_bind all_here fun _ => all_bind (all_unary he) fun _ => all_bind all_left fun _ => all_leftward (all_unary he) isMul_k _ _ _
theorem all_add {e : PM Nat} (he : All e) : All (add e) := all_bind all_here fun _ => all_bind (all_mul he) fun _ => all_bind all_left fun _ => all_leftward (all_mul he) isAdd_k _ _ _
theorem all_rightward {m : PM Nat} (hm : All m) (w : ByteArray) : ∀ k, All (rightward m w k)
  | 0 => hm
  | k + 1 => all_bind all_here fun _ => all_bind hm fun _ => all_bind (all_take _) fun _ => all_ite (all_bind (all_rightward hm w k) fun _ => all_op _ _ _) (all_pure _)
theorem all_right {m : PM Nat} (hm : All m) (w : ByteArray) : All (right m w) := all_bind all_left fun _ => all_rightward hm w _
theorem all_appends {e : PM Nat} (he : All e) : All (appends e) := all_right (all_add he) _
theorem all_compare {e : PM Nat} (he : All e) : All (compare e) :=
  all_bind all_here fun _ => all_bind (all_appends he) fun _ => all_on fun s => good_ite (fun h => good_bind (good_next (isCmp_k _ h)) fun _ s' _ => all_bind (all_appends he) (fun _ => all_op _ _ _) s') fun _ => all_pure _ s
theorem all_orelse {e : PM Nat} (he : All e) : All (orelse e) := all_right (all_right (all_compare he) _) _
theorem all_opened {e : PM Nat} (he : All e) : All (opened e) :=
  all_bind all_here fun _ => all_bind (all_take _) fun _ => all_ite (all_bind he fun _ => all_lay _) (all_bind (all_orelse he) fun _ => all_bind (all_take _) fun _ =>
    all_ite (all_bind he fun _ => all_lay _) (all_bind (all_take _) fun _ => all_ite (all_bind he fun _ => all_op _ _ _) (all_pure _)))
theorem all_expr : ∀ k, All (expr k)
  | 0 => all_giveUp _
  | k + 1 => by
    intro s hn b t hb
    simp only [expr] at hb
    split at hb
    · cases hb
    · cases hm : opened (expr k) { s with o := s.o + 1 } with
      | error e => simp [hm] at hb
      | ok p =>
        obtain ⟨a, s'⟩ := p
        simp only [hm] at hb
        cases hb
        obtain ⟨⟨h1, h2, h3⟩, h4⟩ := all_opened (all_expr k) { s with o := s.o + 1 } hn b s' hm
        exact ⟨⟨h1, h2, by simp only at h3 ⊢; omega⟩, h4⟩
end Gm

end Go.Proofs.YtdpfmmbfidknfaaGreatDoor


/- What a step reads does not hang on what stands behind: one bracket or another. -/
namespace Go.Proofs.YtdpfmmbfidknfaaGreatDoor
namespace Gm

/-- Another bracket in the brace's place: nothing that the grammar asks tells them apart, but for the two brackets themselves. -/
structure Twn (c1 c2 : Tk) : Prop where
  k1 : c1.k = 6
  x1 : c1.x = ⟨#[125]⟩
  k2 : c2.k = 6
  p : c1.p = c2.p
  x2 : c2.x = ⟨#[41]⟩ ∨ c2.x = ⟨#[125]⟩

section
variable {c1 c2 : Tk} {R1 R2 : List Tk} {c : Nat}

/-- Two states: the same tokens up to the end of what is read, then the one bracket or the other; one more is open. -/
structure Rel (c1 c2 : Tk) (R1 R2 : List Tk) (c : Nat) (X : List Tk) (s s' : PS) : Prop where
  ts : s.ts = X ++ c1 :: R1
  ts' : s'.ts = X ++ c2 :: R2
  ns : s'.ns = s.ns
  o : s.o = c
  o' : s'.o = c + 1
  ne : Ne s
/-- It has gone over the brace. -/
def Past (R1 : List Tk) (t : PS) : Prop := Ne t ∧ ∃ Z, R1 = Z ++ t.ts
def Out {α β : Type} (c1 c2 : Tk) (R1 R2 : List Tk) (c : Nat) (r : α → β → Prop) (X : List Tk) (x : Except (Int × Nat) (α × PS)) (x' : Except (Int × Nat) (β × PS)) : Prop :=
  ∀ a t, x = .ok (a, t) → Past R1 t ∨ ∃ Y, (∃ Z, X = Z ++ Y) ∧ t.ts = Y ++ c1 :: R1 ∧ Ne t ∧ t.o = c ∧ ((∃ p, x' = .error (25, p)) ∨ ∃ b t', x' = .ok (b, t') ∧ r a b ∧ Rel c1 c2 R1 R2 c Y t t')
def Rl {α β : Type} (c1 c2 : Tk) (R1 R2 : List Tk) (c : Nat) (r : α → β → Prop) (m : PM α) (m' : PM β) : Prop := ∀ X s s', Rel c1 c2 R1 R2 c X s s' → Out c1 c2 R1 R2 c r X (m s) (m' s')

theorem Out.weak {α β : Type} {r : α → β → Prop} {X Y : List Tk} {x : Except (Int × Nat) (α × PS)} {x' : Except (Int × Nat) (β × PS)} (h : Out c1 c2 R1 R2 c r Y x x') (hX : ∃ Z, X = Z ++ Y) : Out c1 c2 R1 R2 c r X x x' := by
  intro a t ht
  rcases h a t ht with hp | ⟨Y', ⟨Z, hZ⟩, rest⟩
  · exact .inl hp
  · obtain ⟨Z', hZ'⟩ := hX
    exact .inr ⟨Y', ⟨Z' ++ Z, by rw [hZ', hZ, List.append_assoc]⟩, rest⟩

theorem cut_pre {A B U Y : List Tk} {k : Tk} (h : Y ++ k :: A = B ++ U) : (∃ Y', (∃ Z, Y = Z ++ Y') ∧ U = Y' ++ k :: A) ∨ ∃ Z, A = Z ++ U := by
  rcases List.append_eq_append_iff.1 h with ⟨a, h1, h2⟩ | ⟨a, h1, h2⟩
  · cases a with
    | nil => exact .inl ⟨[], ⟨Y, by simp⟩, by simpa using h2.symm⟩
    | cons x a =>
      right
      have h3 := (List.cons.inj h2).2
      exact ⟨a, h3⟩
  · exact .inl ⟨a, ⟨B, h1⟩, h2⟩

theorem rl_bind {α β γ δ : Type} {r : α → γ → Prop} {q : β → δ → Prop} {m : PM α} {m' : PM γ} {f : α → PM β} {f' : γ → PM δ} {X : List Tk} {s s' : PS} (h : Out c1 c2 R1 R2 c r X (m s) (m' s')) (hf : ∀ a, All (f a)) (g : ∀ a b Y t t', r a b → Rel c1 c2 R1 R2 c Y t t' → (∃ Z, X = Z ++ Y) → Out c1 c2 R1 R2 c q Y (f a t) (f' b t')) : Out c1 c2 R1 R2 c q X ((m >>= f) s) ((m' >>= f') s') := by
  intro b u hb
  rw [bind_at] at hb
  cases hm : m s with
  | error e => rw [hm] at hb; cases hb
  | ok p =>
    obtain ⟨a, t⟩ := p
    rw [hm] at hb
    simp only at hb
    rcases h a t hm with ⟨hne, Z, hZ⟩ | ⟨Y, hXY, hts, hne, ho, hd⟩
    · obtain ⟨⟨⟨A, hA⟩, _, _⟩, hne'⟩ := hf a t hne b u hb
      exact .inl ⟨hne', Z ++ A, by rw [hZ, hA, List.append_assoc]⟩
    · rcases hd with ⟨p, hp⟩ | ⟨b', t', hm', hr, hrel⟩
      · obtain ⟨⟨⟨A, hA⟩, _, ho2⟩, hne'⟩ := hf a t hne b u hb
        rw [hts] at hA
        rcases cut_pre hA with ⟨Y', ⟨Z, hZ⟩, hU⟩ | hU
        · obtain ⟨Z0, hZ0⟩ := hXY
          exact .inr ⟨Y', ⟨Z0 ++ Z, by rw [hZ0, hZ, List.append_assoc]⟩, hU, hne', by rw [ho2, ho], .inl ⟨p, by rw [bind_at, hp]⟩⟩
        · exact .inl ⟨hne', hU⟩
      · have := (g a b' Y t t' hr hrel hXY).weak hXY b u hb
        rw [bind_at, hm']
        exact this
/-- Whole steps, one behind the other. -/
theorem rl_then {α β γ δ : Type} {r : α → γ → Prop} {q : β → δ → Prop} {m : PM α} {m' : PM γ} {f : α → PM β} {f' : γ → PM δ} (h : Rl c1 c2 R1 R2 c r m m') (hf : ∀ a, All (f a)) (g : ∀ a b, r a b → Rl c1 c2 R1 R2 c q (f a) (f' b)) : Rl c1 c2 R1 R2 c q (m >>= f) (m' >>= f') :=
  fun X s s' hs => rl_bind (h X s s' hs) hf fun a b Y t t' hr ht _ => g a b hr Y t t' ht
theorem rl_pure {α β : Type} {r : α → β → Prop} {a : α} {b : β} (h : r a b) : Rl c1 c2 R1 R2 c r (pure a) (pure b) := by
  intro X s s' hs a' t ht
  obtain ⟨rfl, rfl⟩ : a = a' ∧ s = t := by have := Except.ok.inj ht; exact ⟨congrArg Prod.fst this, congrArg Prod.snd this⟩
  exact .inr ⟨X, ⟨[], rfl⟩, hs.ts, hs.ne, hs.o, .inr ⟨b, s', rfl, h, hs⟩⟩
theorem rl_err {α β : Type} {r : α → β → Prop} {X : List Tk} {e : Int × Nat} {x' : Except (Int × Nat) (β × PS)} : Out c1 c2 R1 R2 c r X (.error e : Except (Int × Nat) (α × PS)) x' := fun _ _ h => by cases h
theorem rl_lay (n : Nd) : Rl c1 c2 R1 R2 c Eq (lay n) (lay n) := by
  intro X s s' hs
  unfold lay
  rw [hs.ns]
  split
  · exact rl_err
  · intro a t ht
    obtain ⟨rfl, rfl⟩ : s.ns.length = a ∧ ({ s with ns := s.ns ++ [n] } : PS) = t := by have := Except.ok.inj ht; exact ⟨congrArg Prod.fst this, congrArg Prod.snd this⟩
    exact .inr ⟨X, ⟨[], rfl⟩, hs.ts, ⟨_, _, hs.ne.choose_spec.choose_spec.1, hs.ne.choose_spec.choose_spec.2⟩, hs.o, .inr ⟨_, _, rfl, rfl, ⟨hs.ts, hs.ts', by simp only, hs.o, hs.o', ⟨_, _, hs.ne.choose_spec.choose_spec.1, hs.ne.choose_spec.choose_spec.2⟩⟩⟩⟩

/-- The token that stands there: the same one, or the brackets. -/
theorem rel_hd {X : List Tk} {s s' : PS} (hs : Rel c1 c2 R1 R2 c X s s') : (∃ t Y, X = t :: Y ∧ hd s = t ∧ hd s' = t) ∨ (X = [] ∧ hd s = c1 ∧ hd s' = c2) := by
  cases X with
  | nil => exact .inr ⟨rfl, by unfold hd; rw [hs.ts]; rfl, by unfold hd; rw [hs.ts']; rfl⟩
  | cons t Y => exact .inl ⟨t, Y, rfl, by unfold hd; rw [hs.ts]; rfl, by unfold hd; rw [hs.ts']; rfl⟩
theorem rel_cut {X Y : List Tk} {t : Tk} {s s' : PS} (hs : Rel c1 c2 R1 R2 c X s s') (hX : X = t :: Y) (h8 : t.k ≠ 8) : Rel c1 c2 R1 R2 c Y (cut s) (cut s') := by
  subst hX
  have hh : hd s = t := by unfold hd; rw [hs.ts]; rfl
  exact ⟨by unfold cut; rw [hs.ts]; rfl, by unfold cut; rw [hs.ts']; rfl, hs.ns, hs.o, hs.o', (ne_cut hs.ne (by rw [hh]; exact h8)).1⟩
theorem past_cut {s s' : PS} (hs : Rel c1 c2 R1 R2 c [] s s') (h8 : c1.k ≠ 8) : Past R1 (cut s) := by
  have hh : hd s = c1 := by unfold hd; rw [hs.ts]; rfl
  exact ⟨(ne_cut hs.ne (by rw [hh]; exact h8)).1, [], by unfold cut; rw [hs.ts]; rfl⟩
theorem rel_p (tw : Twn c1 c2) {X : List Tk} {s s' : PS} (hs : Rel c1 c2 R1 R2 c X s s') : (hd s).p = (hd s').p := by
  rcases rel_hd hs with ⟨t, Y, _, h1, h2⟩ | ⟨_, h1, h2⟩
  · rw [h1, h2]
  · rw [h1, h2]; exact tw.p
/-- The names of signs that are no bracket of the two. -/
def Fine (w : ByteArray) : Prop := w ≠ ⟨#[125]⟩ ∧ w ≠ ⟨#[41]⟩
theorem isM_x {t : Tk} {w : ByteArray} (h : t.x ≠ w) : isM t w = false := by
  unfold isM
  rw [decide_eq_false h, Bool.and_false]
theorem tw_isM (tw : Twn c1 c2) {w : ByteArray} (hw : Fine w) : isM c1 w = false ∧ isM c2 w = false := by
  refine ⟨isM_x (by rw [tw.x1]; exact fun h => hw.1 h.symm), isM_x ?_⟩
  rcases tw.x2 with h | h
  · rw [h]; exact fun h => hw.2 h.symm
  · rw [h]; exact fun h => hw.1 h.symm
theorem rel_isM (tw : Twn c1 c2) {w : ByteArray} (hw : Fine w) {X : List Tk} {s s' : PS} (hs : Rel c1 c2 R1 R2 c X s s') : isM (hd s) w = isM (hd s') w := by
  rcases rel_hd hs with ⟨t, Y, _, h1, h2⟩ | ⟨_, h1, h2⟩
  · rw [h1, h2]
  · rw [h1, h2, (tw_isM tw hw).1, (tw_isM tw hw).2]
theorem rl_take (tw : Twn c1 c2) {w : ByteArray} (hw : Fine w) : Rl c1 c2 R1 R2 c Eq (take w) (take w) := by
  intro X s s' hs
  unfold take
  rw [← rel_isM tw hw hs]
  split
  · rename_i h
    rcases rel_hd hs with ⟨t, Y, hX, h1, h2⟩ | ⟨_, h1, h2⟩
    · intro a u hu
      obtain ⟨rfl, rfl⟩ : true = a ∧ cut s = u := by have := Except.ok.inj hu; exact ⟨congrArg Prod.fst this, congrArg Prod.snd this⟩
      have hr := rel_cut hs hX (by rw [h1] at h; exact isM_k h)
      exact .inr ⟨Y, ⟨[t], hX⟩, hr.ts, hr.ne, hr.o, .inr ⟨_, _, rfl, rfl, hr⟩⟩
    · rw [h1, (tw_isM tw hw).1] at h; cases h
  · exact rl_pure rfl X s s' hs
theorem rl_need (tw : Twn c1 c2) {w : ByteArray} (hw : Fine w) : Rl c1 c2 R1 R2 c Eq (need w) (need w) := by
  intro X s s' hs
  unfold need
  rw [← rel_isM tw hw hs]
  split
  · rename_i h
    rcases rel_hd hs with ⟨t, Y, hX, h1, h2⟩ | ⟨_, h1, h2⟩
    · intro a u hu
      obtain ⟨rfl, rfl⟩ : () = a ∧ cut s = u := by have := Except.ok.inj hu; exact ⟨rfl, congrArg Prod.snd this⟩
      have hr := rel_cut hs hX (by rw [h1] at h; exact isM_k h)
      exact .inr ⟨Y, ⟨[t], hX⟩, hr.ts, hr.ne, hr.o, .inr ⟨_, _, rfl, rfl, hr⟩⟩
    · rw [h1, (tw_isM tw hw).1] at h; cases h
  · exact rl_err
/-- A bracket that shuts: if it is the last one's turn, it is gone over, or it is a fault. -/
theorem rl_shut (tw : Twn c1 c2) (w : ByteArray) : Rl c1 c2 R1 R2 c Eq (need w) (need w) := by
  intro X s s' hs
  rcases rel_hd hs with ⟨t, Y, hX, h1, h2⟩ | ⟨hX, h1, h2⟩
  · unfold need
    rw [h1, h2]
    split
    · rename_i h
      intro a u hu
      obtain ⟨rfl, rfl⟩ : () = a ∧ cut s = u := by have := Except.ok.inj hu; exact ⟨rfl, congrArg Prod.snd this⟩
      have hr := rel_cut hs hX (isM_k h)
      exact .inr ⟨Y, ⟨[t], hX⟩, hr.ts, hr.ne, hr.o, .inr ⟨_, _, rfl, rfl, hr⟩⟩
    · exact rl_err
  · subst hX
    unfold need
    rw [h1]
    split
    · intro a u hu
      obtain rfl : cut s = u := by have := Except.ok.inj hu; exact congrArg Prod.snd this
      exact .inl (past_cut hs (by rw [tw.k1]; decide))
    · exact rl_err
theorem rl_needK {k : Int} (h6 : k ≠ 6) (h8 : k ≠ 8) (tw : Twn c1 c2) : Rl c1 c2 R1 R2 c Eq (needK k) (needK k) := by
  intro X s s' hs
  rcases rel_hd hs with ⟨t, Y, hX, h1, h2⟩ | ⟨hX, h1, h2⟩
  · unfold needK
    rw [h1, h2]
    split
    · rename_i h
      intro a u hu
      obtain ⟨rfl, rfl⟩ : t = a ∧ cut s = u := by have := Except.ok.inj hu; exact ⟨congrArg Prod.fst this, congrArg Prod.snd this⟩
      have hr := rel_cut hs hX (by omega)
      exact .inr ⟨Y, ⟨[t], hX⟩, hr.ts, hr.ne, hr.o, .inr ⟨_, _, rfl, rfl, hr⟩⟩
    · exact rl_err
  · unfold needK
    rw [h1, if_neg (by rw [tw.k1]; omega)]
    exact rl_err
theorem rl_giveUp {α β : Type} {r : α → β → Prop} (e e' : Int) : Rl c1 c2 R1 R2 c r (giveUp e : PM α) (giveUp e' : PM β) := fun _ _ _ _ => rl_err
/-- 'here', and what hangs on it. -/
theorem rl_here {α β : Type} {r : α → β → Prop} {f : Tk → PM α} {f' : Tk → PM β} {X : List Tk} {s s' : PS} (h : Out c1 c2 R1 R2 c r X (f (hd s) s) (f' (hd s') s')) : Out c1 c2 R1 R2 c r X ((here >>= f) s) ((here >>= f') s') := h
theorem rl_on {α β : Type} {r : α → β → Prop} {f : Tk → PM α} {f' : Tk → PM β} (h : ∀ X s s', Rel c1 c2 R1 R2 c X s s' → Out c1 c2 R1 R2 c r X (f (hd s) s) (f' (hd s') s')) : Rl c1 c2 R1 R2 c r (here >>= f) (here >>= f') := h
/-- Where only the place of what stands there counts. -/
theorem rl_place (tw : Twn c1 c2) {α β : Type} {r : α → β → Prop} {f : Nat → PM α} {f' : Nat → PM β} (h : ∀ p, Rl c1 c2 R1 R2 c r (f p) (f' p)) : Rl c1 c2 R1 R2 c r (here >>= fun t => f t.p) (here >>= fun t => f' t.p) := fun X s s' hs => by
  show Out c1 c2 R1 R2 c r X (f (hd s).p s) (f' (hd s').p s')
  rw [← rel_p tw hs]
  exact h _ X s s' hs
theorem rl_ite {α β : Type} {r : α → β → Prop} {b : Bool} {m n : PM α} {m' n' : PM β} (h : Rl c1 c2 R1 R2 c r m m') (g : Rl c1 c2 R1 R2 c r n n') : Rl c1 c2 R1 R2 c r (if b then m else n) (if b then m' else n') := by
  cases b
  · exact g
  · exact h
/-- The token that is read, if it is not the bracket. -/
theorem rl_next {X : List Tk} {s s' : PS} (hs : Rel c1 c2 R1 R2 c X s s') {t : Tk} {Y : List Tk} (hX : X = t :: Y) (h8 : t.k ≠ 8) : Out c1 c2 R1 R2 c (fun a b => a = t ∧ b = t) X (next s) (next s') := by
  intro a u hu
  have hh : hd s = t := by unfold hd; rw [hs.ts, hX]; rfl
  have hh' : hd s' = t := by unfold hd; rw [hs.ts', hX]; rfl
  obtain ⟨h1, rfl⟩ : hd s = a ∧ cut s = u := by have := Except.ok.inj hu; exact ⟨congrArg Prod.fst this, congrArg Prod.snd this⟩
  have hr := rel_cut hs hX h8
  exact .inr ⟨Y, ⟨[t], hX⟩, hr.ts, hr.ne, hr.o, .inr ⟨_, _, rfl, ⟨h1.symm.trans hh, hh'⟩, hr⟩⟩
theorem rel_len {X : List Tk} {s s' : PS} (hs : Rel c1 c2 R1 R2 c X s s') : s.ts.length = X.length + (R1.length + 1) ∧ s'.ts.length = X.length + (R2.length + 1) := by
  rw [hs.ts, hs.ts', List.length_append, List.length_append, List.length_cons, List.length_cons]
  exact ⟨rfl, rfl⟩
end
end Gm
end Go.Proofs.YtdpfmmbfidknfaaGreatDoor


