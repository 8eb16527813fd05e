import Derived.Test.YtjiigabfdigkaaaG01
import Derived.Test.YtjiigabfdigkaaaG02
import Derived.RangeFuncNested
import Derived.Laws.Rows
import Derived.Laws.World
/- A state in memory: processes with their halves, lanes with their signals. -/
namespace Go.Proofs.Ytjiigabfdigkaaa
open Go.RowKit

/-- A block's cells, none frozen. -/
structure At (w : World) (b : Nat) (vs : List Value) : Prop where
  cells : ∀ i v, vs[i]? = some v → w.cell? ⟨b, i, none⟩ = some v ∧ w.frozen? ⟨b, i, none⟩ = false
  lt : b < w.heap.size
  plain : ∃ cs t, w.heap[b]? = some (.cells cs t (0, 0))

theorem At.set {w : World} {b i : Nat} {vs : List Value} (h : At w b vs) (hi : i < vs.length) (v : Value) : At (w.setCell ⟨b, i, none⟩ v) b (vs.set i v) := by
  refine ⟨fun j u hj => ?_, by simpa [World.setCell] using h.2, by obtain ⟨cs, t, e⟩ := h.3; exact ⟨_, _, Go.heap_setCell_same w b i cs t v e⟩⟩
  rw [World.frozen?_setCell]
  by_cases e : i = j
  · subst e
    rw [List.getElem?_set_self hi] at hj
    cases hj
    have q := h.1 i vs[i] (List.getElem?_eq_getElem hi)
    exact ⟨World.cell?_setCell_same _ _ _ q.1, q.2⟩
  · rw [List.getElem?_set_ne e] at hj
    have q := h.1 j u hj
    exact ⟨by rw [World.cell?_setCell_other _ _ _ _ (fun q => e (by simpa using congrArg Addr.off q))]; exact q.1, q.2⟩
theorem At.other {w : World} {b : Nat} {vs : List Value} {p : Addr} (h : At w b vs) (hb : p.block ≠ b) (v : Value) : At (w.setCell p v) b vs := by
  refine ⟨fun j u hj => ?_, by simpa [World.setCell] using h.2, by obtain ⟨cs, t, e⟩ := h.3; exact ⟨cs, t, (Below.heap_setCell w p v b (fun e => hb e.symm)).trans e⟩⟩
  rw [World.frozen?_setCell]
  have q := h.1 j u hj
  exact ⟨by rw [World.cell?_setCell_other _ _ _ _ (fun q => hb (congrArg Addr.block q))]; exact q.1, q.2⟩
theorem At.but {S : Nat → Prop} {w w' : World} {b : Nat} {vs : List Value} (h : At w b vs) (hb : But S w w') (hS : ¬ S b) : At w' b vs :=
  ⟨fun j u hj => ⟨(hb.cell (p := ⟨b, j, none⟩) h.2 hS).trans (h.1 j u hj).1, (hb.frozen (p := ⟨b, j, none⟩) h.2 hS).trans (h.1 j u hj).2⟩, Nat.lt_of_lt_of_le h.2 hb.size, by obtain ⟨cs, t, e⟩ := h.3; exact ⟨cs, t, (hb.block b h.2 hS).trans e⟩⟩
theorem At.keep {w w' : World} {b : Nat} {vs : List Value} (h : At w b vs) (hb : Below w.heap.size w w') : At w' b vs := h.but (But.of_below (S := fun _ => False) hb) (fun h => h)

theorem At.new (w : World) (vs : List Value) (t : TypeId) : At (w.alloc (.cells vs.toArray t)) w.heap.size vs := by
  have hb : (w.alloc (.cells vs.toArray t)).heap[w.heap.size]? = some (.cells vs.toArray t) := World.alloc_heap_new w _
  refine ⟨fun i v hv => ?_, by simp, ⟨_, _, hb⟩⟩
  constructor
  · simp
    exact hv
  · unfold World.frozen?
    simp only [hb]
    simp

structure Hf where
  pid : Int
  st : Int
  id : Int
structure Mn where
  ref : Int
  pid : Int
  name : ByteArray
structure Pc where
  pid : Int
  st : Int
  rk : Int
  rn : Int
  rf : Nat
  rs : ByteArray
  ra : Option Addr
  rl : Nat
  rc : Nat
  trap : Bool
  ia : Option Addr
  il : Nat
  ic : Nat
  la : Option Addr
  ll : Nat
  lc : Nat
  links : List Hf
  oa : Option Addr
  ol : Nat
  oc : Nat
  origins : List Mn
  ta : Option Addr
  tl : Nat
  tc : Nat
  targets : List Mn
  na : Option Addr
  nl : Nat
  nc : Nat
  names : List ByteArray
structure Sg where
  frm : Int
  to : Int
  k : Int
  id : Int
  ref : Int
  link : Bool
  name : ByteArray
  tk : Int
  tn : Int
  tf : Nat
  ts : ByteArray
  ta : Option Addr
  tl : Nat
  tc : Nat
structure Ln where
  frm : Int
  to : Int
  a : Option Addr
  n : Nat
  c : Nat
  sigs : List Sg

def Hf.cells (h : Hf) : List Value := [.int .i64 h.pid, .int .i64 h.st, .int .i64 h.id]
def Mn.cells (m : Mn) : List Value := [.int .i64 m.ref, .int .i64 m.pid, .string m.name]
def Pc.cells (p : Pc) : List Value := [.int .i64 p.pid, .int .i64 p.st, .int .i64 p.rk, .int .i64 p.rn, .float .f64 p.rf, .string p.rs, .slice p.ra p.rl p.rc, .bool p.trap, .slice p.ia p.il p.ic, .slice p.la p.ll p.lc, .slice p.oa p.ol p.oc, .slice p.ta p.tl p.tc, .slice p.na p.nl p.nc]
def Sg.cells (s : Sg) : List Value := [.int .i64 s.frm, .int .i64 s.to, .int .i64 s.k, .int .i64 s.id, .int .i64 s.ref, .bool s.link, .string s.name, .int .i64 s.tk, .int .i64 s.tn, .float .f64 s.tf, .string s.ts, .slice s.ta s.tl s.tc]
def Ln.cells (l : Ln) : List Value := [.int .i64 l.frm, .int .i64 l.to, .slice l.a l.n l.c]

/-- A row of structs: all cells of each. -/
def RowC {α : Type} (sz : Nat) (enc : α → List Value) (w : World) (q : Option Addr) (l : List α) : Prop :=
  ∀ (j : Nat) (x : α), l[j]? = some x → ∃ b o, q = some ⟨b, o, none⟩ ∧ b < w.heap.size ∧ ∀ i, i < sz → w.cell? ⟨b, o + j * sz + i, none⟩ = (enc x)[i]?
theorem RowC.keep {α : Type} {sz : Nat} {enc : α → List Value} {w w' : World} {q : Option Addr} {l : List α} (h : RowC sz enc w q l) (hb : Below w.heap.size w w') : RowC sz enc w' q l := by
  intro j x hj
  obtain ⟨b, o, rfl, hlt, hc⟩ := h j x hj
  exact ⟨b, o, rfl, Nat.lt_of_lt_of_le hlt hb.size, fun i hi => (hb.cell (p := ⟨b, o + j * sz + i, none⟩) hlt).trans (hc i hi)⟩
/-- What stands at a place of a row. -/
theorem RowC.at {α : Type} {sz : Nat} {enc : α → List Value} {w : World} {q : Option Addr} {l : List α} (h : RowC sz enc w q l) (j : Nat) (hj : j < l.length) :
    ∃ (x : α) (b o : Nat), l[j]? = some x ∧ q = some ⟨b, o, none⟩ ∧ b < w.heap.size ∧ ∀ i, i < sz → w.cell? ⟨b, o + j * sz + i, none⟩ = (enc x)[i]? := by
  obtain ⟨x, hx⟩ : ∃ x, l[j]? = some x := ⟨_, List.getElem?_eq_getElem hj⟩
  obtain ⟨b, o, h1, h2, h3⟩ := h j x hx
  exact ⟨x, b, o, hx, h1, h2, h3⟩

abbrev LenOk (n : Nat) : Prop := n ≤ 9223372036854775807
structure PcIn (w : World) (p : Pc) : Prop where
  links : RowC 3 Hf.cells w p.la p.links
  origins : RowC 3 Mn.cells w p.oa p.origins
  targets : RowC 3 Mn.cells w p.ta p.targets
  names : RowC 1 (fun s : ByteArray => [.string s]) w p.na p.names
  ll : p.links.length = p.ll ∧ LenOk p.ll
  lo : p.origins.length = p.ol ∧ LenOk p.ol
  lt : p.targets.length = p.tl ∧ LenOk p.tl
  ln : p.names.length = p.nl ∧ LenOk p.nl
  li : LenOk p.il
theorem PcIn.keep {w w' : World} {p : Pc} (h : PcIn w p) (hb : Below w.heap.size w w') : PcIn w' p :=
  ⟨h.links.keep hb, h.origins.keep hb, h.targets.keep hb, h.names.keep hb, h.ll, h.lo, h.lt, h.ln, h.li⟩
/-- Processes and lanes in memory. -/
structure StIn (w : World) (pa : Option Addr) (ps : List Pc) (la : Option Addr) (ls : List Ln) : Prop where
  procs : RowC 13 Pc.cells w pa ps
  each : ∀ p ∈ ps, PcIn w p
  lanes : RowC 3 Ln.cells w la ls
  sigs : ∀ l ∈ ls, RowC 12 Sg.cells w l.a l.sigs ∧ l.sigs.length = l.n ∧ LenOk l.n
  lp : LenOk ps.length
  ll : LenOk ls.length
theorem StIn.keep {w w' : World} {pa : Option Addr} {ps : List Pc} {la : Option Addr} {ls : List Ln} (h : StIn w pa ps la ls) (hb : Below w.heap.size w w') : StIn w' pa ps la ls :=
  ⟨h.procs.keep hb, fun p hp => (h.each p hp).keep hb, h.lanes.keep hb, fun l hl => ⟨(h.sigs l hl).1.keep hb, (h.sigs l hl).2⟩, h.lp, h.ll⟩

/-- A process, as it is handed over. -/
abbrev pcV (p : Pc) : Value := .agg #[.int .i64 p.pid, .int .i64 p.st, .int .i64 p.rk, .int .i64 p.rn, .float .f64 p.rf, .string p.rs, .slice p.ra p.rl p.rc, .bool p.trap, .slice p.ia p.il p.ic, .slice p.la p.ll p.lc, .slice p.oa p.ol p.oc, .slice p.ta p.tl p.tc, .slice p.na p.nl p.nc]
/-- A state, as it is handed over. -/
abbrev stV (pa : Option Addr) (np cp : Nat) (la : Option Addr) (nl cl : Nat) (oa : Option Addr) (no co : Nat) : Value := .agg #[.slice pa np cp, .slice la nl cl, .slice oa no co]
end Go.Proofs.Ytjiigabfdigkaaa


/- Halves that rise. -/
namespace Go.Proofs.Ytjiigabfdigkaaa
open Go.RowKit

def Rise (l : List Int) : Prop := ∀ (i : Nat) (a b : Int), l[i]? = some a → l[i + 1]? = some b → a < b
/-- A verdict. -/
def Says (P : Prop) (w : World) (e : Ending) (w' : World) : Prop := (∃ r : Bool, e = .returned (.bool r) ∧ (r = true ↔ P)) ∧ Below w.heap.size w w'

set_option maxHeartbeats 1000000 in
set_option maxRecDepth 10000 in
theorem rising_any (w : World) (q : Option Addr) (c : Nat) (l : List Mn) (hr : RowC 3 Mn.cells w q l) (hl : LenOk l.length) :
    Calls Try.prog 41 #[.slice q l.length c] w (Says (Rise (l.map Mn.ref)) w) := by
  have HR := hidb hr
  have HL := hidb hl
  clear hr
  obtain ⟨L, hL⟩ : ∃ L, l.length = L := ⟨_, rfl⟩
  rw [hL] at hl ⊢
  have HLL := hidb hL
  clear hL
  go_enter Try.func41, Try.ntmps41
  go_wp2_with fail
  go_loopw [3] (fun iv wr => ∃ (m : Nat), 1 ≤ m ∧ (m ≤ L ∨ m = 1) ∧ iv = .int .i64 m ∧ (∀ (i : Nat) (a b : Mn), i + 1 < m → l[i]? = some a → l[i + 1]? = some b → a.ref < b.ref) ∧ Below w.heap.size w wr) (fun iv _ => L - (RowKit.intOf iv).toNat)
  case atStart => exact ⟨1, by omega, by omega, rfl, fun i a b h => by omega, Below.refl _ _⟩
  case round =>
    obtain ⟨m, hm1, hm, rfl, hri, hb⟩ := hrel
    have HRI := hidb hri
    have HB := hidb hb
    have h63 : L ≤ 9223372036854775807 := hl
    have hmv : IntKind.i64.wrap ((m : Int) - 1) = ((m - 1 : Nat) : Int) := by rw [IntKind.wrap_i64]; omega
    have HR' := HR.out.keep hb
    clear hri hb
    by_cases hml : m < L
    · have hmb : (m : Int) < (L : Int) := by omega
      have hmw : IntKind.i64.wrap ((m : Int) + 1) = (m : Int) + 1 := by rw [IntKind.wrap_i64]; omega
      have hmz : (0 : Int) ≤ (m : Int) := by omega
      have hmy : ((m - 1 : Nat) : Int) < (L : Int) := by omega
      have hmx : (0 : Int) ≤ ((m - 1 : Nat) : Int) := by omega
      obtain ⟨x, b, o, hx, rfl, hlt, hc⟩ := HR'.at (m - 1) (by have := HLL.out; omega)
      obtain ⟨y, b2, o2, hy, hq, -, hd⟩ := HR'.at m (by have := HLL.out; omega)
      obtain ⟨rfl, rfl⟩ : b = b2 ∧ o = o2 := by simpa using hq
      have c0 : wr.cell? ⟨b, o + (m - 1) * 3, none⟩ = some (.int .i64 x.ref) := hc 0 (by omega)
      have d0 : wr.cell? ⟨b, o + m * 3, none⟩ = some (.int .i64 y.ref) := hd 0 (by omega)
      have HXY := hidb (And.intro hx hy)
      clear hx hy hq hc hd HR'
      go_wp2_with fail
      go_big_quiet (fail)
      by_cases hle : y.ref ≤ x.ref
      · go_wp2_with fail
        go_ret
        refine ⟨⟨false, rfl, ?_⟩, below_drewN HB.out _⟩
        refine ⟨fun h => (by cases h), fun h => ?_⟩
        have := h (m - 1) x.ref y.ref (by simp [HXY.out.1]) (by rw [show m - 1 + 1 = m by omega]; simp [HXY.out.2])
        omega
      · go_wp2_with fail
        go_roundw
        case rel =>
          refine ⟨m + 1, by omega, by omega, by go_num, fun i a b h ha hb => ?_, below_drewN HB.out _⟩
          by_cases hi : i + 1 < m
          · exact HRI.out i a b hi ha hb
          · obtain rfl : i = m - 1 := by omega
            rw [HXY.out.1] at ha
            rw [show m - 1 + 1 = m by omega, HXY.out.2] at hb
            obtain rfl := Option.some.inj ha
            obtain rfl := Option.some.inj hb
            omega
        case measure => simp [RowKit.intOf]; omega
    · have hmn : ¬ (m : Int) < (L : Int) := by omega
      go_wp2_with fail
      go_ret
      refine ⟨⟨true, rfl, fun _ i a b ha hb => ?_, fun _ => rfl⟩, HB.out⟩
      rw [List.getElem?_map] at ha hb
      obtain ⟨x, hx, rfl⟩ := Option.map_eq_some_iff.1 ha
      obtain ⟨y, hy, rfl⟩ := Option.map_eq_some_iff.1 hb
      have hlt := (List.getElem?_eq_some_iff.1 hy).1
      have := HLL.out
      exact HRI.out i x y (by omega) hx hy
end Go.Proofs.Ytjiigabfdigkaaa


