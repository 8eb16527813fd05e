/- An inbox in memory. -/
import Derived.Test.YtapjnnbcphpokaaTon
namespace Go.Proofs.Ytapjnnbcphpokaa
open Go.RowKit Go.Deep

/-- A block's cells, none frozen. -/
def At (w : World) (b : Nat) (vs : List Value) : Prop := (∀ i v, vs[i]? = some v → w.cell? ⟨b, i, none⟩ = some v ∧ w.frozen? ⟨b, i, none⟩ = false) ∧ b < w.heap.size

theorem At.set {w : World} {b i : Nat} {vs : List Value} (h : At w b vs) (hi : i < vs.length) (v : Value) : At (w.setCell ⟨b, i, none⟩ v) b (vs.set i v) := by
  refine ⟨fun j u hj => ?_, by simpa [World.setCell] using h.2⟩
  rw [World.frozen?_setCell]
  by_cases e : i = j
  · subst e
    rw [List.getElem?_set_self hi] at hj
    cases hj
    have q := h.1 i vs[i] (List.getElem?_eq_getElem hi)
    exact ⟨World.cell?_setCell_same _ _ _ q.1, q.2⟩
  · rw [List.getElem?_set_ne e] at hj
    have q := h.1 j u hj
    exact ⟨by rw [World.cell?_setCell_other _ _ _ _ (fun q => e (by simpa using congrArg Addr.off q))]; exact q.1, q.2⟩
theorem At.other {w : World} {b : Nat} {vs : List Value} {p : Addr} (h : At w b vs) (hb : p.block ≠ b) (v : Value) : At (w.setCell p v) b vs := by
  refine ⟨fun j u hj => ?_, by simpa [World.setCell] using h.2⟩
  rw [World.frozen?_setCell]
  have q := h.1 j u hj
  exact ⟨by rw [World.cell?_setCell_other _ _ _ _ (fun q => hb (congrArg Addr.block q))]; exact q.1, q.2⟩
theorem At.but {S : Nat → Prop} {w w' : World} {b : Nat} {vs : List Value} (h : At w b vs) (hb : But S w w') (hS : ¬ S b) : At w' b vs :=
  ⟨fun j u hj => ⟨(hb.cell (p := ⟨b, j, none⟩) h.2 hS).trans (h.1 j u hj).1, (hb.frozen (p := ⟨b, j, none⟩) h.2 hS).trans (h.1 j u hj).2⟩, Nat.lt_of_lt_of_le h.2 hb.size⟩
theorem At.keep {w w' : World} {b : Nat} {vs : List Value} (h : At w b vs) (hb : Below w.heap.size w w') : At w' b vs := h.but (But.of_below (S := fun _ => False) hb) (fun h => h)

def pt (o : Option Nat) : Value := .pointer (o.map fun b => ⟨b, 0, none⟩)

/-- A message: its block, its term, its words, its number. -/
structure Msg where
  b : Nat
  k : Int
  n : Int
  f : Nat
  s : ByteArray
  a : Option Addr
  c : Nat
  kids : List Tr
  wd : Nat
  num : Nat
def Msg.t (m : Msg) : Tr := .mk m.k m.n m.f m.s m.a m.c m.kids
def Msg.cells (m : Msg) (ah bh : Option Nat) (out : Bool) : List Value := [pt ah, pt bh, .int .i64 m.k, .int .i64 m.n, .float .f64 m.f, .string m.s, .slice m.a m.kids.length m.c, .int .i64 (m.wd : Int), .int .i64 (m.num : Int), .bool out]

def prv (ms : List Msg) (i : Nat) : Option Nat := if i = 0 then none else (ms[i - 1]?).map Msg.b
def nxt (ms : List Msg) (i : Nat) : Option Nat := (ms[i + 1]?).map Msg.b
def hd (ms : List Msg) : Option Nat := (ms[0]?).map Msg.b
def wds : List Msg → Nat
  | [] => 0
  | m :: r => m.wd + wds r

/-- A box: its block, its messages, how many were looked at; R: where the messages' rows lie. -/
structure BX (w : World) (bb : Nat) (ms : List Msg) (place most puts : Nat) (R : Nat → Prop) : Prop where
  box : At w bb [pt (hd ms), pt (prv ms ms.length), pt (prv ms place), .int .i64 (ms.length : Int), .int .i64 (wds ms : Int), .int .i64 (most : Int), .int .i64 (puts : Int)]
  msg : ∀ (i : Nat) (m : Msg), ms[i]? = some m → At w m.b (m.cells (prv ms i) (nxt ms i) false)
  nd : (ms.map Msg.b).Nodup
  nb : ∀ m : Msg, m ∈ ms → m.b ≠ bb
  tr : ∀ m : Msg, m ∈ ms → m.t.In w 0 ∧ m.t.On R
  far : ∀ q, R q → q < w.heap.size ∧ q ≠ bb ∧ ∀ m : Msg, m ∈ ms → q ≠ m.b
  pl : place ≤ ms.length

/-- What a box may write. -/
def BS (bb : Nat) (ms : List Msg) (q : Nat) : Prop := q = bb ∨ ∃ m : Msg, m ∈ ms ∧ q = m.b

variable {w w' : World} {bb place most puts : Nat} {ms : List Msg} {R : Nat → Prop}

theorem BX.but {S : Nat → Prop} (h : BX w bb ms place most puts R) (hb : But S w w') (h1 : ∀ q, BS bb ms q → ¬ S q) (h2 : ∀ q, R q → ¬ S q) : BX w' bb ms place most puts R :=
  ⟨h.box.but hb (h1 bb (.inl rfl)), fun i m hm => (h.msg i m hm).but hb (h1 m.b (.inr ⟨m, List.mem_of_getElem? hm, rfl⟩)), h.nd, h.nb,
    fun m hm => ⟨in_on (S := fun q => q < w.heap.size ∧ ¬ S q) (fun b q => hb.block b q.1 q.2) _ (h.tr m hm).1 (on_mono (fun q hq => ⟨(h.far q hq).1, h2 q hq⟩) _ (h.tr m hm).2), (h.tr m hm).2⟩,
    fun q hq => ⟨Nat.lt_of_lt_of_le (h.far q hq).1 hb.size, (h.far q hq).2⟩, h.pl⟩
theorem BX.keep (h : BX w bb ms place most puts R) (hb : Below w.heap.size w w') : BX w' bb ms place most puts R := h.but (But.of_below (S := fun _ => False) hb) (fun _ _ h => h) (fun _ _ h => h)

theorem wds_snoc (ms : List Msg) (m : Msg) : wds (ms ++ [m]) = wds ms + m.wd := by
  induction ms with
  | nil => simp [wds]
  | cons x r ih => simp [wds, ih]; omega
theorem prv_snoc (ms : List Msg) (m : Msg) {i : Nat} (h : i ≤ ms.length) : prv (ms ++ [m]) i = prv ms i := by
  unfold prv
  split
  · rfl
  · rw [List.getElem?_append_left (by omega)]
theorem prv_last (ms : List Msg) (m : Msg) : prv (ms ++ [m]) (ms ++ [m]).length = some m.b := by simp [prv]
end Go.Proofs.Ytapjnnbcphpokaa
