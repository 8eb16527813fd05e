/- Two processes' tables and the ether between, in memory. -/
import Derived.Test.YtodelafnboimnaaGreatLk4
import Derived.Test.YtodelafnboimnaaGreatPr1
import Derived.Test.YtodelafnboimnaaGreatEe4
import Derived.Test.YtodelafnboimnaaGreatEpS
namespace Go.Proofs.YtodelafnboimnaaGreat
open Go.RowKit Go.Lib
open HV (Hf hf0 getL insL delL Rise Wfk TB Nw Rst)
open PR (Sd Sig)

/-- The table of one who knows at most one other one. -/
def Lof (y : Int) (s : Sd) : List HV.KV := if s.st = 0 then [] else [(y, ⟨y, s.st, s.id⟩)]

/-- Signals as cells. -/
def lq (i j : Int) : List Sig → List Value
  | [] => []
  | x :: r => sgl i j x.1 x.2 ++ lq i j r
theorem lq_snoc (i j : Int) (l : List Sig) (x : Sig) : lq i j (l ++ [x]) = lq i j l ++ sgl i j x.1 x.2 := by
  induction l with
  | nil => simp [lq]
  | cons y r ih => rw [List.cons_append, lq, ih, lq, List.append_assoc]

/-- A lane holds these signals. -/
def LaneIs (f : Int → Int → Option Lane) (i j : Int) (l : List Sig) : Prop := (l = [] ∧ f i j = none) ∨ (l ≠ [] ∧ ∃ m, f i j = some m ∧ m.xs = lq i j l ∧ m.k = l.length)

/-- The ether's blocks. -/
def EF (mv : Value) (f : Int → Int → Option Lane) (eb k : Nat) : Prop := k = eb ∨ mv = .map (some k) ∨ ∃ a b l, f a b = some l ∧ foot l k

theorem EO.ef {w0 w : World} {eb all N : Nat} {mv : Value} {f : Int → Int → Option Lane} (h : EO w0 w eb mv f all N) {k : Nat} (hk : EF mv f eb k) : k < w.heap.size ∧ w0.heap.size ≤ k := by
  rcases hk with rfl | e | ⟨a, b, l, hl, hf⟩
  · exact ⟨h.duo.lt, h.ge⟩
  · rcases h.map with ⟨e2, _⟩ | ⟨mb, n, e2, he, _, hm, _⟩
    · rw [e2] at e; cases e
    · rw [e2] at e; obtain rfl : mb = k := by simpa using e
      exact ⟨he.lt, hm⟩
  · exact h.foot_lt hl hf

structure Ap (w0 w : World) (pb tA tB eb : Nat) (DA DB : Nat → Prop) (mv : Value) (f : Int → Int → Option Lane) : Prop where
  a1 : ∀ k, DA k → k ≠ pb ∧ k ≠ tB ∧ ¬ DB k ∧ ¬ EF mv f eb k ∧ k < w.heap.size ∧ w0.heap.size ≤ k
  a2 : ∀ k, DB k → k ≠ pb ∧ k ≠ tA ∧ ¬ DA k ∧ ¬ EF mv f eb k ∧ k < w.heap.size ∧ w0.heap.size ≤ k
  a3 : ¬ EF mv f eb tA ∧ ¬ EF mv f eb tB ∧ ¬ EF mv f eb pb
  a4 : tA ≠ tB ∧ pb ≠ tA ∧ pb ≠ tB
  a5 : w0.heap.size ≤ tA ∧ w0.heap.size ≤ tB ∧ w0.heap.size ≤ pb

/-- The two tables, A's and B's, the ether between, and the box that names them. -/
def PM (w0 w : World) (pb : Nat) (v0 v1 : Value) (tA tB eb : Nat) (x y : Int) (A B : Sd) (p q : List Sig) (N : Nat) : Prop :=
  ∃ DA DB mv f, Tri w pb v0 v1 (.pointer (some ⟨eb, 0, none⟩)) ∧ LT w tA DA (Lof y A) A.last ∧ LT w tB DB (Lof x B) B.last ∧ EO w0 w eb mv f (p.length + q.length) N ∧ LaneIs f x y p ∧ LaneIs f y x q ∧ (∀ a b, ¬ (a = x ∧ b = y) → ¬ (a = y ∧ b = x) → f a b = none) ∧ Ap w0 w pb tA tB eb DA DB mv f

variable {w0 w w' : World} {pb tA tB eb N : Nat} {v0 v1 : Value} {x y : Int} {A B A' : Sd} {p q : List Sig}

theorem PM.swap (h : PM w0 w pb v0 v1 tA tB eb x y A B p q N) : PM w0 w pb v0 v1 tB tA eb y x B A q p N := by
  obtain ⟨DA, DB, mv, f, h1, h2, h3, h4, h5, h6, h7, h8⟩ := h
  refine ⟨DB, DA, mv, f, h1, h3, h2, by rw [Nat.add_comm]; exact h4, h6, h5, fun a b g1 g2 => h7 a b g2 g1, ⟨h8.a2, h8.a1, ⟨h8.a3.2.1, h8.a3.1, h8.a3.2.2⟩, ⟨fun e => h8.a4.1 e.symm, h8.a4.2.2, h8.a4.2.1⟩, ⟨h8.a5.2.1, h8.a5.1, h8.a5.2.2⟩⟩⟩

theorem PM.keep (h : PM w0 w pb v0 v1 tA tB eb x y A B p q N) (hb : Below w.heap.size w w') : PM w0 w' pb v0 v1 tA tB eb x y A B p q N := by
  obtain ⟨DA, DB, mv, f, h1, h2, h3, h4, h5, h6, h7, h8⟩ := h
  have hs := hb.size
  refine ⟨DA, DB, mv, f, h1.keep hb, h2.keep hb, h3.keep hb, h4.keep hb, h5, h6, h7, ⟨fun k hk => ?_, fun k hk => ?_, h8.a3, h8.a4, h8.a5⟩⟩
  · obtain ⟨g1, g2, g3, g4, g5, g6⟩ := h8.a1 k hk
    exact ⟨g1, g2, g3, g4, by omega, g6⟩
  · obtain ⟨g1, g2, g3, g4, g5, g6⟩ := h8.a2 k hk
    exact ⟨g1, g2, g3, g4, by omega, g6⟩

theorem PM.below (h : PM w0 w pb v0 v1 tA tB eb x y A B p q N) : Below w0.heap.size w0 w := by obtain ⟨_, _, _, _, _, _, _, h, _⟩ := h; exact h.bel
theorem PM.box (h : PM w0 w pb v0 v1 tA tB eb x y A B p q N) : Tri w pb v0 v1 (.pointer (some ⟨eb, 0, none⟩)) := by obtain ⟨_, _, _, _, h, _⟩ := h; exact h
theorem PM.tab (h : PM w0 w pb v0 v1 tA tB eb x y A B p q N) : ∃ D, LT w tA D (Lof y A) A.last := by obtain ⟨D, _, _, _, _, h, _⟩ := h; exact ⟨D, h⟩

/-- A method of A's table. -/
theorem PM.turnB (h : PM w0 w pb v0 v1 tA tB eb x y A B p q N) {g : Nat} {args : Array Value} {R : Ending → Prop} (hc : ∀ D, LT w tA D (Lof y A) A.last → Calls Tryz.prog g args w fun e w' => R e ∧ LU w w' tA D (Lof y A') A'.last) :
    Calls Tryz.prog g args w fun e w' => R e ∧ PM w0 w' pb v0 v1 tA tB eb x y A' B p q N ∧ But (fun k => k = tA) w w' := by
  obtain ⟨DA, DB, mv, f, h1, h2, h3, h4, h5, h6, h7, h8⟩ := h
  refine (hc DA h2).mono ?_
  rintro e w' ⟨hr, hu⟩
  have hs := hu.bt.size
  have hlA := h2.tr.lt
  have hlB := h3.tr.lt
  have hlp := h1.lt
  have hw0 := h4.bel.size
  refine ⟨hr, ⟨Nw DA w w', DB, mv, f, h1.but hu.bt h8.a4.2.1, hu.lt, h3.but hu.bt (fun k hk e => (h8.a2 k hk).2.1 e) (fun e => h8.a4.1 e.symm), h4.but hu.bt (fun e => h8.a3.1 (.inl e.symm)) (fun mb hm e => h8.a3.1 (.inr (.inl (e ▸ hm)))) (fun a b l j hl hj e => h8.a3.1 (.inr (.inr ⟨a, b, l, hl, e ▸ hj⟩))) (fun j e => by rw [show j = tA from e]; exact h8.a5.1), h5, h6, h7, ⟨fun k hk => ?_, fun k hk => ?_, h8.a3, h8.a4, h8.a5⟩⟩, hu.bt⟩
  · rcases hk with hk | hk
    · obtain ⟨g1, g2, g3, g4, g5, g6⟩ := h8.a1 k hk
      exact ⟨g1, g2, g3, g4, by omega, g6⟩
    · exact ⟨by omega, by omega, fun e => by have := (h8.a2 k e).2.2.2.2.1; omega, fun e => by have := (h4.ef e).1; omega, by omega, by omega⟩
  · obtain ⟨g1, g2, g3, g4, g5, g6⟩ := h8.a2 k hk
    exact ⟨g1, g2, fun e => e.elim g3 (fun e => by omega), g4, by omega, g6⟩

theorem PM.turn (h : PM w0 w pb v0 v1 tA tB eb x y A B p q N) {g : Nat} {args : Array Value} {R : Ending → Prop} (hc : ∀ D, LT w tA D (Lof y A) A.last → Calls Tryz.prog g args w fun e w' => R e ∧ LU w w' tA D (Lof y A') A'.last) :
    Calls Tryz.prog g args w fun e w' => R e ∧ PM w0 w' pb v0 v1 tA tB eb x y A' B p q N := (h.turnB hc).mono (fun _ _ h => ⟨h.1, h.2.1⟩)

/-- The ether turns. -/
theorem PM.air {mv mv' : Value} {f f' : Int → Int → Option Lane} {DA DB : Nat → Prop} {p' q' : List Sig} {N' : Nat} {S : Nat → Prop} (h1 : Tri w pb v0 v1 (.pointer (some ⟨eb, 0, none⟩))) (h2 : LT w tA DA (Lof y A) A.last) (h3 : LT w tB DB (Lof x B) B.last) (h8 : Ap w0 w pb tA tB eb DA DB mv f)
    (he : EO w0 w' eb mv' f' (p'.length + q'.length) N') (hb : But S w w') (hS : ∀ k, S k → EF mv f eb k) (hf : ∀ k, EF mv' f' eb k → EF mv f eb k ∨ w.heap.size ≤ k) (l1 : LaneIs f' x y p') (l2 : LaneIs f' y x q') (l3 : ∀ a b, ¬ (a = x ∧ b = y) → ¬ (a = y ∧ b = x) → f' a b = none) :
    PM w0 w' pb v0 v1 tA tB eb x y A B p' q' N' := by
  have hs := hb.size
  have hlA := h2.tr.lt
  have hlB := h3.tr.lt
  have hlp := h1.lt
  refine ⟨DA, DB, mv', f', h1.but hb (fun e => h8.a3.2.2 (hS _ e)), h2.but hb (fun k hk e => (h8.a1 k hk).2.2.2.1 (hS _ e)) (fun e => h8.a3.1 (hS _ e)), h3.but hb (fun k hk e => (h8.a2 k hk).2.2.2.1 (hS _ e)) (fun e => h8.a3.2.1 (hS _ e)), he, l1, l2, l3, ⟨fun k hk => ?_, fun k hk => ?_, ⟨fun e => ?_, fun e => ?_, fun e => ?_⟩, h8.a4, h8.a5⟩⟩
  · obtain ⟨g1, g2, g3, g4, g5, g6⟩ := h8.a1 k hk
    exact ⟨g1, g2, g3, fun e => (hf k e).elim g4 (fun e => by omega), by omega, g6⟩
  · obtain ⟨g1, g2, g3, g4, g5, g6⟩ := h8.a2 k hk
    exact ⟨g1, g2, g3, fun e => (hf k e).elim g4 (fun e => by omega), by omega, g6⟩
  · exact (hf _ e).elim h8.a3.1 (fun e => by omega)
  · exact (hf _ e).elim h8.a3.2.1 (fun e => by omega)
  · exact (hf _ e).elim h8.a3.2.2 (fun e => by omega)

theorem lane_other {f : Int → Int → Option Lane} {i j a b : Int} {l : List Sig} {m : Option Lane} (h : LaneIs f a b l) (hne : ¬ (a = i ∧ b = j)) : LaneIs (updL f i j m) a b l := by
  unfold LaneIs at h ⊢
  rw [updL_other _ _ _ _ _ _ hne]
  exact h

end Go.Proofs.YtodelafnboimnaaGreat
