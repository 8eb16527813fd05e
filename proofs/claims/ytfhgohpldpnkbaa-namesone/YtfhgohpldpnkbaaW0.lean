/- Small contracts of the program: what numbers are made of, and which two terms the statements call the same. -/
import Derived.Test.YtfhgohpldpnkbaaRows
import Derived.Test.YtfhgohpldpnkbaaFlt
import Derived.WalkKit
import Derived.WalkSpells
import Derived.WalkLawsBesides
import Derived.BigQuiet
import Derived.Lib.QuietBelow
namespace Go.Proofs.Ytfhgohpldpnkbaa
open Go.RowKit

/-- (The kit has this law for integers, bools, strings, slices, pointers; not for floats.) -/
theorem store_float (a : Addr) (k : FloatKind) (x : Nat) (m : Mode) (w : World) : (store a (.float k x) m).run Try.prog w = stored Try.prog w a (.float k x) m := run_store Try.prog w a _ m rfl
attribute [local go_sem] store_float

/-- What a call that makes a number tells: the term's kind, whole number, float (by its bits), and the error. -/
structure R where
  k : Int
  n : Int
  f : Nat
  e : Int

def whB (n : Int) : Bool := decide (-576460752303423488 ≤ n ∧ n ≤ 576460752303423487)
theorem whB_yes {n : Int} (h : whB n = true) : -576460752303423488 ≤ n ∧ n ≤ 576460752303423487 := by simpa [whB] using h
theorem whB_mk {n : Int} (h : -576460752303423488 ≤ n ∧ n ≤ 576460752303423487) : whB n = true := by simpa [whB] using h
theorem whB_no {n : Int} (h : whB n = false) : n < -576460752303423488 ∨ 576460752303423487 < n := by
  have : ¬ (-576460752303423488 ≤ n ∧ n ≤ 576460752303423487) := by simpa only [whB, decide_eq_false_iff_not] using h
  omega
def numInt (n : Int) : R := if whB n then ⟨1, n, 0, 0⟩ else ⟨0, 0, 0, 12⟩
def numBits (u : Nat) : R := if Flt.fin u then ⟨2, 0, u, 0⟩ else ⟨0, 0, 0, 11⟩

def sameB (k1 n1 : Int) (f1 : Nat) (s1 : ByteArray) (l1 : Nat) (k2 n2 : Int) (f2 : Nat) (s2 : ByteArray) (l2 : Nat) : Bool :=
  k1 == k2 && n1 == n2 && s1.toList == s2.toList && l1 == 0 && l2 == 0 && (f1 : Int) == (f2 : Int)

theorem sub_nan (t : TypeId) (x : Nat) (h : Flt.fin x = false) (w : World) : (binOp .sub t (.float .f64 x) (.float .f64 x)).run Try.prog w = .ok (.float .f64 (Flt.nanOf (w.tape w.drawn (.nanBits .f64 x x)))) w.drew := by
  have e : FloatKind.f64.format.sub x x = none := Flt.sub_self_not h
  simp [binOp, Op.floatArith, e, Question.forced, Question.cut, Flt.nanOf]

theorem sub_fin (t : TypeId) (x : Nat) (h : Flt.fin x = true) (w : World) : (binOp .sub t (.float .f64 x) (.float .f64 x)).run Try.prog w = .ok (.float .f64 0) w :=
  run_float_arith w .sub t .f64 x x 0 (Flt.sub_self_fin h)

/-- Behind a call that ends in 'Below' all old cells and marks read as before. -/
theorem bcell {W w1 : World} (hb : Below W.heap.size W w1) : (∀ b o, b < W.heap.size → w1.cell? ⟨b, o, none⟩ = W.cell? ⟨b, o, none⟩) ∧ (∀ b o, b < W.heap.size → w1.frozen? ⟨b, o, none⟩ = W.frozen? ⟨b, o, none⟩) :=
  ⟨fun b o h => hb.cell (p := ⟨b, o, none⟩) h, fun b o h => hb.frozen (p := ⟨b, o, none⟩) h⟩

theorem below_new (w : World) (o : Obj) : Below w.heap.size w (w.alloc o) := (Below.refl _ _).alloc (Nat.le_refl _) _

theorem bthen {a b c : World} (h : Below a.heap.size a b) (k : Below b.heap.size b c) : Below a.heap.size a c := h.trans (k.mono h.size)

/-- A result's box laid first, calls, then the five cells of a term stored into the box. -/
theorem below_ret {w w1 : World} {o : Obj} (hb : Below (w.alloc o).heap.size (w.alloc o) w1) (v0 v1 v2 v3 v4 : Value) :
    Below w.heap.size w (((((w1.setCell ⟨w.heap.size, 0, none⟩ v0).setCell ⟨w.heap.size, 1, none⟩ v1).setCell ⟨w.heap.size, 2, none⟩ v2).setCell ⟨w.heap.size, 3, none⟩ v3).setCell ⟨w.heap.size, 4, none⟩ v4) := by
  have h0 : Below w.heap.size w w1 := (below_new w o).trans (hb.mono (by simp))
  exact ((((h0.setCell (Nat.le_refl _) v0).setCell (Nat.le_refl _) v1).setCell (Nat.le_refl _) v2).setCell (Nat.le_refl _) v3).setCell (Nat.le_refl _) v4

end Go.Proofs.Ytfhgohpldpnkbaa
