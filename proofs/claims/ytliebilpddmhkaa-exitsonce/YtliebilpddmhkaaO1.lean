/- Contracts of what Op is made of: signs, floats, whole numbers. -/
import Derived.Test.YtliebilpddmhkaaW1
import Derived.Laws.StructEq
import Derived.Deep.RegionWith
namespace Go.Proofs.Ytliebilpddmhkaa
open Go.RowKit
attribute [local go_sem] store_float

/-- a number as a float: its bits -/
def realV (k n : Int) (f : Nat) : Nat := if k = 1 then floatOfInt .f64 n else f

def fltR (o : Option Nat) : R := match o with
  | some r => numBits r
  | none => ⟨0, 0, 0, 11⟩

theorem near_any (n : Int) (w : World) : Calls Try.prog 82 #[.int .i64 n] w fun e w' => e = .returned (.float .f64 (floatOfInt .f64 n)) ∧ w' = w := by
  go_enter Try.func82, Try.ntmps82
  go_wp2
  go_ret
  exact ⟨rfl, rfl⟩

theorem real_any (k n : Int) (f : Nat) (w : World) : Calls Try.prog 78 #[.agg #[.int .i64 k, .int .i64 n, .int .u64 f]] w fun e w' => e = .returned (.float .f64 (realV k n f)) ∧ Below w.heap.size w w' := by
  have hf := f64frombits
  by_cases hk : k = 1
  · subst hk
    go_enter Try.func78, Try.ntmps78
    go_wp2_with (go_at_call 82; refine (near_any _ _).mono ?_; rintro e w' ⟨rfl, rfl⟩)
    go_ret
    exact ⟨by simp [realV], below_new _ _⟩
  · have hk' : (k == 1) = false := by simpa using hk
    go_enter Try.func78, Try.ntmps78
    go_wp2
    go_ret
    exact ⟨by simp [realV, hk], below_new _ _⟩

/-- .. and just which world it leaves: its own copy of the number is laid. -/
theorem real_at (k n : Int) (f : Nat) (w : World) : Calls Try.prog 78 #[.agg #[.int .i64 k, .int .i64 n, .int .u64 f]] w fun e w' => e = .returned (.float .f64 (realV k n f)) ∧ w' = w.alloc (.cells #[.int .i64 k, .int .i64 n, .int .u64 f] 131) := by
  have hf := f64frombits
  by_cases hk : k = 1
  · subst hk
    go_enter Try.func78, Try.ntmps78
    go_wp2_with (go_at_call 82; refine (near_any _ _).mono ?_; rintro e w' ⟨rfl, rfl⟩)
    go_ret
    exact ⟨by simp [realV], rfl⟩
  · have hk' : (k == 1) = false := by simpa using hk
    go_enter Try.func78, Try.ntmps78
    go_wp2
    go_ret
    exact ⟨by simp [realV, hk], rfl⟩

theorem flt_nan (op : BinOp) (t : TypeId) (x y : Nat) (h : floatBits op .f64 x y = none) (ho : op = .add ∨ op = .sub ∨ op = .mul ∨ op = .quo) (w : World) :
    (binOp op t (.float .f64 x) (.float .f64 y)).run Try.prog w = .ok (.float .f64 (Flt.nanOf (w.tape w.drawn (.nanBits .f64 x y)))) w.drew := by
  rcases ho with rfl | rfl | rfl | rfl <;> simp only [floatBits] at h <;> simp [binOp, Op.floatArith, h, Question.forced, Question.cut, Flt.nanOf]

theorem fltR_none : fltR none = ⟨0, 0, 0, 11⟩ := rfl
theorem numBits_nan (t : Nat) : numBits (Flt.nanOf t) = ⟨0, 0, 0, 11⟩ := by simp [numBits, Flt.nanOf_fin]
theorem floatBits_lt {op : BinOp} {x y r : Nat} (h : floatBits op .f64 x y = some r) : r < 18446744073709551616 := by
  have := floatBits_wf h
  simpa [Lit.wf] using this

def zB (f : Nat) : Bool := decide (f % 9223372036854775808 = 0)

/-- A result's box laid first, a draw, calls, then the five cells of a term stored into the box. -/
theorem below_retd {w w1 : World} {o : Obj} (hb : Below (w.alloc o).drew.heap.size (w.alloc o).drew w1) (v0 v1 v2 v3 v4 : Value) :
    Below w.heap.size w (((((w1.setCell ⟨w.heap.size, 0, none⟩ v0).setCell ⟨w.heap.size, 1, none⟩ v1).setCell ⟨w.heap.size, 2, none⟩ v2).setCell ⟨w.heap.size, 3, none⟩ v3).setCell ⟨w.heap.size, 4, none⟩ v4) :=
  below_ret (w := w) (o := o) (w1 := w1) ⟨hb.os, hb.tape, hb.output, hb.size, hb.block⟩ v0 v1 v2 v3 v4

end Go.Proofs.Ytliebilpddmhkaa
