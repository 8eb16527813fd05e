import Derived.Test.YtpcpdehnppfbfaaGreatG00
import Derived.Laws.StructEq
import Derived.Deep.RegionWith
/- Small contracts of the program: how numbers are made, or refused, by the program. -/
namespace Go.Proofs.YtpcpdehnppfbfaaGreat
open Go.RowKit
attribute [local go_sem] store_float

theorem isWhole_any (n : Int) (w : World) : Calls Tryz.prog 111 #[.int .i64 n] w fun e w' => e = .returned (.bool (whB n)) ∧ w' = w := by
  cases hb : whB n
  · rcases whB_no hb with h | h
    · clear hb
      go_enter Tryz.func111, Tryz.ntmps111
      go_wp2
      go_ret
      exact ⟨rfl, rfl⟩
    · have h2 : -576460752303423488 ≤ n := by omega
      clear hb
      go_enter Tryz.func111, Tryz.ntmps111
      go_wp2
      go_ret
      refine ⟨?_, rfl⟩
      simp
      omega
  · obtain ⟨h1, h2⟩ := whB_yes hb
    clear hb
    go_enter Tryz.func111, Tryz.ntmps111
    go_wp2
    go_ret
    refine ⟨?_, rfl⟩
    simp

theorem isFinite_any (u : Nat) (hu : u < 18446744073709551616) (w : World) : Calls Tryz.prog 112 #[.int .u64 u] w fun e w' => e = .returned (.bool (Flt.fin u)) ∧ w' = w := by
  have hx := Flt.and_exp u hu
  have hy := u64_and_nat u 9218868437227405312 hu (by decide)
  have hz : (bits .and .u64 (u : Int) 9218868437227405312 != 9218868437227405312) = Flt.fin u := by
    rw [show (9218868437227405312 : Int) = ((9218868437227405312 : Nat) : Int) from rfl, hy, Bool.eq_iff_iff]
    cases hf : Flt.fin u
    · have := hx.2 hf; rw [this]; simp
    · have : ¬ (u &&& 9218868437227405312 = 9218868437227405312) := fun h => by rw [hx.1 h] at hf; cases hf
      simp; omega
  clear hx hy
  go_enter Tryz.func112, Tryz.ntmps112
  go_wp2
  go_ret
  exact ⟨rfl, rfl⟩

theorem numBits_any (u : Nat) (hu : u < 18446744073709551616) (w : World) : Calls Tryz.prog 113 #[.int .u64 u] w fun e w' => e = .returned (.tuple #[.agg #[.int .i64 (numBits u).k, .int .i64 (numBits u).n, .float .f64 (numBits u).f, .string ⟨#[]⟩, .slice none 0 0], .int .i64 (numBits u).e]) ∧ Below w.heap.size w w' := by
  have hf := f64frombits
  cases hb : Flt.fin u
  · have e : numBits u = ⟨0, 0, 0, 11⟩ := by simp [numBits, hb]
    rw [e]; clear e
    go_enter Tryz.func113, Tryz.ntmps113
    go_wp2_with (go_at_call 112; refine (isFinite_any _ hu _).mono ?_; rintro e w' ⟨rfl, rfl⟩)
    exact bodyPost_ret (v := .tuple #[.agg #[.int .i64 0, .int .i64 0, .float .f64 0, .string ⟨#[]⟩, .slice none 0 0], .int .i64 11]) (by simp [results, Tryz.results113, go_sem]) rfl ⟨rfl, (Below.refl _ _).alloc (Nat.le_refl _) _⟩
  · have e : numBits u = ⟨2, 0, u, 0⟩ := by simp [numBits, hb]
    rw [e]; clear e
    go_enter Tryz.func113, Tryz.ntmps113
    go_wp2_with (go_at_call 112; refine (isFinite_any _ hu _).mono ?_; rintro e w' ⟨rfl, rfl⟩)
    exact bodyPost_ret (v := .tuple #[.agg #[.int .i64 2, .int .i64 0, .float .f64 u, .string ⟨#[]⟩, .slice none 0 0], .int .i64 0]) (by simp [results, Tryz.results113, go_sem]) rfl ⟨rfl, (Below.refl _ _).alloc (Nat.le_refl _) _⟩

theorem numFloat_any (x : Nat) (hu : x < 18446744073709551616) (w : World) : Calls Tryz.prog 109 #[.float .f64 x] w fun e w' => e = .returned (.tuple #[.agg #[.int .i64 (numBits x).k, .int .i64 (numBits x).n, .float .f64 (numBits x).f, .string ⟨#[]⟩, .slice none 0 0], .int .i64 (numBits x).e]) ∧ Below w.heap.size w w' := by
  have hf := f64bits
  go_enter Tryz.func109, Tryz.ntmps109
  go_wp2_with fail
  refine (numBits_any x hu _).mono ?_
  rintro e w1 ⟨rfl, hb⟩
  obtain ⟨hc, hfr⟩ := bcell hb
  have hz := hb.size
  go_wp2
  exact bodyPost_ret (v := .tuple #[.agg #[.int .i64 ((numBits x).k), .int .i64 ((numBits x).n), .float .f64 ((numBits x).f), .string ⟨#[]⟩, .slice none 0 0], .int .i64 (numBits x).e]) (by simp [results, Tryz.results109, go_sem, hc]) rfl ⟨rfl, below_ret hb _ _ _ _ _⟩

end Go.Proofs.YtpcpdehnppfbfaaGreat


/- Contracts of what Op is made of: signs, floats, whole numbers. -/
namespace Go.Proofs.YtpcpdehnppfbfaaGreat
open Go.RowKit
attribute [local go_sem] store_float

/-- a number as a float: its bits -/
def realV (k n : Int) (f : Nat) : Nat := if k = 1 then floatOfInt .f64 n else f

def fltR (o : Option Nat) : R := match o with
  | some r => numBits r
  | none => ⟨0, 0, 0, 11⟩

theorem near_any (n : Int) (w : World) : Calls Tryz.prog 114 #[.int .i64 n] w fun e w' => e = .returned (.float .f64 (floatOfInt .f64 n)) ∧ w' = w := by
  go_enter Tryz.func114, Tryz.ntmps114
  go_wp2
  go_ret
  exact ⟨rfl, rfl⟩

theorem real_any (k n : Int) (f : Nat) (w : World) : Calls Tryz.prog 110 #[.agg #[.int .i64 k, .int .i64 n, .int .u64 f]] w fun e w' => e = .returned (.float .f64 (realV k n f)) ∧ Below w.heap.size w w' := by
  have hf := f64frombits
  by_cases hk : k = 1
  · subst hk
    go_enter Tryz.func110, Tryz.ntmps110
    go_wp2_with (go_at_call 114; refine (near_any _ _).mono ?_; rintro e w' ⟨rfl, rfl⟩)
    go_ret
    exact ⟨by simp [realV], below_new _ _⟩
  · have hk' : (k == 1) = false := by simpa using hk
    go_enter Tryz.func110, Tryz.ntmps110
    go_wp2
    go_ret
    exact ⟨by simp [realV, hk], below_new _ _⟩

/-- .. and just which world it leaves: its own copy of the number is laid. -/
theorem real_at (k n : Int) (f : Nat) (w : World) : Calls Tryz.prog 110 #[.agg #[.int .i64 k, .int .i64 n, .int .u64 f]] w fun e w' => e = .returned (.float .f64 (realV k n f)) ∧ w' = w.alloc (.cells #[.int .i64 k, .int .i64 n, .int .u64 f] 177) := by
  have hf := f64frombits
  by_cases hk : k = 1
  · subst hk
    go_enter Tryz.func110, Tryz.ntmps110
    go_wp2_with (go_at_call 114; refine (near_any _ _).mono ?_; rintro e w' ⟨rfl, rfl⟩)
    go_ret
    exact ⟨by simp [realV], rfl⟩
  · have hk' : (k == 1) = false := by simpa using hk
    go_enter Tryz.func110, Tryz.ntmps110
    go_wp2
    go_ret
    exact ⟨by simp [realV, hk], rfl⟩

theorem flt_nan (op : BinOp) (t : TypeId) (x y : Nat) (h : floatBits op .f64 x y = none) (ho : op = .add ∨ op = .sub ∨ op = .mul ∨ op = .quo) (w : World) :
    (binOp op t (.float .f64 x) (.float .f64 y)).run Tryz.prog w = .ok (.float .f64 (Flt.nanOf (w.tape w.drawn (.nanBits .f64 x y)))) w.drew := by
  rcases ho with rfl | rfl | rfl | rfl <;> simp only [floatBits] at h <;> simp [binOp, Op.floatArith, h, Question.forced, Question.cut, Flt.nanOf]

theorem fltR_none : fltR none = ⟨0, 0, 0, 11⟩ := rfl
theorem numBits_nan (t : Nat) : numBits (Flt.nanOf t) = ⟨0, 0, 0, 11⟩ := by simp [numBits, Flt.nanOf_fin]
theorem floatBits_lt {op : BinOp} {x y r : Nat} (h : floatBits op .f64 x y = some r) : r < 18446744073709551616 := by
  have := floatBits_wf h
  simpa [Lit.wf] using this

def zB (f : Nat) : Bool := decide (f % 9223372036854775808 = 0)

/-- A result's box laid first, a draw, calls, then the five cells of a term stored into the box. -/
theorem below_retd {w w1 : World} {o : Obj} (hb : Below (w.alloc o).drew.heap.size (w.alloc o).drew w1) (v0 v1 v2 v3 v4 : Value) :
    Below w.heap.size w (((((w1.setCell ⟨w.heap.size, 0, none⟩ v0).setCell ⟨w.heap.size, 1, none⟩ v1).setCell ⟨w.heap.size, 2, none⟩ v2).setCell ⟨w.heap.size, 3, none⟩ v3).setCell ⟨w.heap.size, 4, none⟩ v4) :=
  below_ret (w := w) (o := o) (w1 := w1) ⟨hb.os, hb.tape, hb.output, hb.size, hb.block⟩ v0 v1 v2 v3 v4

end Go.Proofs.YtpcpdehnppfbfaaGreat


