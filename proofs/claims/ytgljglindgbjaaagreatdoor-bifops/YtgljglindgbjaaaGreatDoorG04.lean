import Derived.Test.YtgljglindgbjaaaGreatDoorG03
import Derived.Laws.StructEq
import Derived.Deep.RegionWith
import Derived.Deep.DrawnRows
import Derived.Test.YtgljglindgbjaaaGreatDoorG02
/- Contracts of what Op is made of: signs, floats, whole numbers. -/
namespace Go.Proofs.YtgljglindgbjaaaGreatDoor
open Go.RowKit
attribute [local go_sem] store_float

/-- a number as a float: its bits -/
def realV (k n : Int) (f : Nat) : Nat := if k = 1 then floatOfInt .f64 n else f

def fltR (o : Option Nat) : R := match o with
  | some r => numBits r
  | none => ⟨0, 0, 0, 11⟩

theorem near_any (n : Int) (w : World) : Calls Tryz.prog 175 #[.int .i64 n] w fun e w' => e = .returned (.float .f64 (floatOfInt .f64 n)) ∧ w' = w := by
  go_enter Tryz.func175, Tryz.ntmps175
  go_wp2
  go_ret
  exact ⟨rfl, rfl⟩

theorem real_any (k n : Int) (f : Nat) (w : World) : Calls Tryz.prog 146 #[.agg #[.int .i64 k, .int .i64 n, .int .u64 f]] w fun e w' => e = .returned (.float .f64 (realV k n f)) ∧ Below w.heap.size w w' := by
  have hf := f64frombits
  by_cases hk : k = 1
  · subst hk
    go_enter Tryz.func146, Tryz.ntmps146
    go_wp2_with (go_at_call 175; refine (near_any _ _).mono ?_; rintro e w' ⟨rfl, rfl⟩)
    go_ret
    exact ⟨by simp [realV], below_new _ _⟩
  · have hk' : (k == 1) = false := by simpa using hk
    go_enter Tryz.func146, Tryz.ntmps146
    go_wp2
    go_ret
    exact ⟨by simp [realV, hk], below_new _ _⟩

/-- .. and just which world it leaves: its own copy of the number is laid. -/
theorem real_at (k n : Int) (f : Nat) (w : World) : Calls Tryz.prog 146 #[.agg #[.int .i64 k, .int .i64 n, .int .u64 f]] w fun e w' => e = .returned (.float .f64 (realV k n f)) ∧ w' = w.alloc (.cells #[.int .i64 k, .int .i64 n, .int .u64 f] 114) := by
  have hf := f64frombits
  by_cases hk : k = 1
  · subst hk
    go_enter Tryz.func146, Tryz.ntmps146
    go_wp2_with (go_at_call 175; refine (near_any _ _).mono ?_; rintro e w' ⟨rfl, rfl⟩)
    go_ret
    exact ⟨by simp [realV], rfl⟩
  · have hk' : (k == 1) = false := by simpa using hk
    go_enter Tryz.func146, Tryz.ntmps146
    go_wp2
    go_ret
    exact ⟨by simp [realV, hk], rfl⟩

theorem flt_nan (op : BinOp) (t : TypeId) (x y : Nat) (h : floatBits op .f64 x y = none) (ho : op = .add ∨ op = .sub ∨ op = .mul ∨ op = .quo) (w : World) :
    (binOp op t (.float .f64 x) (.float .f64 y)).run Tryz.prog w = .ok (.float .f64 (Flt.nanOf (w.tape w.drawn (.nanBits .f64 x y)))) w.drew := by
  rcases ho with rfl | rfl | rfl | rfl <;> simp only [floatBits] at h <;> simp [binOp, Op.floatArith, h, Question.forced, Question.cut, Flt.nanOf]

theorem fltR_none : fltR none = ⟨0, 0, 0, 11⟩ := rfl
theorem numBits_nan (t : Nat) : numBits (Flt.nanOf t) = ⟨0, 0, 0, 11⟩ := by simp [numBits, Flt.nanOf_fin]
theorem floatBits_lt {op : BinOp} {x y r : Nat} (h : floatBits op .f64 x y = some r) : r < 18446744073709551616 := by
  have := floatBits_wf h
  simpa [Lit.wf] using this

def zB (f : Nat) : Bool := decide (f % 9223372036854775808 = 0)

theorem isZero_any (f : Nat) (w : World) : Calls Tryz.prog 174 #[.float .f64 f] w fun e w' => e = .returned (.bool (zB f)) ∧ w' = w := by
  have hb := f64bits
  have hs : IntKind.u64.wrap ((f : Int) * 2) = ((f % 9223372036854775808 * 2 : Nat) : Int) := by rw [IntKind.wrap_u64]; omega
  have hz : (IntKind.u64.wrap ((f : Int) * 2) == 0) = zB f := by
    rw [hs, Bool.eq_iff_iff, beq_iff_eq, zB, decide_eq_true_iff]; omega
  clear hs
  go_enter Tryz.func174, Tryz.ntmps174
  go_wp2
  go_ret
  exact ⟨rfl, rfl⟩

/-- A result's box laid first, a draw, calls, then the five cells of a term stored into the box. -/
theorem below_retd {w w1 : World} {o : Obj} (hb : Below (w.alloc o).drew.heap.size (w.alloc o).drew w1) (v0 v1 v2 v3 v4 : Value) :
    Below w.heap.size w (((((w1.setCell ⟨w.heap.size, 0, none⟩ v0).setCell ⟨w.heap.size, 1, none⟩ v1).setCell ⟨w.heap.size, 2, none⟩ v2).setCell ⟨w.heap.size, 3, none⟩ v3).setCell ⟨w.heap.size, 4, none⟩ v4) :=
  below_ret (w := w) (o := o) (w1 := w1) ⟨hb.os, hb.tape, hb.output, hb.size, hb.block⟩ v0 v1 v2 v3 v4

set_option maxHeartbeats 400000 in
theorem rf_add (a b : Nat) (w : World) : Calls Tryz.prog 145 #[.string ⟨#[43]⟩, .float .f64 a, .float .f64 b] w fun e w' => e = .returned (.tuple #[.agg #[.int .i64 ((fltR (floatBits .add .f64 a b)).k), .int .i64 ((fltR (floatBits .add .f64 a b)).n), .float .f64 ((fltR (floatBits .add .f64 a b)).f), .string ⟨#[]⟩, .slice none 0 0], .int .i64 (fltR (floatBits .add .f64 a b)).e]) ∧ Below w.heap.size w w' := by
  cases hr : floatBits .add .f64 a b with
  | none =>
    have hn := fun t w => flt_nan .add t a b hr (by simp) w
    rw [fltR_none]
    go_enter Tryz.func145, Tryz.ntmps145
    go_wp2_with fail
    refine (numFloat_any _ (Flt.nanOf_lt _) _).mono ?_
    rintro e w1 ⟨rfl, hb⟩
    rw [numBits_nan]
    obtain ⟨hc, hfr⟩ := bcell hb
    go_wp2
    exact bodyPost_ret (v := .tuple #[.agg #[.int .i64 (0), .int .i64 (0), .float .f64 (0), .string ⟨#[]⟩, .slice none 0 0], .int .i64 11]) (by simp [results, Tryz.results145, go_sem, hc]) rfl ⟨rfl, below_retd hb _ _ _ _ _⟩
  | some r =>
    have hlt := floatBits_lt hr
    have hn := fun t w => run_float_arith (P := Tryz.prog) w .add t .f64 a b r hr
    have e : fltR (some r) = numBits r := rfl
    rw [e]
    clear e
    go_enter Tryz.func145, Tryz.ntmps145
    go_wp2_with fail
    refine (numFloat_any r hlt _).mono ?_
    rintro e w1 ⟨rfl, hb⟩
    obtain ⟨hc, hfr⟩ := bcell hb
    go_wp2
    exact bodyPost_ret (v := .tuple #[.agg #[.int .i64 ((numBits r).k), .int .i64 ((numBits r).n), .float .f64 ((numBits r).f), .string ⟨#[]⟩, .slice none 0 0], .int .i64 (numBits r).e]) (by simp [results, Tryz.results145, go_sem, hc]) rfl ⟨rfl, below_ret hb _ _ _ _ _⟩

set_option maxHeartbeats 400000 in
theorem rf_sub (a b : Nat) (w : World) : Calls Tryz.prog 145 #[.string ⟨#[45]⟩, .float .f64 a, .float .f64 b] w fun e w' => e = .returned (.tuple #[.agg #[.int .i64 ((fltR (floatBits .sub .f64 a b)).k), .int .i64 ((fltR (floatBits .sub .f64 a b)).n), .float .f64 ((fltR (floatBits .sub .f64 a b)).f), .string ⟨#[]⟩, .slice none 0 0], .int .i64 (fltR (floatBits .sub .f64 a b)).e]) ∧ Below w.heap.size w w' := by
  cases hr : floatBits .sub .f64 a b with
  | none =>
    have hn := fun t w => flt_nan .sub t a b hr (by simp) w
    rw [fltR_none]
    go_enter Tryz.func145, Tryz.ntmps145
    go_wp2_with fail
    refine (numFloat_any _ (Flt.nanOf_lt _) _).mono ?_
    rintro e w1 ⟨rfl, hb⟩
    rw [numBits_nan]
    obtain ⟨hc, hfr⟩ := bcell hb
    go_wp2
    exact bodyPost_ret (v := .tuple #[.agg #[.int .i64 (0), .int .i64 (0), .float .f64 (0), .string ⟨#[]⟩, .slice none 0 0], .int .i64 11]) (by simp [results, Tryz.results145, go_sem, hc]) rfl ⟨rfl, below_retd hb _ _ _ _ _⟩
  | some r =>
    have hlt := floatBits_lt hr
    have hn := fun t w => run_float_arith (P := Tryz.prog) w .sub t .f64 a b r hr
    have e : fltR (some r) = numBits r := rfl
    rw [e]
    clear e
    go_enter Tryz.func145, Tryz.ntmps145
    go_wp2_with fail
    refine (numFloat_any r hlt _).mono ?_
    rintro e w1 ⟨rfl, hb⟩
    obtain ⟨hc, hfr⟩ := bcell hb
    go_wp2
    exact bodyPost_ret (v := .tuple #[.agg #[.int .i64 ((numBits r).k), .int .i64 ((numBits r).n), .float .f64 ((numBits r).f), .string ⟨#[]⟩, .slice none 0 0], .int .i64 (numBits r).e]) (by simp [results, Tryz.results145, go_sem, hc]) rfl ⟨rfl, below_ret hb _ _ _ _ _⟩

set_option maxHeartbeats 400000 in
theorem rf_mul (a b : Nat) (w : World) : Calls Tryz.prog 145 #[.string ⟨#[42]⟩, .float .f64 a, .float .f64 b] w fun e w' => e = .returned (.tuple #[.agg #[.int .i64 ((fltR (floatBits .mul .f64 a b)).k), .int .i64 ((fltR (floatBits .mul .f64 a b)).n), .float .f64 ((fltR (floatBits .mul .f64 a b)).f), .string ⟨#[]⟩, .slice none 0 0], .int .i64 (fltR (floatBits .mul .f64 a b)).e]) ∧ Below w.heap.size w w' := by
  cases hr : floatBits .mul .f64 a b with
  | none =>
    have hn := fun t w => flt_nan .mul t a b hr (by simp) w
    rw [fltR_none]
    go_enter Tryz.func145, Tryz.ntmps145
    go_wp2_with fail
    refine (numFloat_any _ (Flt.nanOf_lt _) _).mono ?_
    rintro e w1 ⟨rfl, hb⟩
    rw [numBits_nan]
    obtain ⟨hc, hfr⟩ := bcell hb
    go_wp2
    exact bodyPost_ret (v := .tuple #[.agg #[.int .i64 (0), .int .i64 (0), .float .f64 (0), .string ⟨#[]⟩, .slice none 0 0], .int .i64 11]) (by simp [results, Tryz.results145, go_sem, hc]) rfl ⟨rfl, below_retd hb _ _ _ _ _⟩
  | some r =>
    have hlt := floatBits_lt hr
    have hn := fun t w => run_float_arith (P := Tryz.prog) w .mul t .f64 a b r hr
    have e : fltR (some r) = numBits r := rfl
    rw [e]
    clear e
    go_enter Tryz.func145, Tryz.ntmps145
    go_wp2_with fail
    refine (numFloat_any r hlt _).mono ?_
    rintro e w1 ⟨rfl, hb⟩
    obtain ⟨hc, hfr⟩ := bcell hb
    go_wp2
    exact bodyPost_ret (v := .tuple #[.agg #[.int .i64 ((numBits r).k), .int .i64 ((numBits r).n), .float .f64 ((numBits r).f), .string ⟨#[]⟩, .slice none 0 0], .int .i64 (numBits r).e]) (by simp [results, Tryz.results145, go_sem, hc]) rfl ⟨rfl, below_ret hb _ _ _ _ _⟩

set_option maxHeartbeats 400000 in
theorem rf_quo (a b : Nat) (hz : zB b = false) (w : World) : Calls Tryz.prog 145 #[.string ⟨#[47]⟩, .float .f64 a, .float .f64 b] w fun e w' => e = .returned (.tuple #[.agg #[.int .i64 ((fltR (floatBits .quo .f64 a b)).k), .int .i64 ((fltR (floatBits .quo .f64 a b)).n), .float .f64 ((fltR (floatBits .quo .f64 a b)).f), .string ⟨#[]⟩, .slice none 0 0], .int .i64 (fltR (floatBits .quo .f64 a b)).e]) ∧ Below w.heap.size w w' := by
  cases hr : floatBits .quo .f64 a b with
  | none =>
    have hn := fun t w => flt_nan .quo t a b hr (by simp) w
    rw [fltR_none]
    go_enter Tryz.func145, Tryz.ntmps145
    go_wp2_with (go_at_call 174; refine (isZero_any _ _).mono ?_; rintro e w' ⟨rfl, rfl⟩)
    refine (numFloat_any _ (Flt.nanOf_lt _) _).mono ?_
    rintro e w1 ⟨rfl, hb⟩
    rw [numBits_nan]
    obtain ⟨hc, hfr⟩ := bcell hb
    go_wp2
    exact bodyPost_ret (v := .tuple #[.agg #[.int .i64 (0), .int .i64 (0), .float .f64 (0), .string ⟨#[]⟩, .slice none 0 0], .int .i64 11]) (by simp [results, Tryz.results145, go_sem, hc]) rfl ⟨rfl, below_retd hb _ _ _ _ _⟩
  | some r =>
    have hlt := floatBits_lt hr
    have hn := fun t w => run_float_arith (P := Tryz.prog) w .quo t .f64 a b r hr
    have e : fltR (some r) = numBits r := rfl
    rw [e]
    clear e
    go_enter Tryz.func145, Tryz.ntmps145
    go_wp2_with (go_at_call 174; refine (isZero_any _ _).mono ?_; rintro e w' ⟨rfl, rfl⟩)
    refine (numFloat_any r hlt _).mono ?_
    rintro e w1 ⟨rfl, hb⟩
    obtain ⟨hc, hfr⟩ := bcell hb
    go_wp2
    exact bodyPost_ret (v := .tuple #[.agg #[.int .i64 ((numBits r).k), .int .i64 ((numBits r).n), .float .f64 ((numBits r).f), .string ⟨#[]⟩, .slice none 0 0], .int .i64 (numBits r).e]) (by simp [results, Tryz.results145, go_sem, hc]) rfl ⟨rfl, below_ret hb _ _ _ _ _⟩

set_option maxHeartbeats 400000 in
theorem rf_zero (a b : Nat) (hz : zB b = true) (w : World) : Calls Tryz.prog 145 #[.string ⟨#[47]⟩, .float .f64 a, .float .f64 b] w fun e w' => e = .returned (.tuple #[.agg #[.int .i64 (0), .int .i64 (0), .float .f64 (0), .string ⟨#[]⟩, .slice none 0 0], .int .i64 11]) ∧ Below w.heap.size w w' := by
  go_enter Tryz.func145, Tryz.ntmps145
  go_wp2_with (go_at_call 174; refine (isZero_any _ _).mono ?_; rintro e w' ⟨rfl, rfl⟩)
  exact bodyPost_ret (v := .tuple #[.agg #[.int .i64 (0), .int .i64 (0), .float .f64 (0), .string ⟨#[]⟩, .slice none 0 0], .int .i64 11]) (by simp [results, Tryz.results145, go_sem]) rfl ⟨rfl, below_new _ _⟩

set_option maxHeartbeats 400000 in
theorem divide_zero (s : ByteArray) (a : Int) (w : World) : Calls Tryz.prog 144 #[.string s, .int .i64 a, .int .i64 0] w fun e w' => e = .returned (.tuple #[.agg #[.int .i64 (0), .int .i64 (0), .float .f64 (0), .string ⟨#[]⟩, .slice none 0 0], .int .i64 11]) ∧ Below w.heap.size w w' := by
  go_enter Tryz.func144, Tryz.ntmps144
  go_wp2
  exact bodyPost_ret (v := .tuple #[.agg #[.int .i64 (0), .int .i64 (0), .float .f64 (0), .string ⟨#[]⟩, .slice none 0 0], .int .i64 11]) (by simp [results, Tryz.results144, go_sem]) rfl ⟨rfl, below_new _ _⟩

set_option maxHeartbeats 400000 in
theorem divide_div (a b : Int) (ha : whB a = true) (hb : whB b = true) (h0 : ¬ b = 0) (w : World) : Calls Tryz.prog 144 #[.string ⟨#[100, 105, 118]⟩, .int .i64 a, .int .i64 b] w fun e w' => e = .returned (.tuple #[.agg #[.int .i64 ((numInt (a.tdiv b)).k), .int .i64 ((numInt (a.tdiv b)).n), .float .f64 ((numInt (a.tdiv b)).f), .string ⟨#[]⟩, .slice none 0 0], .int .i64 (numInt (a.tdiv b)).e]) ∧ Below w.heap.size w w' := by
  obtain ⟨a1, a2⟩ := whB_yes ha
  obtain ⟨b1, b2⟩ := whB_yes hb
  have h0' : (b == 0) = false := by simpa using h0
  have hw : wrap64 (a.tdiv b) = a.tdiv b := by
    have h1 : (a.tdiv b).natAbs = a.natAbs / b.natAbs := Int.natAbs_tdiv a b
    have h2 := Nat.div_le_self a.natAbs b.natAbs
    exact IntWalk.wrap64_in _ ⟨by omega, by omega⟩
  have HW : Hid (wrap64 (a.tdiv b) = a.tdiv b) := hw
  clear ha hb hw
  go_enter Tryz.func144, Tryz.ntmps144
  go_wp2_with fail
  rw [HW.out]
  refine (numInt_any _ _).mono ?_
  rintro e w1 ⟨rfl, hb⟩
  obtain ⟨hc, hfr⟩ := bcell hb
  go_wp2
  exact bodyPost_ret (v := .tuple #[.agg #[.int .i64 ((numInt (a.tdiv b)).k), .int .i64 ((numInt (a.tdiv b)).n), .float .f64 ((numInt (a.tdiv b)).f), .string ⟨#[]⟩, .slice none 0 0], .int .i64 (numInt (a.tdiv b)).e]) (by simp [results, Tryz.results144, go_sem, hc]) rfl ⟨rfl, below_ret hb _ _ _ _ _⟩

set_option maxHeartbeats 400000 in
theorem divide_rem (a b : Int) (ha : whB a = true) (hb : whB b = true) (h0 : ¬ b = 0) (w : World) : Calls Tryz.prog 144 #[.string ⟨#[114, 101, 109]⟩, .int .i64 a, .int .i64 b] w fun e w' => e = .returned (.tuple #[.agg #[.int .i64 ((numInt (a.tmod b)).k), .int .i64 ((numInt (a.tmod b)).n), .float .f64 ((numInt (a.tmod b)).f), .string ⟨#[]⟩, .slice none 0 0], .int .i64 (numInt (a.tmod b)).e]) ∧ Below w.heap.size w w' := by
  obtain ⟨a1, a2⟩ := whB_yes ha
  obtain ⟨b1, b2⟩ := whB_yes hb
  have h0' : (b == 0) = false := by simpa using h0
  clear ha hb
  go_enter Tryz.func144, Tryz.ntmps144
  go_wp2_with fail
  refine (numInt_any _ _).mono ?_
  rintro e w1 ⟨rfl, hb⟩
  obtain ⟨hc, hfr⟩ := bcell hb
  go_wp2
  exact bodyPost_ret (v := .tuple #[.agg #[.int .i64 ((numInt (a.tmod b)).k), .int .i64 ((numInt (a.tmod b)).n), .float .f64 ((numInt (a.tmod b)).f), .string ⟨#[]⟩, .slice none 0 0], .int .i64 (numInt (a.tmod b)).e]) (by simp [results, Tryz.results144, go_sem, hc]) rfl ⟨rfl, below_ret hb _ _ _ _ _⟩

set_option maxHeartbeats 400000 in
theorem rw_add (a b : Int) (ha : whB a = true) (hb : whB b = true) (w : World) : Calls Tryz.prog 147 #[.string ⟨#[43]⟩, .int .i64 a, .int .i64 b] w fun e w' => e = .returned (.tuple #[.agg #[.int .i64 ((numInt (a + b)).k), .int .i64 ((numInt (a + b)).n), .float .f64 ((numInt (a + b)).f), .string ⟨#[]⟩, .slice none 0 0], .int .i64 (numInt (a + b)).e]) ∧ Below w.heap.size w w' := by
  obtain ⟨a1, a2⟩ := whB_yes ha
  obtain ⟨b1, b2⟩ := whB_yes hb
  clear ha hb
  go_enter Tryz.func147, Tryz.ntmps147
  go_wp2_with fail
  refine (numInt_any _ _).mono ?_
  rintro e w1 ⟨rfl, hb⟩
  obtain ⟨hc, hfr⟩ := bcell hb
  go_wp2
  exact bodyPost_ret (v := .tuple #[.agg #[.int .i64 ((numInt (a + b)).k), .int .i64 ((numInt (a + b)).n), .float .f64 ((numInt (a + b)).f), .string ⟨#[]⟩, .slice none 0 0], .int .i64 (numInt (a + b)).e]) (by simp [results, Tryz.results147, go_sem, hc]) rfl ⟨rfl, below_ret hb _ _ _ _ _⟩

set_option maxHeartbeats 400000 in
theorem rw_sub (a b : Int) (ha : whB a = true) (hb : whB b = true) (w : World) : Calls Tryz.prog 147 #[.string ⟨#[45]⟩, .int .i64 a, .int .i64 b] w fun e w' => e = .returned (.tuple #[.agg #[.int .i64 ((numInt (a - b)).k), .int .i64 ((numInt (a - b)).n), .float .f64 ((numInt (a - b)).f), .string ⟨#[]⟩, .slice none 0 0], .int .i64 (numInt (a - b)).e]) ∧ Below w.heap.size w w' := by
  obtain ⟨a1, a2⟩ := whB_yes ha
  obtain ⟨b1, b2⟩ := whB_yes hb
  clear ha hb
  go_enter Tryz.func147, Tryz.ntmps147
  go_wp2_with fail
  refine (numInt_any _ _).mono ?_
  rintro e w1 ⟨rfl, hb⟩
  obtain ⟨hc, hfr⟩ := bcell hb
  go_wp2
  exact bodyPost_ret (v := .tuple #[.agg #[.int .i64 ((numInt (a - b)).k), .int .i64 ((numInt (a - b)).n), .float .f64 ((numInt (a - b)).f), .string ⟨#[]⟩, .slice none 0 0], .int .i64 (numInt (a - b)).e]) (by simp [results, Tryz.results147, go_sem, hc]) rfl ⟨rfl, below_ret hb _ _ _ _ _⟩

theorem size_any (n : Int) (hn : whB n = true) (w : World) : Calls Tryz.prog 212 #[.int .i64 n] w fun e w' => e = .returned (.int .u64 (n.natAbs : Int)) ∧ w' = w := by
  obtain ⟨a1, a2⟩ := whB_yes hn
  clear hn
  go_enter Tryz.func212, Tryz.ntmps212
  go_wp2
  all_goals
    go_ret
    exact ⟨congrArg (fun z => Ending.returned (Value.int .u64 z)) (by omega), rfl⟩
end Go.Proofs.YtgljglindgbjaaaGreatDoor


/- The contract of valueOf: which terms are right numbers. -/
namespace Go.Proofs.YtgljglindgbjaaaGreatDoor
open Go.RowKit
attribute [local go_sem] store_float
attribute [local go_sem ↓] Go.wp_at_zero Go.wp_at_succ

theorem eqV (a b c d e f : Int) (w : World) : (Op.equalIn 10000 114 (.agg #[.int .i64 a, .int .i64 b, .int .u64 c]) (.agg #[.int .i64 d, .int .i64 e, .int .u64 f])).run Tryz.prog w = .ok (a == d && (b == e && c == f)) w := by
  have u3 := Tryz.underlying3
  have a3 := Tryz.isAgg3
  have z3 := Tryz.sizeOf3
  have u2 := Tryz.underlying2
  have a2 := Tryz.isAgg2
  have z2 := Tryz.sizeOf2
  have u4 := Tryz.underlying50
  have a4 := Tryz.isAgg50
  have z4 := Tryz.sizeOf50
  have hS : Tryz.prog.underlying 114 = some (.struct (Tryz.prog.fieldsOf 114)) := by kernel_rfl
  have hp : Tryz.prog.stoodInHeld 114 = false := by kernel_rfl
  rw [show (10000 : Nat) = 9999 + 1 from rfl, run_equalIn_agg w 9999 114 _ _ hS hp]
  simp only [Program.fieldsOf, Tryz.underlying114]
  go_simp
  by_cases h1 : a = d <;> by_cases h2 : b = e <;> by_cases h3 : c = f <;> simp [h1, h2, h3]

def rightB (k n : Int) (f : Nat) (s : ByteArray) (l : Nat) : Bool :=
  ((k == 1 && whB n && f == 0) || (k == 2 && n == 0 && Flt.fin f)) && s.toList.isEmpty && l == 0

theorem below4 (w : World) (o1 o2 o3 o4 : Obj) : Below w.heap.size w ((((w.alloc o1).alloc o2).alloc o3).alloc o4) :=
  (((below_new w o1).alloc (by simp) o2).alloc (by simp; omega) o3).alloc (by simp; omega) o4

set_option maxHeartbeats 800000 in
theorem vo1a (n : Int) (f : Nat) (s : ByteArray) (l : Nat) (a : Option Addr) (c : Nat) (w : World) (hn : whB n = false) :
    Calls Tryz.prog 143 #[.agg #[.int .i64 1, .int .i64 n, .float .f64 f, .string s, .slice a l c]] w fun e w' => e = .returned (.tuple #[.agg #[.int .i64 0, .int .i64 0, .int .u64 0], .bool false]) ∧ Below w.heap.size w w' := by
  have hb := f64bits
  have he := eqV
  go_enter Tryz.func143, Tryz.ntmps143
  go_wp2
  go_region
  go_wp2
  go_region_with (go_at_call 165; refine (isWhole_any _ _).mono ?_; rintro e w' ⟨rfl, rfl⟩)
  all_goals go_wp2
  all_goals exact bodyPost_ret (v := .tuple #[.agg #[.int .i64 0, .int .i64 0, .int .u64 0], .bool false]) (by simp [results, Tryz.results143, go_sem]) rfl ⟨rfl, by first | exact (below4 _ _ _ _ _).drew.drew | exact (below4 _ _ _ _ _).drew⟩

set_option maxHeartbeats 800000 in
theorem vo1b (n : Int) (f : Nat) (s : ByteArray) (l : Nat) (a : Option Addr) (c : Nat) (w : World) (hn : whB n = true) (h0 : ((f : Int) == 0) = false) :
    Calls Tryz.prog 143 #[.agg #[.int .i64 1, .int .i64 n, .float .f64 f, .string s, .slice a l c]] w fun e w' => e = .returned (.tuple #[.agg #[.int .i64 0, .int .i64 0, .int .u64 0], .bool false]) ∧ Below w.heap.size w w' := by
  have hb := f64bits
  have he := eqV
  go_enter Tryz.func143, Tryz.ntmps143
  go_wp2
  go_region
  go_wp2
  go_region_with (go_at_call 165; refine (isWhole_any _ _).mono ?_; rintro e w' ⟨rfl, rfl⟩)
  all_goals go_wp2
  all_goals exact bodyPost_ret (v := .tuple #[.agg #[.int .i64 0, .int .i64 0, .int .u64 0], .bool false]) (by simp [results, Tryz.results143, go_sem]) rfl ⟨rfl, by first | exact (below4 _ _ _ _ _).drew.drew | exact (below4 _ _ _ _ _).drew⟩

set_option maxHeartbeats 800000 in
theorem vo1c (n : Int) (s : ByteArray) (l : Nat) (a : Option Addr) (c : Nat) (w : World) (hn : whB n = true) (hs : s.toList.isEmpty = false) :
    Calls Tryz.prog 143 #[.agg #[.int .i64 1, .int .i64 n, .float .f64 0, .string s, .slice a l c]] w fun e w' => e = .returned (.tuple #[.agg #[.int .i64 0, .int .i64 0, .int .u64 0], .bool false]) ∧ Below w.heap.size w w' := by
  have hb := f64bits
  have he := eqV
  go_enter Tryz.func143, Tryz.ntmps143
  go_wp2
  go_region
  go_wp2
  go_region_with (go_at_call 165; refine (isWhole_any _ _).mono ?_; rintro e w' ⟨rfl, rfl⟩)
  all_goals go_wp2
  all_goals exact bodyPost_ret (v := .tuple #[.agg #[.int .i64 0, .int .i64 0, .int .u64 0], .bool false]) (by simp [results, Tryz.results143, go_sem]) rfl ⟨rfl, by first | exact (below4 _ _ _ _ _).drew.drew | exact (below4 _ _ _ _ _).drew⟩

set_option maxHeartbeats 800000 in
theorem vo1d (n : Int) (s : ByteArray) (l : Nat) (a : Option Addr) (c : Nat) (w : World) (hn : whB n = true) (hs : s.toList.isEmpty = true) (hl : ((l : Int) == 0) = false) :
    Calls Tryz.prog 143 #[.agg #[.int .i64 1, .int .i64 n, .float .f64 0, .string s, .slice a l c]] w fun e w' => e = .returned (.tuple #[.agg #[.int .i64 0, .int .i64 0, .int .u64 0], .bool false]) ∧ Below w.heap.size w w' := by
  have hb := f64bits
  have he := eqV
  go_enter Tryz.func143, Tryz.ntmps143
  go_wp2
  go_region
  go_wp2
  go_region_with (go_at_call 165; refine (isWhole_any _ _).mono ?_; rintro e w' ⟨rfl, rfl⟩)
  all_goals go_wp2
  all_goals exact bodyPost_ret (v := .tuple #[.agg #[.int .i64 0, .int .i64 0, .int .u64 0], .bool false]) (by simp [results, Tryz.results143, go_sem]) rfl ⟨rfl, by first | exact (below4 _ _ _ _ _).drew.drew | exact (below4 _ _ _ _ _).drew⟩

set_option maxHeartbeats 800000 in
theorem vo1e (n : Int) (s : ByteArray) (a : Option Addr) (c : Nat) (w : World) (hn : whB n = true) (hs : s.toList.isEmpty = true) :
    Calls Tryz.prog 143 #[.agg #[.int .i64 1, .int .i64 n, .float .f64 0, .string s, .slice a 0 c]] w fun e w' => e = .returned (.tuple #[.agg #[.int .i64 1, .int .i64 n, .int .u64 0], .bool true]) ∧ Below w.heap.size w w' := by
  have hb := f64bits
  have he := eqV
  go_enter Tryz.func143, Tryz.ntmps143
  go_wp2
  go_region
  go_wp2
  go_region_with (go_at_call 165; refine (isWhole_any _ _).mono ?_; rintro e w' ⟨rfl, rfl⟩)
  all_goals go_wp2
  all_goals exact bodyPost_ret (v := .tuple #[.agg #[.int .i64 1, .int .i64 n, .int .u64 0], .bool true]) (by simp [results, Tryz.results143, go_sem]) rfl ⟨rfl, by first | exact (below4 _ _ _ _ _).drew.drew | exact (below4 _ _ _ _ _).drew⟩

set_option maxHeartbeats 800000 in
theorem vo2a (n : Int) (f : Nat) (s : ByteArray) (l : Nat) (a : Option Addr) (c : Nat) (w : World) (hf : f < 18446744073709551616) (hn : Flt.fin f = false) :
    Calls Tryz.prog 143 #[.agg #[.int .i64 2, .int .i64 n, .float .f64 f, .string s, .slice a l c]] w fun e w' => e = .returned (.tuple #[.agg #[.int .i64 0, .int .i64 0, .int .u64 0], .bool false]) ∧ Below w.heap.size w w' := by
  have hb := f64bits
  have he := eqV
  go_enter Tryz.func143, Tryz.ntmps143
  go_wp2
  go_region
  go_wp2
  go_region_with (go_at_call 167; refine (isFinite_any _ hf _).mono ?_; rintro e w' ⟨rfl, rfl⟩)
  all_goals go_wp2
  all_goals exact bodyPost_ret (v := .tuple #[.agg #[.int .i64 0, .int .i64 0, .int .u64 0], .bool false]) (by simp [results, Tryz.results143, go_sem]) rfl ⟨rfl, by first | exact (below4 _ _ _ _ _).drew.drew | exact (below4 _ _ _ _ _).drew⟩

set_option maxHeartbeats 800000 in
theorem vo2b (n : Int) (f : Nat) (s : ByteArray) (l : Nat) (a : Option Addr) (c : Nat) (w : World) (hf : f < 18446744073709551616) (hn : Flt.fin f = true) (h0 : (n == 0) = false) :
    Calls Tryz.prog 143 #[.agg #[.int .i64 2, .int .i64 n, .float .f64 f, .string s, .slice a l c]] w fun e w' => e = .returned (.tuple #[.agg #[.int .i64 0, .int .i64 0, .int .u64 0], .bool false]) ∧ Below w.heap.size w w' := by
  have hb := f64bits
  have he := eqV
  go_enter Tryz.func143, Tryz.ntmps143
  go_wp2
  go_region
  go_wp2
  go_region_with (go_at_call 167; refine (isFinite_any _ hf _).mono ?_; rintro e w' ⟨rfl, rfl⟩)
  all_goals go_wp2
  all_goals exact bodyPost_ret (v := .tuple #[.agg #[.int .i64 0, .int .i64 0, .int .u64 0], .bool false]) (by simp [results, Tryz.results143, go_sem]) rfl ⟨rfl, by first | exact (below4 _ _ _ _ _).drew.drew | exact (below4 _ _ _ _ _).drew⟩

set_option maxHeartbeats 800000 in
theorem vo2c (f : Nat) (s : ByteArray) (l : Nat) (a : Option Addr) (c : Nat) (w : World) (hf : f < 18446744073709551616) (hn : Flt.fin f = true) (hs : s.toList.isEmpty = false) :
    Calls Tryz.prog 143 #[.agg #[.int .i64 2, .int .i64 0, .float .f64 f, .string s, .slice a l c]] w fun e w' => e = .returned (.tuple #[.agg #[.int .i64 0, .int .i64 0, .int .u64 0], .bool false]) ∧ Below w.heap.size w w' := by
  have hb := f64bits
  have he := eqV
  go_enter Tryz.func143, Tryz.ntmps143
  go_wp2
  go_region
  go_wp2
  go_region_with (go_at_call 167; refine (isFinite_any _ hf _).mono ?_; rintro e w' ⟨rfl, rfl⟩)
  all_goals go_wp2
  all_goals exact bodyPost_ret (v := .tuple #[.agg #[.int .i64 0, .int .i64 0, .int .u64 0], .bool false]) (by simp [results, Tryz.results143, go_sem]) rfl ⟨rfl, by first | exact (below4 _ _ _ _ _).drew.drew | exact (below4 _ _ _ _ _).drew⟩

set_option maxHeartbeats 800000 in
theorem vo2d (f : Nat) (s : ByteArray) (l : Nat) (a : Option Addr) (c : Nat) (w : World) (hf : f < 18446744073709551616) (hn : Flt.fin f = true) (hs : s.toList.isEmpty = true) (hl : ((l : Int) == 0) = false) :
    Calls Tryz.prog 143 #[.agg #[.int .i64 2, .int .i64 0, .float .f64 f, .string s, .slice a l c]] w fun e w' => e = .returned (.tuple #[.agg #[.int .i64 0, .int .i64 0, .int .u64 0], .bool false]) ∧ Below w.heap.size w w' := by
  have hb := f64bits
  have he := eqV
  go_enter Tryz.func143, Tryz.ntmps143
  go_wp2
  go_region
  go_wp2
  go_region_with (go_at_call 167; refine (isFinite_any _ hf _).mono ?_; rintro e w' ⟨rfl, rfl⟩)
  all_goals go_wp2
  all_goals exact bodyPost_ret (v := .tuple #[.agg #[.int .i64 0, .int .i64 0, .int .u64 0], .bool false]) (by simp [results, Tryz.results143, go_sem]) rfl ⟨rfl, by first | exact (below4 _ _ _ _ _).drew.drew | exact (below4 _ _ _ _ _).drew⟩

set_option maxHeartbeats 800000 in
theorem vo2e (f : Nat) (s : ByteArray) (a : Option Addr) (c : Nat) (w : World) (hf : f < 18446744073709551616) (hn : Flt.fin f = true) (hs : s.toList.isEmpty = true) :
    Calls Tryz.prog 143 #[.agg #[.int .i64 2, .int .i64 0, .float .f64 f, .string s, .slice a 0 c]] w fun e w' => e = .returned (.tuple #[.agg #[.int .i64 2, .int .i64 0, .int .u64 f], .bool true]) ∧ Below w.heap.size w w' := by
  have hb := f64bits
  have he := eqV
  go_enter Tryz.func143, Tryz.ntmps143
  go_wp2
  go_region
  go_wp2
  go_region_with (go_at_call 167; refine (isFinite_any _ hf _).mono ?_; rintro e w' ⟨rfl, rfl⟩)
  all_goals go_wp2
  all_goals exact bodyPost_ret (v := .tuple #[.agg #[.int .i64 2, .int .i64 0, .int .u64 f], .bool true]) (by simp [results, Tryz.results143, go_sem]) rfl ⟨rfl, by first | exact (below4 _ _ _ _ _).drew.drew | exact (below4 _ _ _ _ _).drew⟩

set_option maxHeartbeats 800000 in
theorem vo3 (k n : Int) (f : Nat) (s : ByteArray) (l : Nat) (a : Option Addr) (c : Nat) (w : World) (h1 : (k == 1) = false) (h2 : (k == 2) = false) :
    Calls Tryz.prog 143 #[.agg #[.int .i64 k, .int .i64 n, .float .f64 f, .string s, .slice a l c]] w fun e w' => e = .returned (.tuple #[.agg #[.int .i64 0, .int .i64 0, .int .u64 0], .bool false]) ∧ Below w.heap.size w w' := by
  have hb := f64bits
  have he := eqV
  go_enter Tryz.func143, Tryz.ntmps143
  go_wp2
  go_region
  go_wp2
  all_goals exact bodyPost_ret (v := .tuple #[.agg #[.int .i64 0, .int .i64 0, .int .u64 0], .bool false]) (by simp [results, Tryz.results143, go_sem]) rfl ⟨rfl, by first | exact (below4 _ _ _ _ _).drew.drew | exact (below4 _ _ _ _ _).drew⟩

theorem valueOf_yes (k n : Int) (f : Nat) (s : ByteArray) (a : Option Addr) (l c : Nat) (hf : f < 18446744073709551616) (h : rightB k n f s l = true) (w : World) :
    Calls Tryz.prog 143 #[.agg #[.int .i64 k, .int .i64 n, .float .f64 f, .string s, .slice a l c]] w fun e w' =>
      e = .returned (.tuple #[.agg #[.int .i64 k, .int .i64 n, .int .u64 f], .bool true]) ∧ Below w.heap.size w w' := by
  simp only [rightB, Bool.and_eq_true, Bool.or_eq_true, beq_iff_eq] at h
  obtain ⟨⟨h1, hs⟩, rfl⟩ := h
  rcases h1 with ⟨⟨rfl, hn⟩, rfl⟩ | ⟨⟨rfl, rfl⟩, hn⟩
  · exact vo1e n s a c w hn hs
  · exact vo2e f s a c w hf hn hs

theorem valueOf_no (k n : Int) (f : Nat) (s : ByteArray) (a : Option Addr) (l c : Nat) (hf : f < 18446744073709551616) (h : rightB k n f s l = false) (w : World) :
    Calls Tryz.prog 143 #[.agg #[.int .i64 k, .int .i64 n, .float .f64 f, .string s, .slice a l c]] w fun e w' =>
      e = .returned (.tuple #[.agg #[.int .i64 0, .int .i64 0, .int .u64 0], .bool false]) ∧ Below w.heap.size w w' := by
  by_cases h1 : k = 1
  · subst h1
    cases hn : whB n
    · exact vo1a n f s l a c w hn
    · by_cases hf0 : f = 0
      · subst hf0
        cases hs : s.toList.isEmpty
        · exact vo1c n s l a c w hn hs
        · by_cases hl : l = 0
          · subst hl; simp [rightB, hn, hs] at h
          · exact vo1d n s l a c w hn hs (by simp; omega)
      · exact vo1b n f s l a c w hn (by simp; omega)
  · by_cases h2 : k = 2
    · subst h2
      cases hn : Flt.fin f
      · exact vo2a n f s l a c w hf hn
      · by_cases hn0 : n = 0
        · subst hn0
          cases hs : s.toList.isEmpty
          · exact vo2c f s l a c w hf hn hs
          · by_cases hl : l = 0
            · subst hl; simp [rightB, hn, hs] at h
            · exact vo2d f s l a c w hf hn hs (by simp; omega)
        · exact vo2b n f s l a c w hf hn (by simpa using hn0)
    · exact vo3 k n f s l a c w (by simpa using h1) (by simpa using h2)
end Go.Proofs.YtgljglindgbjaaaGreatDoor


/- Contracts of Op on whole numbers: sums and differences. -/
namespace Go.Proofs.YtgljglindgbjaaaGreatDoor
open Go.RowKit
attribute [local go_sem] store_float

theorem hid {p : Prop} (h : p) : Hid p := h

theorem isSign_yes (s : ByteArray) (h : s = ⟨#[43]⟩ ∨ s = ⟨#[45]⟩ ∨ s = ⟨#[42]⟩ ∨ s = ⟨#[47]⟩ ∨ s = ⟨#[100, 105, 118]⟩ ∨ s = ⟨#[114, 101, 109]⟩) (w : World) : Calls Tryz.prog 142 #[.string s] w fun e w' => e = .returned (.bool true) ∧ w' = w := by
  rcases h with rfl | rfl | rfl | rfl | rfl | rfl <;>
  · go_enter Tryz.func142, Tryz.ntmps142
    go_wp2
    go_ret
    exact ⟨rfl, rfl⟩

set_option maxHeartbeats 1000000 in
theorem op_wadd (na nb : Int) (fa fb : Nat) (sa sb : ByteArray) (aa ab : Option Addr) (la ca lb cb : Nat) (ha : rightB 1 na fa sa la = true) (hb : rightB 1 nb fb sb lb = true) (hfa : fa < 18446744073709551616) (hfb : fb < 18446744073709551616) (hna : whB na = true) (hnb : whB nb = true) (w : World) :
    Calls Tryz.prog 98 #[.string ⟨#[43]⟩, .agg #[.int .i64 1, .int .i64 na, .float .f64 fa, .string sa, .slice aa la ca], .agg #[.int .i64 1, .int .i64 nb, .float .f64 fb, .string sb, .slice ab lb cb]] w fun e w' => e = .returned (.tuple #[.agg #[.int .i64 ((numInt (na + nb)).k), .int .i64 ((numInt (na + nb)).n), .float .f64 ((numInt (na + nb)).f), .string ⟨#[]⟩, .slice none 0 0], .int .i64 (numInt (na + nb)).e]) ∧ Below w.heap.size w w' := by
  have HA : Hid (rightB 1 na fa sa la = true) := ha
  have HB : Hid (rightB 1 nb fb sb lb = true) := hb
  clear ha hb
  go_enter Tryz.func98, Tryz.ntmps98
  go_wp2_with fail
  refine (isSign_yes _ (by simp) _).mono ?_
  rintro e w' ⟨rfl, rfl⟩
  go_wp2_with fail
  refine (valueOf_yes 1 na fa sa aa la ca hfa HA.out _).mono ?_
  rintro e w1 ⟨rfl, hb1⟩
  obtain ⟨⟨c0, c1, c2, c3, c4, _, _, _, _, _, lt⟩, RB, hW⟩ := after3 hb1
  have HRB := hid RB
  clear hb1 RB
  go_wp2_with fail
  refine (valueOf_yes 1 nb fb sb ab lb cb hfb HB.out _).mono ?_
  rintro e w2 ⟨rfl, hb2⟩
  clear c0 c1 c2 c3 c4 lt
  obtain ⟨⟨x0, x1, x2, ltx⟩, hk, hW2⟩ := later3 hW hb2
  have HRB2 := hid (HRB.out.keep hk)
  clear hb2 hk hW HRB
  go_wp2_with fail
  refine (rw_add na nb hna hnb _).mono ?_
  rintro e w3 ⟨rfl, hb3⟩
  clear x0 x1 x2 ltx
  have RB3 := (HRB2.out.alloc _).keep hb3
  have hW3 : Below w.heap.size w w3 := (hW2.alloc hW2.size _).trans (hb3.mono (by have := hW2.size; simp; omega))
  obtain ⟨d0, d1, d2, d3, d4, g0, g1, g2, g3, g4, ltr⟩ := RB3
  clear hb3 HRB2
  go_wp2
  exact bodyPost_ret (v := .tuple #[.agg #[.int .i64 ((numInt (na + nb)).k), .int .i64 ((numInt (na + nb)).n), .float .f64 ((numInt (na + nb)).f), .string ⟨#[]⟩, .slice none 0 0], .int .i64 (numInt (na + nb)).e]) (by simp [results, Tryz.results98, go_sem, d0, d1, d2, d3, d4]) rfl ⟨rfl, below_set5 hW3 (by omega) _ _ _ _ _⟩

set_option maxHeartbeats 1000000 in
theorem op_wsub (na nb : Int) (fa fb : Nat) (sa sb : ByteArray) (aa ab : Option Addr) (la ca lb cb : Nat) (ha : rightB 1 na fa sa la = true) (hb : rightB 1 nb fb sb lb = true) (hfa : fa < 18446744073709551616) (hfb : fb < 18446744073709551616) (hna : whB na = true) (hnb : whB nb = true) (w : World) :
    Calls Tryz.prog 98 #[.string ⟨#[45]⟩, .agg #[.int .i64 1, .int .i64 na, .float .f64 fa, .string sa, .slice aa la ca], .agg #[.int .i64 1, .int .i64 nb, .float .f64 fb, .string sb, .slice ab lb cb]] w fun e w' => e = .returned (.tuple #[.agg #[.int .i64 ((numInt (na - nb)).k), .int .i64 ((numInt (na - nb)).n), .float .f64 ((numInt (na - nb)).f), .string ⟨#[]⟩, .slice none 0 0], .int .i64 (numInt (na - nb)).e]) ∧ Below w.heap.size w w' := by
  have HA : Hid (rightB 1 na fa sa la = true) := ha
  have HB : Hid (rightB 1 nb fb sb lb = true) := hb
  clear ha hb
  go_enter Tryz.func98, Tryz.ntmps98
  go_wp2_with fail
  refine (isSign_yes _ (by simp) _).mono ?_
  rintro e w' ⟨rfl, rfl⟩
  go_wp2_with fail
  refine (valueOf_yes 1 na fa sa aa la ca hfa HA.out _).mono ?_
  rintro e w1 ⟨rfl, hb1⟩
  obtain ⟨⟨c0, c1, c2, c3, c4, _, _, _, _, _, lt⟩, RB, hW⟩ := after3 hb1
  have HRB := hid RB
  clear hb1 RB
  go_wp2_with fail
  refine (valueOf_yes 1 nb fb sb ab lb cb hfb HB.out _).mono ?_
  rintro e w2 ⟨rfl, hb2⟩
  clear c0 c1 c2 c3 c4 lt
  obtain ⟨⟨x0, x1, x2, ltx⟩, hk, hW2⟩ := later3 hW hb2
  have HRB2 := hid (HRB.out.keep hk)
  clear hb2 hk hW HRB
  go_wp2_with fail
  refine (rw_sub na nb hna hnb _).mono ?_
  rintro e w3 ⟨rfl, hb3⟩
  clear x0 x1 x2 ltx
  have RB3 := (HRB2.out.alloc _).keep hb3
  have hW3 : Below w.heap.size w w3 := (hW2.alloc hW2.size _).trans (hb3.mono (by have := hW2.size; simp; omega))
  obtain ⟨d0, d1, d2, d3, d4, g0, g1, g2, g3, g4, ltr⟩ := RB3
  clear hb3 HRB2
  go_wp2
  exact bodyPost_ret (v := .tuple #[.agg #[.int .i64 ((numInt (na - nb)).k), .int .i64 ((numInt (na - nb)).n), .float .f64 ((numInt (na - nb)).f), .string ⟨#[]⟩, .slice none 0 0], .int .i64 (numInt (na - nb)).e]) (by simp [results, Tryz.results98, go_sem, d0, d1, d2, d3, d4]) rfl ⟨rfl, below_set5 hW3 (by omega) _ _ _ _ _⟩

end Go.Proofs.YtgljglindgbjaaaGreatDoor


