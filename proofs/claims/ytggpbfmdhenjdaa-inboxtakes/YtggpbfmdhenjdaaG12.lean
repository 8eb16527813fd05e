import Derived.Test.YtggpbfmdhenjdaaG11
import Derived.Laws.StructEq
import Derived.Deep.RegionWith
import Derived.Deep.DrawnRows
/- Contracts of what Op is made of: signs, floats, whole numbers. -/
namespace Go.Proofs.Ytggpbfmdhenjdaa
open Go.RowKit
attribute [local go_sem] store_float

/-- a number as a float: its bits -/
def realV (k n : Int) (f : Nat) : Nat := if k = 1 then floatOfInt .f64 n else f

def fltR (o : Option Nat) : R := match o with
  | some r => numBits r
  | none => ⟨0, 0, 0, 11⟩

theorem near_any (n : Int) (w : World) : Calls Try.prog 70 #[.int .i64 n] w fun e w' => e = .returned (.float .f64 (floatOfInt .f64 n)) ∧ w' = w := by
  go_enter Try.func70, Try.ntmps70
  go_wp2
  go_ret
  exact ⟨rfl, rfl⟩

theorem real_any (k n : Int) (f : Nat) (w : World) : Calls Try.prog 66 #[.agg #[.int .i64 k, .int .i64 n, .int .u64 f]] w fun e w' => e = .returned (.float .f64 (realV k n f)) ∧ Below w.heap.size w w' := by
  have hf := f64frombits
  by_cases hk : k = 1
  · subst hk
    go_enter Try.func66, Try.ntmps66
    go_wp2_with (go_at_call 70; refine (near_any _ _).mono ?_; rintro e w' ⟨rfl, rfl⟩)
    go_ret
    exact ⟨by simp [realV], below_new _ _⟩
  · have hk' : (k == 1) = false := by simpa using hk
    go_enter Try.func66, Try.ntmps66
    go_wp2
    go_ret
    exact ⟨by simp [realV, hk], below_new _ _⟩

/-- .. and just which world it leaves: its own copy of the number is laid. -/
theorem real_at (k n : Int) (f : Nat) (w : World) : Calls Try.prog 66 #[.agg #[.int .i64 k, .int .i64 n, .int .u64 f]] w fun e w' => e = .returned (.float .f64 (realV k n f)) ∧ w' = w.alloc (.cells #[.int .i64 k, .int .i64 n, .int .u64 f] 117) := by
  have hf := f64frombits
  by_cases hk : k = 1
  · subst hk
    go_enter Try.func66, Try.ntmps66
    go_wp2_with (go_at_call 70; refine (near_any _ _).mono ?_; rintro e w' ⟨rfl, rfl⟩)
    go_ret
    exact ⟨by simp [realV], rfl⟩
  · have hk' : (k == 1) = false := by simpa using hk
    go_enter Try.func66, Try.ntmps66
    go_wp2
    go_ret
    exact ⟨by simp [realV, hk], rfl⟩

theorem flt_nan (op : BinOp) (t : TypeId) (x y : Nat) (h : floatBits op .f64 x y = none) (ho : op = .add ∨ op = .sub ∨ op = .mul ∨ op = .quo) (w : World) :
    (binOp op t (.float .f64 x) (.float .f64 y)).run Try.prog w = .ok (.float .f64 (Flt.nanOf (w.tape w.drawn (.nanBits .f64 x y)))) w.drew := by
  rcases ho with rfl | rfl | rfl | rfl <;> simp only [floatBits] at h <;> simp [binOp, Op.floatArith, h, Question.forced, Question.cut, Flt.nanOf]

theorem fltR_none : fltR none = ⟨0, 0, 0, 11⟩ := rfl
theorem numBits_nan (t : Nat) : numBits (Flt.nanOf t) = ⟨0, 0, 0, 11⟩ := by simp [numBits, Flt.nanOf_fin]
theorem floatBits_lt {op : BinOp} {x y r : Nat} (h : floatBits op .f64 x y = some r) : r < 18446744073709551616 := by
  have := floatBits_wf h
  simpa [Lit.wf] using this

def zB (f : Nat) : Bool := decide (f % 9223372036854775808 = 0)

/-- A result's box laid first, a draw, calls, then the five cells of a term stored into the box. -/
theorem below_retd {w w1 : World} {o : Obj} (hb : Below (w.alloc o).drew.heap.size (w.alloc o).drew w1) (v0 v1 v2 v3 v4 : Value) :
    Below w.heap.size w (((((w1.setCell ⟨w.heap.size, 0, none⟩ v0).setCell ⟨w.heap.size, 1, none⟩ v1).setCell ⟨w.heap.size, 2, none⟩ v2).setCell ⟨w.heap.size, 3, none⟩ v3).setCell ⟨w.heap.size, 4, none⟩ v4) :=
  below_ret (w := w) (o := o) (w1 := w1) ⟨hb.os, hb.tape, hb.output, hb.size, hb.block⟩ v0 v1 v2 v3 v4

end Go.Proofs.Ytggpbfmdhenjdaa


/- The contract of valueOf: which terms are right numbers. -/
namespace Go.Proofs.Ytggpbfmdhenjdaa
open Go.RowKit
attribute [local go_sem] store_float
attribute [local go_sem ↓] Go.wp_at_zero Go.wp_at_succ

theorem eqV (a b c d e f : Int) (w : World) : (Op.equalIn 10000 117 (.agg #[.int .i64 a, .int .i64 b, .int .u64 c]) (.agg #[.int .i64 d, .int .i64 e, .int .u64 f])).run Try.prog w = .ok (a == d && (b == e && c == f)) w := by
  have u3 := Try.underlying3
  have a3 := Try.isAgg3
  have z3 := Try.sizeOf3
  have u2 := Try.underlying2
  have a2 := Try.isAgg2
  have z2 := Try.sizeOf2
  have u4 := Try.underlying60
  have a4 := Try.isAgg60
  have z4 := Try.sizeOf60
  have hS : Try.prog.underlying 117 = some (.struct (Try.prog.fieldsOf 117)) := by kernel_rfl
  have hp : Try.prog.stoodInHeld 117 = false := by kernel_rfl
  rw [show (10000 : Nat) = 9999 + 1 from rfl, run_equalIn_agg w 9999 117 _ _ hS hp]
  simp only [Program.fieldsOf, Try.underlying117]
  go_simp
  by_cases h1 : a = d <;> by_cases h2 : b = e <;> by_cases h3 : c = f <;> simp [h1, h2, h3]

def rightB (k n : Int) (f : Nat) (s : ByteArray) (l : Nat) : Bool :=
  ((k == 1 && whB n && f == 0) || (k == 2 && n == 0 && Flt.fin f)) && s.toList.isEmpty && l == 0

theorem below4 (w : World) (o1 o2 o3 o4 : Obj) : Below w.heap.size w ((((w.alloc o1).alloc o2).alloc o3).alloc o4) :=
  (((below_new w o1).alloc (by simp) o2).alloc (by simp; omega) o3).alloc (by simp; omega) o4

set_option maxHeartbeats 800000 in
theorem vo1a (n : Int) (f : Nat) (s : ByteArray) (l : Nat) (a : Option Addr) (c : Nat) (w : World) (hn : whB n = false) :
    Calls Try.prog 64 #[.agg #[.int .i64 1, .int .i64 n, .float .f64 f, .string s, .slice a l c]] w fun e w' => e = .returned (.tuple #[.agg #[.int .i64 0, .int .i64 0, .int .u64 0], .bool false]) ∧ Below w.heap.size w w' := by
  have hb := f64bits
  have he := eqV
  go_enter Try.func64, Try.ntmps64
  go_wp2
  go_region
  go_wp2
  go_region_with (go_at_call 67; refine (isWhole_any _ _).mono ?_; rintro e w' ⟨rfl, rfl⟩)
  all_goals go_wp2
  all_goals exact bodyPost_ret (v := .tuple #[.agg #[.int .i64 0, .int .i64 0, .int .u64 0], .bool false]) (by simp [results, Try.results64, go_sem]) rfl ⟨rfl, by first | exact (below4 _ _ _ _ _).drew.drew | exact (below4 _ _ _ _ _).drew⟩

set_option maxHeartbeats 800000 in
theorem vo1b (n : Int) (f : Nat) (s : ByteArray) (l : Nat) (a : Option Addr) (c : Nat) (w : World) (hn : whB n = true) (h0 : ((f : Int) == 0) = false) :
    Calls Try.prog 64 #[.agg #[.int .i64 1, .int .i64 n, .float .f64 f, .string s, .slice a l c]] w fun e w' => e = .returned (.tuple #[.agg #[.int .i64 0, .int .i64 0, .int .u64 0], .bool false]) ∧ Below w.heap.size w w' := by
  have hb := f64bits
  have he := eqV
  go_enter Try.func64, Try.ntmps64
  go_wp2
  go_region
  go_wp2
  go_region_with (go_at_call 67; refine (isWhole_any _ _).mono ?_; rintro e w' ⟨rfl, rfl⟩)
  all_goals go_wp2
  all_goals exact bodyPost_ret (v := .tuple #[.agg #[.int .i64 0, .int .i64 0, .int .u64 0], .bool false]) (by simp [results, Try.results64, go_sem]) rfl ⟨rfl, by first | exact (below4 _ _ _ _ _).drew.drew | exact (below4 _ _ _ _ _).drew⟩

set_option maxHeartbeats 800000 in
theorem vo1c (n : Int) (s : ByteArray) (l : Nat) (a : Option Addr) (c : Nat) (w : World) (hn : whB n = true) (hs : s.toList.isEmpty = false) :
    Calls Try.prog 64 #[.agg #[.int .i64 1, .int .i64 n, .float .f64 0, .string s, .slice a l c]] w fun e w' => e = .returned (.tuple #[.agg #[.int .i64 0, .int .i64 0, .int .u64 0], .bool false]) ∧ Below w.heap.size w w' := by
  have hb := f64bits
  have he := eqV
  go_enter Try.func64, Try.ntmps64
  go_wp2
  go_region
  go_wp2
  go_region_with (go_at_call 67; refine (isWhole_any _ _).mono ?_; rintro e w' ⟨rfl, rfl⟩)
  all_goals go_wp2
  all_goals exact bodyPost_ret (v := .tuple #[.agg #[.int .i64 0, .int .i64 0, .int .u64 0], .bool false]) (by simp [results, Try.results64, go_sem]) rfl ⟨rfl, by first | exact (below4 _ _ _ _ _).drew.drew | exact (below4 _ _ _ _ _).drew⟩

set_option maxHeartbeats 800000 in
theorem vo1d (n : Int) (s : ByteArray) (l : Nat) (a : Option Addr) (c : Nat) (w : World) (hn : whB n = true) (hs : s.toList.isEmpty = true) (hl : ((l : Int) == 0) = false) :
    Calls Try.prog 64 #[.agg #[.int .i64 1, .int .i64 n, .float .f64 0, .string s, .slice a l c]] w fun e w' => e = .returned (.tuple #[.agg #[.int .i64 0, .int .i64 0, .int .u64 0], .bool false]) ∧ Below w.heap.size w w' := by
  have hb := f64bits
  have he := eqV
  go_enter Try.func64, Try.ntmps64
  go_wp2
  go_region
  go_wp2
  go_region_with (go_at_call 67; refine (isWhole_any _ _).mono ?_; rintro e w' ⟨rfl, rfl⟩)
  all_goals go_wp2
  all_goals exact bodyPost_ret (v := .tuple #[.agg #[.int .i64 0, .int .i64 0, .int .u64 0], .bool false]) (by simp [results, Try.results64, go_sem]) rfl ⟨rfl, by first | exact (below4 _ _ _ _ _).drew.drew | exact (below4 _ _ _ _ _).drew⟩

set_option maxHeartbeats 800000 in
theorem vo1e (n : Int) (s : ByteArray) (a : Option Addr) (c : Nat) (w : World) (hn : whB n = true) (hs : s.toList.isEmpty = true) :
    Calls Try.prog 64 #[.agg #[.int .i64 1, .int .i64 n, .float .f64 0, .string s, .slice a 0 c]] w fun e w' => e = .returned (.tuple #[.agg #[.int .i64 1, .int .i64 n, .int .u64 0], .bool true]) ∧ Below w.heap.size w w' := by
  have hb := f64bits
  have he := eqV
  go_enter Try.func64, Try.ntmps64
  go_wp2
  go_region
  go_wp2
  go_region_with (go_at_call 67; refine (isWhole_any _ _).mono ?_; rintro e w' ⟨rfl, rfl⟩)
  all_goals go_wp2
  all_goals exact bodyPost_ret (v := .tuple #[.agg #[.int .i64 1, .int .i64 n, .int .u64 0], .bool true]) (by simp [results, Try.results64, go_sem]) rfl ⟨rfl, by first | exact (below4 _ _ _ _ _).drew.drew | exact (below4 _ _ _ _ _).drew⟩

set_option maxHeartbeats 800000 in
theorem vo2a (n : Int) (f : Nat) (s : ByteArray) (l : Nat) (a : Option Addr) (c : Nat) (w : World) (hf : f < 18446744073709551616) (hn : Flt.fin f = false) :
    Calls Try.prog 64 #[.agg #[.int .i64 2, .int .i64 n, .float .f64 f, .string s, .slice a l c]] w fun e w' => e = .returned (.tuple #[.agg #[.int .i64 0, .int .i64 0, .int .u64 0], .bool false]) ∧ Below w.heap.size w w' := by
  have hb := f64bits
  have he := eqV
  go_enter Try.func64, Try.ntmps64
  go_wp2
  go_region
  go_wp2
  go_region_with (go_at_call 68; refine (isFinite_any _ hf _).mono ?_; rintro e w' ⟨rfl, rfl⟩)
  all_goals go_wp2
  all_goals exact bodyPost_ret (v := .tuple #[.agg #[.int .i64 0, .int .i64 0, .int .u64 0], .bool false]) (by simp [results, Try.results64, go_sem]) rfl ⟨rfl, by first | exact (below4 _ _ _ _ _).drew.drew | exact (below4 _ _ _ _ _).drew⟩

set_option maxHeartbeats 800000 in
theorem vo2b (n : Int) (f : Nat) (s : ByteArray) (l : Nat) (a : Option Addr) (c : Nat) (w : World) (hf : f < 18446744073709551616) (hn : Flt.fin f = true) (h0 : (n == 0) = false) :
    Calls Try.prog 64 #[.agg #[.int .i64 2, .int .i64 n, .float .f64 f, .string s, .slice a l c]] w fun e w' => e = .returned (.tuple #[.agg #[.int .i64 0, .int .i64 0, .int .u64 0], .bool false]) ∧ Below w.heap.size w w' := by
  have hb := f64bits
  have he := eqV
  go_enter Try.func64, Try.ntmps64
  go_wp2
  go_region
  go_wp2
  go_region_with (go_at_call 68; refine (isFinite_any _ hf _).mono ?_; rintro e w' ⟨rfl, rfl⟩)
  all_goals go_wp2
  all_goals exact bodyPost_ret (v := .tuple #[.agg #[.int .i64 0, .int .i64 0, .int .u64 0], .bool false]) (by simp [results, Try.results64, go_sem]) rfl ⟨rfl, by first | exact (below4 _ _ _ _ _).drew.drew | exact (below4 _ _ _ _ _).drew⟩

set_option maxHeartbeats 800000 in
theorem vo2c (f : Nat) (s : ByteArray) (l : Nat) (a : Option Addr) (c : Nat) (w : World) (hf : f < 18446744073709551616) (hn : Flt.fin f = true) (hs : s.toList.isEmpty = false) :
    Calls Try.prog 64 #[.agg #[.int .i64 2, .int .i64 0, .float .f64 f, .string s, .slice a l c]] w fun e w' => e = .returned (.tuple #[.agg #[.int .i64 0, .int .i64 0, .int .u64 0], .bool false]) ∧ Below w.heap.size w w' := by
  have hb := f64bits
  have he := eqV
  go_enter Try.func64, Try.ntmps64
  go_wp2
  go_region
  go_wp2
  go_region_with (go_at_call 68; refine (isFinite_any _ hf _).mono ?_; rintro e w' ⟨rfl, rfl⟩)
  all_goals go_wp2
  all_goals exact bodyPost_ret (v := .tuple #[.agg #[.int .i64 0, .int .i64 0, .int .u64 0], .bool false]) (by simp [results, Try.results64, go_sem]) rfl ⟨rfl, by first | exact (below4 _ _ _ _ _).drew.drew | exact (below4 _ _ _ _ _).drew⟩

set_option maxHeartbeats 800000 in
theorem vo2d (f : Nat) (s : ByteArray) (l : Nat) (a : Option Addr) (c : Nat) (w : World) (hf : f < 18446744073709551616) (hn : Flt.fin f = true) (hs : s.toList.isEmpty = true) (hl : ((l : Int) == 0) = false) :
    Calls Try.prog 64 #[.agg #[.int .i64 2, .int .i64 0, .float .f64 f, .string s, .slice a l c]] w fun e w' => e = .returned (.tuple #[.agg #[.int .i64 0, .int .i64 0, .int .u64 0], .bool false]) ∧ Below w.heap.size w w' := by
  have hb := f64bits
  have he := eqV
  go_enter Try.func64, Try.ntmps64
  go_wp2
  go_region
  go_wp2
  go_region_with (go_at_call 68; refine (isFinite_any _ hf _).mono ?_; rintro e w' ⟨rfl, rfl⟩)
  all_goals go_wp2
  all_goals exact bodyPost_ret (v := .tuple #[.agg #[.int .i64 0, .int .i64 0, .int .u64 0], .bool false]) (by simp [results, Try.results64, go_sem]) rfl ⟨rfl, by first | exact (below4 _ _ _ _ _).drew.drew | exact (below4 _ _ _ _ _).drew⟩

set_option maxHeartbeats 800000 in
theorem vo2e (f : Nat) (s : ByteArray) (a : Option Addr) (c : Nat) (w : World) (hf : f < 18446744073709551616) (hn : Flt.fin f = true) (hs : s.toList.isEmpty = true) :
    Calls Try.prog 64 #[.agg #[.int .i64 2, .int .i64 0, .float .f64 f, .string s, .slice a 0 c]] w fun e w' => e = .returned (.tuple #[.agg #[.int .i64 2, .int .i64 0, .int .u64 f], .bool true]) ∧ Below w.heap.size w w' := by
  have hb := f64bits
  have he := eqV
  go_enter Try.func64, Try.ntmps64
  go_wp2
  go_region
  go_wp2
  go_region_with (go_at_call 68; refine (isFinite_any _ hf _).mono ?_; rintro e w' ⟨rfl, rfl⟩)
  all_goals go_wp2
  all_goals exact bodyPost_ret (v := .tuple #[.agg #[.int .i64 2, .int .i64 0, .int .u64 f], .bool true]) (by simp [results, Try.results64, go_sem]) rfl ⟨rfl, by first | exact (below4 _ _ _ _ _).drew.drew | exact (below4 _ _ _ _ _).drew⟩

set_option maxHeartbeats 800000 in
theorem vo3 (k n : Int) (f : Nat) (s : ByteArray) (l : Nat) (a : Option Addr) (c : Nat) (w : World) (h1 : (k == 1) = false) (h2 : (k == 2) = false) :
    Calls Try.prog 64 #[.agg #[.int .i64 k, .int .i64 n, .float .f64 f, .string s, .slice a l c]] w fun e w' => e = .returned (.tuple #[.agg #[.int .i64 0, .int .i64 0, .int .u64 0], .bool false]) ∧ Below w.heap.size w w' := by
  have hb := f64bits
  have he := eqV
  go_enter Try.func64, Try.ntmps64
  go_wp2
  go_region
  go_wp2
  all_goals exact bodyPost_ret (v := .tuple #[.agg #[.int .i64 0, .int .i64 0, .int .u64 0], .bool false]) (by simp [results, Try.results64, go_sem]) rfl ⟨rfl, by first | exact (below4 _ _ _ _ _).drew.drew | exact (below4 _ _ _ _ _).drew⟩

theorem valueOf_yes (k n : Int) (f : Nat) (s : ByteArray) (a : Option Addr) (l c : Nat) (hf : f < 18446744073709551616) (h : rightB k n f s l = true) (w : World) :
    Calls Try.prog 64 #[.agg #[.int .i64 k, .int .i64 n, .float .f64 f, .string s, .slice a l c]] w fun e w' =>
      e = .returned (.tuple #[.agg #[.int .i64 k, .int .i64 n, .int .u64 f], .bool true]) ∧ Below w.heap.size w w' := by
  simp only [rightB, Bool.and_eq_true, Bool.or_eq_true, beq_iff_eq] at h
  obtain ⟨⟨h1, hs⟩, rfl⟩ := h
  rcases h1 with ⟨⟨rfl, hn⟩, rfl⟩ | ⟨⟨rfl, rfl⟩, hn⟩
  · exact vo1e n s a c w hn hs
  · exact vo2e f s a c w hf hn hs

theorem valueOf_no (k n : Int) (f : Nat) (s : ByteArray) (a : Option Addr) (l c : Nat) (hf : f < 18446744073709551616) (h : rightB k n f s l = false) (w : World) :
    Calls Try.prog 64 #[.agg #[.int .i64 k, .int .i64 n, .float .f64 f, .string s, .slice a l c]] w fun e w' =>
      e = .returned (.tuple #[.agg #[.int .i64 0, .int .i64 0, .int .u64 0], .bool false]) ∧ Below w.heap.size w w' := by
  by_cases h1 : k = 1
  · subst h1
    cases hn : whB n
    · exact vo1a n f s l a c w hn
    · by_cases hf0 : f = 0
      · subst hf0
        cases hs : s.toList.isEmpty
        · exact vo1c n s l a c w hn hs
        · by_cases hl : l = 0
          · subst hl; simp [rightB, hn, hs] at h
          · exact vo1d n s l a c w hn hs (by simp; omega)
      · exact vo1b n f s l a c w hn (by simp; omega)
  · by_cases h2 : k = 2
    · subst h2
      cases hn : Flt.fin f
      · exact vo2a n f s l a c w hf hn
      · by_cases hn0 : n = 0
        · subst hn0
          cases hs : s.toList.isEmpty
          · exact vo2c f s l a c w hf hn hs
          · by_cases hl : l = 0
            · subst hl; simp [rightB, hn, hs] at h
            · exact vo2d f s l a c w hf hn hs (by simp; omega)
        · exact vo2b n f s l a c w hf hn (by simpa using hn0)
    · exact vo3 k n f s l a c w (by simpa using h1) (by simpa using h2)
end Go.Proofs.Ytggpbfmdhenjdaa


