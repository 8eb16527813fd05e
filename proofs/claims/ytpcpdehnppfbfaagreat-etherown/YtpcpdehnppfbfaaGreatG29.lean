import Derived.Test.YtpcpdehnppfbfaaGreatG28
import Derived.Laws.StructEq
import Derived.Deep.RegionWith
import Derived.Deep.DrawnRows
import Derived.Test.YtpcpdehnppfbfaaGreatG01
/- The contract of valueOf: which terms are right numbers. -/
namespace Go.Proofs.YtpcpdehnppfbfaaGreat
open Go.RowKit
attribute [local go_sem] store_float
attribute [local go_sem ↓] Go.wp_at_zero Go.wp_at_succ

theorem eqV (a b c d e f : Int) (w : World) : (Op.equalIn 10000 177 (.agg #[.int .i64 a, .int .i64 b, .int .u64 c]) (.agg #[.int .i64 d, .int .i64 e, .int .u64 f])).run Tryz.prog w = .ok (a == d && (b == e && c == f)) w := by
  have u3 := Tryz.underlying3
  have a3 := Tryz.isAgg3
  have z3 := Tryz.sizeOf3
  have u2 := Tryz.underlying2
  have a2 := Tryz.isAgg2
  have z2 := Tryz.sizeOf2
  have u4 := Tryz.underlying99
  have a4 := Tryz.isAgg99
  have z4 := Tryz.sizeOf99
  have hS : Tryz.prog.underlying 177 = some (.struct (Tryz.prog.fieldsOf 177)) := by kernel_rfl
  have hp : Tryz.prog.stoodInHeld 177 = false := by kernel_rfl
  rw [show (10000 : Nat) = 9999 + 1 from rfl, run_equalIn_agg w 9999 177 _ _ hS hp]
  simp only [Program.fieldsOf, Tryz.underlying177]
  go_simp
  by_cases h1 : a = d <;> by_cases h2 : b = e <;> by_cases h3 : c = f <;> simp [h1, h2, h3]

def rightB (k n : Int) (f : Nat) (s : ByteArray) (l : Nat) : Bool :=
  ((k == 1 && whB n && f == 0) || (k == 2 && n == 0 && Flt.fin f)) && s.toList.isEmpty && l == 0

theorem below4 (w : World) (o1 o2 o3 o4 : Obj) : Below w.heap.size w ((((w.alloc o1).alloc o2).alloc o3).alloc o4) :=
  (((below_new w o1).alloc (by simp) o2).alloc (by simp; omega) o3).alloc (by simp; omega) o4

set_option maxHeartbeats 800000 in
theorem vo1a (n : Int) (f : Nat) (s : ByteArray) (l : Nat) (a : Option Addr) (c : Nat) (w : World) (hn : whB n = false) :
    Calls Tryz.prog 108 #[.agg #[.int .i64 1, .int .i64 n, .float .f64 f, .string s, .slice a l c]] w fun e w' => e = .returned (.tuple #[.agg #[.int .i64 0, .int .i64 0, .int .u64 0], .bool false]) ∧ Below w.heap.size w w' := by
  have hb := f64bits
  have he := eqV
  go_enter Tryz.func108, Tryz.ntmps108
  go_wp2
  go_region
  go_wp2
  go_region_with (go_at_call 111; refine (isWhole_any _ _).mono ?_; rintro e w' ⟨rfl, rfl⟩)
  all_goals go_wp2
  all_goals exact bodyPost_ret (v := .tuple #[.agg #[.int .i64 0, .int .i64 0, .int .u64 0], .bool false]) (by simp [results, Tryz.results108, go_sem]) rfl ⟨rfl, by first | exact (below4 _ _ _ _ _).drew.drew | exact (below4 _ _ _ _ _).drew⟩

set_option maxHeartbeats 800000 in
theorem vo1b (n : Int) (f : Nat) (s : ByteArray) (l : Nat) (a : Option Addr) (c : Nat) (w : World) (hn : whB n = true) (h0 : ((f : Int) == 0) = false) :
    Calls Tryz.prog 108 #[.agg #[.int .i64 1, .int .i64 n, .float .f64 f, .string s, .slice a l c]] w fun e w' => e = .returned (.tuple #[.agg #[.int .i64 0, .int .i64 0, .int .u64 0], .bool false]) ∧ Below w.heap.size w w' := by
  have hb := f64bits
  have he := eqV
  go_enter Tryz.func108, Tryz.ntmps108
  go_wp2
  go_region
  go_wp2
  go_region_with (go_at_call 111; refine (isWhole_any _ _).mono ?_; rintro e w' ⟨rfl, rfl⟩)
  all_goals go_wp2
  all_goals exact bodyPost_ret (v := .tuple #[.agg #[.int .i64 0, .int .i64 0, .int .u64 0], .bool false]) (by simp [results, Tryz.results108, go_sem]) rfl ⟨rfl, by first | exact (below4 _ _ _ _ _).drew.drew | exact (below4 _ _ _ _ _).drew⟩

set_option maxHeartbeats 800000 in
theorem vo1c (n : Int) (s : ByteArray) (l : Nat) (a : Option Addr) (c : Nat) (w : World) (hn : whB n = true) (hs : s.toList.isEmpty = false) :
    Calls Tryz.prog 108 #[.agg #[.int .i64 1, .int .i64 n, .float .f64 0, .string s, .slice a l c]] w fun e w' => e = .returned (.tuple #[.agg #[.int .i64 0, .int .i64 0, .int .u64 0], .bool false]) ∧ Below w.heap.size w w' := by
  have hb := f64bits
  have he := eqV
  go_enter Tryz.func108, Tryz.ntmps108
  go_wp2
  go_region
  go_wp2
  go_region_with (go_at_call 111; refine (isWhole_any _ _).mono ?_; rintro e w' ⟨rfl, rfl⟩)
  all_goals go_wp2
  all_goals exact bodyPost_ret (v := .tuple #[.agg #[.int .i64 0, .int .i64 0, .int .u64 0], .bool false]) (by simp [results, Tryz.results108, go_sem]) rfl ⟨rfl, by first | exact (below4 _ _ _ _ _).drew.drew | exact (below4 _ _ _ _ _).drew⟩

set_option maxHeartbeats 800000 in
theorem vo1d (n : Int) (s : ByteArray) (l : Nat) (a : Option Addr) (c : Nat) (w : World) (hn : whB n = true) (hs : s.toList.isEmpty = true) (hl : ((l : Int) == 0) = false) :
    Calls Tryz.prog 108 #[.agg #[.int .i64 1, .int .i64 n, .float .f64 0, .string s, .slice a l c]] w fun e w' => e = .returned (.tuple #[.agg #[.int .i64 0, .int .i64 0, .int .u64 0], .bool false]) ∧ Below w.heap.size w w' := by
  have hb := f64bits
  have he := eqV
  go_enter Tryz.func108, Tryz.ntmps108
  go_wp2
  go_region
  go_wp2
  go_region_with (go_at_call 111; refine (isWhole_any _ _).mono ?_; rintro e w' ⟨rfl, rfl⟩)
  all_goals go_wp2
  all_goals exact bodyPost_ret (v := .tuple #[.agg #[.int .i64 0, .int .i64 0, .int .u64 0], .bool false]) (by simp [results, Tryz.results108, go_sem]) rfl ⟨rfl, by first | exact (below4 _ _ _ _ _).drew.drew | exact (below4 _ _ _ _ _).drew⟩

set_option maxHeartbeats 800000 in
theorem vo1e (n : Int) (s : ByteArray) (a : Option Addr) (c : Nat) (w : World) (hn : whB n = true) (hs : s.toList.isEmpty = true) :
    Calls Tryz.prog 108 #[.agg #[.int .i64 1, .int .i64 n, .float .f64 0, .string s, .slice a 0 c]] w fun e w' => e = .returned (.tuple #[.agg #[.int .i64 1, .int .i64 n, .int .u64 0], .bool true]) ∧ Below w.heap.size w w' := by
  have hb := f64bits
  have he := eqV
  go_enter Tryz.func108, Tryz.ntmps108
  go_wp2
  go_region
  go_wp2
  go_region_with (go_at_call 111; refine (isWhole_any _ _).mono ?_; rintro e w' ⟨rfl, rfl⟩)
  all_goals go_wp2
  all_goals exact bodyPost_ret (v := .tuple #[.agg #[.int .i64 1, .int .i64 n, .int .u64 0], .bool true]) (by simp [results, Tryz.results108, go_sem]) rfl ⟨rfl, by first | exact (below4 _ _ _ _ _).drew.drew | exact (below4 _ _ _ _ _).drew⟩

set_option maxHeartbeats 800000 in
theorem vo2a (n : Int) (f : Nat) (s : ByteArray) (l : Nat) (a : Option Addr) (c : Nat) (w : World) (hf : f < 18446744073709551616) (hn : Flt.fin f = false) :
    Calls Tryz.prog 108 #[.agg #[.int .i64 2, .int .i64 n, .float .f64 f, .string s, .slice a l c]] w fun e w' => e = .returned (.tuple #[.agg #[.int .i64 0, .int .i64 0, .int .u64 0], .bool false]) ∧ Below w.heap.size w w' := by
  have hb := f64bits
  have he := eqV
  go_enter Tryz.func108, Tryz.ntmps108
  go_wp2
  go_region
  go_wp2
  go_region_with (go_at_call 112; refine (isFinite_any _ hf _).mono ?_; rintro e w' ⟨rfl, rfl⟩)
  all_goals go_wp2
  all_goals exact bodyPost_ret (v := .tuple #[.agg #[.int .i64 0, .int .i64 0, .int .u64 0], .bool false]) (by simp [results, Tryz.results108, go_sem]) rfl ⟨rfl, by first | exact (below4 _ _ _ _ _).drew.drew | exact (below4 _ _ _ _ _).drew⟩

set_option maxHeartbeats 800000 in
theorem vo2b (n : Int) (f : Nat) (s : ByteArray) (l : Nat) (a : Option Addr) (c : Nat) (w : World) (hf : f < 18446744073709551616) (hn : Flt.fin f = true) (h0 : (n == 0) = false) :
    Calls Tryz.prog 108 #[.agg #[.int .i64 2, .int .i64 n, .float .f64 f, .string s, .slice a l c]] w fun e w' => e = .returned (.tuple #[.agg #[.int .i64 0, .int .i64 0, .int .u64 0], .bool false]) ∧ Below w.heap.size w w' := by
  have hb := f64bits
  have he := eqV
  go_enter Tryz.func108, Tryz.ntmps108
  go_wp2
  go_region
  go_wp2
  go_region_with (go_at_call 112; refine (isFinite_any _ hf _).mono ?_; rintro e w' ⟨rfl, rfl⟩)
  all_goals go_wp2
  all_goals exact bodyPost_ret (v := .tuple #[.agg #[.int .i64 0, .int .i64 0, .int .u64 0], .bool false]) (by simp [results, Tryz.results108, go_sem]) rfl ⟨rfl, by first | exact (below4 _ _ _ _ _).drew.drew | exact (below4 _ _ _ _ _).drew⟩

set_option maxHeartbeats 800000 in
theorem vo2c (f : Nat) (s : ByteArray) (l : Nat) (a : Option Addr) (c : Nat) (w : World) (hf : f < 18446744073709551616) (hn : Flt.fin f = true) (hs : s.toList.isEmpty = false) :
    Calls Tryz.prog 108 #[.agg #[.int .i64 2, .int .i64 0, .float .f64 f, .string s, .slice a l c]] w fun e w' => e = .returned (.tuple #[.agg #[.int .i64 0, .int .i64 0, .int .u64 0], .bool false]) ∧ Below w.heap.size w w' := by
  have hb := f64bits
  have he := eqV
  go_enter Tryz.func108, Tryz.ntmps108
  go_wp2
  go_region
  go_wp2
  go_region_with (go_at_call 112; refine (isFinite_any _ hf _).mono ?_; rintro e w' ⟨rfl, rfl⟩)
  all_goals go_wp2
  all_goals exact bodyPost_ret (v := .tuple #[.agg #[.int .i64 0, .int .i64 0, .int .u64 0], .bool false]) (by simp [results, Tryz.results108, go_sem]) rfl ⟨rfl, by first | exact (below4 _ _ _ _ _).drew.drew | exact (below4 _ _ _ _ _).drew⟩

set_option maxHeartbeats 800000 in
theorem vo2d (f : Nat) (s : ByteArray) (l : Nat) (a : Option Addr) (c : Nat) (w : World) (hf : f < 18446744073709551616) (hn : Flt.fin f = true) (hs : s.toList.isEmpty = true) (hl : ((l : Int) == 0) = false) :
    Calls Tryz.prog 108 #[.agg #[.int .i64 2, .int .i64 0, .float .f64 f, .string s, .slice a l c]] w fun e w' => e = .returned (.tuple #[.agg #[.int .i64 0, .int .i64 0, .int .u64 0], .bool false]) ∧ Below w.heap.size w w' := by
  have hb := f64bits
  have he := eqV
  go_enter Tryz.func108, Tryz.ntmps108
  go_wp2
  go_region
  go_wp2
  go_region_with (go_at_call 112; refine (isFinite_any _ hf _).mono ?_; rintro e w' ⟨rfl, rfl⟩)
  all_goals go_wp2
  all_goals exact bodyPost_ret (v := .tuple #[.agg #[.int .i64 0, .int .i64 0, .int .u64 0], .bool false]) (by simp [results, Tryz.results108, go_sem]) rfl ⟨rfl, by first | exact (below4 _ _ _ _ _).drew.drew | exact (below4 _ _ _ _ _).drew⟩

set_option maxHeartbeats 800000 in
theorem vo2e (f : Nat) (s : ByteArray) (a : Option Addr) (c : Nat) (w : World) (hf : f < 18446744073709551616) (hn : Flt.fin f = true) (hs : s.toList.isEmpty = true) :
    Calls Tryz.prog 108 #[.agg #[.int .i64 2, .int .i64 0, .float .f64 f, .string s, .slice a 0 c]] w fun e w' => e = .returned (.tuple #[.agg #[.int .i64 2, .int .i64 0, .int .u64 f], .bool true]) ∧ Below w.heap.size w w' := by
  have hb := f64bits
  have he := eqV
  go_enter Tryz.func108, Tryz.ntmps108
  go_wp2
  go_region
  go_wp2
  go_region_with (go_at_call 112; refine (isFinite_any _ hf _).mono ?_; rintro e w' ⟨rfl, rfl⟩)
  all_goals go_wp2
  all_goals exact bodyPost_ret (v := .tuple #[.agg #[.int .i64 2, .int .i64 0, .int .u64 f], .bool true]) (by simp [results, Tryz.results108, go_sem]) rfl ⟨rfl, by first | exact (below4 _ _ _ _ _).drew.drew | exact (below4 _ _ _ _ _).drew⟩

set_option maxHeartbeats 800000 in
theorem vo3 (k n : Int) (f : Nat) (s : ByteArray) (l : Nat) (a : Option Addr) (c : Nat) (w : World) (h1 : (k == 1) = false) (h2 : (k == 2) = false) :
    Calls Tryz.prog 108 #[.agg #[.int .i64 k, .int .i64 n, .float .f64 f, .string s, .slice a l c]] w fun e w' => e = .returned (.tuple #[.agg #[.int .i64 0, .int .i64 0, .int .u64 0], .bool false]) ∧ Below w.heap.size w w' := by
  have hb := f64bits
  have he := eqV
  go_enter Tryz.func108, Tryz.ntmps108
  go_wp2
  go_region
  go_wp2
  all_goals exact bodyPost_ret (v := .tuple #[.agg #[.int .i64 0, .int .i64 0, .int .u64 0], .bool false]) (by simp [results, Tryz.results108, go_sem]) rfl ⟨rfl, by first | exact (below4 _ _ _ _ _).drew.drew | exact (below4 _ _ _ _ _).drew⟩

theorem valueOf_yes (k n : Int) (f : Nat) (s : ByteArray) (a : Option Addr) (l c : Nat) (hf : f < 18446744073709551616) (h : rightB k n f s l = true) (w : World) :
    Calls Tryz.prog 108 #[.agg #[.int .i64 k, .int .i64 n, .float .f64 f, .string s, .slice a l c]] w fun e w' =>
      e = .returned (.tuple #[.agg #[.int .i64 k, .int .i64 n, .int .u64 f], .bool true]) ∧ Below w.heap.size w w' := by
  simp only [rightB, Bool.and_eq_true, Bool.or_eq_true, beq_iff_eq] at h
  obtain ⟨⟨h1, hs⟩, rfl⟩ := h
  rcases h1 with ⟨⟨rfl, hn⟩, rfl⟩ | ⟨⟨rfl, rfl⟩, hn⟩
  · exact vo1e n s a c w hn hs
  · exact vo2e f s a c w hf hn hs

theorem valueOf_no (k n : Int) (f : Nat) (s : ByteArray) (a : Option Addr) (l c : Nat) (hf : f < 18446744073709551616) (h : rightB k n f s l = false) (w : World) :
    Calls Tryz.prog 108 #[.agg #[.int .i64 k, .int .i64 n, .float .f64 f, .string s, .slice a l c]] w fun e w' =>
      e = .returned (.tuple #[.agg #[.int .i64 0, .int .i64 0, .int .u64 0], .bool false]) ∧ Below w.heap.size w w' := by
  by_cases h1 : k = 1
  · subst h1
    cases hn : whB n
    · exact vo1a n f s l a c w hn
    · by_cases hf0 : f = 0
      · subst hf0
        cases hs : s.toList.isEmpty
        · exact vo1c n s l a c w hn hs
        · by_cases hl : l = 0
          · subst hl; simp [rightB, hn, hs] at h
          · exact vo1d n s l a c w hn hs (by simp; omega)
      · exact vo1b n f s l a c w hn (by simp; omega)
  · by_cases h2 : k = 2
    · subst h2
      cases hn : Flt.fin f
      · exact vo2a n f s l a c w hf hn
      · by_cases hn0 : n = 0
        · subst hn0
          cases hs : s.toList.isEmpty
          · exact vo2c f s l a c w hf hn hs
          · by_cases hl : l = 0
            · subst hl; simp [rightB, hn, hs] at h
            · exact vo2d f s l a c w hf hn hs (by simp; omega)
        · exact vo2b n f s l a c w hf hn (by simpa using hn0)
    · exact vo3 k n f s l a c w (by simpa using h1) (by simpa using h2)
end Go.Proofs.YtpcpdehnppfbfaaGreat


/- Contracts of Op on whole numbers: sums and differences. -/
namespace Go.Proofs.YtpcpdehnppfbfaaGreat
open Go.RowKit
attribute [local go_sem] store_float

theorem hid {p : Prop} (h : p) : Hid p := h

end Go.Proofs.YtpcpdehnppfbfaaGreat


