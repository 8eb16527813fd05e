/- Contracts of the document's Neg, Abs, Real on any term. -/
import Derived.Test.YtihkabgoaejcgaaDoorV4
namespace Go.Proofs.YtihkabgoaejcgaaDoor
open Go.RowKit
attribute [local go_sem] store_float
attribute [local go_sem ↓] Go.wp_at_zero Go.wp_at_succ

theorem afterAB {w w1 : World} {t1 t2 : TypeId} {a0 a1 a2 a3 a4 b0 b1 b2 b3 b4 : Value}
    (hb : Below ((w.alloc (.cells #[a0, a1, a2, a3, a4] t1)).alloc (.cells #[b0, b1, b2, b3, b4] t2)).heap.size ((w.alloc (.cells #[a0, a1, a2, a3, a4] t1)).alloc (.cells #[b0, b1, b2, b3, b4] t2)) w1) :
    Box w1 w.heap.size a0 a1 a2 a3 a4 ∧ Box w1 (w.heap.size + 1) b0 b1 b2 b3 b4 ∧ Below w.heap.size w w1 := by
  have e1 : (w.alloc (.cells #[a0, a1, a2, a3, a4] t1)).heap.size = w.heap.size + 1 := by simp
  refine ⟨((Box.new w t1 a0 a1 a2 a3 a4).alloc _).keep hb, ?_, ((below_new w _).alloc (by simp) _).trans (hb.mono (by simp; omega))⟩
  rw [← e1]; exact (Box.new _ _ _ _ _ _ _).keep hb

theorem refTurned_any (u v : Nat) (hv : u ^^^ 9223372036854775808 = v) (hu : u < 18446744073709551616) (w : World) : Calls Tryd.prog 55 #[.float .f64 u] w fun e w' => e = .returned (.float .f64 v) ∧ w' = w := by
  have hb := f64bits
  have hf := f64frombits
  have hx : bits .xor .u64 (u : Int) 9223372036854775808 = (v : Int) := by rw [← hv]; exact xor_top u hu
  clear hv hu
  go_enter Tryd.func55, Tryd.ntmps55
  go_wp2
  go_ret
  exact ⟨rfl, rfl⟩

set_option maxHeartbeats 1000000 in
theorem rneg_no (k n : Int) (f : Nat) (s : ByteArray) (a : Option Addr) (l c : Nat) (h : rightB k n f s l = false) (w : World) :
    Calls Tryd.prog 20 #[.agg #[.int .i64 k, .int .i64 n, .float .f64 f, .string s, .slice a l c]] w fun e w' =>
      e = .returned (.tuple #[.agg #[.int .i64 0, .int .i64 0, .float .f64 0, .string ⟨#[]⟩, .slice none 0 0], .int .i64 11]) ∧ Below w.heap.size w w' := by
  have HR := hid h
  clear h
  go_enter Tryd.func20, Tryd.ntmps20
  go_wp2_with fail
  refine (refRight_any k n f s a l c _).mono ?_
  rintro e w1 ⟨rfl, hb1⟩
  rw [HR.out]
  obtain ⟨BA, RB, hW⟩ := afterAB hb1
  have HRB := hid RB
  obtain ⟨A0, A1, A2, A3, A4, _, _, _, _, _, Al⟩ := BA
  clear hb1 RB
  obtain ⟨d0, d1, d2, d3, d4, g0, g1, g2, g3, g4, ltr⟩ := HRB.out
  go_wp2
  exact bodyPost_ret (v := .tuple #[.agg #[.int .i64 (0), .int .i64 (0), .float .f64 (0), .string ⟨#[]⟩, .slice none 0 0], .int .i64 11]) (by simp [results, Tryd.results20, go_sem, d0, d1, d2, d3, d4]) rfl ⟨rfl, below_set5 hW (by omega) _ _ _ _ _⟩

set_option maxHeartbeats 1000000 in
theorem rabs_no (k n : Int) (f : Nat) (s : ByteArray) (a : Option Addr) (l c : Nat) (h : rightB k n f s l = false) (w : World) :
    Calls Tryd.prog 22 #[.agg #[.int .i64 k, .int .i64 n, .float .f64 f, .string s, .slice a l c]] w fun e w' =>
      e = .returned (.tuple #[.agg #[.int .i64 0, .int .i64 0, .float .f64 0, .string ⟨#[]⟩, .slice none 0 0], .int .i64 11]) ∧ Below w.heap.size w w' := by
  have HR := hid h
  clear h
  go_enter Tryd.func22, Tryd.ntmps22
  go_wp2_with fail
  refine (refRight_any k n f s a l c _).mono ?_
  rintro e w1 ⟨rfl, hb1⟩
  rw [HR.out]
  obtain ⟨BA, RB, hW⟩ := afterAB hb1
  have HRB := hid RB
  obtain ⟨A0, A1, A2, A3, A4, _, _, _, _, _, Al⟩ := BA
  clear hb1 RB
  obtain ⟨d0, d1, d2, d3, d4, g0, g1, g2, g3, g4, ltr⟩ := HRB.out
  go_wp2
  exact bodyPost_ret (v := .tuple #[.agg #[.int .i64 (0), .int .i64 (0), .float .f64 (0), .string ⟨#[]⟩, .slice none 0 0], .int .i64 11]) (by simp [results, Tryd.results22, go_sem, d0, d1, d2, d3, d4]) rfl ⟨rfl, below_set5 hW (by omega) _ _ _ _ _⟩

set_option maxHeartbeats 1000000 in
theorem rreal_no (k n : Int) (f : Nat) (s : ByteArray) (a : Option Addr) (l c : Nat) (h : rightB k n f s l = false) (w : World) :
    Calls Tryd.prog 24 #[.agg #[.int .i64 k, .int .i64 n, .float .f64 f, .string s, .slice a l c]] w fun e w' =>
      e = .returned (.tuple #[.agg #[.int .i64 0, .int .i64 0, .float .f64 0, .string ⟨#[]⟩, .slice none 0 0], .int .i64 13]) ∧ Below w.heap.size w w' := by
  have HR := hid h
  clear h
  go_enter Tryd.func24, Tryd.ntmps24
  go_wp2_with fail
  refine (refRight_any k n f s a l c _).mono ?_
  rintro e w1 ⟨rfl, hb1⟩
  rw [HR.out]
  obtain ⟨BA, RB, hW⟩ := afterAB hb1
  have HRB := hid RB
  obtain ⟨A0, A1, A2, A3, A4, _, _, _, _, _, Al⟩ := BA
  clear hb1 RB
  obtain ⟨d0, d1, d2, d3, d4, g0, g1, g2, g3, g4, ltr⟩ := HRB.out
  go_wp2
  exact bodyPost_ret (v := .tuple #[.agg #[.int .i64 (0), .int .i64 (0), .float .f64 (0), .string ⟨#[]⟩, .slice none 0 0], .int .i64 13]) (by simp [results, Tryd.results24, go_sem, d0, d1, d2, d3, d4]) rfl ⟨rfl, below_set5 hW (by omega) _ _ _ _ _⟩

set_option maxHeartbeats 1000000 in
theorem rneg_1 (n : Int) (f : Nat) (s : ByteArray) (a : Option Addr) (l c : Nat) (h : rightB 1 n f s l = true) (b1 : -576460752303423488 ≤ n) (b2 : n ≤ 576460752303423487) (w : World) :
    Calls Tryd.prog 20 #[.agg #[.int .i64 1, .int .i64 n, .float .f64 f, .string s, .slice a l c]] w fun e w' =>
      e = .returned (.tuple #[.agg #[.int .i64 (numInt (-n)).k, .int .i64 (numInt (-n)).n, .float .f64 (numInt (-n)).f, .string ⟨#[]⟩, .slice none 0 0], .int .i64 (numInt (-n)).e]) ∧ Below w.heap.size w w' := by
  have z0 : 0 - n = -n := by omega
  have HR := hid h
  clear h
  go_enter Tryd.func20, Tryd.ntmps20
  go_wp2_with fail
  refine (refRight_any 1 n f s a l c _).mono ?_
  rintro e w1 ⟨rfl, hb1⟩
  rw [HR.out]
  obtain ⟨BA, RB, hW⟩ := afterAB hb1
  have HRB := hid RB
  obtain ⟨A0, A1, A2, A3, A4, _, _, _, _, _, Al⟩ := BA
  clear hb1 RB
  go_wp2_with fail
  refine (refInt_any _ _).mono ?_
  rintro e w2 ⟨rfl, hb2⟩
  clear A0 A1 A2 A3 A4 Al
  have RB2 := HRB.out.keep hb2
  have hW2 := bthen hW hb2
  obtain ⟨d0, d1, d2, d3, d4, g0, g1, g2, g3, g4, ltr⟩ := RB2
  clear hb2 HRB
  go_wp2
  exact bodyPost_ret (v := .tuple #[.agg #[.int .i64 ((numInt (-n)).k), .int .i64 ((numInt (-n)).n), .float .f64 ((numInt (-n)).f), .string ⟨#[]⟩, .slice none 0 0], .int .i64 (numInt (-n)).e]) (by simp [results, Tryd.results20, go_sem, d0, d1, d2, d3, d4]) rfl ⟨rfl, below_set5 hW2 (by omega) _ _ _ _ _⟩

set_option maxHeartbeats 1000000 in
theorem rneg_2 (n : Int) (f : Nat) (s : ByteArray) (a : Option Addr) (l c : Nat) (h : rightB 2 n f s l = true) (v : Nat) (hv : f ^^^ 9223372036854775808 = v) (hu : f < 18446744073709551616) (w : World) :
    Calls Tryd.prog 20 #[.agg #[.int .i64 2, .int .i64 n, .float .f64 f, .string s, .slice a l c]] w fun e w' =>
      e = .returned (.tuple #[.agg #[.int .i64 2, .int .i64 0, .float .f64 v, .string ⟨#[]⟩, .slice none 0 0], .int .i64 0]) ∧ Below w.heap.size w w' := by
  have HR := hid h
  clear h
  go_enter Tryd.func20, Tryd.ntmps20
  go_wp2_with fail
  refine (refRight_any 2 n f s a l c _).mono ?_
  rintro e w1 ⟨rfl, hb1⟩
  rw [HR.out]
  obtain ⟨BA, RB, hW⟩ := afterAB hb1
  have HRB := hid RB
  obtain ⟨A0, A1, A2, A3, A4, _, _, _, _, _, Al⟩ := BA
  clear hb1 RB
  go_wp2_with fail
  refine (refTurned_any f v hv hu _).mono ?_
  rintro e w' ⟨rfl, rfl⟩
  go_wp2_with fail
  refine (refF_any v _).mono ?_
  rintro e w2 ⟨rfl, hb2⟩
  clear A0 A1 A2 A3 A4 Al
  have RB2 := HRB.out.keep hb2
  have hW2 := bthen hW hb2
  obtain ⟨d0, d1, d2, d3, d4, g0, g1, g2, g3, g4, ltr⟩ := RB2
  clear hb2 HRB
  go_wp2
  exact bodyPost_ret (v := .tuple #[.agg #[.int .i64 (2), .int .i64 (0), .float .f64 (v), .string ⟨#[]⟩, .slice none 0 0], .int .i64 0]) (by simp [results, Tryd.results20, go_sem, d0, d1, d2, d3, d4]) rfl ⟨rfl, below_set5 hW2 (by omega) _ _ _ _ _⟩

set_option maxHeartbeats 1000000 in
theorem rabs_1p (n : Int) (f : Nat) (s : ByteArray) (a : Option Addr) (l c : Nat) (h : rightB 1 n f s l = true) (hn : 0 ≤ n) (w : World) :
    Calls Tryd.prog 22 #[.agg #[.int .i64 1, .int .i64 n, .float .f64 f, .string s, .slice a l c]] w fun e w' =>
      e = .returned (.tuple #[.agg #[.int .i64 1, .int .i64 n, .float .f64 f, .string s, .slice a l c], .int .i64 0]) ∧ Below w.heap.size w w' := by
  have HR := hid h
  clear h
  go_enter Tryd.func22, Tryd.ntmps22
  go_wp2_with fail
  refine (refRight_any 1 n f s a l c _).mono ?_
  rintro e w1 ⟨rfl, hb1⟩
  rw [HR.out]
  obtain ⟨BA, RB, hW⟩ := afterAB hb1
  have HRB := hid RB
  obtain ⟨A0, A1, A2, A3, A4, _, _, _, _, _, Al⟩ := BA
  clear hb1 RB
  obtain ⟨d0, d1, d2, d3, d4, g0, g1, g2, g3, g4, ltr⟩ := HRB.out
  go_wp2
  exact bodyPost_ret (v := .tuple #[.agg #[.int .i64 1, .int .i64 n, .float .f64 f, .string s, .slice a l c], .int .i64 0]) (by simp [results, Tryd.results22, go_sem, d0, d1, d2, d3, d4]) rfl ⟨rfl, below_set5 hW (by omega) _ _ _ _ _⟩

set_option maxHeartbeats 1000000 in
theorem rabs_2p (n : Int) (f : Nat) (s : ByteArray) (a : Option Addr) (l c : Nat) (h : rightB 2 n f s l = true) (hq : (f : Int) / 9223372036854775808 = 0) (w : World) :
    Calls Tryd.prog 22 #[.agg #[.int .i64 2, .int .i64 n, .float .f64 f, .string s, .slice a l c]] w fun e w' =>
      e = .returned (.tuple #[.agg #[.int .i64 2, .int .i64 n, .float .f64 f, .string s, .slice a l c], .int .i64 0]) ∧ Below w.heap.size w w' := by
  have hb := f64bits
  have HR := hid h
  clear h
  go_enter Tryd.func22, Tryd.ntmps22
  go_wp2_with fail
  refine (refRight_any 2 n f s a l c _).mono ?_
  rintro e w1 ⟨rfl, hb1⟩
  rw [HR.out]
  obtain ⟨BA, RB, hW⟩ := afterAB hb1
  have HRB := hid RB
  obtain ⟨A0, A1, A2, A3, A4, _, _, _, _, _, Al⟩ := BA
  clear hb1 RB
  obtain ⟨d0, d1, d2, d3, d4, g0, g1, g2, g3, g4, ltr⟩ := HRB.out
  go_wp2
  exact bodyPost_ret (v := .tuple #[.agg #[.int .i64 2, .int .i64 n, .float .f64 f, .string s, .slice a l c], .int .i64 0]) (by simp [results, Tryd.results22, go_sem, d0, d1, d2, d3, d4]) rfl ⟨rfl, below_set5 hW (by omega) _ _ _ _ _⟩

set_option maxHeartbeats 1000000 in
theorem rabs_1n (n : Int) (f : Nat) (s : ByteArray) (a : Option Addr) (l c : Nat) (h : rightB 1 n f s l = true) (b1 : -576460752303423488 ≤ n) (b2 : n < 0) (w : World) :
    Calls Tryd.prog 22 #[.agg #[.int .i64 1, .int .i64 n, .float .f64 f, .string s, .slice a l c]] w fun e w' =>
      e = .returned (.tuple #[.agg #[.int .i64 (numInt (-n)).k, .int .i64 (numInt (-n)).n, .float .f64 (numInt (-n)).f, .string ⟨#[]⟩, .slice none 0 0], .int .i64 (numInt (-n)).e]) ∧ Below w.heap.size w w' := by
  have HR := hid h
  clear h
  go_enter Tryd.func22, Tryd.ntmps22
  go_wp2_with fail
  refine (refRight_any 1 n f s a l c _).mono ?_
  rintro e w1 ⟨rfl, hb1⟩
  rw [HR.out]
  obtain ⟨BA, RB, hW⟩ := afterAB hb1
  have HRB := hid RB
  obtain ⟨A0, A1, A2, A3, A4, _, _, _, _, _, Al⟩ := BA
  clear hb1 RB
  go_wp2_with fail
  refine (rneg_1 n f s a l c HR.out (by omega) (by omega) _).mono ?_
  rintro e w2 ⟨rfl, hb2⟩
  clear A0 A1 A2 A3 A4 Al
  have RB2 := HRB.out.keep hb2
  have hW2 := bthen hW hb2
  obtain ⟨d0, d1, d2, d3, d4, g0, g1, g2, g3, g4, ltr⟩ := RB2
  clear hb2 HRB
  go_wp2
  exact bodyPost_ret (v := .tuple #[.agg #[.int .i64 ((numInt (-n)).k), .int .i64 ((numInt (-n)).n), .float .f64 ((numInt (-n)).f), .string ⟨#[]⟩, .slice none 0 0], .int .i64 (numInt (-n)).e]) (by simp [results, Tryd.results22, go_sem, d0, d1, d2, d3, d4]) rfl ⟨rfl, below_set5 hW2 (by omega) _ _ _ _ _⟩

set_option maxHeartbeats 1000000 in
theorem rabs_2n (n : Int) (f : Nat) (s : ByteArray) (a : Option Addr) (l c : Nat) (h : rightB 2 n f s l = true) (hq : (f : Int) / 9223372036854775808 = 1) (v : Nat) (hv : f ^^^ 9223372036854775808 = v) (hu : f < 18446744073709551616) (w : World) :
    Calls Tryd.prog 22 #[.agg #[.int .i64 2, .int .i64 n, .float .f64 f, .string s, .slice a l c]] w fun e w' =>
      e = .returned (.tuple #[.agg #[.int .i64 2, .int .i64 0, .float .f64 v, .string ⟨#[]⟩, .slice none 0 0], .int .i64 0]) ∧ Below w.heap.size w w' := by
  have hb := f64bits
  have HR := hid h
  clear h
  go_enter Tryd.func22, Tryd.ntmps22
  go_wp2_with fail
  refine (refRight_any 2 n f s a l c _).mono ?_
  rintro e w1 ⟨rfl, hb1⟩
  rw [HR.out]
  obtain ⟨BA, RB, hW⟩ := afterAB hb1
  have HRB := hid RB
  obtain ⟨A0, A1, A2, A3, A4, _, _, _, _, _, Al⟩ := BA
  clear hb1 RB
  go_wp2_with fail
  refine (rneg_2 n f s a l c HR.out v hv hu _).mono ?_
  rintro e w2 ⟨rfl, hb2⟩
  clear A0 A1 A2 A3 A4 Al
  have RB2 := HRB.out.keep hb2
  have hW2 := bthen hW hb2
  obtain ⟨d0, d1, d2, d3, d4, g0, g1, g2, g3, g4, ltr⟩ := RB2
  clear hb2 HRB
  go_wp2
  exact bodyPost_ret (v := .tuple #[.agg #[.int .i64 (2), .int .i64 (0), .float .f64 (v), .string ⟨#[]⟩, .slice none 0 0], .int .i64 0]) (by simp [results, Tryd.results22, go_sem, d0, d1, d2, d3, d4]) rfl ⟨rfl, below_set5 hW2 (by omega) _ _ _ _ _⟩

theorem rreal1 (n : Int) (f : Nat) (s : ByteArray) (a : Option Addr) (l c : Nat) (b1 : -9223372036854775808 ≤ n) (b2 : n ≤ 9223372036854775807) (w : World) : Calls Tryd.prog 54 #[.agg #[.int .i64 1, .int .i64 n, .float .f64 f, .string s, .slice a l c]] w fun e w' => e = .returned (.float .f64 (floatOfInt .f64 n)) ∧ Below w.heap.size w w' := by
  go_enter Tryd.func54, Tryd.ntmps54
  go_wp2_with fail
  refine (refNear_any n b1 b2 _).mono ?_
  rintro e w' ⟨rfl, rfl⟩
  go_wp2
  go_ret
  exact ⟨rfl, below_new _ _⟩

theorem rreal2 (n : Int) (f : Nat) (s : ByteArray) (a : Option Addr) (l c : Nat) (w : World) : Calls Tryd.prog 54 #[.agg #[.int .i64 2, .int .i64 n, .float .f64 f, .string s, .slice a l c]] w fun e w' => e = .returned (.float .f64 f) ∧ Below w.heap.size w w' := by
  go_enter Tryd.func54, Tryd.ntmps54
  go_wp2
  go_ret
  exact ⟨rfl, below_new _ _⟩

set_option maxHeartbeats 1000000 in
theorem rreal_1 (n : Int) (f : Nat) (s : ByteArray) (a : Option Addr) (l c : Nat) (h : rightB 1 n f s l = true) (b1 : -9223372036854775808 ≤ n) (b2 : n ≤ 9223372036854775807) (w : World) :
    Calls Tryd.prog 24 #[.agg #[.int .i64 1, .int .i64 n, .float .f64 f, .string s, .slice a l c]] w fun e w' =>
      e = .returned (.tuple #[.agg #[.int .i64 2, .int .i64 0, .float .f64 (floatOfInt .f64 n), .string ⟨#[]⟩, .slice none 0 0], .int .i64 0]) ∧ Below w.heap.size w w' := by
  have HR := hid h
  clear h
  go_enter Tryd.func24, Tryd.ntmps24
  go_wp2_with fail
  refine (refRight_any 1 n f s a l c _).mono ?_
  rintro e w1 ⟨rfl, hb1⟩
  rw [HR.out]
  obtain ⟨BA, RB, hW⟩ := afterAB hb1
  have HRB := hid RB
  obtain ⟨A0, A1, A2, A3, A4, _, _, _, _, _, Al⟩ := BA
  clear hb1 RB
  go_wp2_with fail
  refine (rreal1 n f s a l c b1 b2 _).mono ?_
  rintro e w2 ⟨rfl, hb2⟩
  clear A0 A1 A2 A3 A4 Al
  have HRB2 := hid (HRB.out.keep hb2)
  have hW2 := bthen hW hb2
  clear hb2 HRB hW
  go_wp2_with fail
  refine (refF_any _ _).mono ?_
  rintro e w3 ⟨rfl, hb3⟩
  have RB3 := HRB2.out.keep hb3
  have hW3 := bthen hW2 hb3
  obtain ⟨d0, d1, d2, d3, d4, g0, g1, g2, g3, g4, ltr⟩ := RB3
  clear hb3 HRB2
  go_wp2
  exact bodyPost_ret (v := .tuple #[.agg #[.int .i64 (2), .int .i64 (0), .float .f64 (floatOfInt .f64 n), .string ⟨#[]⟩, .slice none 0 0], .int .i64 0]) (by simp [results, Tryd.results24, go_sem, d0, d1, d2, d3, d4]) rfl ⟨rfl, below_set5 hW3 (by omega) _ _ _ _ _⟩

set_option maxHeartbeats 1000000 in
theorem rreal_2 (n : Int) (f : Nat) (s : ByteArray) (a : Option Addr) (l c : Nat) (h : rightB 2 n f s l = true) (w : World) :
    Calls Tryd.prog 24 #[.agg #[.int .i64 2, .int .i64 n, .float .f64 f, .string s, .slice a l c]] w fun e w' =>
      e = .returned (.tuple #[.agg #[.int .i64 2, .int .i64 0, .float .f64 f, .string ⟨#[]⟩, .slice none 0 0], .int .i64 0]) ∧ Below w.heap.size w w' := by
  have HR := hid h
  clear h
  go_enter Tryd.func24, Tryd.ntmps24
  go_wp2_with fail
  refine (refRight_any 2 n f s a l c _).mono ?_
  rintro e w1 ⟨rfl, hb1⟩
  rw [HR.out]
  obtain ⟨BA, RB, hW⟩ := afterAB hb1
  have HRB := hid RB
  obtain ⟨A0, A1, A2, A3, A4, _, _, _, _, _, Al⟩ := BA
  clear hb1 RB
  go_wp2_with fail
  refine (rreal2 n f s a l c _).mono ?_
  rintro e w2 ⟨rfl, hb2⟩
  clear A0 A1 A2 A3 A4 Al
  have HRB2 := hid (HRB.out.keep hb2)
  have hW2 := bthen hW hb2
  clear hb2 HRB hW
  go_wp2_with fail
  refine (refF_any _ _).mono ?_
  rintro e w3 ⟨rfl, hb3⟩
  have RB3 := HRB2.out.keep hb3
  have hW3 := bthen hW2 hb3
  obtain ⟨d0, d1, d2, d3, d4, g0, g1, g2, g3, g4, ltr⟩ := RB3
  clear hb3 HRB2
  go_wp2
  exact bodyPost_ret (v := .tuple #[.agg #[.int .i64 (2), .int .i64 (0), .float .f64 (f), .string ⟨#[]⟩, .slice none 0 0], .int .i64 0]) (by simp [results, Tryd.results24, go_sem, d0, d1, d2, d3, d4]) rfl ⟨rfl, below_set5 hW3 (by omega) _ _ _ _ _⟩

end Go.Proofs.YtihkabgoaejcgaaDoor
