import Derived.Test.YtpcpdehnppfbfaaGreatG30
import Derived.Test.YtpcpdehnppfbfaaGreatG31
import Derived.Deep.DrawnRows
/- The statements' own examples: known tells true. -/
namespace Go.Proofs.YtpcpdehnppfbfaaGreat
open Go.RowKit Go.Sort
attribute [local go_sem] store_float

theorem known_1 : numInt (576460752303423487 + 1) = ⟨0, 0, 0, 12⟩ := by simp [numInt, whB]
theorem known_2 : fltR (floatBits .quo .f64 (realV 1 1 0) (realV 1 2 0)) = ⟨2, 0, 4602678819172646912, 0⟩ := by kernel_rfl
theorem known_3 : numBits 9223372036854775808 = ⟨2, 0, 9223372036854775808, 0⟩ := by simp [numBits, Flt.fin]
theorem known_4 : numBits 9218868437227405312 = ⟨0, 0, 0, 11⟩ := by simp [numBits, Flt.fin]
theorem known_5 : zB (realV 1 2 0) = false := by decide +kernel

/-- a box laid behind a call, kept behind the next one -/
theorem boxStep {w w3 w4 : World} {t : TypeId} {v0 v1 v2 v3 v4 : Value} (hW : Below w.heap.size w w3) (hb : Below (w3.alloc (.cells #[v0, v1, v2, v3, v4] t)).heap.size (w3.alloc (.cells #[v0, v1, v2, v3, v4] t)) w4) :
    Box w4 w3.heap.size v0 v1 v2 v3 v4 ∧ Below w3.heap.size w3 w4 ∧ Below w.heap.size w w4 :=
  ⟨(Box.new _ _ _ _ _ _ _).keep hb, (below_new _ _).trans (hb.mono (by simp)), (hW.alloc hW.size _).trans (hb.mono (by have := hW.size; simp; omega))⟩

end Go.Proofs.YtpcpdehnppfbfaaGreat


/- Contracts of Real and Neg on right numbers. -/
namespace Go.Proofs.YtpcpdehnppfbfaaGreat
open Go.RowKit
attribute [local go_sem] store_float
attribute [local go_sem ↓] Go.wp_at_zero Go.wp_at_succ

/-- behind a function's first call: a boxed argument, the result's box -/
theorem afterA {w w1 : World} {o1 : Obj} {t2 : TypeId} {b0 b1 b2 b3 b4 : Value}
    (hb : Below ((w.alloc o1).alloc (.cells #[b0, b1, b2, b3, b4] t2)).heap.size ((w.alloc o1).alloc (.cells #[b0, b1, b2, b3, b4] t2)) w1) :
    Box w1 (w.heap.size + 1) b0 b1 b2 b3 b4 ∧ Below w.heap.size w w1 := by
  have e1 : (w.alloc o1).heap.size = w.heap.size + 1 := by simp
  refine ⟨?_, ((below_new w o1).alloc (by simp) _).trans (hb.mono (by simp; omega))⟩
  rw [← e1]; exact (Box.new _ _ _ _ _ _ _).keep hb

theorem two_more {w w1 w2 : World} {o1 o2 : Obj} (hW : Below w.heap.size w w1) (hb : Below ((w1.alloc o1).alloc o2).heap.size ((w1.alloc o1).alloc o2) w2) : Below w.heap.size w w2 :=
  ((hW.alloc hW.size o1).alloc (by have := hW.size; simp; omega) o2).trans (hb.mono (by have := hW.size; simp; omega))

theorem realV_lt {k n : Int} {f : Nat} (hf : f < 18446744073709551616) : realV k n f < 18446744073709551616 := by
  unfold realV
  split
  · have := floatOfInt_wf .f64 n
    simpa [Lit.wf] using this
  · exact hf

set_option maxHeartbeats 1000000 in
theorem real_yes (k n : Int) (f : Nat) (s : ByteArray) (a : Option Addr) (l c : Nat) (hf : f < 18446744073709551616) (h : rightB k n f s l = true) (w : World) :
    Calls Tryz.prog 107 #[.agg #[.int .i64 k, .int .i64 n, .float .f64 f, .string s, .slice a l c]] w fun e w' =>
      e = .returned (.tuple #[.agg #[.int .i64 ((numBits (realV k n f)).k), .int .i64 ((numBits (realV k n f)).n), .float .f64 ((numBits (realV k n f)).f), .string ⟨#[]⟩, .slice none 0 0], .int .i64 (numBits (realV k n f)).e]) ∧ Below w.heap.size w w' := by
  have HR := hid h
  have hl := realV_lt (k := k) (n := n) hf
  clear h
  go_enter Tryz.func107, Tryz.ntmps107
  go_wp2_with fail
  refine (valueOf_yes k n f s a l c hf HR.out _).mono ?_
  rintro e w1 ⟨rfl, hb1⟩
  obtain ⟨RB, hW⟩ := afterA hb1
  have HRB := hid RB
  clear hb1 RB
  go_wp2_with fail
  refine (real_at _ _ _ _).mono ?_
  rintro e w' ⟨rfl, rfl⟩
  go_wp2_with fail
  refine (numFloat_any _ hl _).mono ?_
  rintro e w2 ⟨rfl, hb2⟩
  have RB2 := ((HRB.out.alloc _).alloc _).keep hb2
  have hW2 := two_more hW hb2
  obtain ⟨d0, d1, d2, d3, d4, g0, g1, g2, g3, g4, ltr⟩ := RB2
  clear hb2 HRB
  go_wp2
  exact bodyPost_ret (v := .tuple #[.agg #[.int .i64 ((numBits (realV k n f)).k), .int .i64 ((numBits (realV k n f)).n), .float .f64 ((numBits (realV k n f)).f), .string ⟨#[]⟩, .slice none 0 0], .int .i64 (numBits (realV k n f)).e]) (by simp [results, Tryz.results107, go_sem, d0, d1, d2, d3, d4]) rfl ⟨rfl, below_set5 hW2 (by omega) _ _ _ _ _⟩

theorem xor_top (u : Nat) (hu : u < 18446744073709551616) : bits .xor .u64 (u : Int) 9223372036854775808 = ((u ^^^ 9223372036854775808 : Nat) : Int) := by
  have := bits_xor_u64_nat u 9223372036854775808 hu (by decide)
  exact this

end Go.Proofs.YtpcpdehnppfbfaaGreat


