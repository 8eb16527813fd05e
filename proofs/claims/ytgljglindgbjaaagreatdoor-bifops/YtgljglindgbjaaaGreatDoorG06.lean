import Derived.Test.YtgljglindgbjaaaGreatDoorG04
import Derived.Test.YtgljglindgbjaaaGreatDoorG05
import Derived.Test.YtgljglindgbjaaaGreatDoorG02
import Derived.Deep.DrawnRows
/- The text of a float without leading zeros: the contract of Text at the float -0.0. -/
namespace Go.Proofs.YtgljglindgbjaaaGreatDoor
open Go.RowKit

set_option maxRecDepth 100000 in
theorem rep_zero (s : ByteArray) (w : World) : Calls Tryz.prog 160 #[.string s, .int .i64 0] w fun e w' => e = .returned (.string ⟨#[]⟩) ∧ w' = w := by
  go_enter Tryz.func160, Tryz.ntmps160
  go_wp2
  go_ret
  exact ⟨rfl, rfl⟩

theorem hex_minus : hexN 9223372036854775808 16 = [56, 48, 48, 48, 48, 48, 48, 48, 48, 48, 48, 48, 48, 48, 48, 48] := by decide +kernel

theorem k15 (k : Nat) (hk : k ≤ 15) (h : 9223372036854775808 / 16 ^ k < 16) : k = 15 := by
  rcases Nat.lt_or_ge k 15 with h1 | h1
  · exfalso
    have h2 : 16 ^ k ≤ 16 ^ 14 := Nat.pow_le_pow_right (by decide) (by omega)
    have h3 : 9223372036854775808 / 16 ^ 14 ≤ 9223372036854775808 / 16 ^ k := Nat.div_le_div_left h2 (Nat.pow_pos (by decide))
    omega
  · omega

set_option maxHeartbeats 1000000 in
theorem text_minus (w : World) (ht : w.cell? ⟨8, 15, none⟩ = some (.int .u8 4)) :
    Calls Tryz.prog 128 #[.agg #[.int .i64 (2), .int .i64 (0), .float .f64 (9223372036854775808), .string ⟨#[]⟩, .slice none 0 0]] w fun e w' => e = .returned (.string ⟨#[35, 56, 48, 48, 48, 48, 48, 48, 48, 48, 48, 48, 48, 48, 48, 48, 48]⟩) ∧ Below w.heap.size w w' := by
  go_enter Tryz.func128, Tryz.ntmps128
  go_wp2_with fail
  refine (valueOf_yes 2 0 9223372036854775808 ⟨#[]⟩ none 0 0 (by decide) (by simp [rightB, Flt.fin]) _).mono ?_
  rintro e w1 ⟨rfl, hb1⟩
  have hW : Below w.heap.size w w1 := (below_new w _).trans (hb1.mono (by simp))
  have ht1 : w1.cell? ⟨8, 15, none⟩ = some (.int .u8 4) := (hW.cell (block_lt_of_cell ht)).trans ht
  have htl : ∀ o, (w1.alloc o).cell? ⟨8, 15, none⟩ = some (.int .u8 4) := fun o => by
    rw [(below_new w1 o).cell (block_lt_of_cell ht1)]; exact ht1
  clear hb1
  go_wp2_with fail
  refine (format_16 9223372036854775808 (by decide) _ (htl _)).mono ?_
  rintro e w2 ⟨k, hk, hl, rfl, hb2⟩
  obtain rfl := k15 k hk hl
  have hW2 : Below w.heap.size w w2 := (hW.alloc hW.size _).trans (hb2.mono (by have := hW.size; simp; omega))
  rw [hex_minus]
  clear hl hb2 hW htl ht1 hk
  go_wp2_with (go_at_call 160; refine (rep_zero _ _).mono ?_; rintro e w' ⟨rfl, rfl⟩)
  go_ret
  exact ⟨rfl, hW2⟩
end Go.Proofs.YtgljglindgbjaaaGreatDoor


/- The statements' own examples: known tells true. -/
namespace Go.Proofs.YtgljglindgbjaaaGreatDoor
open Go.RowKit Go.Sort
attribute [local go_sem] store_float

theorem known_1 : numInt (576460752303423487 + 1) = ⟨0, 0, 0, 12⟩ := by simp [numInt, whB]
theorem known_2 : fltR (floatBits .quo .f64 (realV 1 1 0) (realV 1 2 0)) = ⟨2, 0, 4602678819172646912, 0⟩ := by kernel_rfl
theorem known_3 : numBits 9223372036854775808 = ⟨2, 0, 9223372036854775808, 0⟩ := by simp [numBits, Flt.fin]
theorem known_4 : numBits 9218868437227405312 = ⟨0, 0, 0, 11⟩ := by simp [numBits, Flt.fin]
theorem known_5 : zB (realV 1 2 0) = false := by decide +kernel

/-- a box laid behind a call, kept behind the next one -/
theorem boxStep {w w3 w4 : World} {t : TypeId} {v0 v1 v2 v3 v4 : Value} (hW : Below w.heap.size w w3) (hb : Below (w3.alloc (.cells #[v0, v1, v2, v3, v4] t)).heap.size (w3.alloc (.cells #[v0, v1, v2, v3, v4] t)) w4) :
    Box w4 w3.heap.size v0 v1 v2 v3 v4 ∧ Below w3.heap.size w3 w4 ∧ Below w.heap.size w w4 :=
  ⟨(Box.new _ _ _ _ _ _ _).keep hb, (below_new _ _).trans (hb.mono (by simp)), (hW.alloc hW.size _).trans (hb.mono (by have := hW.size; simp; omega))⟩

end Go.Proofs.YtgljglindgbjaaaGreatDoor


/- Contracts of Real and Neg on right numbers. -/
namespace Go.Proofs.YtgljglindgbjaaaGreatDoor
open Go.RowKit
attribute [local go_sem] store_float
attribute [local go_sem ↓] Go.wp_at_zero Go.wp_at_succ

/-- behind a function's first call: a boxed argument, the result's box -/
theorem afterA {w w1 : World} {o1 : Obj} {t2 : TypeId} {b0 b1 b2 b3 b4 : Value}
    (hb : Below ((w.alloc o1).alloc (.cells #[b0, b1, b2, b3, b4] t2)).heap.size ((w.alloc o1).alloc (.cells #[b0, b1, b2, b3, b4] t2)) w1) :
    Box w1 (w.heap.size + 1) b0 b1 b2 b3 b4 ∧ Below w.heap.size w w1 := by
  have e1 : (w.alloc o1).heap.size = w.heap.size + 1 := by simp
  refine ⟨?_, ((below_new w o1).alloc (by simp) _).trans (hb.mono (by simp; omega))⟩
  rw [← e1]; exact (Box.new _ _ _ _ _ _ _).keep hb

theorem two_more {w w1 w2 : World} {o1 o2 : Obj} (hW : Below w.heap.size w w1) (hb : Below ((w1.alloc o1).alloc o2).heap.size ((w1.alloc o1).alloc o2) w2) : Below w.heap.size w w2 :=
  ((hW.alloc hW.size o1).alloc (by have := hW.size; simp; omega) o2).trans (hb.mono (by have := hW.size; simp; omega))

theorem realV_lt {k n : Int} {f : Nat} (hf : f < 18446744073709551616) : realV k n f < 18446744073709551616 := by
  unfold realV
  split
  · have := floatOfInt_wf .f64 n
    simpa [Lit.wf] using this
  · exact hf

set_option maxHeartbeats 1000000 in
theorem real_yes (k n : Int) (f : Nat) (s : ByteArray) (a : Option Addr) (l c : Nat) (hf : f < 18446744073709551616) (h : rightB k n f s l = true) (w : World) :
    Calls Tryz.prog 116 #[.agg #[.int .i64 k, .int .i64 n, .float .f64 f, .string s, .slice a l c]] w fun e w' =>
      e = .returned (.tuple #[.agg #[.int .i64 ((numBits (realV k n f)).k), .int .i64 ((numBits (realV k n f)).n), .float .f64 ((numBits (realV k n f)).f), .string ⟨#[]⟩, .slice none 0 0], .int .i64 (numBits (realV k n f)).e]) ∧ Below w.heap.size w w' := by
  have HR := hid h
  have hl := realV_lt (k := k) (n := n) hf
  clear h
  go_enter Tryz.func116, Tryz.ntmps116
  go_wp2_with fail
  refine (valueOf_yes k n f s a l c hf HR.out _).mono ?_
  rintro e w1 ⟨rfl, hb1⟩
  obtain ⟨RB, hW⟩ := afterA hb1
  have HRB := hid RB
  clear hb1 RB
  go_wp2_with fail
  refine (real_at _ _ _ _).mono ?_
  rintro e w' ⟨rfl, rfl⟩
  go_wp2_with fail
  refine (numFloat_any _ hl _).mono ?_
  rintro e w2 ⟨rfl, hb2⟩
  have RB2 := ((HRB.out.alloc _).alloc _).keep hb2
  have hW2 := two_more hW hb2
  obtain ⟨d0, d1, d2, d3, d4, g0, g1, g2, g3, g4, ltr⟩ := RB2
  clear hb2 HRB
  go_wp2
  exact bodyPost_ret (v := .tuple #[.agg #[.int .i64 ((numBits (realV k n f)).k), .int .i64 ((numBits (realV k n f)).n), .float .f64 ((numBits (realV k n f)).f), .string ⟨#[]⟩, .slice none 0 0], .int .i64 (numBits (realV k n f)).e]) (by simp [results, Tryz.results116, go_sem, d0, d1, d2, d3, d4]) rfl ⟨rfl, below_set5 hW2 (by omega) _ _ _ _ _⟩

theorem xor_top (u : Nat) (hu : u < 18446744073709551616) : bits .xor .u64 (u : Int) 9223372036854775808 = ((u ^^^ 9223372036854775808 : Nat) : Int) := by
  have := bits_xor_u64_nat u 9223372036854775808 hu (by decide)
  exact this

set_option maxHeartbeats 1000000 in
theorem neg_2 (n : Int) (u : Nat) (s : ByteArray) (a : Option Addr) (l c : Nat) (hu : u < 18446744073709551616) (h : rightB 2 n u s l = true) (w : World) :
    Calls Tryz.prog 105 #[.agg #[.int .i64 2, .int .i64 n, .float .f64 u, .string s, .slice a l c]] w fun e w' =>
      e = .returned (.tuple #[.agg #[.int .i64 ((numBits (u ^^^ 9223372036854775808)).k), .int .i64 ((numBits (u ^^^ 9223372036854775808)).n), .float .f64 ((numBits (u ^^^ 9223372036854775808)).f), .string ⟨#[]⟩, .slice none 0 0], .int .i64 (numBits (u ^^^ 9223372036854775808)).e]) ∧ Below w.heap.size w w' := by
  have hx := xor_top u hu
  have HR := hid h
  have hl : u ^^^ 9223372036854775808 < 18446744073709551616 := Nat.xor_lt_two_pow (n := 64) hu (by decide)
  clear h
  go_enter Tryz.func105, Tryz.ntmps105
  go_wp2_with fail
  refine (valueOf_yes 2 n u s a l c hu HR.out _).mono ?_
  rintro e w1 ⟨rfl, hb1⟩
  obtain ⟨RB, hW⟩ := afterA hb1
  have HRB := hid RB
  clear hb1 RB
  go_wp2_with fail
  refine (numBits_any _ hl _).mono ?_
  rintro e w2 ⟨rfl, hb2⟩
  have RB2 := (HRB.out.alloc _).keep hb2
  have hW2 : Below w.heap.size w w2 := (hW.alloc hW.size _).trans (hb2.mono (by have := hW.size; simp; omega))
  obtain ⟨d0, d1, d2, d3, d4, g0, g1, g2, g3, g4, ltr⟩ := RB2
  clear hb2 HRB
  go_wp2
  exact bodyPost_ret (v := .tuple #[.agg #[.int .i64 ((numBits (u ^^^ 9223372036854775808)).k), .int .i64 ((numBits (u ^^^ 9223372036854775808)).n), .float .f64 ((numBits (u ^^^ 9223372036854775808)).f), .string ⟨#[]⟩, .slice none 0 0], .int .i64 (numBits (u ^^^ 9223372036854775808)).e]) (by simp [results, Tryz.results105, go_sem, d0, d1, d2, d3, d4]) rfl ⟨rfl, below_set5 hW2 (by omega) _ _ _ _ _⟩

set_option maxHeartbeats 1000000 in
theorem neg_1 (n : Int) (u : Nat) (s : ByteArray) (a : Option Addr) (l c : Nat) (hu : u < 18446744073709551616) (h : rightB 1 n u s l = true) (hw : whB n = true) (w : World) :
    Calls Tryz.prog 105 #[.agg #[.int .i64 1, .int .i64 n, .float .f64 u, .string s, .slice a l c]] w fun e w' =>
      e = .returned (.tuple #[.agg #[.int .i64 ((numInt (-n)).k), .int .i64 ((numInt (-n)).n), .float .f64 ((numInt (-n)).f), .string ⟨#[]⟩, .slice none 0 0], .int .i64 (numInt (-n)).e]) ∧ Below w.heap.size w w' := by
  have HR := hid h
  obtain ⟨b1, b2⟩ := whB_yes hw
  clear h hw
  go_enter Tryz.func105, Tryz.ntmps105
  go_wp2_with fail
  refine (valueOf_yes 1 n u s a l c hu HR.out _).mono ?_
  rintro e w1 ⟨rfl, hb1⟩
  obtain ⟨RB, hW⟩ := afterA hb1
  have HRB := hid RB
  clear hb1 RB
  go_wp2_with fail
  refine (numInt_any _ _).mono ?_
  rintro e w2 ⟨rfl, hb2⟩
  have RB2 := (HRB.out.alloc _).keep hb2
  have hW2 : Below w.heap.size w w2 := (hW.alloc hW.size _).trans (hb2.mono (by have := hW.size; simp; omega))
  obtain ⟨d0, d1, d2, d3, d4, g0, g1, g2, g3, g4, ltr⟩ := RB2
  clear hb2 HRB
  go_wp2
  exact bodyPost_ret (v := .tuple #[.agg #[.int .i64 ((numInt (-n)).k), .int .i64 ((numInt (-n)).n), .float .f64 ((numInt (-n)).f), .string ⟨#[]⟩, .slice none 0 0], .int .i64 (numInt (-n)).e]) (by simp [results, Tryz.results105, go_sem, d0, d1, d2, d3, d4]) rfl ⟨rfl, below_set5 hW2 (by omega) _ _ _ _ _⟩
end Go.Proofs.YtgljglindgbjaaaGreatDoor


