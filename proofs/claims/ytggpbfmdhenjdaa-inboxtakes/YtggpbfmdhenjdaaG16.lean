import Derived.Test.YtggpbfmdhenjdaaG15
import Derived.Deep.DrawnRows
import Derived.Test.YtggpbfmdhenjdaaG00
/- Contracts of Real and Neg on right numbers. -/
namespace Go.Proofs.Ytggpbfmdhenjdaa
open Go.RowKit
attribute [local go_sem] store_float
attribute [local go_sem ↓] Go.wp_at_zero Go.wp_at_succ

/-- behind a function's first call: a boxed argument, the result's box -/
theorem afterA {w w1 : World} {o1 : Obj} {t2 : TypeId} {b0 b1 b2 b3 b4 : Value}
    (hb : Below ((w.alloc o1).alloc (.cells #[b0, b1, b2, b3, b4] t2)).heap.size ((w.alloc o1).alloc (.cells #[b0, b1, b2, b3, b4] t2)) w1) :
    Box w1 (w.heap.size + 1) b0 b1 b2 b3 b4 ∧ Below w.heap.size w w1 := by
  have e1 : (w.alloc o1).heap.size = w.heap.size + 1 := by simp
  refine ⟨?_, ((below_new w o1).alloc (by simp) _).trans (hb.mono (by simp; omega))⟩
  rw [← e1]; exact (Box.new _ _ _ _ _ _ _).keep hb

theorem two_more {w w1 w2 : World} {o1 o2 : Obj} (hW : Below w.heap.size w w1) (hb : Below ((w1.alloc o1).alloc o2).heap.size ((w1.alloc o1).alloc o2) w2) : Below w.heap.size w w2 :=
  ((hW.alloc hW.size o1).alloc (by have := hW.size; simp; omega) o2).trans (hb.mono (by have := hW.size; simp; omega))

theorem realV_lt {k n : Int} {f : Nat} (hf : f < 18446744073709551616) : realV k n f < 18446744073709551616 := by
  unfold realV
  split
  · have := floatOfInt_wf .f64 n
    simpa [Lit.wf] using this
  · exact hf

set_option maxHeartbeats 1000000 in
theorem real_yes (k n : Int) (f : Nat) (s : ByteArray) (a : Option Addr) (l c : Nat) (hf : f < 18446744073709551616) (h : rightB k n f s l = true) (w : World) :
    Calls Try.prog 63 #[.agg #[.int .i64 k, .int .i64 n, .float .f64 f, .string s, .slice a l c]] w fun e w' =>
      e = .returned (.tuple #[.agg #[.int .i64 ((numBits (realV k n f)).k), .int .i64 ((numBits (realV k n f)).n), .float .f64 ((numBits (realV k n f)).f), .string ⟨#[]⟩, .slice none 0 0], .int .i64 (numBits (realV k n f)).e]) ∧ Below w.heap.size w w' := by
  have HR := hid h
  have hl := realV_lt (k := k) (n := n) hf
  clear h
  go_enter Try.func63, Try.ntmps63
  go_wp2_with fail
  refine (valueOf_yes k n f s a l c hf HR.out _).mono ?_
  rintro e w1 ⟨rfl, hb1⟩
  obtain ⟨RB, hW⟩ := afterA hb1
  have HRB := hid RB
  clear hb1 RB
  go_wp2_with fail
  refine (real_at _ _ _ _).mono ?_
  rintro e w' ⟨rfl, rfl⟩
  go_wp2_with fail
  refine (numFloat_any _ hl _).mono ?_
  rintro e w2 ⟨rfl, hb2⟩
  have RB2 := ((HRB.out.alloc _).alloc _).keep hb2
  have hW2 := two_more hW hb2
  obtain ⟨d0, d1, d2, d3, d4, g0, g1, g2, g3, g4, ltr⟩ := RB2
  clear hb2 HRB
  go_wp2
  exact bodyPost_ret (v := .tuple #[.agg #[.int .i64 ((numBits (realV k n f)).k), .int .i64 ((numBits (realV k n f)).n), .float .f64 ((numBits (realV k n f)).f), .string ⟨#[]⟩, .slice none 0 0], .int .i64 (numBits (realV k n f)).e]) (by simp [results, Try.results63, go_sem, d0, d1, d2, d3, d4]) rfl ⟨rfl, below_set5 hW2 (by omega) _ _ _ _ _⟩

theorem xor_top (u : Nat) (hu : u < 18446744073709551616) : bits .xor .u64 (u : Int) 9223372036854775808 = ((u ^^^ 9223372036854775808 : Nat) : Int) := by
  have := bits_xor_u64_nat u 9223372036854775808 hu (by decide)
  exact this

end Go.Proofs.Ytggpbfmdhenjdaa


/- Plain facts on binary floats of 64 bits: times one, by one, less nothing a float stays as it is; the nearest float of a whole number of 60 bits is finite. -/
namespace Go.Proofs.Ytggpbfmdhenjdaa.Flt
open Ieee

theorem mul_one {u : Nat} (hu : u < 18446744073709551616) (hf : fin u = true) : double.mul u 4607182418800017408 = some u := by
  obtain ⟨m, p, hr, hc, hp, he⟩ := read_canon hu hf
  have h1 : double.read 4607182418800017408 = .number false 4503599627370496 (-52) := by decide
  unfold Format.mul
  rw [hr, h1]
  simp only [Datum.product, Bool.xor_false, Option.map_some, Format.write, Option.some.injEq]
  have := write_read hu hc he hf 52
  rw [show (4503599627370496 : Nat) = 2 ^ 52 from rfl, show p + -52 = p - ((52 : Nat) : Int) by omega]
  exact this

theorem div_one {u : Nat} (hu : u < 18446744073709551616) (hf : fin u = true) : double.div u 4607182418800017408 = some u := by
  obtain ⟨m, p, hr, hc, hp, he⟩ := read_canon hu hf
  have h1 : double.read 4607182418800017408 = .number false 4503599627370496 (-52) := by decide
  have hl : m.log2 ≤ 52 := by
    by_cases hm : m = 0
    · subst hm; simp
    · have : m.log2 < 53 := (Nat.log2_lt hm).2 (by have := hc.hi; simpa using this)
      omega
  have hlog : (4503599627370496 : Nat).log2 = 52 := by decide
  unfold Format.div
  rw [hr, h1]
  have hfb : double.fractionBits = 52 := rfl
  simp only [Datum.quotient, hfb, hlog]
  rw [if_neg (by decide)]
  simp only [Bool.xor_false, Option.map_some, Format.write, Option.some.injEq]
  generalize hmore : 52 + 2 + 52 - m.log2 = more
  have hge : 54 ≤ more := by omega
  have e1 : m <<< more = m * 2 ^ (more - 52) * 4503599627370496 := by
    rw [Nat.shiftLeft_eq, Nat.mul_assoc, show (4503599627370496 : Nat) = 2 ^ 52 from rfl, ← Nat.pow_add, show more - 52 + 52 = more by omega]
  have e2 : m <<< more / 4503599627370496 = m * 2 ^ (more - 52) := by rw [e1]; exact Nat.mul_div_cancel _ (by decide)
  have e3 : m <<< more % 4503599627370496 = 0 := by rw [e1]; exact Nat.mul_mod_left _ _
  rw [e2, e3]
  have e4 : 2 * (m * 2 ^ (more - 52)) + ((0 : Nat) != 0).toNat = m * 2 ^ (more - 51) := by
    rw [show more - 51 = more - 52 + 1 by omega, Nat.pow_succ]
    simp only [bne_self_eq_false, Bool.toNat_false, Nat.add_zero]
    rw [Nat.mul_comm 2, Nat.mul_assoc]
  rw [e4, show p - -52 - (more : Int) - 1 = p - ((more - 51 : Nat) : Int) by omega]
  exact write_read hu hc he hf (more - 51)

theorem sub_zero {u : Nat} (hu : u < 18446744073709551616) (hf : fin u = true) : double.sub u 0 = some u := by
  obtain ⟨m, p, hr, hc, hp, he⟩ := read_canon hu hf
  have h1 : double.read 0 = .number false 0 (-1074) := by decide
  unfold Format.sub
  rw [hr, h1]
  have hlo := hc.lo
  have hmin : min p (-1074) = -1074 := by omega
  have hz : ∀ k, signed (!false) 0 k = 0 := fun k => by simp [signed]
  simp only [Datum.opposite, Datum.sum, hmin, Option.map_some, Option.some.injEq, hz, Int.add_zero]
  have hw := write_read hu hc he hf (p + 1074).toNat
  rw [show p - ((p + 1074).toNat : Int) = -1074 by omega] at hw
  rw [show (p - -1074).toNat = (p + 1074).toNat by omega]
  generalize (p + 1074).toNat = k at hw
  generalize decide (9223372036854775808 ≤ u) = s at hw
  simp only [Format.write]
  have hp2 : 0 < 2 ^ k := Nat.two_pow_pos k
  by_cases hm : m = 0
  · subst hm
    cases s <;> simpa [signed] using hw
  · have hq : 0 < m * 2 ^ k := Nat.mul_pos (by omega) hp2
    rw [← Nat.shiftLeft_eq] at hw hq
    cases s
    · rw [show signed false m k = ((m <<< k : Nat) : Int) from rfl, if_neg (by omega), decide_eq_false (by omega), Int.natAbs_natCast]
      exact hw
    · rw [show signed true m k = -((m <<< k : Nat) : Int) from rfl, if_neg (by omega), decide_eq_true (by omega), Int.natAbs_neg, Int.natAbs_natCast]
      exact hw

theorem cut_le (neg : Bool) (n d : Nat) (hd : d ≤ n.log2 + 2) : Toward.even.cut neg n d ≤ n / 2 ^ d + 1 := by
  unfold Toward.cut
  rw [Nat.min_eq_left hd, Nat.one_shiftLeft]
  have : ∀ b : Bool, b.toNat ≤ 1 := fun b => by cases b <;> decide
  have h := this (decide (2 ^ d < 2 * (n % 2 ^ d)) || (2 ^ d == 2 * (n % 2 ^ d) && n / 2 ^ d % 2 == 1))
  simp only at h ⊢
  omega

theorem near_fin (neg : Bool) {n : Nat} (h : n ≤ 1152921504606846976) : fin (double.nearest neg n 0) = true := by
  unfold Format.nearest
  simp only [bn, ir, lp]
  by_cases h0 : n = 0
  · subst h0; cases neg <;> simp [word_val, fin]
  · rw [if_neg h0]
    have hb := log2_bounds h0
    have hl : n.log2 ≤ 60 := by
      have : n.log2 < 61 := (Nat.log2_lt h0).2 (by omega)
      omega
    have hfb : (double.fractionBits : Int) = 52 := rfl
    have elast : max ((0 : Int) + ((n.log2 : Nat) : Int) - (double.fractionBits : Int)) (-1074) = ((n.log2 : Nat) : Int) - 52 := by rw [hfb]; omega
    rw [elast]
    have key : Toward.even.cut neg (n <<< ((0 : Int) - (((n.log2 : Nat) : Int) - 52)).toNat) ((((n.log2 : Nat) : Int) - 52) - (0 : Int)).toNat ≤ 9007199254740993 := by
      rcases Nat.lt_or_ge n.log2 53 with hs | hs
      · have e1 : ((0 : Int) - (((n.log2 : Nat) : Int) - 52)).toNat = 52 - n.log2 := by omega
        have e2 : ((((n.log2 : Nat) : Int) - 52) - (0 : Int)).toNat = 0 := by omega
        rw [e1, e2, Nat.shiftLeft_eq]
        have := cut_even_exact neg (n * 2 ^ (52 - n.log2)) 0
        rw [Nat.pow_zero, Nat.mul_one] at this
        rw [this]
        have : n * 2 ^ (52 - n.log2) < 2 ^ (n.log2 + 1) * 2 ^ (52 - n.log2) := Nat.mul_lt_mul_of_pos_right hb.2 (Nat.two_pow_pos _)
        rw [← Nat.pow_add, show n.log2 + 1 + (52 - n.log2) = 53 by omega] at this
        omega
      · have e1 : ((0 : Int) - (((n.log2 : Nat) : Int) - 52)).toNat = 0 := by omega
        have e2 : ((((n.log2 : Nat) : Int) - 52) - (0 : Int)).toNat = n.log2 - 52 := by omega
        rw [e1, e2, Nat.shiftLeft_zero]
        have h1 := cut_le neg n (n.log2 - 52) (by omega)
        have h2 : n / 2 ^ (n.log2 - 52) < 2 ^ 53 := by
          rw [Nat.div_lt_iff_lt_mul (Nat.two_pow_pos _), ← Nat.pow_add, show 53 + (n.log2 - 52) = n.log2 + 1 by omega]
          exact hb.2
        omega
    generalize Toward.even.cut neg (n <<< ((0 : Int) - (((n.log2 : Nat) : Int) - 52)).toNat) ((((n.log2 : Nat) : Int) - 52) - (0 : Int)).toNat = kept at key
    rw [word_val]
    have hr : ((((n.log2 : Nat) : Int) - 52 - -1074).toNat * 4503599627370496 + kept) < 9218868437227405312 := by omega
    rw [Nat.min_eq_left (by omega)]
    generalize ((((n.log2 : Nat) : Int) - 52 - -1074).toNat * 4503599627370496 + kept) = rung at hr
    simp only [fin, decide_eq_true_eq]
    cases neg <;> simp <;> omega
end Go.Proofs.Ytggpbfmdhenjdaa.Flt


