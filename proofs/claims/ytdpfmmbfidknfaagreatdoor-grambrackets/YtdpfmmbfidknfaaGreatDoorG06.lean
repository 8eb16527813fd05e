import Derived.Test.YtdpfmmbfidknfaaGreatDoorG04
import Derived.Test.YtdpfmmbfidknfaaGreatDoorG05
import Derived.Test.YtdpfmmbfidknfaaGreatDoorG00
/- Numbers. -/
namespace Go.Proofs.YtdpfmmbfidknfaaGreatDoor
open Go.RowKit Go.Lib
attribute [local go_sem] store_float f64bits
attribute [local go_sem ↓] Go.wp_at_zero Go.wp_at_succ

/-- The powers of ten as floats. -/
def p10L : List Nat := [4607182418800017408, 4621819117588971520, 4636737291354636288, 4652007308841189376, 4666723172467343360, 4681608360884174848, 4696837146684686336, 4711630319722168320, 4726483295884279808, 4741671816366391296, 4756540486875873280, 4771362005757984768, 4786511204640096256, 4801453603149578240, 4816244402031689728, 4831355200913801216]
def p10 (k : Nat) : Nat := p10L.getD k 0

/-- The tables of powers lie where they must. -/
structure PowTab (w : World) : Prop where
  one : w.cell? ⟨2, 0, none⟩ = some (.float .f64 4607182418800017408)
  tab : ∀ k x, p10L[k]? = some x → w.cell? ⟨3, k, none⟩ = some (.float .f64 x)

theorem mul10_0 : floatBits .mul .f64 4607182418800017408 4607182418800017408 = some 4607182418800017408 := by kernel_rfl
theorem conv10_0 : floatOfInt .f64 1 = 4607182418800017408 := by kernel_rfl
theorem mul10_1 : floatBits .mul .f64 4607182418800017408 4621819117588971520 = some 4621819117588971520 := by kernel_rfl
theorem conv10_1 : floatOfInt .f64 10 = 4621819117588971520 := by kernel_rfl
theorem mul10_2 : floatBits .mul .f64 4607182418800017408 4636737291354636288 = some 4636737291354636288 := by kernel_rfl
theorem conv10_2 : floatOfInt .f64 100 = 4636737291354636288 := by kernel_rfl
theorem mul10_3 : floatBits .mul .f64 4607182418800017408 4652007308841189376 = some 4652007308841189376 := by kernel_rfl
theorem conv10_3 : floatOfInt .f64 1000 = 4652007308841189376 := by kernel_rfl
theorem mul10_4 : floatBits .mul .f64 4607182418800017408 4666723172467343360 = some 4666723172467343360 := by kernel_rfl
theorem conv10_4 : floatOfInt .f64 10000 = 4666723172467343360 := by kernel_rfl
theorem mul10_5 : floatBits .mul .f64 4607182418800017408 4681608360884174848 = some 4681608360884174848 := by kernel_rfl
theorem conv10_5 : floatOfInt .f64 100000 = 4681608360884174848 := by kernel_rfl
theorem mul10_6 : floatBits .mul .f64 4607182418800017408 4696837146684686336 = some 4696837146684686336 := by kernel_rfl
theorem conv10_6 : floatOfInt .f64 1000000 = 4696837146684686336 := by kernel_rfl
theorem mul10_7 : floatBits .mul .f64 4607182418800017408 4711630319722168320 = some 4711630319722168320 := by kernel_rfl
theorem conv10_7 : floatOfInt .f64 10000000 = 4711630319722168320 := by kernel_rfl
theorem mul10_8 : floatBits .mul .f64 4607182418800017408 4726483295884279808 = some 4726483295884279808 := by kernel_rfl
theorem conv10_8 : floatOfInt .f64 100000000 = 4726483295884279808 := by kernel_rfl
theorem mul10_9 : floatBits .mul .f64 4607182418800017408 4741671816366391296 = some 4741671816366391296 := by kernel_rfl
theorem conv10_9 : floatOfInt .f64 1000000000 = 4741671816366391296 := by kernel_rfl
theorem mul10_10 : floatBits .mul .f64 4607182418800017408 4756540486875873280 = some 4756540486875873280 := by kernel_rfl
theorem conv10_10 : floatOfInt .f64 10000000000 = 4756540486875873280 := by kernel_rfl
theorem mul10_11 : floatBits .mul .f64 4607182418800017408 4771362005757984768 = some 4771362005757984768 := by kernel_rfl
theorem conv10_11 : floatOfInt .f64 100000000000 = 4771362005757984768 := by kernel_rfl
theorem mul10_12 : floatBits .mul .f64 4607182418800017408 4786511204640096256 = some 4786511204640096256 := by kernel_rfl
theorem conv10_12 : floatOfInt .f64 1000000000000 = 4786511204640096256 := by kernel_rfl
theorem mul10_13 : floatBits .mul .f64 4607182418800017408 4801453603149578240 = some 4801453603149578240 := by kernel_rfl
theorem conv10_13 : floatOfInt .f64 10000000000000 = 4801453603149578240 := by kernel_rfl
theorem mul10_14 : floatBits .mul .f64 4607182418800017408 4816244402031689728 = some 4816244402031689728 := by kernel_rfl
theorem conv10_14 : floatOfInt .f64 100000000000000 = 4816244402031689728 := by kernel_rfl
theorem mul10_15 : floatBits .mul .f64 4607182418800017408 4831355200913801216 = some 4831355200913801216 := by kernel_rfl
theorem conv10_15 : floatOfInt .f64 1000000000000000 = 4831355200913801216 := by kernel_rfl

set_option maxHeartbeats 1000000 in
theorem pow10_core (X : Int) (x : Nat) (w : World) (x0 : 0 ≤ X) (x1 : X < 32) (h1 : w.cell? ⟨2, 0, none⟩ = some (.float .f64 4607182418800017408)) (h2 : w.cell? ⟨3, X.toNat, none⟩ = some (.float .f64 x)) (hm : floatBits .mul .f64 4607182418800017408 x = some x) :
    Calls Tryz.prog 60 #[.int .i64 X] w fun e w' => e = .returned (.float .f64 x) ∧ Below w.heap.size w w' := by
  have hmm := fun t w => run_float_arith (P := Tryz.prog) w .mul t .f64 _ _ _ hm
  have q0 : X / 32 = 0 := by omega
  have q1 : X % 32 = X := by omega
  have x2 : X ≤ 308 := by omega
  have u0 : IntKind.u64.wrap X = X := by rw [IntKind.wrap_u64]; omega
  have u1 : IntKind.u64.wrap 0 = 0 := by rw [IntKind.wrap_u64]; omega
  have u2 : (0 : Int) < 10 := by omega
  clear hm
  go_enter Tryz.func60, Tryz.ntmps60
  go_wp2_with fail
  go_region
  go_wp2_with fail
  go_ret
  exact ⟨rfl, Below.drew (Below.refl _ _)⟩

theorem mul10 (k x : Nat) (h : p10L[k]? = some x) : floatBits .mul .f64 4607182418800017408 x = some x := by
  have hk : k < 16 := (List.getElem?_eq_some_iff.1 h).1
  match k, hk, h with
  | 0, _, h => cases h; exact mul10_0
  | 1, _, h => cases h; exact mul10_1
  | 2, _, h => cases h; exact mul10_2
  | 3, _, h => cases h; exact mul10_3
  | 4, _, h => cases h; exact mul10_4
  | 5, _, h => cases h; exact mul10_5
  | 6, _, h => cases h; exact mul10_6
  | 7, _, h => cases h; exact mul10_7
  | 8, _, h => cases h; exact mul10_8
  | 9, _, h => cases h; exact mul10_9
  | 10, _, h => cases h; exact mul10_10
  | 11, _, h => cases h; exact mul10_11
  | 12, _, h => cases h; exact mul10_12
  | 13, _, h => cases h; exact mul10_13
  | 14, _, h => cases h; exact mul10_14
  | 15, _, h => cases h; exact mul10_15

theorem conv10 (k x : Nat) (h : p10L[k]? = some x) : floatOfInt .f64 ((10 ^ k : Nat) : Int) = x := by
  have hk : k < 16 := (List.getElem?_eq_some_iff.1 h).1
  match k, hk, h with
  | 0, _, h => cases h; exact conv10_0
  | 1, _, h => cases h; exact conv10_1
  | 2, _, h => cases h; exact conv10_2
  | 3, _, h => cases h; exact conv10_3
  | 4, _, h => cases h; exact conv10_4
  | 5, _, h => cases h; exact conv10_5
  | 6, _, h => cases h; exact conv10_6
  | 7, _, h => cases h; exact conv10_7
  | 8, _, h => cases h; exact conv10_8
  | 9, _, h => cases h; exact conv10_9
  | 10, _, h => cases h; exact conv10_10
  | 11, _, h => cases h; exact conv10_11
  | 12, _, h => cases h; exact conv10_12
  | 13, _, h => cases h; exact conv10_13
  | 14, _, h => cases h; exact conv10_14
  | 15, _, h => cases h; exact conv10_15

theorem p10_at (k : Nat) (hk : k < 16) : p10L[k]? = some (p10 k) := by
  unfold p10
  rw [List.getD_eq_getElem?_getD, List.getElem?_eq_getElem (show k < p10L.length from hk)]
  rfl

theorem pow10_any (k : Nat) (hk : k < 16) (w : World) (h : PowTab w) : Calls Tryz.prog 60 #[.int .i64 (k : Int)] w fun e w' => e = .returned (.float .f64 (p10 k)) ∧ Below w.heap.size w w' :=
  pow10_core k (p10 k) w (by omega) (by omega) h.one (by rw [Int.toNat_natCast]; exact h.tab k _ (p10_at k hk)) (mul10 k _ (p10_at k hk))
end Go.Proofs.YtdpfmmbfidknfaaGreatDoor


/- Plain facts on binary floats of 64 bits: times one, by one, less nothing a float stays as it is; the nearest float of a whole number of 60 bits is finite. -/
namespace Go.Proofs.YtdpfmmbfidknfaaGreatDoor.Flt
open Ieee

theorem mul_one {u : Nat} (hu : u < 18446744073709551616) (hf : fin u = true) : double.mul u 4607182418800017408 = some u := by
  obtain ⟨m, p, hr, hc, hp, he⟩ := read_canon hu hf
  have h1 : double.read 4607182418800017408 = .number false 4503599627370496 (-52) := by decide
  unfold Format.mul
  rw [hr, h1]
  simp only [Datum.product, Bool.xor_false, Option.map_some, Format.write, Option.some.injEq]
  have := write_read hu hc he hf 52
  rw [show (4503599627370496 : Nat) = 2 ^ 52 from rfl, show p + -52 = p - ((52 : Nat) : Int) by omega]
  exact this

theorem div_one {u : Nat} (hu : u < 18446744073709551616) (hf : fin u = true) : double.div u 4607182418800017408 = some u := by
  obtain ⟨m, p, hr, hc, hp, he⟩ := read_canon hu hf
  have h1 : double.read 4607182418800017408 = .number false 4503599627370496 (-52) := by decide
  have hl : m.log2 ≤ 52 := by
    by_cases hm : m = 0
    · subst hm; simp
    · have : m.log2 < 53 := (Nat.log2_lt hm).2 (by have := hc.hi; simpa using this)
      omega
  have hlog : (4503599627370496 : Nat).log2 = 52 := by decide
  unfold Format.div
  rw [hr, h1]
  have hfb : double.fractionBits = 52 := rfl
  simp only [Datum.quotient, hfb, hlog]
  rw [if_neg (by decide)]
  simp only [Bool.xor_false, Option.map_some, Format.write, Option.some.injEq]
  generalize hmore : 52 + 2 + 52 - m.log2 = more
  have hge : 54 ≤ more := by omega
  have e1 : m <<< more = m * 2 ^ (more - 52) * 4503599627370496 := by
    rw [Nat.shiftLeft_eq, Nat.mul_assoc, show (4503599627370496 : Nat) = 2 ^ 52 from rfl, ← Nat.pow_add, show more - 52 + 52 = more by omega]
  have e2 : m <<< more / 4503599627370496 = m * 2 ^ (more - 52) := by rw [e1]; exact Nat.mul_div_cancel _ (by decide)
  have e3 : m <<< more % 4503599627370496 = 0 := by rw [e1]; exact Nat.mul_mod_left _ _
  rw [e2, e3]
  have e4 : 2 * (m * 2 ^ (more - 52)) + ((0 : Nat) != 0).toNat = m * 2 ^ (more - 51) := by
    rw [show more - 51 = more - 52 + 1 by omega, Nat.pow_succ]
    simp only [bne_self_eq_false, Bool.toNat_false, Nat.add_zero]
    rw [Nat.mul_comm 2, Nat.mul_assoc]
  rw [e4, show p - -52 - (more : Int) - 1 = p - ((more - 51 : Nat) : Int) by omega]
  exact write_read hu hc he hf (more - 51)

theorem sub_zero {u : Nat} (hu : u < 18446744073709551616) (hf : fin u = true) : double.sub u 0 = some u := by
  obtain ⟨m, p, hr, hc, hp, he⟩ := read_canon hu hf
  have h1 : double.read 0 = .number false 0 (-1074) := by decide
  unfold Format.sub
  rw [hr, h1]
  have hlo := hc.lo
  have hmin : min p (-1074) = -1074 := by omega
  have hz : ∀ k, signed (!false) 0 k = 0 := fun k => by simp [signed]
  simp only [Datum.opposite, Datum.sum, hmin, Option.map_some, Option.some.injEq, hz, Int.add_zero]
  have hw := write_read hu hc he hf (p + 1074).toNat
  rw [show p - ((p + 1074).toNat : Int) = -1074 by omega] at hw
  rw [show (p - -1074).toNat = (p + 1074).toNat by omega]
  generalize (p + 1074).toNat = k at hw
  generalize decide (9223372036854775808 ≤ u) = s at hw
  simp only [Format.write]
  have hp2 : 0 < 2 ^ k := Nat.two_pow_pos k
  by_cases hm : m = 0
  · subst hm
    cases s <;> simpa [signed] using hw
  · have hq : 0 < m * 2 ^ k := Nat.mul_pos (by omega) hp2
    rw [← Nat.shiftLeft_eq] at hw hq
    cases s
    · rw [show signed false m k = ((m <<< k : Nat) : Int) from rfl, if_neg (by omega), decide_eq_false (by omega), Int.natAbs_natCast]
      exact hw
    · rw [show signed true m k = -((m <<< k : Nat) : Int) from rfl, if_neg (by omega), decide_eq_true (by omega), Int.natAbs_neg, Int.natAbs_natCast]
      exact hw

theorem cut_le (neg : Bool) (n d : Nat) (hd : d ≤ n.log2 + 2) : Toward.even.cut neg n d ≤ n / 2 ^ d + 1 := by
  unfold Toward.cut
  rw [Nat.min_eq_left hd, Nat.one_shiftLeft]
  have : ∀ b : Bool, b.toNat ≤ 1 := fun b => by cases b <;> decide
  have h := this (decide (2 ^ d < 2 * (n % 2 ^ d)) || (2 ^ d == 2 * (n % 2 ^ d) && n / 2 ^ d % 2 == 1))
  simp only at h ⊢
  omega

theorem near_fin (neg : Bool) {n : Nat} (h : n ≤ 1152921504606846976) : fin (double.nearest neg n 0) = true := by
  unfold Format.nearest
  simp only [bn, ir, lp]
  by_cases h0 : n = 0
  · subst h0; cases neg <;> simp [word_val, fin]
  · rw [if_neg h0]
    have hb := log2_bounds h0
    have hl : n.log2 ≤ 60 := by
      have : n.log2 < 61 := (Nat.log2_lt h0).2 (by omega)
      omega
    have hfb : (double.fractionBits : Int) = 52 := rfl
    have elast : max ((0 : Int) + ((n.log2 : Nat) : Int) - (double.fractionBits : Int)) (-1074) = ((n.log2 : Nat) : Int) - 52 := by rw [hfb]; omega
    rw [elast]
    have key : Toward.even.cut neg (n <<< ((0 : Int) - (((n.log2 : Nat) : Int) - 52)).toNat) ((((n.log2 : Nat) : Int) - 52) - (0 : Int)).toNat ≤ 9007199254740993 := by
      rcases Nat.lt_or_ge n.log2 53 with hs | hs
      · have e1 : ((0 : Int) - (((n.log2 : Nat) : Int) - 52)).toNat = 52 - n.log2 := by omega
        have e2 : ((((n.log2 : Nat) : Int) - 52) - (0 : Int)).toNat = 0 := by omega
        rw [e1, e2, Nat.shiftLeft_eq]
        have := cut_even_exact neg (n * 2 ^ (52 - n.log2)) 0
        rw [Nat.pow_zero, Nat.mul_one] at this
        rw [this]
        have : n * 2 ^ (52 - n.log2) < 2 ^ (n.log2 + 1) * 2 ^ (52 - n.log2) := Nat.mul_lt_mul_of_pos_right hb.2 (Nat.two_pow_pos _)
        rw [← Nat.pow_add, show n.log2 + 1 + (52 - n.log2) = 53 by omega] at this
        omega
      · have e1 : ((0 : Int) - (((n.log2 : Nat) : Int) - 52)).toNat = 0 := by omega
        have e2 : ((((n.log2 : Nat) : Int) - 52) - (0 : Int)).toNat = n.log2 - 52 := by omega
        rw [e1, e2, Nat.shiftLeft_zero]
        have h1 := cut_le neg n (n.log2 - 52) (by omega)
        have h2 : n / 2 ^ (n.log2 - 52) < 2 ^ 53 := by
          rw [Nat.div_lt_iff_lt_mul (Nat.two_pow_pos _), ← Nat.pow_add, show 53 + (n.log2 - 52) = n.log2 + 1 by omega]
          exact hb.2
        omega
    generalize Toward.even.cut neg (n <<< ((0 : Int) - (((n.log2 : Nat) : Int) - 52)).toNat) ((((n.log2 : Nat) : Int) - 52) - (0 : Int)).toNat = kept at key
    rw [word_val]
    have hr : ((((n.log2 : Nat) : Int) - 52 - -1074).toNat * 4503599627370496 + kept) < 9218868437227405312 := by omega
    rw [Nat.min_eq_left (by omega)]
    generalize ((((n.log2 : Nat) : Int) - 52 - -1074).toNat * 4503599627370496 + kept) = rung at hr
    simp only [fin, decide_eq_true_eq]
    cases neg <;> simp <;> omega
end Go.Proofs.YtdpfmmbfidknfaaGreatDoor.Flt


