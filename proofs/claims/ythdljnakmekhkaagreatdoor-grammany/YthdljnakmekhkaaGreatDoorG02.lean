import Derived.Test.YthdljnakmekhkaaGreatDoorG00
import Derived.Test.YthdljnakmekhkaaGreatDoorG01
/- Small contracts of the program: how numbers are made, or refused, by the program. -/
namespace Go.Proofs.YthdljnakmekhkaaGreatDoor
open Go.RowKit
attribute [local go_sem] store_float

theorem isWhole_any (n : Int) (w : World) : Calls Tryz.prog 110 #[.int .i64 n] w fun e w' => e = .returned (.bool (whB n)) ∧ w' = w := by
  cases hb : whB n
  · rcases whB_no hb with h | h
    · clear hb
      go_enter Tryz.func110, Tryz.ntmps110
      go_wp2
      go_ret
      exact ⟨rfl, rfl⟩
    · have h2 : -576460752303423488 ≤ n := by omega
      clear hb
      go_enter Tryz.func110, Tryz.ntmps110
      go_wp2
      go_ret
      refine ⟨?_, rfl⟩
      simp
      omega
  · obtain ⟨h1, h2⟩ := whB_yes hb
    clear hb
    go_enter Tryz.func110, Tryz.ntmps110
    go_wp2
    go_ret
    refine ⟨?_, rfl⟩
    simp

theorem isFinite_any (u : Nat) (hu : u < 18446744073709551616) (w : World) : Calls Tryz.prog 94 #[.int .u64 u] w fun e w' => e = .returned (.bool (Flt.fin u)) ∧ w' = w := by
  have hx := Flt.and_exp u hu
  have hy := u64_and_nat u 9218868437227405312 hu (by decide)
  have hz : (bits .and .u64 (u : Int) 9218868437227405312 != 9218868437227405312) = Flt.fin u := by
    rw [show (9218868437227405312 : Int) = ((9218868437227405312 : Nat) : Int) from rfl, hy, Bool.eq_iff_iff]
    cases hf : Flt.fin u
    · have := hx.2 hf; rw [this]; simp
    · have : ¬ (u &&& 9218868437227405312 = 9218868437227405312) := fun h => by rw [hx.1 h] at hf; cases hf
      simp; omega
  clear hx hy
  go_enter Tryz.func94, Tryz.ntmps94
  go_wp2
  go_ret
  exact ⟨rfl, rfl⟩

theorem numInt_any (n : Int) (w : World) : Calls Tryz.prog 91 #[.int .i64 n] w fun e w' => e = .returned (.tuple #[.agg #[.int .i64 (numInt n).k, .int .i64 (numInt n).n, .float .f64 (numInt n).f, .string ⟨#[]⟩, .slice none 0 0], .int .i64 (numInt n).e]) ∧ Below w.heap.size w w' := by
  cases hb : whB n
  · have e : numInt n = ⟨0, 0, 0, 12⟩ := by simp [numInt, hb]
    rw [e]; clear e
    go_enter Tryz.func91, Tryz.ntmps91
    go_wp2_with (go_at_call 110; refine (isWhole_any _ _).mono ?_; rintro e w' ⟨rfl, rfl⟩)
    exact bodyPost_ret (v := .tuple #[.agg #[.int .i64 0, .int .i64 0, .float .f64 0, .string ⟨#[]⟩, .slice none 0 0], .int .i64 12]) (by simp [results, Tryz.results91, go_sem]) rfl ⟨rfl, (Below.refl _ _).alloc (Nat.le_refl _) _⟩
  · have e : numInt n = ⟨1, n, 0, 0⟩ := by simp [numInt, hb]
    rw [e]; clear e
    go_enter Tryz.func91, Tryz.ntmps91
    go_wp2_with (go_at_call 110; refine (isWhole_any _ _).mono ?_; rintro e w' ⟨rfl, rfl⟩)
    exact bodyPost_ret (v := .tuple #[.agg #[.int .i64 1, .int .i64 n, .float .f64 0, .string ⟨#[]⟩, .slice none 0 0], .int .i64 0]) (by simp [results, Tryz.results91, go_sem]) rfl ⟨rfl, (Below.refl _ _).alloc (Nat.le_refl _) _⟩

theorem numBits_any (u : Nat) (hu : u < 18446744073709551616) (w : World) : Calls Tryz.prog 73 #[.int .u64 u] w fun e w' => e = .returned (.tuple #[.agg #[.int .i64 (numBits u).k, .int .i64 (numBits u).n, .float .f64 (numBits u).f, .string ⟨#[]⟩, .slice none 0 0], .int .i64 (numBits u).e]) ∧ Below w.heap.size w w' := by
  have hf := f64frombits
  cases hb : Flt.fin u
  · have e : numBits u = ⟨0, 0, 0, 11⟩ := by simp [numBits, hb]
    rw [e]; clear e
    go_enter Tryz.func73, Tryz.ntmps73
    go_wp2_with (go_at_call 94; refine (isFinite_any _ hu _).mono ?_; rintro e w' ⟨rfl, rfl⟩)
    exact bodyPost_ret (v := .tuple #[.agg #[.int .i64 0, .int .i64 0, .float .f64 0, .string ⟨#[]⟩, .slice none 0 0], .int .i64 11]) (by simp [results, Tryz.results73, go_sem]) rfl ⟨rfl, (Below.refl _ _).alloc (Nat.le_refl _) _⟩
  · have e : numBits u = ⟨2, 0, u, 0⟩ := by simp [numBits, hb]
    rw [e]; clear e
    go_enter Tryz.func73, Tryz.ntmps73
    go_wp2_with (go_at_call 94; refine (isFinite_any _ hu _).mono ?_; rintro e w' ⟨rfl, rfl⟩)
    exact bodyPost_ret (v := .tuple #[.agg #[.int .i64 2, .int .i64 0, .float .f64 u, .string ⟨#[]⟩, .slice none 0 0], .int .i64 0]) (by simp [results, Tryz.results73, go_sem]) rfl ⟨rfl, (Below.refl _ _).alloc (Nat.le_refl _) _⟩

end Go.Proofs.YthdljnakmekhkaaGreatDoor


/- How numbers are made, or refused, by the document's own reckoning. -/
namespace Go.Proofs.YthdljnakmekhkaaGreatDoor
open Go.RowKit
attribute [local go_sem] store_float

theorem refFinite_any (x : Nat) (w : World) : Calls Tryz.prog 85 #[.float .f64 x] w fun e w' => e = .returned (.bool (Flt.fin x)) ∧ Below w.heap.size w w' := by
  cases hb : Flt.fin x
  · have hs := fun t w => sub_nan t x hb w
    have ho : ∀ t y, (FloatKind.f64.format.order (Flt.nanOf t) y) = none := fun t y => Flt.nanOf_order t y
    go_enter Tryz.func85, Tryz.ntmps85
    go_wp2
    go_ret
    exact ⟨rfl, (Below.refl _ _).drew⟩
  · have hs := fun t w => sub_fin t x hb w
    have ho : (FloatKind.f64.format.order 0 0) = some .eq := Flt.order_zero_zero
    go_enter Tryz.func85, Tryz.ntmps85
    go_wp2
    go_ret
    exact ⟨rfl, Below.refl _ _⟩

end Go.Proofs.YthdljnakmekhkaaGreatDoor


/- Numbers. -/
namespace Go.Proofs.YthdljnakmekhkaaGreatDoor
open Go.RowKit Go.Lib
attribute [local go_sem] store_float f64bits
attribute [local go_sem ↓] Go.wp_at_zero Go.wp_at_succ

/-- The powers of ten as floats. -/
def p10L : List Nat := [4607182418800017408, 4621819117588971520, 4636737291354636288, 4652007308841189376, 4666723172467343360, 4681608360884174848, 4696837146684686336, 4711630319722168320, 4726483295884279808, 4741671816366391296, 4756540486875873280, 4771362005757984768, 4786511204640096256, 4801453603149578240, 4816244402031689728, 4831355200913801216]
def p10 (k : Nat) : Nat := p10L.getD k 0

/-- The tables of powers lie where they must. -/
structure PowTab (w : World) : Prop where
  one : w.cell? ⟨2, 0, none⟩ = some (.float .f64 4607182418800017408)
  tab : ∀ k x, p10L[k]? = some x → w.cell? ⟨3, k, none⟩ = some (.float .f64 x)

theorem mul10_0 : floatBits .mul .f64 4607182418800017408 4607182418800017408 = some 4607182418800017408 := by kernel_rfl
theorem conv10_0 : floatOfInt .f64 1 = 4607182418800017408 := by kernel_rfl
theorem mul10_1 : floatBits .mul .f64 4607182418800017408 4621819117588971520 = some 4621819117588971520 := by kernel_rfl
theorem conv10_1 : floatOfInt .f64 10 = 4621819117588971520 := by kernel_rfl
theorem mul10_2 : floatBits .mul .f64 4607182418800017408 4636737291354636288 = some 4636737291354636288 := by kernel_rfl
theorem conv10_2 : floatOfInt .f64 100 = 4636737291354636288 := by kernel_rfl
theorem mul10_3 : floatBits .mul .f64 4607182418800017408 4652007308841189376 = some 4652007308841189376 := by kernel_rfl
theorem conv10_3 : floatOfInt .f64 1000 = 4652007308841189376 := by kernel_rfl
theorem mul10_4 : floatBits .mul .f64 4607182418800017408 4666723172467343360 = some 4666723172467343360 := by kernel_rfl
theorem conv10_4 : floatOfInt .f64 10000 = 4666723172467343360 := by kernel_rfl
theorem mul10_5 : floatBits .mul .f64 4607182418800017408 4681608360884174848 = some 4681608360884174848 := by kernel_rfl
theorem conv10_5 : floatOfInt .f64 100000 = 4681608360884174848 := by kernel_rfl
theorem mul10_6 : floatBits .mul .f64 4607182418800017408 4696837146684686336 = some 4696837146684686336 := by kernel_rfl
theorem conv10_6 : floatOfInt .f64 1000000 = 4696837146684686336 := by kernel_rfl
theorem mul10_7 : floatBits .mul .f64 4607182418800017408 4711630319722168320 = some 4711630319722168320 := by kernel_rfl
theorem conv10_7 : floatOfInt .f64 10000000 = 4711630319722168320 := by kernel_rfl
theorem mul10_8 : floatBits .mul .f64 4607182418800017408 4726483295884279808 = some 4726483295884279808 := by kernel_rfl
theorem conv10_8 : floatOfInt .f64 100000000 = 4726483295884279808 := by kernel_rfl
theorem mul10_9 : floatBits .mul .f64 4607182418800017408 4741671816366391296 = some 4741671816366391296 := by kernel_rfl
theorem conv10_9 : floatOfInt .f64 1000000000 = 4741671816366391296 := by kernel_rfl
theorem mul10_10 : floatBits .mul .f64 4607182418800017408 4756540486875873280 = some 4756540486875873280 := by kernel_rfl
theorem conv10_10 : floatOfInt .f64 10000000000 = 4756540486875873280 := by kernel_rfl
theorem mul10_11 : floatBits .mul .f64 4607182418800017408 4771362005757984768 = some 4771362005757984768 := by kernel_rfl
theorem conv10_11 : floatOfInt .f64 100000000000 = 4771362005757984768 := by kernel_rfl
theorem mul10_12 : floatBits .mul .f64 4607182418800017408 4786511204640096256 = some 4786511204640096256 := by kernel_rfl
theorem conv10_12 : floatOfInt .f64 1000000000000 = 4786511204640096256 := by kernel_rfl
theorem mul10_13 : floatBits .mul .f64 4607182418800017408 4801453603149578240 = some 4801453603149578240 := by kernel_rfl
theorem conv10_13 : floatOfInt .f64 10000000000000 = 4801453603149578240 := by kernel_rfl
theorem mul10_14 : floatBits .mul .f64 4607182418800017408 4816244402031689728 = some 4816244402031689728 := by kernel_rfl
theorem conv10_14 : floatOfInt .f64 100000000000000 = 4816244402031689728 := by kernel_rfl
theorem mul10_15 : floatBits .mul .f64 4607182418800017408 4831355200913801216 = some 4831355200913801216 := by kernel_rfl
theorem conv10_15 : floatOfInt .f64 1000000000000000 = 4831355200913801216 := by kernel_rfl

set_option maxHeartbeats 1000000 in
theorem pow10_core (X : Int) (x : Nat) (w : World) (x0 : 0 ≤ X) (x1 : X < 32) (h1 : w.cell? ⟨2, 0, none⟩ = some (.float .f64 4607182418800017408)) (h2 : w.cell? ⟨3, X.toNat, none⟩ = some (.float .f64 x)) (hm : floatBits .mul .f64 4607182418800017408 x = some x) :
    Calls Tryz.prog 93 #[.int .i64 X] w fun e w' => e = .returned (.float .f64 x) ∧ Below w.heap.size w w' := by
  have hmm := fun t w => run_float_arith (P := Tryz.prog) w .mul t .f64 _ _ _ hm
  have q0 : X / 32 = 0 := by omega
  have q1 : X % 32 = X := by omega
  have x2 : X ≤ 308 := by omega
  have u0 : IntKind.u64.wrap X = X := by rw [IntKind.wrap_u64]; omega
  have u1 : IntKind.u64.wrap 0 = 0 := by rw [IntKind.wrap_u64]; omega
  have u2 : (0 : Int) < 10 := by omega
  clear hm
  go_enter Tryz.func93, Tryz.ntmps93
  go_wp2_with fail
  go_region
  go_wp2_with fail
  go_ret
  exact ⟨rfl, Below.drew (Below.refl _ _)⟩

theorem mul10 (k x : Nat) (h : p10L[k]? = some x) : floatBits .mul .f64 4607182418800017408 x = some x := by
  have hk : k < 16 := (List.getElem?_eq_some_iff.1 h).1
  match k, hk, h with
  | 0, _, h => cases h; exact mul10_0
  | 1, _, h => cases h; exact mul10_1
  | 2, _, h => cases h; exact mul10_2
  | 3, _, h => cases h; exact mul10_3
  | 4, _, h => cases h; exact mul10_4
  | 5, _, h => cases h; exact mul10_5
  | 6, _, h => cases h; exact mul10_6
  | 7, _, h => cases h; exact mul10_7
  | 8, _, h => cases h; exact mul10_8
  | 9, _, h => cases h; exact mul10_9
  | 10, _, h => cases h; exact mul10_10
  | 11, _, h => cases h; exact mul10_11
  | 12, _, h => cases h; exact mul10_12
  | 13, _, h => cases h; exact mul10_13
  | 14, _, h => cases h; exact mul10_14
  | 15, _, h => cases h; exact mul10_15

theorem conv10 (k x : Nat) (h : p10L[k]? = some x) : floatOfInt .f64 ((10 ^ k : Nat) : Int) = x := by
  have hk : k < 16 := (List.getElem?_eq_some_iff.1 h).1
  match k, hk, h with
  | 0, _, h => cases h; exact conv10_0
  | 1, _, h => cases h; exact conv10_1
  | 2, _, h => cases h; exact conv10_2
  | 3, _, h => cases h; exact conv10_3
  | 4, _, h => cases h; exact conv10_4
  | 5, _, h => cases h; exact conv10_5
  | 6, _, h => cases h; exact conv10_6
  | 7, _, h => cases h; exact conv10_7
  | 8, _, h => cases h; exact conv10_8
  | 9, _, h => cases h; exact conv10_9
  | 10, _, h => cases h; exact conv10_10
  | 11, _, h => cases h; exact conv10_11
  | 12, _, h => cases h; exact conv10_12
  | 13, _, h => cases h; exact conv10_13
  | 14, _, h => cases h; exact conv10_14
  | 15, _, h => cases h; exact conv10_15

theorem p10_at (k : Nat) (hk : k < 16) : p10L[k]? = some (p10 k) := by
  unfold p10
  rw [List.getD_eq_getElem?_getD, List.getElem?_eq_getElem (show k < p10L.length from hk)]
  rfl

theorem pow10_any (k : Nat) (hk : k < 16) (w : World) (h : PowTab w) : Calls Tryz.prog 93 #[.int .i64 (k : Int)] w fun e w' => e = .returned (.float .f64 (p10 k)) ∧ Below w.heap.size w w' :=
  pow10_core k (p10 k) w (by omega) (by omega) h.one (by rw [Int.toNat_natCast]; exact h.tab k _ (p10_at k hk)) (mul10 k _ (p10_at k hk))
end Go.Proofs.YthdljnakmekhkaaGreatDoor


/- Plain facts on binary floats of 64 bits: times one, by one, less nothing a float stays as it is; the nearest float of a whole number of 60 bits is finite. -/
namespace Go.Proofs.YthdljnakmekhkaaGreatDoor.Flt
open Ieee

theorem mul_one {u : Nat} (hu : u < 18446744073709551616) (hf : fin u = true) : double.mul u 4607182418800017408 = some u := by
  obtain ⟨m, p, hr, hc, hp, he⟩ := read_canon hu hf
  have h1 : double.read 4607182418800017408 = .number false 4503599627370496 (-52) := by decide
  unfold Format.mul
  rw [hr, h1]
  simp only [Datum.product, Bool.xor_false, Option.map_some, Format.write, Option.some.injEq]
  have := write_read hu hc he hf 52
  rw [show (4503599627370496 : Nat) = 2 ^ 52 from rfl, show p + -52 = p - ((52 : Nat) : Int) by omega]
  exact this

theorem cut_le (neg : Bool) (n d : Nat) (hd : d ≤ n.log2 + 2) : Toward.even.cut neg n d ≤ n / 2 ^ d + 1 := by
  unfold Toward.cut
  rw [Nat.min_eq_left hd, Nat.one_shiftLeft]
  have : ∀ b : Bool, b.toNat ≤ 1 := fun b => by cases b <;> decide
  have h := this (decide (2 ^ d < 2 * (n % 2 ^ d)) || (2 ^ d == 2 * (n % 2 ^ d) && n / 2 ^ d % 2 == 1))
  simp only at h ⊢
  omega

theorem near_fin (neg : Bool) {n : Nat} (h : n ≤ 1152921504606846976) : fin (double.nearest neg n 0) = true := by
  unfold Format.nearest
  simp only [bn, ir, lp]
  by_cases h0 : n = 0
  · subst h0; cases neg <;> simp [word_val, fin]
  · rw [if_neg h0]
    have hb := log2_bounds h0
    have hl : n.log2 ≤ 60 := by
      have : n.log2 < 61 := (Nat.log2_lt h0).2 (by omega)
      omega
    have hfb : (double.fractionBits : Int) = 52 := rfl
    have elast : max ((0 : Int) + ((n.log2 : Nat) : Int) - (double.fractionBits : Int)) (-1074) = ((n.log2 : Nat) : Int) - 52 := by rw [hfb]; omega
    rw [elast]
    have key : Toward.even.cut neg (n <<< ((0 : Int) - (((n.log2 : Nat) : Int) - 52)).toNat) ((((n.log2 : Nat) : Int) - 52) - (0 : Int)).toNat ≤ 9007199254740993 := by
      rcases Nat.lt_or_ge n.log2 53 with hs | hs
      · have e1 : ((0 : Int) - (((n.log2 : Nat) : Int) - 52)).toNat = 52 - n.log2 := by omega
        have e2 : ((((n.log2 : Nat) : Int) - 52) - (0 : Int)).toNat = 0 := by omega
        rw [e1, e2, Nat.shiftLeft_eq]
        have := cut_even_exact neg (n * 2 ^ (52 - n.log2)) 0
        rw [Nat.pow_zero, Nat.mul_one] at this
        rw [this]
        have : n * 2 ^ (52 - n.log2) < 2 ^ (n.log2 + 1) * 2 ^ (52 - n.log2) := Nat.mul_lt_mul_of_pos_right hb.2 (Nat.two_pow_pos _)
        rw [← Nat.pow_add, show n.log2 + 1 + (52 - n.log2) = 53 by omega] at this
        omega
      · have e1 : ((0 : Int) - (((n.log2 : Nat) : Int) - 52)).toNat = 0 := by omega
        have e2 : ((((n.log2 : Nat) : Int) - 52) - (0 : Int)).toNat = n.log2 - 52 := by omega
        rw [e1, e2, Nat.shiftLeft_zero]
        have h1 := cut_le neg n (n.log2 - 52) (by omega)
        have h2 : n / 2 ^ (n.log2 - 52) < 2 ^ 53 := by
          rw [Nat.div_lt_iff_lt_mul (Nat.two_pow_pos _), ← Nat.pow_add, show 53 + (n.log2 - 52) = n.log2 + 1 by omega]
          exact hb.2
        omega
    generalize Toward.even.cut neg (n <<< ((0 : Int) - (((n.log2 : Nat) : Int) - 52)).toNat) ((((n.log2 : Nat) : Int) - 52) - (0 : Int)).toNat = kept at key
    rw [word_val]
    have hr : ((((n.log2 : Nat) : Int) - 52 - -1074).toNat * 4503599627370496 + kept) < 9218868437227405312 := by omega
    rw [Nat.min_eq_left (by omega)]
    generalize ((((n.log2 : Nat) : Int) - 52 - -1074).toNat * 4503599627370496 + kept) = rung at hr
    simp only [fin, decide_eq_true_eq]
    cases neg <;> simp <;> omega
end Go.Proofs.YthdljnakmekhkaaGreatDoor.Flt


/- Numbers: whole ones, floats, what stands behind a point. -/
namespace Go.Proofs.YthdljnakmekhkaaGreatDoor
open Go.RowKit Go.Lib Ieee
attribute [local go_sem] store_float f64bits
attribute [local go_sem ↓] Go.wp_at_zero Go.wp_at_succ

theorem quo_some (a b : Nat) (ha : ∃ s m p, double.read a = .number s m p) (hb : ∃ s m p, double.read b = .number s m p ∧ m ≠ 0) : ∃ q, double.div a b = some q := by
  obtain ⟨s, m, p, ha⟩ := ha
  obtain ⟨t, n, q, hb, hn⟩ := hb
  unfold Format.div
  rw [ha, hb]
  simp only [Datum.quotient]
  rw [if_neg hn]
  exact ⟨_, rfl⟩

def isNum : Datum → Bool
  | .number _ m _ => m != 0
  | _ => false

theorem num_of {x : Nat} (h : isNum (double.read x) = true) : ∃ s m p, double.read x = .number s m p ∧ m ≠ 0 := by
  cases hd : double.read x with
  | number s m p => rw [hd] at h; exact ⟨s, m, p, rfl, by simpa [isNum] using h⟩
  | infinity s => rw [hd] at h; cases h
  | nan => rw [hd] at h; cases h

theorem p10_read (k x : Nat) (h : p10L[k]? = some x) : ∃ s m p, double.read x = .number s m p ∧ m ≠ 0 := by
  have hk : k < 16 := (List.getElem?_eq_some_iff.1 h).1
  match k, hk, h with
  | 0, _, h => cases h; exact num_of (by kernel_rfl)
  | 1, _, h => cases h; exact num_of (by kernel_rfl)
  | 2, _, h => cases h; exact num_of (by kernel_rfl)
  | 3, _, h => cases h; exact num_of (by kernel_rfl)
  | 4, _, h => cases h; exact num_of (by kernel_rfl)
  | 5, _, h => cases h; exact num_of (by kernel_rfl)
  | 6, _, h => cases h; exact num_of (by kernel_rfl)
  | 7, _, h => cases h; exact num_of (by kernel_rfl)
  | 8, _, h => cases h; exact num_of (by kernel_rfl)
  | 9, _, h => cases h; exact num_of (by kernel_rfl)
  | 10, _, h => cases h; exact num_of (by kernel_rfl)
  | 11, _, h => cases h; exact num_of (by kernel_rfl)
  | 12, _, h => cases h; exact num_of (by kernel_rfl)
  | 13, _, h => cases h; exact num_of (by kernel_rfl)
  | 14, _, h => cases h; exact num_of (by kernel_rfl)
  | 15, _, h => cases h; exact num_of (by kernel_rfl)

theorem near_read (V : Nat) (hV : V ≤ 1152921504606846976) : ∃ s m p, double.read (floatOfInt .f64 (V : Int)) = .number s m p := by
  have hf : Flt.fin (floatOfInt .f64 (V : Int)) = true := by
    have := Flt.near_fin false (n := V) hV
    have e : floatOfInt .f64 (V : Int) = double.nearest false V 0 := by
      unfold floatOfInt FloatKind.nearest
      have h1 : decide ((V : Int) < 0) = false := by simp
      simp only [h1, Int.natAbs_natCast]
      rfl
    rw [e]; exact this
  have hl : floatOfInt .f64 (V : Int) < 18446744073709551616 := by
    have := floatOfInt_wf .f64 (V : Int)
    simpa [Lit.wf] using this
  obtain ⟨m, p, h, _⟩ := Flt.read_canon hl hf
  exact ⟨_, m, p, h⟩

/-- One division of floats by the exact power. -/
def fq (V k : Nat) : Nat := (floatBits .quo .f64 (floatOfInt .f64 (V : Int)) (p10 k)).getD 0

theorem fq_some (V k : Nat) (hV : V ≤ 1152921504606846976) (hk : k < 16) : floatBits .quo .f64 (floatOfInt .f64 (V : Int)) (p10 k) = some (fq V k) := by
  obtain ⟨q, hq⟩ := quo_some _ _ (near_read V hV) (p10_read k _ (p10_at k hk))
  have e : floatBits .quo .f64 (floatOfInt .f64 (V : Int)) (p10 k) = some q := hq
  unfold fq
  rw [e]
  rfl

def fracOk (s : ByteArray) (e : Nat) : Bool := decide (e < s.size) && bt s e == 46 && decide (e + 1 < s.size) && pDigit (bt s (e + 1))
def fracEnd (s : ByteArray) (e : Nat) : Nat := if fracOk s e = true then goes pDigit s (e + 1) else e
def fracS (s : ByteArray) (e : Nat) : ByteArray := if fracOk s e = true then s.extract (e + 1) (goes pDigit s (e + 1)) else ⟨#[]⟩

theorem nx_eq (s : ByteArray) (e c : Nat) (hc : c < 128) : (nxR s e = (c : Int)) ↔ (e < s.size ∧ bt s e = c) := by
  rcases Nat.lt_or_ge e s.size with hl | hl
  · rcases Nat.lt_or_ge (bt s e) 128 with hb | hb
    · rw [(nx_low hl hb).1]; omega
    · have := (nx_high hl hb).1; omega
  · rw [(nx_end hl).1]; omega

theorem nx_digit (s : ByteArray) (e : Nat) : zDigit (nxR s e) = (decide (e < s.size) && pDigit (bt s e)) := by
  rcases Nat.lt_or_ge e s.size with hl | hl
  · rcases Nat.lt_or_ge (bt s e) 128 with hb | hb
    · rw [(nx_low hl hb).1, zDigit_nat]; simp [hl]
    · have := (nx_high hl hb).1; rw [flat_digit _ hb]; simp [zDigit]; omega
  · have hn : ¬ e < s.size := by omega
    rw [(nx_end hl).1]; simp [hn]; decide

theorem frac_no1 (s : ByteArray) (e : Nat) (h : nxR s e ≠ 46) : fracOk s e = false := by
  have := nx_eq s e 46 (by omega)
  simp only [fracOk]
  by_cases h1 : e < s.size
  · by_cases h2 : bt s e = 46
    · exact absurd (this.2 ⟨h1, h2⟩) h
    · simp [h2]
  · simp [h1]
theorem frac_eq (s : ByteArray) (e : Nat) (h : nxR s e = 46) : fracOk s e = zDigit (nxR s (e + 1)) ∧ nxK s e = 1 ∧ e < s.size := by
  have h1 := (nx_eq s e 46 (by omega)).1 h
  refine ⟨?_, (nx_low h1.1 (by omega)).2, h1.1⟩
  rw [nx_digit]
  simp [fracOk, h1.1, h1.2]

set_option maxHeartbeats 1000000 in
set_option maxRecDepth 1000000 in
theorem fraction_any (s : ByteArray) (i b : Nat) (hi : i ≤ s.size) (hs : s.size ≤ 65536) (w : World) (h : Sc w b s i) (hT : Lib.Utf8Tabs G1 G2 w) :
    Calls Tryz.prog 69 #[.pointer (some ⟨b, 0, none⟩)] w fun e w' => e = .returned (.string (fracS s i)) ∧ Sc w' b s (fracEnd s i) ∧ But (· = b) w w' := by
  have c0 := h.c0; have c1 := h.c1; have f0 := h.f0; have f1 := h.f1; have hlt := h.lt
  have hal : Below w.heap.size w (w.alloc (.cells #[.string s, .int .i64 i] 55)) := (Below.refl _ _).alloc (Nat.le_refl _) _
  have cN := next_any s i w.heap.size hi hs _ (Duo.new w 55 (.string s) (.int .i64 i)) (Utf8Tabs_below hT hal)
  have h46 := frac_no1 s i
  have h47 := frac_eq s i
  obtain ⟨r, hr⟩ : ∃ r, nxR s i = r := ⟨_, rfl⟩
  rw [hr] at cN h46 h47
  have hwb : ∀ {w1 : World}, But (· = w.heap.size) (w.alloc (.cells #[.string s, .int .i64 i] 55)) w1 → Below w.heap.size w w1 := fun hbut => hal.trans (hbut.below (by simp) (fun k hk => by omega))
  by_cases he : r = 46
  · have hz : (r != 46) = false := by simpa using he
    obtain ⟨hok, hk, hlt1⟩ := h47 he
    rw [hk] at cN
    have hi1 : i + 1 ≤ s.size := by omega
    obtain ⟨r2, hr2⟩ : ∃ r2, nxR s (i + 1) = r2 := ⟨_, rfl⟩
    rw [hr2] at hok
    have cP := fun W h1 h2 => peek_any s (i + 1) w.heap.size hi1 hs W h1 h2
    rw [hr2] at cP
    have HT := hidb hT
    have HH := hidb h
    clear h46 h47 hr hr2 hk he hT
    cases hd : zDigit r2
    · rw [hd] at hok
      simp only [fracS, fracEnd, hok, Bool.false_eq_true, if_false]
      go_enter Tryz.func69, Tryz.ntmps69
      go_wp2_with (first
        | (go_at_call 65; refine cN.mono ?_; rintro e w1 ⟨rfl, hsc, hbut⟩; have HS := hidb hsc; have HB := hidb (hwb hbut))
        | (go_at_call 35; refine (cP _ HS.out (Utf8Tabs_below HT.out HB.out)).mono ?_; rintro e w2 ⟨rfl, hb2⟩; have HB2 := hidb hb2)
        | (go_at_call 38; refine (isDigit_any _ _).mono ?_; rintro e w' ⟨rfl, hw'⟩; obtain rfl := hw'.symm; rw [hd]))
      have HB3 : Below w.heap.size w w2 := HB.out.trans (HB2.out.mono HB.out.size)
      go_ret
      exact ⟨rfl, Duo.keep h HB3, But.of_below HB3⟩
    · rw [hd] at hok
      simp only [fracS, fracEnd, hok, if_true]
      go_enter Tryz.func69, Tryz.ntmps69
      go_wp2_with (first
        | (go_at_call 65; refine cN.mono ?_; rintro e w1 ⟨rfl, hsc, hbut⟩; have HS := hidb hsc; have HB := hidb (hwb hbut))
        | (go_at_call 35; refine (cP _ HS.out (Utf8Tabs_below HT.out HB.out)).mono ?_; rintro e w2 ⟨rfl, hb2⟩; have HB2 := hidb hb2; have HB3 : Hid (Below w.heap.size w w2) := hidb (HB.out.trans (HB2.out.mono HB.out.size)); obtain ⟨a0, a1, a2, a3, a4⟩ := Duo.keep HS.out hb2; obtain ⟨e0, e1, e2, e3, e4⟩ := Duo.keep HH.out HB3.out; have hne : w.heap.size ≠ b := by omega)
        | (go_at_call 38; refine (isDigit_any _ _).mono ?_; rintro e w' ⟨rfl, hw'⟩; obtain rfl := hw'.symm; rw [hd]))
      have hD4 : Sc ((w2.setCell ⟨b, 0, none⟩ (.string s)).setCell ⟨b, 1, none⟩ (.int .i64 ((i : Int) + 1))) b s (i + 1) := ((Duo.keep HH.out HB3.out).set0 (.string s)).set1 (.int .i64 ((i : Int) + 1))
      refine (take_digit s (i + 1) b hi1 hs _ hD4).mono ?_
      rintro e w4 ⟨rfl, hsc4, hbut4⟩
      go_wp2_with fail
      go_ret
      exact ⟨rfl, hsc4, (((But.of_below (S := (· = b)) HB3.out).setCell (p := ⟨b, 0, none⟩) (fun _ => rfl) _).setCell (p := ⟨b, 1, none⟩) (fun _ => rfl) _).trans hbut4⟩
  · have hz : (r != 46) = true := by simpa using he
    have hno := h46 he
    simp only [fracS, fracEnd, hno, Bool.false_eq_true, if_false]
    clear hno h46 h47 hr
    go_enter Tryz.func69, Tryz.ntmps69
    go_wp2_with (go_at_call 65; refine cN.mono ?_; rintro e w' ⟨rfl, hsc, hbut⟩; have HS := hidb hsc; have HB := hidb hbut)
    go_ret
    exact ⟨rfl, Duo.keep h (hwb HB.out), But.of_below (hwb HB.out)⟩
end Go.Proofs.YthdljnakmekhkaaGreatDoor


