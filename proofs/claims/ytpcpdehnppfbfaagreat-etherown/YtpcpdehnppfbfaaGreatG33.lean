import Derived.Test.YtpcpdehnppfbfaaGreatG00
import Derived.Test.YtpcpdehnppfbfaaGreatG27
import Derived.Test.YtpcpdehnppfbfaaGreatG32
import Derived.Laws.BitsAllLaws
/- Plain facts on binary floats of 64 bits: times one, by one, less nothing a float stays as it is; the nearest float of a whole number of 60 bits is finite. -/
namespace Go.Proofs.YtpcpdehnppfbfaaGreat.Flt
open Ieee

theorem mul_one {u : Nat} (hu : u < 18446744073709551616) (hf : fin u = true) : double.mul u 4607182418800017408 = some u := by
  obtain ⟨m, p, hr, hc, hp, he⟩ := read_canon hu hf
  have h1 : double.read 4607182418800017408 = .number false 4503599627370496 (-52) := by decide
  unfold Format.mul
  rw [hr, h1]
  simp only [Datum.product, Bool.xor_false, Option.map_some, Format.write, Option.some.injEq]
  have := write_read hu hc he hf 52
  rw [show (4503599627370496 : Nat) = 2 ^ 52 from rfl, show p + -52 = p - ((52 : Nat) : Int) by omega]
  exact this

theorem div_one {u : Nat} (hu : u < 18446744073709551616) (hf : fin u = true) : double.div u 4607182418800017408 = some u := by
  obtain ⟨m, p, hr, hc, hp, he⟩ := read_canon hu hf
  have h1 : double.read 4607182418800017408 = .number false 4503599627370496 (-52) := by decide
  have hl : m.log2 ≤ 52 := by
    by_cases hm : m = 0
    · subst hm; simp
    · have : m.log2 < 53 := (Nat.log2_lt hm).2 (by have := hc.hi; simpa using this)
      omega
  have hlog : (4503599627370496 : Nat).log2 = 52 := by decide
  unfold Format.div
  rw [hr, h1]
  have hfb : double.fractionBits = 52 := rfl
  simp only [Datum.quotient, hfb, hlog]
  rw [if_neg (by decide)]
  simp only [Bool.xor_false, Option.map_some, Format.write, Option.some.injEq]
  generalize hmore : 52 + 2 + 52 - m.log2 = more
  have hge : 54 ≤ more := by omega
  have e1 : m <<< more = m * 2 ^ (more - 52) * 4503599627370496 := by
    rw [Nat.shiftLeft_eq, Nat.mul_assoc, show (4503599627370496 : Nat) = 2 ^ 52 from rfl, ← Nat.pow_add, show more - 52 + 52 = more by omega]
  have e2 : m <<< more / 4503599627370496 = m * 2 ^ (more - 52) := by rw [e1]; exact Nat.mul_div_cancel _ (by decide)
  have e3 : m <<< more % 4503599627370496 = 0 := by rw [e1]; exact Nat.mul_mod_left _ _
  rw [e2, e3]
  have e4 : 2 * (m * 2 ^ (more - 52)) + ((0 : Nat) != 0).toNat = m * 2 ^ (more - 51) := by
    rw [show more - 51 = more - 52 + 1 by omega, Nat.pow_succ]
    simp only [bne_self_eq_false, Bool.toNat_false, Nat.add_zero]
    rw [Nat.mul_comm 2, Nat.mul_assoc]
  rw [e4, show p - -52 - (more : Int) - 1 = p - ((more - 51 : Nat) : Int) by omega]
  exact write_read hu hc he hf (more - 51)

theorem sub_zero {u : Nat} (hu : u < 18446744073709551616) (hf : fin u = true) : double.sub u 0 = some u := by
  obtain ⟨m, p, hr, hc, hp, he⟩ := read_canon hu hf
  have h1 : double.read 0 = .number false 0 (-1074) := by decide
  unfold Format.sub
  rw [hr, h1]
  have hlo := hc.lo
  have hmin : min p (-1074) = -1074 := by omega
  have hz : ∀ k, signed (!false) 0 k = 0 := fun k => by simp [signed]
  simp only [Datum.opposite, Datum.sum, hmin, Option.map_some, Option.some.injEq, hz, Int.add_zero]
  have hw := write_read hu hc he hf (p + 1074).toNat
  rw [show p - ((p + 1074).toNat : Int) = -1074 by omega] at hw
  rw [show (p - -1074).toNat = (p + 1074).toNat by omega]
  generalize (p + 1074).toNat = k at hw
  generalize decide (9223372036854775808 ≤ u) = s at hw
  simp only [Format.write]
  have hp2 : 0 < 2 ^ k := Nat.two_pow_pos k
  by_cases hm : m = 0
  · subst hm
    cases s <;> simpa [signed] using hw
  · have hq : 0 < m * 2 ^ k := Nat.mul_pos (by omega) hp2
    rw [← Nat.shiftLeft_eq] at hw hq
    cases s
    · rw [show signed false m k = ((m <<< k : Nat) : Int) from rfl, if_neg (by omega), decide_eq_false (by omega), Int.natAbs_natCast]
      exact hw
    · rw [show signed true m k = -((m <<< k : Nat) : Int) from rfl, if_neg (by omega), decide_eq_true (by omega), Int.natAbs_neg, Int.natAbs_natCast]
      exact hw

theorem cut_le (neg : Bool) (n d : Nat) (hd : d ≤ n.log2 + 2) : Toward.even.cut neg n d ≤ n / 2 ^ d + 1 := by
  unfold Toward.cut
  rw [Nat.min_eq_left hd, Nat.one_shiftLeft]
  have : ∀ b : Bool, b.toNat ≤ 1 := fun b => by cases b <;> decide
  have h := this (decide (2 ^ d < 2 * (n % 2 ^ d)) || (2 ^ d == 2 * (n % 2 ^ d) && n / 2 ^ d % 2 == 1))
  simp only at h ⊢
  omega

theorem near_fin (neg : Bool) {n : Nat} (h : n ≤ 1152921504606846976) : fin (double.nearest neg n 0) = true := by
  unfold Format.nearest
  simp only [bn, ir, lp]
  by_cases h0 : n = 0
  · subst h0; cases neg <;> simp [word_val, fin]
  · rw [if_neg h0]
    have hb := log2_bounds h0
    have hl : n.log2 ≤ 60 := by
      have : n.log2 < 61 := (Nat.log2_lt h0).2 (by omega)
      omega
    have hfb : (double.fractionBits : Int) = 52 := rfl
    have elast : max ((0 : Int) + ((n.log2 : Nat) : Int) - (double.fractionBits : Int)) (-1074) = ((n.log2 : Nat) : Int) - 52 := by rw [hfb]; omega
    rw [elast]
    have key : Toward.even.cut neg (n <<< ((0 : Int) - (((n.log2 : Nat) : Int) - 52)).toNat) ((((n.log2 : Nat) : Int) - 52) - (0 : Int)).toNat ≤ 9007199254740993 := by
      rcases Nat.lt_or_ge n.log2 53 with hs | hs
      · have e1 : ((0 : Int) - (((n.log2 : Nat) : Int) - 52)).toNat = 52 - n.log2 := by omega
        have e2 : ((((n.log2 : Nat) : Int) - 52) - (0 : Int)).toNat = 0 := by omega
        rw [e1, e2, Nat.shiftLeft_eq]
        have := cut_even_exact neg (n * 2 ^ (52 - n.log2)) 0
        rw [Nat.pow_zero, Nat.mul_one] at this
        rw [this]
        have : n * 2 ^ (52 - n.log2) < 2 ^ (n.log2 + 1) * 2 ^ (52 - n.log2) := Nat.mul_lt_mul_of_pos_right hb.2 (Nat.two_pow_pos _)
        rw [← Nat.pow_add, show n.log2 + 1 + (52 - n.log2) = 53 by omega] at this
        omega
      · have e1 : ((0 : Int) - (((n.log2 : Nat) : Int) - 52)).toNat = 0 := by omega
        have e2 : ((((n.log2 : Nat) : Int) - 52) - (0 : Int)).toNat = n.log2 - 52 := by omega
        rw [e1, e2, Nat.shiftLeft_zero]
        have h1 := cut_le neg n (n.log2 - 52) (by omega)
        have h2 : n / 2 ^ (n.log2 - 52) < 2 ^ 53 := by
          rw [Nat.div_lt_iff_lt_mul (Nat.two_pow_pos _), ← Nat.pow_add, show 53 + (n.log2 - 52) = n.log2 + 1 by omega]
          exact hb.2
        omega
    generalize Toward.even.cut neg (n <<< ((0 : Int) - (((n.log2 : Nat) : Int) - 52)).toNat) ((((n.log2 : Nat) : Int) - 52) - (0 : Int)).toNat = kept at key
    rw [word_val]
    have hr : ((((n.log2 : Nat) : Int) - 52 - -1074).toNat * 4503599627370496 + kept) < 9218868437227405312 := by omega
    rw [Nat.min_eq_left (by omega)]
    generalize ((((n.log2 : Nat) : Int) - 52 - -1074).toNat * 4503599627370496 + kept) = rung at hr
    simp only [fin, decide_eq_true_eq]
    cases neg <;> simp <;> omega
end Go.Proofs.YtpcpdehnppfbfaaGreat.Flt


/- Whether a term is right by itself: the kinds' own look. -/
namespace Go.Proofs.YtpcpdehnppfbfaaGreat
open Go.RowKit Go.Deep
attribute [local go_sem] store_float f64bits
attribute [local go_sem ↓] Go.wp_at_zero Go.wp_at_succ

/-- Is a term right by itself? -/
def goodT : Tr → Bool
  | .mk k n f s _ _ kids =>
    if k = 1 ∨ k = 2 then rightB k n f s kids.length
    else if k = 3 then decide (s.size ≤ 64) && ((f == 0) && (n == 0) && (kids.length == 0))
    else if k = 4 ∨ k = 6 then decide (0 ≤ n) && decide (n ≤ 1099511627776) && ((f == 0) && s.toList.isEmpty && (kids.length == 0))
    else if k = 5 then decide (0 ≤ n) && decide (n ≤ 16384) && ((f == 0) && s.toList.isEmpty)
    else if k = 7 ∨ k = 8 then (f == 0) && (n == 0) && s.toList.isEmpty
    else false

theorem natz (f : Nat) : ((f : Int) == 0) = (f == 0) := by
  rw [Bool.eq_iff_iff]
  simp

set_option maxHeartbeats 1000000 in
set_option maxRecDepth 100000 in
theorem zeroBut_1 (k n : Int) (f : Nat) (s : ByteArray) (a : Option Addr) (l c : Nat) (w : World) :
    Calls Tryz.prog 123 #[.agg #[.int .i64 k, .int .i64 n, .float .f64 f, .string s, .slice a l c], .int .i64 1] w fun e w' => e = .returned (.bool ((f == 0) && s.toList.isEmpty && (l == 0))) ∧ Below w.heap.size w w' := by
  have b1 : bits BinOp.and IntKind.i64 1 1 = 1 := by kernel_rfl
  have b2 : bits BinOp.and IntKind.i64 1 2 = 0 := by kernel_rfl
  have b4 : bits BinOp.and IntKind.i64 1 4 = 0 := by kernel_rfl
  cases hs : s.toList.isEmpty <;> cases hf : (f == 0)
  all_goals
    have hf' : ((f : Int) == 0) = (f == 0) := natz f
    rw [hf] at hf'
    have hl' : ((l : Int) == 0) = (l == 0) := natz l
    go_enter Tryz.func123, Tryz.ntmps123
    go_wp2
    all_goals
      go_ret
      refine ⟨?_, (Below.refl _ _).alloc (Nat.le_refl _) _⟩
      first | rfl | (simp_all; done) | (simp [*]; done)

set_option maxHeartbeats 1000000 in
set_option maxRecDepth 100000 in
theorem zeroBut_2 (k n : Int) (f : Nat) (s : ByteArray) (a : Option Addr) (l c : Nat) (w : World) :
    Calls Tryz.prog 123 #[.agg #[.int .i64 k, .int .i64 n, .float .f64 f, .string s, .slice a l c], .int .i64 2] w fun e w' => e = .returned (.bool ((f == 0) && (n == 0) && (l == 0))) ∧ Below w.heap.size w w' := by
  have b1 : bits BinOp.and IntKind.i64 2 1 = 0 := by kernel_rfl
  have b2 : bits BinOp.and IntKind.i64 2 2 = 2 := by kernel_rfl
  have b4 : bits BinOp.and IntKind.i64 2 4 = 0 := by kernel_rfl
  cases hs : s.toList.isEmpty <;> cases hf : (f == 0)
  all_goals
    have hf' : ((f : Int) == 0) = (f == 0) := natz f
    rw [hf] at hf'
    have hl' : ((l : Int) == 0) = (l == 0) := natz l
    go_enter Tryz.func123, Tryz.ntmps123
    go_wp2
    all_goals
      go_ret
      refine ⟨?_, (Below.refl _ _).alloc (Nat.le_refl _) _⟩
      first | rfl | (simp_all; done) | (simp [*]; done)

set_option maxHeartbeats 1000000 in
set_option maxRecDepth 100000 in
theorem zeroBut_4 (k n : Int) (f : Nat) (s : ByteArray) (a : Option Addr) (l c : Nat) (w : World) :
    Calls Tryz.prog 123 #[.agg #[.int .i64 k, .int .i64 n, .float .f64 f, .string s, .slice a l c], .int .i64 4] w fun e w' => e = .returned (.bool ((f == 0) && (n == 0) && s.toList.isEmpty)) ∧ Below w.heap.size w w' := by
  have b1 : bits BinOp.and IntKind.i64 4 1 = 0 := by kernel_rfl
  have b2 : bits BinOp.and IntKind.i64 4 2 = 0 := by kernel_rfl
  have b4 : bits BinOp.and IntKind.i64 4 4 = 4 := by kernel_rfl
  cases hs : s.toList.isEmpty <;> cases hf : (f == 0)
  all_goals
    have hf' : ((f : Int) == 0) = (f == 0) := natz f
    rw [hf] at hf'
    have hl' : ((l : Int) == 0) = (l == 0) := natz l
    go_enter Tryz.func123, Tryz.ntmps123
    go_wp2
    all_goals
      go_ret
      refine ⟨?_, (Below.refl _ _).alloc (Nat.le_refl _) _⟩
      first | rfl | (simp_all; done) | (simp [*]; done)

set_option maxHeartbeats 1000000 in
set_option maxRecDepth 100000 in
theorem zeroBut_5 (k n : Int) (f : Nat) (s : ByteArray) (a : Option Addr) (l c : Nat) (w : World) :
    Calls Tryz.prog 123 #[.agg #[.int .i64 k, .int .i64 n, .float .f64 f, .string s, .slice a l c], .int .i64 5] w fun e w' => e = .returned (.bool ((f == 0) && s.toList.isEmpty)) ∧ Below w.heap.size w w' := by
  have b1 : bits BinOp.and IntKind.i64 5 1 = 1 := by kernel_rfl
  have b2 : bits BinOp.and IntKind.i64 5 2 = 0 := by kernel_rfl
  have b4 : bits BinOp.and IntKind.i64 5 4 = 4 := by kernel_rfl
  cases hs : s.toList.isEmpty <;> cases hf : (f == 0)
  all_goals
    have hf' : ((f : Int) == 0) = (f == 0) := natz f
    rw [hf] at hf'
    have hl' : ((l : Int) == 0) = (l == 0) := natz l
    go_enter Tryz.func123, Tryz.ntmps123
    go_wp2
    all_goals
      go_ret
      refine ⟨?_, (Below.refl _ _).alloc (Nat.le_refl _) _⟩
      first | rfl | (simp_all; done) | (simp [*]; done)

theorem rightB_cases0 {k n : Int} {f : Nat} {s : ByteArray} {l : Nat} (h : rightB k n f s l = true) : s.toList.isEmpty = true ∧ l = 0 ∧ ((k = 1 ∧ whB n = true ∧ f = 0) ∨ (k = 2 ∧ n = 0 ∧ Flt.fin f = true)) := by
  simp only [rightB, Bool.and_eq_true, Bool.or_eq_true, beq_iff_eq] at h
  obtain ⟨⟨h1, hs⟩, hl⟩ := h
  refine ⟨hs, hl, ?_⟩
  rcases h1 with ⟨⟨h1, h2⟩, h3⟩ | ⟨⟨h1, h2⟩, h3⟩
  · exact Or.inl ⟨h1, h2, h3⟩
  · exact Or.inr ⟨h1, h2, h3⟩

theorem realV_fin0 {k n : Int} {f : Nat} {s : ByteArray} {l : Nat} (h : rightB k n f s l = true) : Flt.fin (realV k n f) = true := by
  obtain ⟨_, _, ⟨rfl, hw, rfl⟩ | ⟨rfl, rfl, hf⟩⟩ := rightB_cases0 h
  · have hb := whB_yes hw
    unfold realV
    rw [if_pos rfl]
    exact Flt.near_fin (decide (n < 0)) (n := n.natAbs) (by omega)
  · simpa [realV] using hf

theorem below_in {w w1 : World} {o : Obj} (h : Below (w.alloc o).heap.size (w.alloc o) w1) : Below w.heap.size w w1 := (below_new w o).trans (h.mono (by simp))

theorem below_a0 {a w : World} (h : Below a.heap.size a w) (o : Obj) : Below a.heap.size a (w.alloc o) := h.alloc h.size o

set_option maxHeartbeats 1000000 in
theorem real_no0 (k n : Int) (f : Nat) (s : ByteArray) (a : Option Addr) (l c : Nat) (hf : f < 18446744073709551616) (h : rightB k n f s l = false) (w : World) :
    Calls Tryz.prog 107 #[.agg #[.int .i64 k, .int .i64 n, .float .f64 f, .string s, .slice a l c]] w fun e w' => e = .returned (.tuple #[.agg #[.int .i64 (0), .int .i64 (0), .float .f64 (0), .string ⟨#[]⟩, .slice none 0 0], .int .i64 13]) ∧ Below w.heap.size w w' := by
  have HR := hidb h
  clear h
  go_enter Tryz.func107, Tryz.ntmps107
  go_wp2_with fail
  refine (valueOf_no k n f s a l c hf HR.out _).mono ?_
  rintro e w1 ⟨rfl, hb1⟩
  obtain ⟨RB, hW⟩ := afterA hb1
  clear hb1
  have RB2 := RB.alloc (.cells #[.int .i64 0, .int .i64 0, .int .u64 0] 177)
  obtain ⟨d0, d1, d2, d3, d4, g0, g1, g2, g3, g4, ltr⟩ := RB2
  clear RB
  go_wp2
  exact bodyPost_ret (v := .tuple #[.agg #[.int .i64 (0), .int .i64 (0), .float .f64 (0), .string ⟨#[]⟩, .slice none 0 0], .int .i64 13]) (by simp [results, Tryz.results107, go_sem, d0, d1, d2, d3, d4]) rfl ⟨rfl, below_set5 (below_a0 hW _) (by omega) _ _ _ _ _⟩

set_option maxHeartbeats 1000000 in
set_option maxRecDepth 100000 in
theorem number_right (k n : Int) (f : Nat) (s : ByteArray) (a : Option Addr) (l c : Nat) (hf : f < 18446744073709551616) (w : World) :
    Calls Tryz.prog 105 #[.agg #[], .agg #[.int .i64 k, .int .i64 n, .float .f64 f, .string s, .slice a l c]] w fun e w' => e = .returned (.bool (rightB k n f s l)) ∧ Below w.heap.size w w' := by
  cases h : rightB k n f s l with
  | true =>
    have R0 := hidb (real_yes k n f s a l c hf h)
    have e0 : (numBits (realV k n f)).e = 0 := by simp [numBits, realV_fin0 h]
    rw [e0] at R0
    clear h e0
    go_enter Tryz.func105, Tryz.ntmps105
    go_wp2_with fail
    refine (R0.out _).mono ?_
    rintro e w1 ⟨rfl, hb1⟩
    go_wp2
    go_ret
    exact ⟨rfl, below_a0 (below_in (below_in hb1)) _⟩
  | false =>
    have R0 := hidb (real_no0 k n f s a l c hf h)
    clear h
    go_enter Tryz.func105, Tryz.ntmps105
    go_wp2_with fail
    refine (R0.out _).mono ?_
    rintro e w1 ⟨rfl, hb1⟩
    go_wp2
    go_ret
    exact ⟨rfl, below_a0 (below_in (below_in hb1)) _⟩

set_option maxHeartbeats 1000000 in
set_option maxRecDepth 100000 in
theorem atom_right (k n : Int) (f : Nat) (s : ByteArray) (a : Option Addr) (l c : Nat) (w : World) :
    Calls Tryz.prog 120 #[.agg #[], .agg #[.int .i64 k, .int .i64 n, .float .f64 f, .string s, .slice a l c]] w fun e w' => e = .returned (.bool (decide (s.size ≤ 64) && ((f == 0) && (n == 0) && (l == 0)))) ∧ Below w.heap.size w w' := by
  have Z0 := hidb (zeroBut_2 k n f s a l c)
  generalize ((f == 0) && (n == 0) && (l == 0)) = z at *
  go_enter Tryz.func120, Tryz.ntmps120
  go_wp2_with (go_at_call 123; refine (Z0.out _).mono ?_; rintro e w1 ⟨rfl, hb1⟩)
  all_goals
    go_ret
    refine ⟨?_, ?_⟩
    · first | rfl | (simp_all; done) | (simp_all; omega) | (congr 2; simp_all; omega)
    · first | exact below_in (below_in hb1) | exact ((Below.refl _ _).alloc (Nat.le_refl _) _).alloc (by simp) _ | exact below_a0 (below_in (below_in hb1)) _

set_option maxHeartbeats 1000000 in
set_option maxRecDepth 100000 in
theorem serial_right (k n : Int) (f : Nat) (s : ByteArray) (a : Option Addr) (l c : Nat) (w : World) :
    Calls Tryz.prog 125 #[.agg #[], .agg #[.int .i64 k, .int .i64 n, .float .f64 f, .string s, .slice a l c]] w fun e w' => e = .returned (.bool (decide (0 ≤ n) && decide (n ≤ 1099511627776) && ((f == 0) && s.toList.isEmpty && (l == 0)))) ∧ Below w.heap.size w w' := by
  have Z0 := hidb (zeroBut_1 k n f s a l c)
  generalize ((f == 0) && s.toList.isEmpty && (l == 0)) = z at *
  go_enter Tryz.func125, Tryz.ntmps125
  go_wp2_with (go_at_call 123; refine (Z0.out _).mono ?_; rintro e w1 ⟨rfl, hb1⟩)
  all_goals
    go_ret
    refine ⟨?_, ?_⟩
    · first | rfl | (simp_all; done) | (simp_all; omega) | (congr 2; simp_all; omega)
    · first | exact below_in (below_in hb1) | exact ((Below.refl _ _).alloc (Nat.le_refl _) _).alloc (by simp) _ | exact below_a0 (below_in (below_in hb1)) _

set_option maxHeartbeats 1000000 in
set_option maxRecDepth 100000 in
theorem function_right (k n : Int) (f : Nat) (s : ByteArray) (a : Option Addr) (l c : Nat) (w : World) :
    Calls Tryz.prog 131 #[.agg #[], .agg #[.int .i64 k, .int .i64 n, .float .f64 f, .string s, .slice a l c]] w fun e w' => e = .returned (.bool (decide (0 ≤ n) && decide (n ≤ 16384) && ((f == 0) && s.toList.isEmpty))) ∧ Below w.heap.size w w' := by
  have Z0 := hidb (zeroBut_5 k n f s a l c)
  generalize ((f == 0) && s.toList.isEmpty) = z at *
  go_enter Tryz.func131, Tryz.ntmps131
  go_wp2_with (go_at_call 123; refine (Z0.out _).mono ?_; rintro e w1 ⟨rfl, hb1⟩)
  all_goals
    go_ret
    refine ⟨?_, ?_⟩
    · first | rfl | (simp_all; done) | (simp_all; omega) | (congr 2; simp_all; omega)
    · first | exact below_in (below_in hb1) | exact ((Below.refl _ _).alloc (Nat.le_refl _) _).alloc (by simp) _ | exact below_a0 (below_in (below_in hb1)) _

set_option maxHeartbeats 1000000 in
set_option maxRecDepth 100000 in
theorem tuple_right (k n : Int) (f : Nat) (s : ByteArray) (a : Option Addr) (l c : Nat) (w : World) :
    Calls Tryz.prog 139 #[.agg #[], .agg #[.int .i64 k, .int .i64 n, .float .f64 f, .string s, .slice a l c]] w fun e w' => e = .returned (.bool (((f == 0) && (n == 0) && s.toList.isEmpty))) ∧ Below w.heap.size w w' := by
  have Z0 := hidb (zeroBut_4 k n f s a l c)
  generalize ((f == 0) && (n == 0) && s.toList.isEmpty) = z at *
  go_enter Tryz.func139, Tryz.ntmps139
  go_wp2_with (go_at_call 123; refine (Z0.out _).mono ?_; rintro e w1 ⟨rfl, hb1⟩)
  all_goals
    go_ret
    refine ⟨?_, ?_⟩
    · first | rfl | (simp_all; done) | (simp_all; omega) | (congr 2; simp_all; omega)
    · first | exact below_in (below_in hb1) | exact ((Below.refl _ _).alloc (Nat.le_refl _) _).alloc (by simp) _ | exact below_a0 (below_in (below_in hb1)) _

set_option maxHeartbeats 1000000 in
set_option maxRecDepth 100000 in
theorem list_right (k n : Int) (f : Nat) (s : ByteArray) (a : Option Addr) (l c : Nat) (w : World) :
    Calls Tryz.prog 144 #[.agg #[], .agg #[.int .i64 k, .int .i64 n, .float .f64 f, .string s, .slice a l c]] w fun e w' => e = .returned (.bool (((f == 0) && (n == 0) && s.toList.isEmpty))) ∧ Below w.heap.size w w' := by
  have Z0 := hidb (zeroBut_4 k n f s a l c)
  generalize ((f == 0) && (n == 0) && s.toList.isEmpty) = z at *
  go_enter Tryz.func144, Tryz.ntmps144
  go_wp2_with (go_at_call 123; refine (Z0.out _).mono ?_; rintro e w1 ⟨rfl, hb1⟩)
  all_goals
    go_ret
    refine ⟨?_, ?_⟩
    · first | rfl | (simp_all; done) | (simp_all; omega) | (congr 2; simp_all; omega)
    · first | exact below_in (below_in hb1) | exact ((Below.refl _ _).alloc (Nat.le_refl _) _).alloc (by simp) _ | exact below_a0 (below_in (below_in hb1)) _

theorem unknown_right (k n : Int) (f : Nat) (s : ByteArray) (a : Option Addr) (l c : Nat) (w : World) :
    Calls Tryz.prog 147 #[.agg #[], .agg #[.int .i64 k, .int .i64 n, .float .f64 f, .string s, .slice a l c]] w fun e w' => e = .returned (.bool false) ∧ Below w.heap.size w w' := by
  go_enter Tryz.func147, Tryz.ntmps147
  go_wp2
  go_ret
  exact ⟨rfl, by (repeat (first | exact Below.refl _ _ | assumption | refine Below.drew ?_ | refine below_drewN ?_ _ | refine Below.setCell ?_ (by simp) _ | refine Below.alloc ?_ (by (first | exact Nat.le_refl _ | (simp; done) | (simp; omega) | omega)) _ | refine Below.trans ?_ (Below.mono (by assumption) (by first | exact Nat.le_refl _ | (simp; done) | (simp; omega) | omega))))⟩

theorem looks_good : Looks goodT := by
  intro k n f s a c kids hfit w
  have hf : f < 18446744073709551616 := by
    have := hfit.2.2.1
    simpa [Lit.wf] using this
  refine by_kind (Q := fun k => Calls Tryz.prog (fright k) #[.agg #[], .agg #[.int .i64 k, .int .i64 n, .float .f64 f, .string s, .slice a kids.length c]] w fun e w' => e = .returned (.bool (goodT (.mk k n f s a c kids))) ∧ Below w.heap.size w w') k ?_ ?_ ?_ ?_ ?_ ?_ ?_ ?_ ?_
  · exact number_right 1 n f s a kids.length c hf w
  · exact number_right 2 n f s a kids.length c hf w
  · exact atom_right 3 n f s a kids.length c w
  · exact serial_right 4 n f s a kids.length c w
  · exact function_right 5 n f s a kids.length c w
  · exact serial_right 6 n f s a kids.length c w
  · exact tuple_right 7 n f s a kids.length c w
  · exact list_right 8 n f s a kids.length c w
  · intro k h1 h2 h3 h4 h5 h6 h7 h8
    simp only [fright, goodT, h1, h2, h3, h4, h5, h6, h7, h8, if_false, or_self]
    exact unknown_right k n f s a kids.length c w
end Go.Proofs.YtpcpdehnppfbfaaGreat


