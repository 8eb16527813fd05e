import Ieee.Arith
import Derived.Test.YtggpbfmdhenjdaaRows
import Derived.WalkKit
import Derived.WalkSpells
import Derived.WalkLawsBesides
import Derived.BigQuiet
import Derived.Lib.QuietBelow
/- Plain facts on binary floats of 64 bits: finite words are read and written as they are; nothing here speaks of Go. -/
namespace Go.Proofs.Ytggpbfmdhenjdaa.Flt
open Ieee

def infR : Nat := 9218868437227405312

theorem sw : double.signWeight = 9223372036854775808 := by decide
theorem bn : double.binade = 4503599627370496 := by decide
theorem ir : double.infRung = 9218868437227405312 := by decide
theorem lp : double.leastPlace = -1074 := by decide

/-- finite by its rung -/
def fin (x : Nat) : Bool := decide (x % 9223372036854775808 < 9218868437227405312)

theorem read_fin {x : Nat} (h : fin x = true) : ∃ m e, double.read x = .number (x / 9223372036854775808 % 2 == 1) m e := by
  simp only [fin, decide_eq_true_eq] at h
  unfold Format.read
  simp only [sw, bn, ir]
  split
  · exact ⟨_, _, rfl⟩
  · exact ⟨_, _, rfl⟩

theorem read_not {x : Nat} (h : fin x = false) : (∃ s, double.read x = .infinity s) ∨ ∃ s t, double.read x = .nan s t := by
  simp only [fin, decide_eq_false_iff_not] at h
  unfold Format.read
  simp only [sw, bn, ir]
  rw [if_neg (by omega), if_neg h]
  split
  · exact Or.inl ⟨_, rfl⟩
  · exact Or.inr ⟨_, _, rfl⟩

theorem sub_self_fin {x : Nat} (h : fin x = true) : double.sub x x = some 0 := by
  obtain ⟨m, e, hr⟩ := read_fin h
  unfold Format.sub
  rw [hr]
  simp only [Datum.opposite, Datum.sum]
  generalize (x / 9223372036854775808 % 2 == 1) = s
  have t : ∀ k, signed s m k + signed (!s) m k = 0 := by intro k; cases s <;> simp [signed] <;> omega
  simp only [t, if_true, Int.natAbs_zero, Option.map_some, Format.write, Format.nearest]
  cases s <;> simp [Format.word]

theorem sub_self_not {x : Nat} (h : fin x = false) : double.sub x x = none := by
  unfold Format.sub
  rcases read_not h with ⟨s, hr⟩ | ⟨s, t, hr⟩ <;> rw [hr] <;> cases s <;> simp [Datum.opposite, Datum.sum]

theorem and_exp (x : Nat) (hx : x < 18446744073709551616) : (x &&& 9218868437227405312 = 9218868437227405312) ↔ fin x = false := by
  have key : x &&& 9218868437227405312 = (x / 4503599627370496 % 2048 % 2048) * 4503599627370496 % 18446744073709551616 := by
    have e : (9218868437227405312 : Nat) = 2047 <<< 52 := by decide
    have e2 : x / 4503599627370496 % 2048 = (x >>> 52) &&& 2047 := by
      rw [Nat.shiftRight_eq_div_pow, show (2047 : Nat) = 2 ^ 11 - 1 from rfl, Nat.and_two_pow_sub_one_eq_mod]
    rw [Nat.mod_mod, e2, e]
    apply Nat.eq_of_testBit_eq
    intro i
    rw [show (4503599627370496 : Nat) = 2 ^ 52 from rfl, ← Nat.shiftLeft_eq, show (18446744073709551616 : Nat) = 2 ^ 64 from rfl]
    simp only [Nat.testBit_and, Nat.testBit_mod_two_pow, Nat.testBit_shiftLeft, Nat.testBit_shiftRight]
    by_cases h : 52 ≤ i
    · by_cases h2 : i < 64
      · simp [h, h2, show 52 + (i - 52) = i by omega]
      · have : x.testBit i = false := Nat.testBit_lt_two_pow (Nat.lt_of_lt_of_le hx (by rw [show (18446744073709551616 : Nat) = 2 ^ 64 from rfl]; exact Nat.pow_le_pow_right (by decide) (by omega)))
        simp [h, h2, this]
    · simp [h]
  rw [key]
  simp only [fin, decide_eq_false_iff_not]
  omega

theorem log2_eq {n k : Nat} (h1 : 2 ^ k ≤ n) (h2 : n < 2 ^ (k + 1)) : n.log2 = k := by
  have hn : n ≠ 0 := by have := Nat.two_pow_pos k; omega
  exact (Nat.log2_eq_iff hn).2 ⟨h1, h2⟩

theorem log2_bounds {n : Nat} (hn : n ≠ 0) : 2 ^ n.log2 ≤ n ∧ n < 2 ^ (n.log2 + 1) := (Nat.log2_eq_iff hn).1 rfl

theorem log2_mul_pow {m : Nat} (hm : m ≠ 0) (k : Nat) : (m * 2 ^ k).log2 = m.log2 + k := by
  obtain ⟨h1, h2⟩ := log2_bounds hm
  refine log2_eq ?_ ?_
  · rw [Nat.pow_add]; exact Nat.mul_le_mul_right _ h1
  · rw [show m.log2 + k + 1 = m.log2 + 1 + k by omega, Nat.pow_add]; exact Nat.mul_lt_mul_of_pos_right h2 (Nat.two_pow_pos k)

theorem cut_even_exact (neg : Bool) (a d : Nat) : Toward.even.cut neg (a * 2 ^ d) d = a := by
  unfold Toward.cut
  by_cases ha : a = 0
  · subst ha; simp
  · have hl : d ≤ (a * 2 ^ d).log2 + 2 := by rw [log2_mul_pow ha]; omega
    rw [Nat.min_eq_left hl]
    simp only [Nat.one_shiftLeft]
    have hp := Nat.two_pow_pos d
    have e1 : a * 2 ^ d / 2 ^ d = a := Nat.mul_div_cancel _ hp
    have e2 : a * 2 ^ d % 2 ^ d = 0 := Nat.mul_mod_left _ _
    rw [e1, e2]
    simp

/-- A canonical magnitude and place: a number of the format. -/
structure Canon (m : Nat) (p : Int) : Prop where
  lo : -1074 ≤ p
  hi : m < 9007199254740992
  norm : 4503599627370496 ≤ m ∨ p = -1074

theorem nearest_canon (neg : Bool) {m : Nat} {p : Int} (h : Canon m p) (k : Nat) :
    double.nearest neg (m * 2 ^ k) (p - k) = double.word neg (min ((p + 1074).toNat * 4503599627370496 + m) 9218868437227405312) := by
  obtain ⟨lo, hi, hn⟩ := h
  unfold Format.nearest
  simp only [bn, ir, lp]
  by_cases hm : m = 0
  · subst hm
    have hp : p = -1074 := by omega
    subst hp
    simp
  · have hmk : m * 2 ^ k ≠ 0 := Nat.mul_ne_zero hm (by have := Nat.two_pow_pos k; omega)
    rw [if_neg hmk, log2_mul_pow hm]
    have hb := log2_bounds hm
    have hl : m.log2 ≤ 52 := by
      have : m.log2 < 53 := (Nat.log2_lt hm).2 (by simpa using hi)
      omega
    have hfb : (double.fractionBits : Int) = 52 := rfl
    have elast : max (p - (k : Int) + ((m.log2 + k : Nat) : Int) - (double.fractionBits : Int)) (-1074) = p := by
      rw [hfb]
      rcases hn with h52 | hp
      · have : 52 ≤ m.log2 := (Nat.le_log2 hm).2 (by simpa using h52)
        have e : m.log2 = 52 := by omega
        rw [e]; omega
      · omega
    rw [elast]
    have e1 : (p - (k : Int) - p).toNat = 0 := by omega
    have e2 : (p - (p - (k : Int))).toNat = k := by omega
    have e3 : (p - -1074).toNat = (p + 1074).toNat := by omega
    rw [e1, e2, e3, Nat.shiftLeft_zero, cut_even_exact]

theorem read_canon {x : Nat} (hx : x < 18446744073709551616) (h : fin x = true) :
    ∃ (m : Nat) (p : Int), double.read x = .number (decide (9223372036854775808 ≤ x)) m p ∧ Canon m p ∧ p ≤ 971 ∧ x % 9223372036854775808 = (p + 1074).toNat * 4503599627370496 + m := by
  simp only [fin, decide_eq_true_eq] at h
  have hneg : (x / 9223372036854775808 % 2 == 1) = decide (9223372036854775808 ≤ x) := by
    rw [Bool.eq_iff_iff]; simp; omega
  unfold Format.read
  simp only [sw, bn, ir, lp, hneg]
  generalize x % 9223372036854775808 = r at h
  split
  · rename_i h1
    exact ⟨_, _, rfl, ⟨by omega, by omega, Or.inr rfl⟩, by omega, by omega⟩
  · rename_i h1
    refine ⟨_, _, rfl, ⟨by omega, ?_, ?_⟩, ?_, ?_⟩ <;> omega

theorem word_val (neg : Bool) (r : Nat) : double.word neg r = (if neg then 9223372036854775808 else 0) + r := by
  unfold Format.word; rw [sw]; cases neg <;> simp

/-- what was read is written as it was -/
theorem write_read {x : Nat} (hx : x < 18446744073709551616) {m : Nat} {p : Int} (hc : Canon m p) (he : x % 9223372036854775808 = (p + 1074).toNat * 4503599627370496 + m) (hf : fin x = true) (k : Nat) :
    double.nearest (decide (9223372036854775808 ≤ x)) (m * 2 ^ k) (p - k) = x := by
  rw [nearest_canon _ hc, word_val]
  simp only [fin, decide_eq_true_eq] at hf
  rw [Nat.min_eq_left (by omega)]
  by_cases hs : 9223372036854775808 ≤ x <;> simp [hs] <;> omega

/-- a word by its rung, read -/
theorem read_word (neg : Bool) {m : Nat} {p : Int} (hc : Canon m p) (hn : 4503599627370496 ≤ m) (hp : p ≤ 971) :
    double.read (double.word neg ((p + 1074).toNat * 4503599627370496 + m)) = .number neg m p := by
  obtain ⟨lo, hi, _⟩ := hc
  rw [word_val]
  unfold Format.read
  simp only [sw, bn, ir, lp]
  have hr : ((if neg = true then 9223372036854775808 else 0) + ((p + 1074).toNat * 4503599627370496 + m)) % 9223372036854775808 = (p + 1074).toNat * 4503599627370496 + m := by
    cases neg <;> simp <;> omega
  have hs : (((if neg = true then 9223372036854775808 else 0) + ((p + 1074).toNat * 4503599627370496 + m)) / 9223372036854775808 % 2 == 1) = neg := by
    cases neg <;> simp <;> omega
  rw [hr, hs, if_neg (by omega), if_pos (by omega)]
  congr 1 <;> omega

theorem nan_rung (t : Nat) : 9218868437227405312 < ((t % 2) * 2 ^ 63 + 0x7ff0000000000000 + 1 + (t / 2) % (2 ^ 52 - 1)) % 9223372036854775808 := by
  have h : (t / 2) % (2 ^ 52 - 1) < 2 ^ 52 - 1 := Nat.mod_lt _ (by decide)
  generalize (t / 2) % (2 ^ 52 - 1) = q at h
  rcases Nat.mod_two_eq_zero_or_one t with e | e <;> rw [e] <;> omega

theorem nan_not_fin (t : Nat) : fin ((t % 2) * 2 ^ 63 + 0x7ff0000000000000 + 1 + (t / 2) % (2 ^ 52 - 1)) = false := by
  have := nan_rung t
  simp only [fin, decide_eq_false_iff_not]; omega

theorem nan_read (t : Nat) : ∃ s f, double.read ((t % 2) * 2 ^ 63 + 0x7ff0000000000000 + 1 + (t / 2) % (2 ^ 52 - 1)) = .nan s f := by
  have := nan_rung t
  generalize ((t % 2) * 2 ^ 63 + 0x7ff0000000000000 + 1 + (t / 2) % (2 ^ 52 - 1)) = x at this
  unfold Format.read
  simp only [sw, bn, ir]
  rw [if_neg (by omega), if_neg (by omega), if_neg (by omega)]
  exact ⟨_, _, rfl⟩

/-- the nearest float of a whole number below 2^54 in size whose last digit fits: its rung -/
theorem nearest_small (neg : Bool) {n : Nat} (h0 : n ≠ 0) (hi : n ≤ 9007199254740992) : ∃ m p, Canon m p ∧ 4503599627370496 ≤ m ∧ p ≤ 1 ∧ double.nearest neg n 0 = double.word neg ((p + 1074).toNat * 4503599627370496 + m) ∧ ((n : Int) * 2 ^ 52 = m * 2 ^ (p + 52).toNat) ∧ -52 ≤ p := by
  have hb := log2_bounds h0
  by_cases h53 : n = 9007199254740992
  · subst h53
    exact ⟨4503599627370496, 1, ⟨by omega, by omega, Or.inl (by omega)⟩, by omega, by omega, by cases neg <;> decide, by decide, by omega⟩
  · have hl : n.log2 < 53 := (Nat.log2_lt h0).2 (by simp; omega)
    have hlo : 4503599627370496 ≤ n * 2 ^ (52 - n.log2) := by
      calc 4503599627370496 = 2 ^ n.log2 * 2 ^ (52 - n.log2) := by rw [← Nat.pow_add, show n.log2 + (52 - n.log2) = 52 by omega]
        _ ≤ _ := Nat.mul_le_mul_right _ hb.1
    have hhi : n * 2 ^ (52 - n.log2) < 9007199254740992 := by
      calc n * 2 ^ (52 - n.log2) < 2 ^ (n.log2 + 1) * 2 ^ (52 - n.log2) := Nat.mul_lt_mul_of_pos_right hb.2 (Nat.two_pow_pos _)
        _ = 9007199254740992 := by rw [← Nat.pow_add, show n.log2 + 1 + (52 - n.log2) = 53 by omega]
    have hc : Canon (n * 2 ^ (52 - n.log2)) (((n.log2 : Nat) : Int) - 52) := ⟨by omega, hhi, Or.inl hlo⟩
    refine ⟨_, _, hc, hlo, by omega, ?_, ?_, by omega⟩
    · unfold Format.nearest
      simp only [bn, ir, lp]
      rw [if_neg h0]
      have hfb : (double.fractionBits : Int) = 52 := rfl
      have elast : max ((0 : Int) + ((n.log2 : Nat) : Int) - (double.fractionBits : Int)) (-1074) = ((n.log2 : Nat) : Int) - 52 := by rw [hfb]; omega
      rw [elast]
      have e1 : ((0 : Int) - (((n.log2 : Nat) : Int) - 52)).toNat = 52 - n.log2 := by omega
      have e2 : ((((n.log2 : Nat) : Int) - 52) - (0 : Int)).toNat = 0 := by omega
      rw [e1, e2, Nat.shiftLeft_eq]
      have := cut_even_exact neg (n * 2 ^ (52 - n.log2)) 0
      rw [Nat.pow_zero, Nat.mul_one] at this
      rw [this, Nat.min_eq_left (by omega), show (((n.log2 : Nat) : Int) - 52 - -1074) = ((n.log2 : Nat) : Int) - 52 + 1074 from by omega]
    · have e : (((n.log2 : Nat) : Int) - 52 + 52).toNat = n.log2 := by omega
      rw [e]
      have : n * 2 ^ 52 = n * 2 ^ (52 - n.log2) * 2 ^ n.log2 := by rw [Nat.mul_assoc, ← Nat.pow_add, show 52 - n.log2 + n.log2 = 52 by omega]
      exact_mod_cast this

/-- a word that is no number -/
def nanOf (t : Nat) : Nat := (t % 2) * 2 ^ 63 + 0x7ff0000000000000 + 1 + (t / 2) % (2 ^ 52 - 1)

theorem nanOf_fin (t : Nat) : fin (nanOf t) = false := nan_not_fin t

theorem nanOf_lt (t : Nat) : nanOf t < 18446744073709551616 := by
  unfold nanOf
  have h : (t / 2) % (2 ^ 52 - 1) < 2 ^ 52 - 1 := Nat.mod_lt _ (by decide)
  generalize (t / 2) % (2 ^ 52 - 1) = q at h
  rcases Nat.mod_two_eq_zero_or_one t with e | e <;> rw [e] <;> omega

theorem nanOf_order (t y : Nat) : double.order (nanOf t) y = none := by
  obtain ⟨s, f, h⟩ := nan_read t
  unfold Format.order nanOf
  rw [h]; rfl

theorem order_zero_zero : double.order 0 0 = some .eq := by decide

end Go.Proofs.Ytggpbfmdhenjdaa.Flt


/- Small contracts of the program: what numbers are made of, and which two terms the statements call the same. -/
namespace Go.Proofs.Ytggpbfmdhenjdaa
open Go.RowKit

theorem f64bits (b : Nat) (w : World) : (callFunc 24 #[.float .f64 b]).run Try.prog w = .ok (.value (.int .u64 b)) w := by
  rw [run_callFunc_extern Try.func24 (by kernel_rfl) (by kernel_rfl) (by kernel_rfl) (e := Extern.MathFloatBits.float64bits) (by kernel_rfl)]
  rfl
theorem f64frombits (n : Int) (w : World) : (callFunc 71 #[.int .u64 n]).run Try.prog w = .ok (.value (.float .f64 n.toNat)) w := by
  rw [run_callFunc_extern Try.func71 (by kernel_rfl) (by kernel_rfl) (by kernel_rfl) (e := Extern.MathFloatBits.float64frombits) (by kernel_rfl)]
  rfl

/-- (The kit has this law for integers, bools, strings, slices, pointers; not for floats.) -/
theorem store_float (a : Addr) (k : FloatKind) (x : Nat) (m : Mode) (w : World) : (store a (.float k x) m).run Try.prog w = stored Try.prog w a (.float k x) m := run_store Try.prog w a _ m rfl
attribute [local go_sem] store_float

/-- What a call that makes a number tells: the term's kind, whole number, float (by its bits), and the error. -/
structure R where
  k : Int
  n : Int
  f : Nat
  e : Int

def whB (n : Int) : Bool := decide (-576460752303423488 ≤ n ∧ n ≤ 576460752303423487)
theorem whB_yes {n : Int} (h : whB n = true) : -576460752303423488 ≤ n ∧ n ≤ 576460752303423487 := by simpa [whB] using h
theorem whB_mk {n : Int} (h : -576460752303423488 ≤ n ∧ n ≤ 576460752303423487) : whB n = true := by simpa [whB] using h
theorem whB_no {n : Int} (h : whB n = false) : n < -576460752303423488 ∨ 576460752303423487 < n := by
  have : ¬ (-576460752303423488 ≤ n ∧ n ≤ 576460752303423487) := by simpa only [whB, decide_eq_false_iff_not] using h
  omega
def numInt (n : Int) : R := if whB n then ⟨1, n, 0, 0⟩ else ⟨0, 0, 0, 12⟩
def numBits (u : Nat) : R := if Flt.fin u then ⟨2, 0, u, 0⟩ else ⟨0, 0, 0, 11⟩

def sameB (k1 n1 : Int) (f1 : Nat) (s1 : ByteArray) (l1 : Nat) (k2 n2 : Int) (f2 : Nat) (s2 : ByteArray) (l2 : Nat) : Bool :=
  k1 == k2 && n1 == n2 && s1.toList == s2.toList && l1 == 0 && l2 == 0 && (f1 : Int) == (f2 : Int)

theorem sub_nan (t : TypeId) (x : Nat) (h : Flt.fin x = false) (w : World) : (binOp .sub t (.float .f64 x) (.float .f64 x)).run Try.prog w = .ok (.float .f64 (Flt.nanOf (w.tape w.drawn (.nanBits .f64 x x)))) w.drew := by
  have e : FloatKind.f64.format.sub x x = none := Flt.sub_self_not h
  simp [binOp, Op.floatArith, e, Question.forced, Question.cut, Flt.nanOf]

theorem sub_fin (t : TypeId) (x : Nat) (h : Flt.fin x = true) (w : World) : (binOp .sub t (.float .f64 x) (.float .f64 x)).run Try.prog w = .ok (.float .f64 0) w :=
  run_float_arith w .sub t .f64 x x 0 (Flt.sub_self_fin h)

/-- Behind a call that ends in 'Below' all old cells and marks read as before. -/
theorem bcell {W w1 : World} (hb : Below W.heap.size W w1) : (∀ b o, b < W.heap.size → w1.cell? ⟨b, o, none⟩ = W.cell? ⟨b, o, none⟩) ∧ (∀ b o, b < W.heap.size → w1.frozen? ⟨b, o, none⟩ = W.frozen? ⟨b, o, none⟩) :=
  ⟨fun b o h => hb.cell (p := ⟨b, o, none⟩) h, fun b o h => hb.frozen (p := ⟨b, o, none⟩) h⟩

theorem below_new (w : World) (o : Obj) : Below w.heap.size w (w.alloc o) := (Below.refl _ _).alloc (Nat.le_refl _) _

theorem bthen {a b c : World} (h : Below a.heap.size a b) (k : Below b.heap.size b c) : Below a.heap.size a c := h.trans (k.mono h.size)

/-- A result's box laid first, calls, then the five cells of a term stored into the box. -/
theorem below_ret {w w1 : World} {o : Obj} (hb : Below (w.alloc o).heap.size (w.alloc o) w1) (v0 v1 v2 v3 v4 : Value) :
    Below w.heap.size w (((((w1.setCell ⟨w.heap.size, 0, none⟩ v0).setCell ⟨w.heap.size, 1, none⟩ v1).setCell ⟨w.heap.size, 2, none⟩ v2).setCell ⟨w.heap.size, 3, none⟩ v3).setCell ⟨w.heap.size, 4, none⟩ v4) := by
  have h0 : Below w.heap.size w w1 := (below_new w o).trans (hb.mono (by simp))
  exact ((((h0.setCell (Nat.le_refl _) v0).setCell (Nat.le_refl _) v1).setCell (Nat.le_refl _) v2).setCell (Nat.le_refl _) v3).setCell (Nat.le_refl _) v4

end Go.Proofs.Ytggpbfmdhenjdaa


