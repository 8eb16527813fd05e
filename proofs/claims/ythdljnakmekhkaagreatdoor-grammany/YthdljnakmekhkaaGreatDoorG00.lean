import Ieee.Arith
import Derived.Test.YthdljnakmekhkaaGreatDoorRows
import Derived.WalkKit
import Derived.WalkSpells
import Derived.WalkLawsBesides
import Derived.BigQuiet
import Derived.Lib.QuietBelow
import Derived.Below
import Derived.Laws.World
import Derived.Lib.FieldsU
import Derived.Laws.RangeAny
/- Plain facts on binary floats of 64 bits: finite words are read and written as they are; nothing here speaks of Go. -/
namespace Go.Proofs.YthdljnakmekhkaaGreatDoor.Flt
open Ieee

def infR : Nat := 9218868437227405312

theorem sw : double.signWeight = 9223372036854775808 := by decide
theorem bn : double.binade = 4503599627370496 := by decide
theorem ir : double.infRung = 9218868437227405312 := by decide
theorem lp : double.leastPlace = -1074 := by decide

/-- finite by its rung -/
def fin (x : Nat) : Bool := decide (x % 9223372036854775808 < 9218868437227405312)

theorem read_fin {x : Nat} (h : fin x = true) : ∃ m e, double.read x = .number (x / 9223372036854775808 % 2 == 1) m e := by
  simp only [fin, decide_eq_true_eq] at h
  unfold Format.read
  simp only [sw, bn, ir]
  split
  · exact ⟨_, _, rfl⟩
  · exact ⟨_, _, rfl⟩

theorem read_not {x : Nat} (h : fin x = false) : (∃ s, double.read x = .infinity s) ∨ ∃ s t, double.read x = .nan s t := by
  simp only [fin, decide_eq_false_iff_not] at h
  unfold Format.read
  simp only [sw, bn, ir]
  rw [if_neg (by omega), if_neg h]
  split
  · exact Or.inl ⟨_, rfl⟩
  · exact Or.inr ⟨_, _, rfl⟩

theorem sub_self_fin {x : Nat} (h : fin x = true) : double.sub x x = some 0 := by
  obtain ⟨m, e, hr⟩ := read_fin h
  unfold Format.sub
  rw [hr]
  simp only [Datum.opposite, Datum.sum]
  generalize (x / 9223372036854775808 % 2 == 1) = s
  have t : ∀ k, signed s m k + signed (!s) m k = 0 := by intro k; cases s <;> simp [signed] <;> omega
  simp only [t, if_true, Int.natAbs_zero, Option.map_some, Format.write, Format.nearest]
  cases s <;> simp [Format.word]

theorem sub_self_not {x : Nat} (h : fin x = false) : double.sub x x = none := by
  unfold Format.sub
  rcases read_not h with ⟨s, hr⟩ | ⟨s, t, hr⟩ <;> rw [hr] <;> cases s <;> simp [Datum.opposite, Datum.sum]

theorem and_exp (x : Nat) (hx : x < 18446744073709551616) : (x &&& 9218868437227405312 = 9218868437227405312) ↔ fin x = false := by
  have key : x &&& 9218868437227405312 = (x / 4503599627370496 % 2048 % 2048) * 4503599627370496 % 18446744073709551616 := by
    have e : (9218868437227405312 : Nat) = 2047 <<< 52 := by decide
    have e2 : x / 4503599627370496 % 2048 = (x >>> 52) &&& 2047 := by
      rw [Nat.shiftRight_eq_div_pow, show (2047 : Nat) = 2 ^ 11 - 1 from rfl, Nat.and_two_pow_sub_one_eq_mod]
    rw [Nat.mod_mod, e2, e]
    apply Nat.eq_of_testBit_eq
    intro i
    rw [show (4503599627370496 : Nat) = 2 ^ 52 from rfl, ← Nat.shiftLeft_eq, show (18446744073709551616 : Nat) = 2 ^ 64 from rfl]
    simp only [Nat.testBit_and, Nat.testBit_mod_two_pow, Nat.testBit_shiftLeft, Nat.testBit_shiftRight]
    by_cases h : 52 ≤ i
    · by_cases h2 : i < 64
      · simp [h, h2, show 52 + (i - 52) = i by omega]
      · have : x.testBit i = false := Nat.testBit_lt_two_pow (Nat.lt_of_lt_of_le hx (by rw [show (18446744073709551616 : Nat) = 2 ^ 64 from rfl]; exact Nat.pow_le_pow_right (by decide) (by omega)))
        simp [h, h2, this]
    · simp [h]
  rw [key]
  simp only [fin, decide_eq_false_iff_not]
  omega

theorem log2_eq {n k : Nat} (h1 : 2 ^ k ≤ n) (h2 : n < 2 ^ (k + 1)) : n.log2 = k := by
  have hn : n ≠ 0 := by have := Nat.two_pow_pos k; omega
  exact (Nat.log2_eq_iff hn).2 ⟨h1, h2⟩

theorem log2_bounds {n : Nat} (hn : n ≠ 0) : 2 ^ n.log2 ≤ n ∧ n < 2 ^ (n.log2 + 1) := (Nat.log2_eq_iff hn).1 rfl

theorem log2_mul_pow {m : Nat} (hm : m ≠ 0) (k : Nat) : (m * 2 ^ k).log2 = m.log2 + k := by
  obtain ⟨h1, h2⟩ := log2_bounds hm
  refine log2_eq ?_ ?_
  · rw [Nat.pow_add]; exact Nat.mul_le_mul_right _ h1
  · rw [show m.log2 + k + 1 = m.log2 + 1 + k by omega, Nat.pow_add]; exact Nat.mul_lt_mul_of_pos_right h2 (Nat.two_pow_pos k)

theorem cut_even_exact (neg : Bool) (a d : Nat) : Toward.even.cut neg (a * 2 ^ d) d = a := by
  unfold Toward.cut
  by_cases ha : a = 0
  · subst ha; simp
  · have hl : d ≤ (a * 2 ^ d).log2 + 2 := by rw [log2_mul_pow ha]; omega
    rw [Nat.min_eq_left hl]
    simp only [Nat.one_shiftLeft]
    have hp := Nat.two_pow_pos d
    have e1 : a * 2 ^ d / 2 ^ d = a := Nat.mul_div_cancel _ hp
    have e2 : a * 2 ^ d % 2 ^ d = 0 := Nat.mul_mod_left _ _
    rw [e1, e2]
    simp

/-- A canonical magnitude and place: a number of the format. -/
structure Canon (m : Nat) (p : Int) : Prop where
  lo : -1074 ≤ p
  hi : m < 9007199254740992
  norm : 4503599627370496 ≤ m ∨ p = -1074

theorem nearest_canon (neg : Bool) {m : Nat} {p : Int} (h : Canon m p) (k : Nat) :
    double.nearest neg (m * 2 ^ k) (p - k) = double.word neg (min ((p + 1074).toNat * 4503599627370496 + m) 9218868437227405312) := by
  obtain ⟨lo, hi, hn⟩ := h
  unfold Format.nearest
  simp only [bn, ir, lp]
  by_cases hm : m = 0
  · subst hm
    have hp : p = -1074 := by omega
    subst hp
    simp
  · have hmk : m * 2 ^ k ≠ 0 := Nat.mul_ne_zero hm (by have := Nat.two_pow_pos k; omega)
    rw [if_neg hmk, log2_mul_pow hm]
    have hb := log2_bounds hm
    have hl : m.log2 ≤ 52 := by
      have : m.log2 < 53 := (Nat.log2_lt hm).2 (by simpa using hi)
      omega
    have hfb : (double.fractionBits : Int) = 52 := rfl
    have elast : max (p - (k : Int) + ((m.log2 + k : Nat) : Int) - (double.fractionBits : Int)) (-1074) = p := by
      rw [hfb]
      rcases hn with h52 | hp
      · have : 52 ≤ m.log2 := (Nat.le_log2 hm).2 (by simpa using h52)
        have e : m.log2 = 52 := by omega
        rw [e]; omega
      · omega
    rw [elast]
    have e1 : (p - (k : Int) - p).toNat = 0 := by omega
    have e2 : (p - (p - (k : Int))).toNat = k := by omega
    have e3 : (p - -1074).toNat = (p + 1074).toNat := by omega
    rw [e1, e2, e3, Nat.shiftLeft_zero, cut_even_exact]

theorem read_canon {x : Nat} (hx : x < 18446744073709551616) (h : fin x = true) :
    ∃ (m : Nat) (p : Int), double.read x = .number (decide (9223372036854775808 ≤ x)) m p ∧ Canon m p ∧ p ≤ 971 ∧ x % 9223372036854775808 = (p + 1074).toNat * 4503599627370496 + m := by
  simp only [fin, decide_eq_true_eq] at h
  have hneg : (x / 9223372036854775808 % 2 == 1) = decide (9223372036854775808 ≤ x) := by
    rw [Bool.eq_iff_iff]; simp; omega
  unfold Format.read
  simp only [sw, bn, ir, lp, hneg]
  generalize x % 9223372036854775808 = r at h
  split
  · rename_i h1
    exact ⟨_, _, rfl, ⟨by omega, by omega, Or.inr rfl⟩, by omega, by omega⟩
  · rename_i h1
    refine ⟨_, _, rfl, ⟨by omega, ?_, ?_⟩, ?_, ?_⟩ <;> omega

theorem word_val (neg : Bool) (r : Nat) : double.word neg r = (if neg then 9223372036854775808 else 0) + r := by
  unfold Format.word; rw [sw]; cases neg <;> simp

/-- what was read is written as it was -/
theorem write_read {x : Nat} (hx : x < 18446744073709551616) {m : Nat} {p : Int} (hc : Canon m p) (he : x % 9223372036854775808 = (p + 1074).toNat * 4503599627370496 + m) (hf : fin x = true) (k : Nat) :
    double.nearest (decide (9223372036854775808 ≤ x)) (m * 2 ^ k) (p - k) = x := by
  rw [nearest_canon _ hc, word_val]
  simp only [fin, decide_eq_true_eq] at hf
  rw [Nat.min_eq_left (by omega)]
  by_cases hs : 9223372036854775808 ≤ x <;> simp [hs] <;> omega

theorem nan_rung (t : Nat) : 9218868437227405312 < ((t % 2) * 2 ^ 63 + 0x7ff0000000000000 + 1 + (t / 2) % (2 ^ 52 - 1)) % 9223372036854775808 := by
  have h : (t / 2) % (2 ^ 52 - 1) < 2 ^ 52 - 1 := Nat.mod_lt _ (by decide)
  generalize (t / 2) % (2 ^ 52 - 1) = q at h
  rcases Nat.mod_two_eq_zero_or_one t with e | e <;> rw [e] <;> omega

theorem nan_read (t : Nat) : ∃ s f, double.read ((t % 2) * 2 ^ 63 + 0x7ff0000000000000 + 1 + (t / 2) % (2 ^ 52 - 1)) = .nan s f := by
  have := nan_rung t
  generalize ((t % 2) * 2 ^ 63 + 0x7ff0000000000000 + 1 + (t / 2) % (2 ^ 52 - 1)) = x at this
  unfold Format.read
  simp only [sw, bn, ir]
  rw [if_neg (by omega), if_neg (by omega), if_neg (by omega)]
  exact ⟨_, _, rfl⟩

/-- a word that is no number -/
def nanOf (t : Nat) : Nat := (t % 2) * 2 ^ 63 + 0x7ff0000000000000 + 1 + (t / 2) % (2 ^ 52 - 1)

theorem nanOf_order (t y : Nat) : double.order (nanOf t) y = none := by
  obtain ⟨s, f, h⟩ := nan_read t
  unfold Format.order nanOf
  rw [h]; rfl

theorem order_zero_zero : double.order 0 0 = some .eq := by decide

end Go.Proofs.YthdljnakmekhkaaGreatDoor.Flt


/- Small contracts of the program: what numbers are made of, and which two terms the statements call the same. -/
namespace Go.Proofs.YthdljnakmekhkaaGreatDoor
open Go.RowKit

theorem f64bits (b : Nat) (w : World) : (callFunc 20 #[.float .f64 b]).run Tryz.prog w = .ok (.value (.int .u64 b)) w := by
  rw [run_callFunc_extern Tryz.func20 (by kernel_rfl) (by kernel_rfl) (by kernel_rfl) (e := Extern.MathFloatBits.float64bits) (by kernel_rfl)]
  rfl
theorem f64frombits (n : Int) (w : World) : (callFunc 84 #[.int .u64 n]).run Tryz.prog w = .ok (.value (.float .f64 n.toNat)) w := by
  rw [run_callFunc_extern Tryz.func84 (by kernel_rfl) (by kernel_rfl) (by kernel_rfl) (e := Extern.MathFloatBits.float64frombits) (by kernel_rfl)]
  rfl

/-- (The kit has this law for integers, bools, strings, slices, pointers; not for floats.) -/
theorem store_float (a : Addr) (k : FloatKind) (x : Nat) (m : Mode) (w : World) : (store a (.float k x) m).run Tryz.prog w = stored Tryz.prog w a (.float k x) m := run_store Tryz.prog w a _ m rfl
attribute [local go_sem] store_float

/-- What a call that makes a number tells: the term's kind, whole number, float (by its bits), and the error. -/
structure R where
  k : Int
  n : Int
  f : Nat
  e : Int

def whB (n : Int) : Bool := decide (-576460752303423488 ≤ n ∧ n ≤ 576460752303423487)
theorem whB_yes {n : Int} (h : whB n = true) : -576460752303423488 ≤ n ∧ n ≤ 576460752303423487 := by simpa [whB] using h
theorem whB_no {n : Int} (h : whB n = false) : n < -576460752303423488 ∨ 576460752303423487 < n := by
  have : ¬ (-576460752303423488 ≤ n ∧ n ≤ 576460752303423487) := by simpa only [whB, decide_eq_false_iff_not] using h
  omega
def numInt (n : Int) : R := if whB n then ⟨1, n, 0, 0⟩ else ⟨0, 0, 0, 12⟩
def numBits (u : Nat) : R := if Flt.fin u then ⟨2, 0, u, 0⟩ else ⟨0, 0, 0, 11⟩

def sameB (k1 n1 : Int) (f1 : Nat) (s1 : ByteArray) (l1 : Nat) (k2 n2 : Int) (f2 : Nat) (s2 : ByteArray) (l2 : Nat) : Bool :=
  k1 == k2 && n1 == n2 && s1.toList == s2.toList && l1 == 0 && l2 == 0 && (f1 : Int) == (f2 : Int)

theorem sub_nan (t : TypeId) (x : Nat) (h : Flt.fin x = false) (w : World) : (binOp .sub t (.float .f64 x) (.float .f64 x)).run Tryz.prog w = .ok (.float .f64 (Flt.nanOf (w.tape w.drawn (.nanBits .f64 x x)))) w.drew := by
  have e : FloatKind.f64.format.sub x x = none := Flt.sub_self_not h
  simp [binOp, Op.floatArith, e, Question.forced, Question.cut, Flt.nanOf]

theorem sub_fin (t : TypeId) (x : Nat) (h : Flt.fin x = true) (w : World) : (binOp .sub t (.float .f64 x) (.float .f64 x)).run Tryz.prog w = .ok (.float .f64 0) w :=
  run_float_arith w .sub t .f64 x x 0 (Flt.sub_self_fin h)

theorem below_new (w : World) (o : Obj) : Below w.heap.size w (w.alloc o) := (Below.refl _ _).alloc (Nat.le_refl _) _

end Go.Proofs.YthdljnakmekhkaaGreatDoor


/- A box of five cells (a term in memory): what it holds, and that it is kept. -/
namespace Go.Proofs.YthdljnakmekhkaaGreatDoor
open Go.RowKit

structure Box (w : World) (b : Nat) (v0 v1 v2 v3 v4 : Value) : Prop where
  c0 : w.cell? ⟨b, 0, none⟩ = some v0
  c1 : w.cell? ⟨b, 1, none⟩ = some v1
  c2 : w.cell? ⟨b, 2, none⟩ = some v2
  c3 : w.cell? ⟨b, 3, none⟩ = some v3
  c4 : w.cell? ⟨b, 4, none⟩ = some v4
  f0 : w.frozen? ⟨b, 0, none⟩ = false
  f1 : w.frozen? ⟨b, 1, none⟩ = false
  f2 : w.frozen? ⟨b, 2, none⟩ = false
  f3 : w.frozen? ⟨b, 3, none⟩ = false
  f4 : w.frozen? ⟨b, 4, none⟩ = false
  lt : b < w.heap.size

theorem Box.new (w : World) (t : TypeId) (v0 v1 v2 v3 v4 : Value) : Box (w.alloc (.cells #[v0, v1, v2, v3, v4] t)) w.heap.size v0 v1 v2 v3 v4 :=
  ⟨by rw [World.cell?_alloc_new]; rfl, by rw [World.cell?_alloc_new]; rfl, by rw [World.cell?_alloc_new]; rfl, by rw [World.cell?_alloc_new]; rfl, by rw [World.cell?_alloc_new]; rfl, World.frozen?_alloc_new _ _ _ _, World.frozen?_alloc_new _ _ _ _, World.frozen?_alloc_new _ _ _ _, World.frozen?_alloc_new _ _ _ _, World.frozen?_alloc_new _ _ _ _, by simp⟩

theorem Box.keep {W w' : World} {b : Nat} {v0 v1 v2 v3 v4 : Value} (h : Box W b v0 v1 v2 v3 v4) (hb : Below W.heap.size W w') : Box w' b v0 v1 v2 v3 v4 :=
  ⟨(hb.cell h.lt).trans h.c0, (hb.cell h.lt).trans h.c1, (hb.cell h.lt).trans h.c2, (hb.cell h.lt).trans h.c3, (hb.cell h.lt).trans h.c4, (hb.frozen h.lt).trans h.f0, (hb.frozen h.lt).trans h.f1, (hb.frozen h.lt).trans h.f2, (hb.frozen h.lt).trans h.f3, (hb.frozen h.lt).trans h.f4, Nat.lt_of_lt_of_le h.lt hb.size⟩

theorem Box.alloc {w : World} {b : Nat} {v0 v1 v2 v3 v4 : Value} (h : Box w b v0 v1 v2 v3 v4) (o : Obj) : Box (w.alloc o) b v0 v1 v2 v3 v4 := h.keep (below_new w o)

def set5 (w : World) (b : Nat) (u0 u1 u2 u3 u4 : Value) : World := ((((w.setCell ⟨b, 0, none⟩ u0).setCell ⟨b, 1, none⟩ u1).setCell ⟨b, 2, none⟩ u2).setCell ⟨b, 3, none⟩ u3).setCell ⟨b, 4, none⟩ u4

theorem set5_size (w : World) (b : Nat) (u0 u1 u2 u3 u4 : Value) : (set5 w b u0 u1 u2 u3 u4).heap.size = w.heap.size := by simp [set5, World.setCell]

theorem ne_off (b i j : Nat) (h : i ≠ j) : (⟨b, i, none⟩ : Addr) ≠ ⟨b, j, none⟩ := by intro e; injection e with _ e2 _; exact h e2
theorem ne_blk (b c i j : Nat) (h : b ≠ c) : (⟨b, i, none⟩ : Addr) ≠ ⟨c, j, none⟩ := by intro e; injection e with e2 _ _; exact h e2

theorem set5_other (w : World) (b : Nat) (u0 u1 u2 u3 u4 : Value) (a : Nat) (j : Nat) (h : b ≠ a) : (set5 w b u0 u1 u2 u3 u4).cell? ⟨a, j, none⟩ = w.cell? ⟨a, j, none⟩ := by
  unfold set5
  rw [World.cell?_setCell_other _ _ _ _ (ne_blk _ _ _ _ h), World.cell?_setCell_other _ _ _ _ (ne_blk _ _ _ _ h), World.cell?_setCell_other _ _ _ _ (ne_blk _ _ _ _ h), World.cell?_setCell_other _ _ _ _ (ne_blk _ _ _ _ h), World.cell?_setCell_other _ _ _ _ (ne_blk _ _ _ _ h)]

theorem set5_frozen (w : World) (b : Nat) (u0 u1 u2 u3 u4 : Value) (p : Addr) : (set5 w b u0 u1 u2 u3 u4).frozen? p = w.frozen? p := by
  unfold set5; simp [World.frozen?_setCell]

theorem Box.set {w : World} {b : Nat} {v0 v1 v2 v3 v4 : Value} (h : Box w b v0 v1 v2 v3 v4) (u0 u1 u2 u3 u4 : Value) : Box (set5 w b u0 u1 u2 u3 u4) b u0 u1 u2 u3 u4 := by
  have d0 : (w.setCell ⟨b, 0, none⟩ u0).cell? ⟨b, 0, none⟩ = some u0 := World.cell?_setCell_same _ _ _ h.c0
  have d1 : ((w.setCell ⟨b, 0, none⟩ u0).setCell ⟨b, 1, none⟩ u1).cell? ⟨b, 1, none⟩ = some u1 := World.cell?_setCell_same _ _ _ (u := v1) (by rw [World.cell?_setCell_other _ _ _ _ (ne_off _ _ _ (by decide))]; exact h.c1)
  have d2 : (((w.setCell ⟨b, 0, none⟩ u0).setCell ⟨b, 1, none⟩ u1).setCell ⟨b, 2, none⟩ u2).cell? ⟨b, 2, none⟩ = some u2 := World.cell?_setCell_same _ _ _ (u := v2) (by rw [World.cell?_setCell_other _ _ _ _ (ne_off _ _ _ (by decide)), World.cell?_setCell_other _ _ _ _ (ne_off _ _ _ (by decide))]; exact h.c2)
  have d3 : ((((w.setCell ⟨b, 0, none⟩ u0).setCell ⟨b, 1, none⟩ u1).setCell ⟨b, 2, none⟩ u2).setCell ⟨b, 3, none⟩ u3).cell? ⟨b, 3, none⟩ = some u3 := World.cell?_setCell_same _ _ _ (u := v3) (by rw [World.cell?_setCell_other _ _ _ _ (ne_off _ _ _ (by decide)), World.cell?_setCell_other _ _ _ _ (ne_off _ _ _ (by decide)), World.cell?_setCell_other _ _ _ _ (ne_off _ _ _ (by decide))]; exact h.c3)
  have d4 : (set5 w b u0 u1 u2 u3 u4).cell? ⟨b, 4, none⟩ = some u4 := World.cell?_setCell_same _ _ _ (u := v4) (by rw [World.cell?_setCell_other _ _ _ _ (ne_off _ _ _ (by decide)), World.cell?_setCell_other _ _ _ _ (ne_off _ _ _ (by decide)), World.cell?_setCell_other _ _ _ _ (ne_off _ _ _ (by decide)), World.cell?_setCell_other _ _ _ _ (ne_off _ _ _ (by decide))]; exact h.c4)
  refine ⟨?_, ?_, ?_, ?_, d4, (set5_frozen _ _ _ _ _ _ _ _).trans h.f0, (set5_frozen _ _ _ _ _ _ _ _).trans h.f1, (set5_frozen _ _ _ _ _ _ _ _).trans h.f2, (set5_frozen _ _ _ _ _ _ _ _).trans h.f3, (set5_frozen _ _ _ _ _ _ _ _).trans h.f4, by rw [set5_size]; exact h.lt⟩
  · unfold set5; rw [World.cell?_setCell_other _ _ _ _ (ne_off _ _ _ (by decide)), World.cell?_setCell_other _ _ _ _ (ne_off _ _ _ (by decide)), World.cell?_setCell_other _ _ _ _ (ne_off _ _ _ (by decide)), World.cell?_setCell_other _ _ _ _ (ne_off _ _ _ (by decide))]; exact d0
  · unfold set5; rw [World.cell?_setCell_other _ _ _ _ (ne_off _ _ _ (by decide)), World.cell?_setCell_other _ _ _ _ (ne_off _ _ _ (by decide)), World.cell?_setCell_other _ _ _ _ (ne_off _ _ _ (by decide))]; exact d1
  · unfold set5; rw [World.cell?_setCell_other _ _ _ _ (ne_off _ _ _ (by decide)), World.cell?_setCell_other _ _ _ _ (ne_off _ _ _ (by decide))]; exact d2
  · unfold set5; rw [World.cell?_setCell_other _ _ _ _ (ne_off _ _ _ (by decide))]; exact d3

theorem below_set5 {B : Nat} {a w : World} (h : Below B a w) {b : Nat} (hb : B ≤ b) (u0 u1 u2 u3 u4 : Value) : Below B a (set5 w b u0 u1 u2 u3 u4) :=
  ((((h.setCell (p := ⟨b, 0, none⟩) hb u0).setCell (p := ⟨b, 1, none⟩) hb u1).setCell (p := ⟨b, 2, none⟩) hb u2).setCell (p := ⟨b, 3, none⟩) hb u3).setCell (p := ⟨b, 4, none⟩) hb u4

/-- three cells that are only read (a number as the program keeps it) -/
structure Box3 (w : World) (b : Nat) (v0 v1 v2 : Value) : Prop where
  c0 : w.cell? ⟨b, 0, none⟩ = some v0
  c1 : w.cell? ⟨b, 1, none⟩ = some v1
  c2 : w.cell? ⟨b, 2, none⟩ = some v2
  lt : b < w.heap.size

theorem Box3.new (w : World) (t : TypeId) (v0 v1 v2 : Value) : Box3 (w.alloc (.cells #[v0, v1, v2] t)) w.heap.size v0 v1 v2 :=
  ⟨by rw [World.cell?_alloc_new]; rfl, by rw [World.cell?_alloc_new]; rfl, by rw [World.cell?_alloc_new]; rfl, by simp⟩

theorem Box3.keep {W w' : World} {b : Nat} {v0 v1 v2 : Value} (h : Box3 W b v0 v1 v2) (hb : Below W.heap.size W w') : Box3 w' b v0 v1 v2 :=
  ⟨(hb.cell h.lt).trans h.c0, (hb.cell h.lt).trans h.c1, (hb.cell h.lt).trans h.c2, Nat.lt_of_lt_of_le h.lt hb.size⟩

theorem Box3.alloc {w : World} {b : Nat} {v0 v1 v2 : Value} (h : Box3 w b v0 v1 v2) (o : Obj) : Box3 (w.alloc o) b v0 v1 v2 := h.keep (below_new w o)

theorem Box.drew {w : World} {b : Nat} {v0 v1 v2 v3 v4 : Value} (h : Box w b v0 v1 v2 v3 v4) : Box w.drew b v0 v1 v2 v3 v4 := h.keep ((Below.refl _ _).drew)

end Go.Proofs.YthdljnakmekhkaaGreatDoor


/- A world that is as another one but for some of its blocks. -/
namespace Go.Proofs.YthdljnakmekhkaaGreatDoor
open Go.RowKit

theorem hidb {p : Prop} (h : p) : Hid p := h

/-- Of the blocks that there were only those of S have turned. -/
structure But (S : Nat → Prop) (w w' : World) : Prop where
  os : w'.os = w.os
  tape : w'.tape = w.tape
  output : w'.output = w.output
  size : w.heap.size ≤ w'.heap.size
  block : ∀ k, k < w.heap.size → ¬ S k → w'.heap[k]? = w.heap[k]?

theorem But.refl (S : Nat → Prop) (w : World) : But S w w := ⟨rfl, rfl, rfl, Nat.le_refl _, fun _ _ _ => rfl⟩

theorem But.trans {S : Nat → Prop} {a b c : World} (h : But S a b) (k : But S b c) : But S a c :=
  ⟨k.os.trans h.os, k.tape.trans h.tape, k.output.trans h.output, Nat.le_trans h.size k.size, fun i hi hs => (k.block i (Nat.lt_of_lt_of_le hi h.size) hs).trans (h.block i hi hs)⟩

theorem But.of_below {S : Nat → Prop} {w w' : World} (h : Below w.heap.size w w') : But S w w' := ⟨h.os, h.tape, h.output, h.size, fun k hk _ => h.block k hk⟩

theorem But.mono {S S' : Nat → Prop} {w w' : World} (h : But S w w') (hS : ∀ k, k < w.heap.size → S k → S' k) : But S' w w' :=
  ⟨h.os, h.tape, h.output, h.size, fun k hk hs => h.block k hk fun hk' => hs (hS k hk hk')⟩

theorem But.alloc {S : Nat → Prop} {a w : World} (h : But S a w) (o : Obj) : But S a (w.alloc o) :=
  h.trans ⟨rfl, rfl, rfl, by simp, fun k hk _ => Below.heap_alloc _ _ _ hk⟩

theorem But.setCell {S : Nat → Prop} {a w : World} (h : But S a w) {p : Addr} (hp : p.block < a.heap.size → S p.block) (u : Value) : But S a (w.setCell p u) :=
  ⟨h.os, h.tape, h.output, by simp [World.setCell]; exact h.size, fun k hk hs => (Below.heap_setCell w p u k (fun e => hs (e ▸ hp (e ▸ hk)))).trans (h.block k hk hs)⟩

theorem But.drew {S : Nat → Prop} {a w : World} (h : But S a w) : But S a w.drew := ⟨h.os, h.tape, h.output, h.size, h.block⟩

theorem But.below {S : Nat → Prop} {B : Nat} {w w' : World} (h : But S w w') (hB : B ≤ w.heap.size) (hS : ∀ k, S k → B ≤ k) : Below B w w' :=
  ⟨h.os, h.tape, h.output, h.size, fun k hk => h.block k (Nat.lt_of_lt_of_le hk hB) fun hs => absurd (hS k hs) (by omega)⟩

theorem But.cell {S : Nat → Prop} {w w' : World} (h : But S w w') {p : Addr} (hp : p.block < w.heap.size) (hs : ¬ S p.block) : w'.cell? p = w.cell? p := World.cell?_of_block (w := w) (h.block p.block hp hs)

theorem But.frozen {S : Nat → Prop} {w w' : World} (h : But S w w') {p : Addr} (hp : p.block < w.heap.size) (hs : ¬ S p.block) : w'.frozen? p = w.frozen? p := World.frozen?_of_block (w := w) (h.block p.block hp hs)

theorem undrew {w w' : World} (h : Below w.drew.heap.size w.drew w') : Below w.heap.size w w' := ⟨h.os, h.tape, h.output, h.size, h.block⟩

/-- Three cells of a block, not frozen. -/
structure Tri (w : World) (b : Nat) (v0 v1 v2 : Value) : Prop where
  c0 : w.cell? ⟨b, 0, none⟩ = some v0
  c1 : w.cell? ⟨b, 1, none⟩ = some v1
  c2 : w.cell? ⟨b, 2, none⟩ = some v2
  f0 : w.frozen? ⟨b, 0, none⟩ = false
  f1 : w.frozen? ⟨b, 1, none⟩ = false
  f2 : w.frozen? ⟨b, 2, none⟩ = false
  lt : b < w.heap.size

theorem Tri.new (w : World) (t : TypeId) (v0 v1 v2 : Value) : Tri (w.alloc (.cells #[v0, v1, v2] t)) w.heap.size v0 v1 v2 :=
  ⟨by rw [World.cell?_alloc_new]; rfl, by rw [World.cell?_alloc_new]; rfl, by rw [World.cell?_alloc_new]; rfl, World.frozen?_alloc_new _ _ _ _, World.frozen?_alloc_new _ _ _ _, World.frozen?_alloc_new _ _ _ _, by simp⟩

theorem Tri.but {S : Nat → Prop} {w w' : World} {b : Nat} {v0 v1 v2 : Value} (h : Tri w b v0 v1 v2) (hb : But S w w') (hs : ¬ S b) : Tri w' b v0 v1 v2 :=
  ⟨(hb.cell h.lt hs).trans h.c0, (hb.cell h.lt hs).trans h.c1, (hb.cell h.lt hs).trans h.c2, (hb.frozen h.lt hs).trans h.f0, (hb.frozen h.lt hs).trans h.f1, (hb.frozen h.lt hs).trans h.f2, Nat.lt_of_lt_of_le h.lt hb.size⟩

theorem Tri.keep {w w' : World} {b : Nat} {v0 v1 v2 : Value} (h : Tri w b v0 v1 v2) (hb : Below w.heap.size w w') : Tri w' b v0 v1 v2 :=
  h.but (But.of_below (S := fun _ => False) hb) (fun h => h)

theorem ne_off3 (b i j : Nat) (h : i ≠ j) : (⟨b, i, none⟩ : Addr) ≠ ⟨b, j, none⟩ := by intro e; injection e with _ e2 _; exact h e2

theorem Tri.set0 {w : World} {b : Nat} {v0 v1 v2 : Value} (h : Tri w b v0 v1 v2) (u : Value) : Tri (w.setCell ⟨b, 0, none⟩ u) b u v1 v2 :=
  ⟨World.cell?_setCell_same _ _ _ h.c0, by rw [World.cell?_setCell_other _ _ _ _ (ne_off3 _ _ _ (by decide))]; exact h.c1, by rw [World.cell?_setCell_other _ _ _ _ (ne_off3 _ _ _ (by decide))]; exact h.c2, by rw [World.frozen?_setCell]; exact h.f0, by rw [World.frozen?_setCell]; exact h.f1, by rw [World.frozen?_setCell]; exact h.f2, by simp [World.setCell]; exact h.lt⟩
theorem Tri.set1 {w : World} {b : Nat} {v0 v1 v2 : Value} (h : Tri w b v0 v1 v2) (u : Value) : Tri (w.setCell ⟨b, 1, none⟩ u) b v0 u v2 :=
  ⟨by rw [World.cell?_setCell_other _ _ _ _ (ne_off3 _ _ _ (by decide))]; exact h.c0, World.cell?_setCell_same _ _ _ h.c1, by rw [World.cell?_setCell_other _ _ _ _ (ne_off3 _ _ _ (by decide))]; exact h.c2, by rw [World.frozen?_setCell]; exact h.f0, by rw [World.frozen?_setCell]; exact h.f1, by rw [World.frozen?_setCell]; exact h.f2, by simp [World.setCell]; exact h.lt⟩
theorem Tri.set2 {w : World} {b : Nat} {v0 v1 v2 : Value} (h : Tri w b v0 v1 v2) (u : Value) : Tri (w.setCell ⟨b, 2, none⟩ u) b v0 v1 u :=
  ⟨by rw [World.cell?_setCell_other _ _ _ _ (ne_off3 _ _ _ (by decide))]; exact h.c0, by rw [World.cell?_setCell_other _ _ _ _ (ne_off3 _ _ _ (by decide))]; exact h.c1, World.cell?_setCell_same _ _ _ h.c2, by rw [World.frozen?_setCell]; exact h.f0, by rw [World.frozen?_setCell]; exact h.f1, by rw [World.frozen?_setCell]; exact h.f2, by simp [World.setCell]; exact h.lt⟩

theorem Box.but {S : Nat → Prop} {w w' : World} {b : Nat} {v0 v1 v2 v3 v4 : Value} (h : Box w b v0 v1 v2 v3 v4) (hb : But S w w') (hs : ¬ S b) : Box w' b v0 v1 v2 v3 v4 :=
  ⟨(hb.cell h.lt hs).trans h.c0, (hb.cell h.lt hs).trans h.c1, (hb.cell h.lt hs).trans h.c2, (hb.cell h.lt hs).trans h.c3, (hb.cell h.lt hs).trans h.c4, (hb.frozen h.lt hs).trans h.f0, (hb.frozen h.lt hs).trans h.f1, (hb.frozen h.lt hs).trans h.f2, (hb.frozen h.lt hs).trans h.f3, (hb.frozen h.lt hs).trans h.f4, Nat.lt_of_lt_of_le h.lt hb.size⟩

/-- Two cells of a block, not frozen. -/
structure Duo (w : World) (b : Nat) (v0 v1 : Value) : Prop where
  c0 : w.cell? ⟨b, 0, none⟩ = some v0
  c1 : w.cell? ⟨b, 1, none⟩ = some v1
  f0 : w.frozen? ⟨b, 0, none⟩ = false
  f1 : w.frozen? ⟨b, 1, none⟩ = false
  lt : b < w.heap.size

theorem Duo.new (w : World) (t : TypeId) (v0 v1 : Value) : Duo (w.alloc (.cells #[v0, v1] t)) w.heap.size v0 v1 :=
  ⟨by rw [World.cell?_alloc_new]; rfl, by rw [World.cell?_alloc_new]; rfl, World.frozen?_alloc_new _ _ _ _, World.frozen?_alloc_new _ _ _ _, by simp⟩

theorem Duo.but {S : Nat → Prop} {w w' : World} {b : Nat} {v0 v1 : Value} (h : Duo w b v0 v1) (hb : But S w w') (hs : ¬ S b) : Duo w' b v0 v1 :=
  ⟨(hb.cell h.lt hs).trans h.c0, (hb.cell h.lt hs).trans h.c1, (hb.frozen h.lt hs).trans h.f0, (hb.frozen h.lt hs).trans h.f1, Nat.lt_of_lt_of_le h.lt hb.size⟩

theorem Duo.keep {w w' : World} {b : Nat} {v0 v1 : Value} (h : Duo w b v0 v1) (hb : Below w.heap.size w w') : Duo w' b v0 v1 :=
  h.but (But.of_below (S := fun _ => False) hb) (fun h => h)

theorem Duo.set0 {w : World} {b : Nat} {v0 v1 : Value} (h : Duo w b v0 v1) (u : Value) : Duo (w.setCell ⟨b, 0, none⟩ u) b u v1 :=
  ⟨World.cell?_setCell_same _ _ _ h.c0, by rw [World.cell?_setCell_other _ _ _ _ (ne_off3 _ _ _ (by decide))]; exact h.c1, by rw [World.frozen?_setCell]; exact h.f0, by rw [World.frozen?_setCell]; exact h.f1, by simp [World.setCell]; exact h.lt⟩
theorem Duo.set1 {w : World} {b : Nat} {v0 v1 : Value} (h : Duo w b v0 v1) (u : Value) : Duo (w.setCell ⟨b, 1, none⟩ u) b v0 u :=
  ⟨by rw [World.cell?_setCell_other _ _ _ _ (ne_off3 _ _ _ (by decide))]; exact h.c0, World.cell?_setCell_same _ _ _ h.c1, by rw [World.frozen?_setCell]; exact h.f0, by rw [World.frozen?_setCell]; exact h.f1, by simp [World.setCell]; exact h.lt⟩
end Go.Proofs.YthdljnakmekhkaaGreatDoor


/- Bytes of a source, and how far a class of them goes. -/
namespace Go.Proofs.YthdljnakmekhkaaGreatDoor
open Go.Lib

def bt (s : ByteArray) (i : Nat) : Nat := (s.get! i).toNat

theorem bt_lt (s : ByteArray) (i : Nat) : bt s i < 256 := (s.get! i).toNat_lt

theorem get_of_lt (s : ByteArray) (k : Nat) (h : k < s.size) : s.get! k = s[k]'h := by
  simp [ByteArray.get!, getElem!_pos, h]
  rfl

theorem get_of_ge (s : ByteArray) (k : Nat) (h : s.size ≤ k) : s.get! k = 0 := by
  have h2 : ¬ k < s.data.size := by have : s.data.size = s.size := rfl; omega
  show s.data[k]! = 0
  rw [getElem!_def, Array.getElem?_eq_none (by omega)]
  rfl

theorem size_ext (s : ByteArray) (a b : Nat) : (s.extract a b).size = min b s.size - a := by simp [ByteArray.size_extract]

theorem get_ext (s : ByteArray) (a j : Nat) : (s.extract a s.size).get! j = s.get! (a + j) := by
  by_cases h : j < s.size - a
  · have h1 : j < (s.extract a s.size).size := by rw [size_ext]; omega
    rw [get_of_lt _ _ h1, get_of_lt _ _ (by omega : a + j < s.size)]
    simp [ByteArray.getElem_extract]
  · rw [get_of_ge _ _ (by rw [size_ext]; omega), get_of_ge _ _ (by omega)]

theorem get_ext2 (s : ByteArray) (a b j : Nat) (h : j < b - a) (hb : b ≤ s.size) : (s.extract a b).get! j = s.get! (a + j) := by
  have h1 : j < (s.extract a b).size := by rw [size_ext]; omega
  rw [get_of_lt _ _ h1, get_of_lt _ _ (by omega : a + j < s.size)]
  simp [ByteArray.getElem_extract]

theorem bt_ext2 (s : ByteArray) (a b j : Nat) (h : j < b - a) (hb : b ≤ s.size) : bt (s.extract a b) j = bt s (a + j) := by unfold bt; rw [get_ext2 s a b j h hb]

theorem decode_ext (s : ByteArray) (a j : Nat) : Utf8.decode (s.extract a s.size) j = Utf8.decode s (a + j) := by
  rw [decode_at, decode_at, get_ext, get_ext, get_ext, get_ext, size_ext]
  rw [show min s.size s.size - a - j = s.size - (a + j) from by omega]
  rfl

def span (p : Nat → Bool) (s : ByteArray) : Nat → Nat → Nat
  | 0, i => i
  | k + 1, i => if p (bt s i) = true then span p s k (i + 1) else i

/-- How far the class goes from there. -/
def goes (p : Nat → Bool) (s : ByteArray) (i : Nat) : Nat := span p s (s.size - i) i

theorem goes_on {p : Nat → Bool} {s : ByteArray} {i : Nat} (h : i < s.size) (hp : p (bt s i) = true) : goes p s i = goes p s (i + 1) := by
  unfold goes
  obtain ⟨k, hk⟩ : ∃ k, s.size - i = k + 1 := ⟨s.size - i - 1, by omega⟩
  rw [hk, show s.size - (i + 1) = k from by omega]
  simp [span, hp]

theorem goes_stop {p : Nat → Bool} {s : ByteArray} {i : Nat} (hp : p (bt s i) = false) : goes p s i = i := by
  unfold goes
  cases s.size - i with
  | zero => rfl
  | succ k => simp [span, hp]

theorem goes_end {p : Nat → Bool} {s : ByteArray} {i : Nat} (h : s.size ≤ i) : goes p s i = i := by
  unfold goes
  rw [show s.size - i = 0 from by omega]
  rfl

theorem span_facts (p : Nat → Bool) (s : ByteArray) : ∀ k i, i ≤ span p s k i ∧ span p s k i ≤ i + k ∧ (∀ j, i ≤ j → j < span p s k i → p (bt s j) = true) ∧ (span p s k i < i + k → p (bt s (span p s k i)) = false) := by
  intro k
  induction k with
  | zero => intro i; exact ⟨Nat.le_refl _, Nat.le_refl _, (fun j h1 h2 => by simp [span] at h2; omega), fun h => by simp [span] at h⟩
  | succ k ih =>
    intro i
    by_cases hp : p (bt s i) = true
    · obtain ⟨h1, h2, h3, h4⟩ := ih (i + 1)
      simp only [span, hp, if_true]
      refine ⟨by omega, by omega, fun j hj hl => ?_, fun h => h4 (by omega)⟩
      rcases Nat.eq_or_lt_of_le hj with rfl | hj'
      · exact hp
      · exact h3 j hj' hl
    · simp only [span, hp, if_false, Bool.false_eq_true]
      refine ⟨Nat.le_refl _, by omega, fun j hj hl => ?_, fun _ => by simp⟩
      omega

theorem goes_ge (p : Nat → Bool) (s : ByteArray) (i : Nat) : i ≤ goes p s i := (span_facts p s _ i).1
theorem goes_le (p : Nat → Bool) (s : ByteArray) (i : Nat) (h : i ≤ s.size) : goes p s i ≤ s.size := by have := (span_facts p s (s.size - i) i).2.1; unfold goes; omega
theorem goes_all (p : Nat → Bool) (s : ByteArray) (i j : Nat) (h1 : i ≤ j) (h2 : j < goes p s i) : p (bt s j) = true := (span_facts p s _ i).2.2.1 j h1 h2
theorem goes_not (p : Nat → Bool) (s : ByteArray) (i : Nat) (h : goes p s i < s.size) : p (bt s (goes p s i)) = false := by
  rcases Nat.lt_or_ge i s.size with hi | hi
  · exact (span_facts p s (s.size - i) i).2.2.2 (by unfold goes at h; omega)
  · rw [goes_end hi] at h; omega

theorem goes_past (p : Nat → Bool) (s : ByteArray) (i K : Nat) (hK : i + K ≤ s.size) (h : ∀ j, j < K → p (bt s (i + j)) = true) : goes p s i = goes p s (i + K) := by
  induction K with
  | zero => rfl
  | succ K ih =>
    rw [ih (by omega) (fun j hj => h j (by omega)), goes_on (by omega) (h K (by omega))]
    rfl

theorem decode_low (s : ByteArray) (i : Nat) (h : bt s i < 128) : Utf8.decode s i = (bt s i, 1) := by
  rw [decode_at]
  unfold bt at h ⊢
  simp [decodeN, h]

theorem decodeN_high (n b0 b1 b2 b3 : Nat) (h : 128 ≤ b0) : 128 ≤ (decodeN n b0 b1 b2 b3).1 ∧ (1 < (decodeN n b0 b1 b2 b3).2 → 128 ≤ b1) ∧ (2 < (decodeN n b0 b1 b2 b3).2 → 128 ≤ b2) ∧ (3 < (decodeN n b0 b1 b2 b3).2 → 128 ≤ b3) ∧ (decodeN n b0 b1 b2 b3).2 ≤ 4 := by
  unfold decodeN
  repeat' split
  all_goals (refine ⟨?_, ?_, ?_, ?_, ?_⟩ <;> simp <;> omega)

theorem decode_high' (s : ByteArray) (i : Nat) (hi : i < s.size) (h : 128 ≤ bt s i) : 128 ≤ (Utf8.decode s i).1 ∧ 1 ≤ (Utf8.decode s i).2 ∧ i + (Utf8.decode s i).2 ≤ s.size ∧ ∀ j, j < (Utf8.decode s i).2 → 128 ≤ bt s (i + j) := by
  have hw := width_pos s i
  have hn := decodeN_le_n' (s.size - i) (s.get! i).toNat (s.get! (i + 1)).toNat (s.get! (i + 2)).toNat (s.get! (i + 3)).toNat (by omega)
  obtain ⟨h1, h2, h3, h4, h5⟩ := decodeN_high (s.size - i) (s.get! i).toNat (s.get! (i + 1)).toNat (s.get! (i + 2)).toNat (s.get! (i + 3)).toNat h
  rw [← decode_at] at hn h1 h2 h3 h4 h5
  refine ⟨h1, hw, by omega, fun j hj => ?_⟩
  match j, hj with
  | 0, _ => exact h
  | 1, hj => exact h2 hj
  | 2, hj => exact h3 hj
  | 3, hj => exact h4 hj
  | (j + 4), hj => omega

/-- A class in which all or none of what is above 127 is. -/
def Flat (p : Nat → Bool) (c : Bool) : Prop := ∀ n, 128 ≤ n → p n = c

theorem goes_rune {p : Nat → Bool} {c : Bool} (hp : Flat p c) {s : ByteArray} {i : Nat} (hi : i < s.size) (h : p (Utf8.decode s i).1 = true) : goes p s i = goes p s (i + (Utf8.decode s i).2) := by
  rcases Nat.lt_or_ge (bt s i) 128 with hb | hb
  · rw [decode_low s i hb] at h ⊢
    exact goes_on hi h
  · obtain ⟨h1, h2, h3, h4⟩ := decode_high' s i hi hb
    have hc : c = true := (hp _ h1).symm.trans h
    exact goes_past p s i _ h3 fun j hj => (hp _ (h4 j hj)).trans hc

theorem goes_rune_not {p : Nat → Bool} {c : Bool} (hp : Flat p c) {s : ByteArray} {i : Nat} (hi : i < s.size) (h : p (Utf8.decode s i).1 = false) : goes p s i = i := by
  rcases Nat.lt_or_ge (bt s i) 128 with hb | hb
  · rw [decode_low s i hb] at h
    exact goes_stop h
  · obtain ⟨h1, h2, h3, h4⟩ := decode_high' s i hi hb
    have hc : c = false := (hp _ h1).symm.trans h
    exact goes_stop ((hp _ hb).trans hc)

theorem decode_in (s : ByteArray) (i : Nat) (hi : i < s.size) : i + (Utf8.decode s i).2 ≤ s.size := by
  rcases Nat.lt_or_ge (bt s i) 128 with hb | hb
  · rw [decode_low s i hb]; omega
  · exact (decode_high' s i hi hb).2.2.1

def pBlank (n : Nat) : Bool := n == 9 || n == 10 || n == 13 || n == 32
def pLine (n : Nat) : Bool := n != 10
def pSmall (n : Nat) : Bool := decide (97 ≤ n) && decide (n ≤ 122)
def pCapital (n : Nat) : Bool := decide (65 ≤ n) && decide (n ≤ 90)
def pDigit (n : Nat) : Bool := decide (48 ≤ n) && decide (n ≤ 57)
def pName (n : Nat) : Bool := pSmall n || pCapital n || pDigit n || n == 95 || n == 64
def pIn (m n : Nat) : Bool := n != m && n != 92

theorem flat_blank : Flat pBlank false := by intro n h; simp [pBlank]; omega
theorem flat_line : Flat pLine true := by intro n h; simp [pLine]; omega
theorem flat_small : Flat pSmall false := by intro n h; simp [pSmall]; omega
theorem flat_capital : Flat pCapital false := by intro n h; simp [pCapital]; omega
theorem flat_digit : Flat pDigit false := by intro n h; simp [pDigit]; omega
theorem flat_name : Flat pName false := by intro n h; simp [pName, flat_small n h, flat_capital n h, flat_digit n h]; omega
theorem flat_in (m : Nat) (hm : m < 128) : Flat (pIn m) true := by intro n h; simp [pIn]; omega

theorem ext_ext (s : ByteArray) (a j : Nat) (ha : a ≤ s.size) (hj : j ≤ s.size - a) : (s.extract a s.size).extract 0 j = s.extract a (a + j) := by
  rw [ByteArray.extract_extract]
  simp
  congr 1
  omega
end Go.Proofs.YthdljnakmekhkaaGreatDoor


