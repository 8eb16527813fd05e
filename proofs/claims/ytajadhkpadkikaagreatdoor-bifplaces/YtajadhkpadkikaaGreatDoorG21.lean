import Derived.Test.YtajadhkpadkikaaGreatDoorG20
/- Plain facts on binary floats of 64 bits: a number's value in units of its least place; the order and the sign of a difference by it. -/
namespace Go.Proofs.YtajadhkpadkikaaGreatDoor.Flt
open Ieee

/-- a value in units of 2^-1074 -/
def unit (s : Bool) (m : Nat) (p : Int) : Int := signed s m (p + 1074).toNat

theorem signed_up (s : Bool) (m a b : Nat) : signed s m (a + b) = signed s m a * ((2 ^ b : Nat) : Int) := by
  unfold signed
  cases s <;> simp [Nat.shiftLeft_eq, Nat.pow_add] <;> simp [Int.mul_assoc, Int.neg_mul]

theorem compare_mul {a b c : Int} (hc : 0 < c) : compare (a * c) (b * c) = compare a b := by
  rcases Int.lt_trichotomy a b with h | h | h
  · rw [Int.compare_eq_lt.2 h, Int.compare_eq_lt.2 (Int.mul_lt_mul_of_pos_right h hc)]
  · subst h; simp
  · rw [Int.compare_eq_gt.2 h, Int.compare_eq_gt.2 (Int.mul_lt_mul_of_pos_right h hc)]

theorem order_unit (s t : Bool) (m n : Nat) {p q : Int} (hp : -1074 ≤ p) (hq : -1074 ≤ q) : Datum.order (.number s m p) (.number t n q) = some (compare (unit s m p) (unit t n q)) := by
  unfold Datum.order unit
  have e1 : (p + 1074).toNat = (p - min p q).toNat + (min p q + 1074).toNat := by omega
  have e2 : (q + 1074).toNat = (q - min p q).toNat + (min p q + 1074).toNat := by omega
  simp only [Option.some.injEq]
  rw [e1, e2, signed_up, signed_up, compare_mul (by have := Nat.two_pow_pos (min p q + 1074).toNat; omega)]

/-- any rung above nothing, against nothing -/
theorem order_word_zero (neg : Bool) {r : Nat} (h0 : 0 < r) (h1 : r ≤ 9218868437227405312) : double.order (double.word neg r) 0 = some (if neg then .lt else .gt) := by
  have hz : double.read 0 = .number false 0 (-1074) := by decide
  unfold Format.order
  rw [hz, word_val]
  by_cases hi : r = 9218868437227405312
  · subst hi; cases neg <;> decide
  · have hx : (if neg = true then 9223372036854775808 else 0) + r < 18446744073709551616 := by cases neg <;> simp <;> omega
    have hm : ((if neg = true then 9223372036854775808 else 0) + r) % 9223372036854775808 = r := by cases neg <;> simp <;> omega
    have hf : fin ((if neg = true then 9223372036854775808 else 0) + r) = true := by simp only [fin, hm, decide_eq_true_eq]; omega
    obtain ⟨m, p, hr, hc, hp, he⟩ := read_canon hx hf
    rw [hm] at he
    have hs : decide (9223372036854775808 ≤ (if neg = true then 9223372036854775808 else 0) + r) = neg := by cases neg <;> simp <;> omega
    rw [hr, hs, order_unit _ _ _ _ hc.lo (by omega)]
    have hm0 : 0 < m := by have := hc.norm; rcases Nat.eq_zero_or_pos m with h | h <;> omega
    have hpos : 0 < m <<< (p + 1074).toNat := by rw [Nat.shiftLeft_eq]; exact Nat.mul_pos hm0 (Nat.two_pow_pos _)
    have hz0 : unit false 0 (-1074) = 0 := by simp [unit, signed]
    rw [hz0]
    cases neg
    · simp only [Bool.false_eq_true, if_false, Option.some.injEq]
      exact Int.compare_eq_gt.2 (by unfold unit signed; simp only [Bool.false_eq_true, if_false]; omega)
    · simp only [if_true, Option.some.injEq]
      exact Int.compare_eq_lt.2 (by unfold unit signed; simp only [if_true]; omega)
end Go.Proofs.YtajadhkpadkikaaGreatDoor.Flt


/- Plain facts on binary floats of 64 bits: a difference lies to nothing as its parts lie to each other; a float made whole. -/
namespace Go.Proofs.YtajadhkpadkikaaGreatDoor.Flt
open Ieee

theorem nearest_pos (neg : Bool) {n : Nat} (h : n ≠ 0) {e : Int} (he : -1074 ≤ e) : ∃ r, 0 < r ∧ r ≤ 9218868437227405312 ∧ double.nearest neg n e = double.word neg r := by
  unfold Format.nearest
  simp only [bn, ir, lp]
  rw [if_neg h]
  refine ⟨_, ?_, Nat.min_le_right _ _, rfl⟩
  generalize hl : max (e + (n.log2 : Int) - (double.fractionBits : Int)) (-1074) = last
  by_cases hlast : last = -1074
  · subst hlast
    have e2 : ((-1074 : Int) - e).toNat = 0 := by omega
    rw [e2]
    have hc := cut_even_exact neg (n <<< (e - -1074).toNat) 0
    rw [Nat.pow_zero, Nat.mul_one] at hc
    rw [hc]
    have : 0 < n <<< (e - -1074).toNat := by rw [Nat.shiftLeft_eq]; exact Nat.mul_pos (by omega) (Nat.two_pow_pos _)
    omega
  · have : -1074 < last := by omega
    omega

theorem signed_not (s : Bool) (m k : Nat) : signed (!s) m k = -signed s m k := by cases s <;> simp [signed]

theorem sub_order {x y : Nat} (hx : x < 18446744073709551616) (hy : y < 18446744073709551616) (fx : fin x = true) (fy : fin y = true) : ∃ z, double.sub x y = some z ∧ double.order z 0 = double.order x y := by
  obtain ⟨m, p, hr, hc, hp, he⟩ := read_canon hx fx
  obtain ⟨n, q, hr', hc', hp', he'⟩ := read_canon hy fy
  generalize decide (9223372036854775808 ≤ x) = s at hr
  generalize decide (9223372036854775808 ≤ y) = t at hr'
  have l1 := hc.lo
  have l2 := hc'.lo
  have ho : double.order x y = some (compare (unit s m p) (unit t n q)) := by
    unfold Format.order; rw [hr, hr', order_unit _ _ _ _ l1 l2]
  have e1 : (p + 1074).toNat = (p - min p q).toNat + (min p q + 1074).toNat := by omega
  have e2 : (q + 1074).toNat = (q - min p q).toNat + (min p q + 1074).toNat := by omega
  rw [ho]
  unfold unit
  rw [e1, e2, signed_up, signed_up, compare_mul (by have := Nat.two_pow_pos (min p q + 1074).toNat; omega)]
  unfold Format.sub
  rw [hr, hr']
  simp only [Datum.opposite, Datum.sum, Option.map_some, Format.write]
  refine ⟨_, rfl, ?_⟩
  rw [signed_not]
  generalize signed s m (p - min p q).toNat = a
  generalize signed t n (q - min p q).toNat = b
  have hb : -1074 ≤ min p q := by omega
  generalize min p q = base at hb
  rcases Int.lt_trichotomy a b with h | h | h
  · obtain ⟨r, h0, h1, hn⟩ := nearest_pos (if a + -b = 0 then s && !t else decide (a + -b < 0)) (n := (a + -b).natAbs) (by omega) hb
    have hs : (if a + -b = 0 then s && !t else decide (a + -b < 0)) = true := by rw [if_neg (by omega)]; exact decide_eq_true (by omega)
    rw [hs] at hn ⊢
    rw [hn, order_word_zero _ h0 h1, Int.compare_eq_lt.2 h]
    rfl
  · subst h
    have h0 : a + -a = 0 := by omega
    rw [h0]
    have : double.nearest (if (0 : Int) = 0 then s && !t else decide ((0 : Int) < 0)) (Int.natAbs 0) base = double.word (s && !t) 0 := by
      unfold Format.nearest; simp
    rw [this, word_val]
    simp only [Std.ReflCmp.compare_self]
    cases (s && !t) <;> decide
  · obtain ⟨r, h0, h1, hn⟩ := nearest_pos (if a + -b = 0 then s && !t else decide (a + -b < 0)) (n := (a + -b).natAbs) (by omega) hb
    have hs : (if a + -b = 0 then s && !t else decide (a + -b < 0)) = false := by rw [if_neg (by omega)]; exact decide_eq_false (by omega)
    rw [hs] at hn ⊢
    rw [hn, order_word_zero _ h0 h1, Int.compare_eq_gt.2 h]
    rfl

theorem cut_zero (s : Bool) (n d : Nat) : Toward.zero.cut s n d = n / 2 ^ d := by
  unfold Toward.cut
  simp only [Nat.one_shiftLeft, Bool.toNat_false, Nat.add_zero]
  rcases Nat.le_total d (n.log2 + 2) with h | h
  · rw [Nat.min_eq_left h]
  · rw [Nat.min_eq_right h]
    have hlt : n < 2 ^ (n.log2 + 2) := by
      by_cases h0 : n = 0
      · subst h0; exact Nat.two_pow_pos _
      · exact Nat.lt_trans (log2_bounds h0).2 (Nat.pow_lt_pow_right (by decide) (by omega))
    rw [Nat.div_eq_of_lt hlt, Nat.div_eq_of_lt (Nat.lt_of_lt_of_le hlt (Nat.pow_le_pow_right (by decide) h))]

/-- z is the whole number M, of the sign s -/
structure Whole (s : Bool) (M z : Nat) : Prop where
  lt : z < 18446744073709551616
  fin : fin z = true
  near : double.nearest s M 0 = z
  read : ∃ m p, double.read z = .number s m p ∧ -1074 ≤ p ∧ m * 2 ^ (p + 1074).toNat = M * 2 ^ 1074

theorem Whole.toInt {s : Bool} {M z : Nat} (h : Whole s M z) : (double.read z).toInt .zero = some (signed s M 0) := by
  obtain ⟨m, p, hr, lo, he⟩ := h.read
  rw [hr]
  unfold Datum.toInt Datum.integral
  simp only [Option.some.injEq, cut_zero, Nat.shiftLeft_eq]
  have : m * 2 ^ p.toNat / 2 ^ (-p).toNat = M := by
    rcases Int.le_total 0 p with hp | hp
    · rw [show (-p).toNat = 0 by omega, Nat.pow_zero, Nat.div_one]
      rw [show (p + 1074).toNat = p.toNat + 1074 by omega, Nat.pow_add, ← Nat.mul_assoc] at he
      exact Nat.eq_of_mul_eq_mul_right (Nat.two_pow_pos 1074) he
    · rw [show p.toNat = 0 by omega, Nat.pow_zero, Nat.mul_one]
      rw [show 1074 = (-p).toNat + (p + 1074).toNat by omega, Nat.pow_add, ← Nat.mul_assoc] at he
      have he2 : m = M * 2 ^ (-p).toNat := by
        refine Nat.eq_of_mul_eq_mul_right (Nat.two_pow_pos (p + 1074).toNat) ?_
        rw [← he]
      rw [he2, Nat.mul_div_cancel _ (Nat.two_pow_pos _)]
  rw [this]
end Go.Proofs.YtajadhkpadkikaaGreatDoor.Flt


