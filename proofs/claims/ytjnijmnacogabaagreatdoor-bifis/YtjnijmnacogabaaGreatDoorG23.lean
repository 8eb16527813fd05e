import Derived.Test.YtjnijmnacogabaaGreatDoorG11
/- Plain facts on binary floats of 64 bits: the nearest float of a whole number of at least 2^53 by its highest 53 bits; doubling; the negative of a float by subtracting it from nothing. -/
namespace Go.Proofs.YtjnijmnacogabaaGreatDoor.Flt
open Ieee

/-- the highest 53 bits, rounded -/
def topR (u k : Nat) : Nat := u / 2 ^ k + (2 ^ k < 2 * (u % 2 ^ k) || (2 ^ k == 2 * (u % 2 ^ k) && u / 2 ^ k % 2 == 1)).toNat

theorem topR_bounds {u k : Nat} (h1 : 4503599627370496 ≤ u / 2 ^ k) (h2 : u / 2 ^ k < 9007199254740992) : 4503599627370496 ≤ topR u k ∧ topR u k ≤ 9007199254740992 := by
  unfold topR
  generalize (2 ^ k < 2 * (u % 2 ^ k) || (2 ^ k == 2 * (u % 2 ^ k) && u / 2 ^ k % 2 == 1) : Bool) = b
  cases b <;> simp <;> omega

theorem log2_of_top {u k : Nat} (h1 : 4503599627370496 ≤ u / 2 ^ k) (h2 : u / 2 ^ k < 9007199254740992) : u.log2 = k + 52 := by
  have hp := Nat.two_pow_pos k
  refine log2_eq ?_ ?_
  · rw [Nat.pow_add, Nat.mul_comm]
    exact (Nat.le_div_iff_mul_le hp).1 h1
  · rw [show k + 52 + 1 = 53 + k by omega, Nat.pow_add]
    exact (Nat.div_lt_iff_lt_mul hp).1 h2

theorem near_big (neg : Bool) {u k : Nat} (hk : k ≤ 100) (h1 : 4503599627370496 ≤ u / 2 ^ k) (h2 : u / 2 ^ k < 9007199254740992) :
    double.nearest neg u 0 = double.word neg ((1074 + k) * 4503599627370496 + topR u k) := by
  have hl := log2_of_top h1 h2
  have h0 : u ≠ 0 := by intro h; subst h; simp at h1
  have hb := topR_bounds h1 h2
  unfold Format.nearest
  simp only [bn, ir, lp]
  rw [if_neg h0, hl]
  have hfb : (double.fractionBits : Int) = 52 := rfl
  have elast : max ((0 : Int) + ((k + 52 : Nat) : Int) - (double.fractionBits : Int)) (-1074) = (k : Int) := by rw [hfb]; omega
  rw [elast]
  have e1 : ((0 : Int) - (k : Int)).toNat = 0 := by omega
  have e2 : ((k : Int) - (0 : Int)).toNat = k := by omega
  have e3 : ((k : Int) - -1074).toNat = 1074 + k := by omega
  rw [e1, e2, e3, Nat.shiftLeft_zero]
  have ec : Toward.even.cut neg u k = topR u k := by
    unfold Toward.cut topR
    rw [hl, Nat.min_eq_left (by omega), Nat.one_shiftLeft]
  rw [ec, Nat.min_eq_left (by omega)]

theorem near_top {t : Nat} (h1 : 4503599627370496 ≤ t) (h2 : t ≤ 9007199254740992) : double.nearest false t 0 = 1074 * 4503599627370496 + t := by
  rcases Nat.lt_or_ge t 9007199254740992 with h | h
  · have := near_big false (u := t) (k := 0) (by omega) (by simpa using h1) (by simpa using h)
    rw [this, word_val]
    simp [topR, Nat.mod_one]
  · have e : t = 9007199254740992 := by omega
    subst e
    decide

/-- a float of the second kind, by its rung: doubled -/
theorem mul_two {j t : Nat} (hj : j ≤ 200) (h1 : 4503599627370496 ≤ t) (h2 : t ≤ 9007199254740992) :
    double.mul ((1074 + j) * 4503599627370496 + t) 4611686018427387904 = some ((1074 + (j + 1)) * 4503599627370496 + t) := by
  have hr2 : double.read 4611686018427387904 = .number false 4503599627370496 (-51) := by decide
  have go : ∀ {m : Nat} {p : Int} (hc : Canon m p) (hn : 4503599627370496 ≤ m) (hp : p ≤ 500), double.mul ((p + 1074).toNat * 4503599627370496 + m) 4611686018427387904 = some ((p + 1 + 1074).toNat * 4503599627370496 + m) := by
    intro m p hc hn hp
    have hrd := read_word false hc hn (by omega)
    rw [word_val] at hrd
    simp only [Bool.false_eq_true, if_false, Nat.zero_add] at hrd
    have hlo := hc.lo
    have hhi := hc.hi
    have hc2 : Canon m (p + 1) := ⟨by omega, hhi, Or.inl hn⟩
    have hw := nearest_canon false hc2 52
    unfold Format.mul
    rw [hrd, hr2]
    simp only [Datum.product, Bool.xor_false, Option.map_some, Format.write, Option.some.injEq]
    rw [show p + -51 = p + 1 - ((52 : Nat) : Int) by omega, show (4503599627370496 : Nat) = 2 ^ 52 from rfl, hw, word_val, Nat.min_eq_left (by omega)]
    simp
  rcases Nat.lt_or_ge t 9007199254740992 with h | h
  · have := go (m := t) (p := (j : Int)) ⟨by omega, h, Or.inl h1⟩ h1 (by omega)
    rw [show ((j : Int) + 1074).toNat = 1074 + j by omega, show ((j : Int) + 1 + 1074).toNat = 1074 + (j + 1) by omega] at this
    exact this
  · have e : t = 9007199254740992 := by omega
    subst e
    have := go (m := 4503599627370496) (p := (j : Int) + 1) ⟨by omega, by omega, Or.inl (by omega)⟩ (by omega) (by omega)
    rw [show ((j : Int) + 1 + 1074).toNat = 1075 + j by omega, show ((j : Int) + 1 + 1 + 1074).toNat = 1076 + j by omega] at this
    rw [show (1074 + j) * 4503599627370496 + 9007199254740992 = (1075 + j) * 4503599627370496 + 4503599627370496 by omega, this]
    rw [show (1076 + j) * 4503599627370496 + 4503599627370496 = (1074 + (j + 1)) * 4503599627370496 + 9007199254740992 by omega]

/-- nothing less a float: its sign turned -/
theorem zero_sub {x : Nat} (h0 : 4503599627370496 ≤ x) (hf : x < 9218868437227405312) : double.sub 0 x = some (9223372036854775808 + x) := by
  have hx : x < 18446744073709551616 := by omega
  have hfin : fin x = true := by simp [fin]; omega
  obtain ⟨m, p, hr, hc, hp, he⟩ := read_canon hx hfin
  have hneg : decide (9223372036854775808 ≤ x) = false := by simp; omega
  rw [hneg] at hr
  have hxm : x % 9223372036854775808 = x := Nat.mod_eq_of_lt (by omega)
  rw [hxm] at he
  have h1 : double.read 0 = .number false 0 (-1074) := by decide
  have hlo := hc.lo
  have hm0 : 0 < m := by
    rcases Nat.eq_zero_or_pos m with h | h
    · subst h
      have := hc.norm
      omega
    · exact h
  have hmin : min (-1074) p = -1074 := by omega
  unfold Format.sub
  rw [hr, h1]
  have hz : ∀ k, signed false 0 k = 0 := fun k => by simp [signed]
  simp only [Datum.opposite, Datum.sum, hmin, hz, Int.zero_add, Option.map_some, Option.some.injEq, Bool.not_false]
  have hw := nearest_canon true hc (p + 1074).toNat
  rw [show p - ((p + 1074).toNat : Int) = -1074 by omega, word_val, ← he, Nat.min_eq_left (by omega)] at hw
  rw [show (p - -1074).toNat = (p + 1074).toNat by omega]
  have hq : 0 < m * 2 ^ (p + 1074).toNat := Nat.mul_pos hm0 (Nat.two_pow_pos _)
  rw [← Nat.shiftLeft_eq] at hw hq
  simp only [Format.write]
  rw [show signed true m (p + 1074).toNat = -((m <<< (p + 1074).toNat : Nat) : Int) from rfl, if_neg (by omega), decide_eq_true (by omega), Int.natAbs_neg, Int.natAbs_natCast, hw]
  simp
end Go.Proofs.YtjnijmnacogabaaGreatDoor.Flt


/- Plain facts on binary floats of 64 bits: a number's value in units of its least place; the order and the sign of a difference by it. -/
namespace Go.Proofs.YtjnijmnacogabaaGreatDoor.Flt
open Ieee

/-- a value in units of 2^-1074 -/
def unit (s : Bool) (m : Nat) (p : Int) : Int := signed s m (p + 1074).toNat

theorem signed_up (s : Bool) (m a b : Nat) : signed s m (a + b) = signed s m a * ((2 ^ b : Nat) : Int) := by
  unfold signed
  cases s <;> simp [Nat.shiftLeft_eq, Nat.pow_add] <;> simp [Int.mul_assoc, Int.neg_mul]

theorem compare_mul {a b c : Int} (hc : 0 < c) : compare (a * c) (b * c) = compare a b := by
  rcases Int.lt_trichotomy a b with h | h | h
  · rw [Int.compare_eq_lt.2 h, Int.compare_eq_lt.2 (Int.mul_lt_mul_of_pos_right h hc)]
  · subst h; simp
  · rw [Int.compare_eq_gt.2 h, Int.compare_eq_gt.2 (Int.mul_lt_mul_of_pos_right h hc)]

theorem order_unit (s t : Bool) (m n : Nat) {p q : Int} (hp : -1074 ≤ p) (hq : -1074 ≤ q) : Datum.order (.number s m p) (.number t n q) = some (compare (unit s m p) (unit t n q)) := by
  unfold Datum.order unit
  have e1 : (p + 1074).toNat = (p - min p q).toNat + (min p q + 1074).toNat := by omega
  have e2 : (q + 1074).toNat = (q - min p q).toNat + (min p q + 1074).toNat := by omega
  simp only [Option.some.injEq]
  rw [e1, e2, signed_up, signed_up, compare_mul (by have := Nat.two_pow_pos (min p q + 1074).toNat; omega)]

/-- any rung above nothing, against nothing -/
theorem order_word_zero (neg : Bool) {r : Nat} (h0 : 0 < r) (h1 : r ≤ 9218868437227405312) : double.order (double.word neg r) 0 = some (if neg then .lt else .gt) := by
  have hz : double.read 0 = .number false 0 (-1074) := by decide
  unfold Format.order
  rw [hz, word_val]
  by_cases hi : r = 9218868437227405312
  · subst hi; cases neg <;> decide
  · have hx : (if neg = true then 9223372036854775808 else 0) + r < 18446744073709551616 := by cases neg <;> simp <;> omega
    have hm : ((if neg = true then 9223372036854775808 else 0) + r) % 9223372036854775808 = r := by cases neg <;> simp <;> omega
    have hf : fin ((if neg = true then 9223372036854775808 else 0) + r) = true := by simp only [fin, hm, decide_eq_true_eq]; omega
    obtain ⟨m, p, hr, hc, hp, he⟩ := read_canon hx hf
    rw [hm] at he
    have hs : decide (9223372036854775808 ≤ (if neg = true then 9223372036854775808 else 0) + r) = neg := by cases neg <;> simp <;> omega
    rw [hr, hs, order_unit _ _ _ _ hc.lo (by omega)]
    have hm0 : 0 < m := by have := hc.norm; rcases Nat.eq_zero_or_pos m with h | h <;> omega
    have hpos : 0 < m <<< (p + 1074).toNat := by rw [Nat.shiftLeft_eq]; exact Nat.mul_pos hm0 (Nat.two_pow_pos _)
    have hz0 : unit false 0 (-1074) = 0 := by simp [unit, signed]
    rw [hz0]
    cases neg
    · simp only [Bool.false_eq_true, if_false, Option.some.injEq]
      exact Int.compare_eq_gt.2 (by unfold unit signed; simp only [Bool.false_eq_true, if_false]; omega)
    · simp only [if_true, Option.some.injEq]
      exact Int.compare_eq_lt.2 (by unfold unit signed; simp only [if_true]; omega)
end Go.Proofs.YtjnijmnacogabaaGreatDoor.Flt


