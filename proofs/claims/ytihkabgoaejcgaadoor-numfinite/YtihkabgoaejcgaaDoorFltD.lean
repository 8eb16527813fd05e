/- Plain facts on binary floats of 64 bits: a number's value in units of its least place; the order and the sign of a difference by it. -/
import Derived.Test.YtihkabgoaejcgaaDoorFltC
namespace Go.Proofs.YtihkabgoaejcgaaDoor.Flt
open Ieee

/-- a value in units of 2^-1074 -/
def unit (s : Bool) (m : Nat) (p : Int) : Int := signed s m (p + 1074).toNat

theorem signed_up (s : Bool) (m a b : Nat) : signed s m (a + b) = signed s m a * ((2 ^ b : Nat) : Int) := by
  unfold signed
  cases s <;> simp [Nat.shiftLeft_eq, Nat.pow_add] <;> simp [Int.mul_assoc, Int.neg_mul]

theorem compare_mul {a b c : Int} (hc : 0 < c) : compare (a * c) (b * c) = compare a b := by
  rcases Int.lt_trichotomy a b with h | h | h
  · rw [Int.compare_eq_lt.2 h, Int.compare_eq_lt.2 (Int.mul_lt_mul_of_pos_right h hc)]
  · subst h; simp
  · rw [Int.compare_eq_gt.2 h, Int.compare_eq_gt.2 (Int.mul_lt_mul_of_pos_right h hc)]

theorem order_unit (s t : Bool) (m n : Nat) {p q : Int} (hp : -1074 ≤ p) (hq : -1074 ≤ q) : Datum.order (.number s m p) (.number t n q) = some (compare (unit s m p) (unit t n q)) := by
  unfold Datum.order unit
  have e1 : (p + 1074).toNat = (p - min p q).toNat + (min p q + 1074).toNat := by omega
  have e2 : (q + 1074).toNat = (q - min p q).toNat + (min p q + 1074).toNat := by omega
  simp only [Option.some.injEq]
  rw [e1, e2, signed_up, signed_up, compare_mul (by have := Nat.two_pow_pos (min p q + 1074).toNat; omega)]

/-- any rung above nothing, against nothing -/
theorem order_word_zero (neg : Bool) {r : Nat} (h0 : 0 < r) (h1 : r ≤ 9218868437227405312) : double.order (double.word neg r) 0 = some (if neg then .lt else .gt) := by
  have hz : double.read 0 = .number false 0 (-1074) := by decide
  unfold Format.order
  rw [hz, word_val]
  by_cases hi : r = 9218868437227405312
  · subst hi; cases neg <;> decide
  · have hx : (if neg = true then 9223372036854775808 else 0) + r < 18446744073709551616 := by cases neg <;> simp <;> omega
    have hm : ((if neg = true then 9223372036854775808 else 0) + r) % 9223372036854775808 = r := by cases neg <;> simp <;> omega
    have hf : fin ((if neg = true then 9223372036854775808 else 0) + r) = true := by simp only [fin, hm, decide_eq_true_eq]; omega
    obtain ⟨m, p, hr, hc, hp, he⟩ := read_canon hx hf
    rw [hm] at he
    have hs : decide (9223372036854775808 ≤ (if neg = true then 9223372036854775808 else 0) + r) = neg := by cases neg <;> simp <;> omega
    rw [hr, hs, order_unit _ _ _ _ hc.lo (by omega)]
    have hm0 : 0 < m := by have := hc.norm; rcases Nat.eq_zero_or_pos m with h | h <;> omega
    have hpos : 0 < m <<< (p + 1074).toNat := by rw [Nat.shiftLeft_eq]; exact Nat.mul_pos hm0 (Nat.two_pow_pos _)
    have hz0 : unit false 0 (-1074) = 0 := by simp [unit, signed]
    rw [hz0]
    cases neg
    · simp only [Bool.false_eq_true, if_false, Option.some.injEq]
      exact Int.compare_eq_gt.2 (by unfold unit signed; simp only [Bool.false_eq_true, if_false]; omega)
    · simp only [if_true, Option.some.injEq]
      exact Int.compare_eq_lt.2 (by unfold unit signed; simp only [if_true]; omega)
end Go.Proofs.YtihkabgoaejcgaaDoor.Flt
