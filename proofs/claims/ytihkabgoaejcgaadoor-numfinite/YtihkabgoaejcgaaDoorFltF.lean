/- Plain facts on binary floats of 64 bits: a float made whole. -/
import Derived.Test.YtihkabgoaejcgaaDoorFltE
namespace Go.Proofs.YtihkabgoaejcgaaDoor.Flt
open Ieee

theorem lift52 {M m a b c d : Nat} (hb : b = a + c) (hd : d = 52 + c) (h : M * 2 ^ 52 = m * 2 ^ a) : m * 2 ^ b = M * 2 ^ d := by
  rw [hb, hd, Nat.pow_add, ← Nat.mul_assoc, ← h, Nat.mul_assoc, ← Nat.pow_add]

theorem whole_small (s : Bool) {M : Nat} (h : M ≤ 9007199254740992) : Whole s M (double.nearest s M 0) := by
  by_cases h0 : M = 0
  · subst h0
    cases s
    · exact ⟨by decide, by decide, rfl, 0, -1074, by decide, by decide, by generalize (2 : Nat) ^ 1074 = P; simp⟩
    · exact ⟨by decide, by decide, rfl, 0, -1074, by decide, by decide, by generalize (2 : Nat) ^ 1074 = P; simp⟩
  · obtain ⟨m, p, hc, hm, hp, hn, hv, hp2⟩ := nearest_small s h0 h
    have hi := hc.hi
    have hr := read_word s hc hm (by omega)
    rw [← hn] at hr
    rw [word_val] at hn
    refine ⟨?_, ?_, rfl, m, p, hr, hc.lo, ?_⟩
    · rw [hn]; cases s <;> simp <;> omega
    · rw [hn]; simp only [fin, decide_eq_true_eq]; cases s <;> simp <;> omega
    · have hv2 : M * 2 ^ 52 = m * 2 ^ (p + 52).toNat := by exact_mod_cast hv
      generalize hK : (1074 : Nat) = K
      exact lift52 (c := 1022) (by omega) (by omega) hv2

theorem whole_self {x : Nat} (hx : x < 18446744073709551616) (fx : fin x = true) {m : Nat} {p : Int} (hr : double.read x = .number (decide (9223372036854775808 ≤ x)) m p) (hc : Canon m p) (he : x % 9223372036854775808 = (p + 1074).toNat * 4503599627370496 + m) (hp : 0 ≤ p) : Whole (decide (9223372036854775808 ≤ x)) (m * 2 ^ p.toNat) x := by
  have hw := write_read hx hc he fx p.toNat
  rw [show p - (p.toNat : Int) = 0 by omega] at hw
  refine ⟨hx, fx, hw, m, p, hr, hc.lo, ?_⟩
  rw [show (p + 1074).toNat = p.toNat + 1074 by omega, Nat.pow_add, ← Nat.mul_assoc]

/-- a float's whole part -/
theorem whole_part {x : Nat} (hx : x < 18446744073709551616) (fx : fin x = true) : ∃ s m p M, double.read x = .number s m p ∧ -1074 ≤ p ∧ (double.read x).integral .zero = .number s M 0 ∧ (double.read x).toInt .zero = some (signed s M 0) ∧ Whole s M (double.nearest s M 0) ∧ M * 2 ^ 1074 ≤ m * 2 ^ (p + 1074).toNat := by
  obtain ⟨m, p, hr, hc, hp, he⟩ := read_canon hx fx
  have lo := hc.lo
  have hi := hc.hi
  refine ⟨_, m, p, m * 2 ^ p.toNat / 2 ^ (-p).toNat, hr, lo, ?_, ?_, ?_, ?_⟩
  · rw [hr]; simp only [Datum.integral, cut_zero, Nat.shiftLeft_eq]
  · rw [hr]; simp only [Datum.toInt, Datum.integral, cut_zero, Nat.shiftLeft_eq]
  · rcases Int.le_total 0 p with h | h
    · rw [show (-p).toNat = 0 by omega, Nat.pow_zero, Nat.div_one]
      have hw := whole_self hx fx hr hc he h
      rw [hw.near]; exact hw
    · rw [show p.toNat = 0 by omega, Nat.pow_zero, Nat.mul_one]
      exact whole_small _ (Nat.le_trans (Nat.div_le_self _ _) (by omega))
  · rcases Int.le_total 0 p with h | h
    · rw [show (-p).toNat = 0 by omega, Nat.pow_zero, Nat.div_one, show (p + 1074).toNat = p.toNat + 1074 by omega, Nat.pow_add, ← Nat.mul_assoc]
      exact Nat.le_refl _
    · rw [show p.toNat = 0 by omega, Nat.pow_zero, Nat.mul_one]
      have hpw : (2 : Nat) ^ 1074 = 2 ^ (-p).toNat * 2 ^ (p + 1074).toNat := by rw [← Nat.pow_add]; congr 1; omega
      rw [hpw, ← Nat.mul_assoc]
      exact Nat.mul_le_mul_right _ (Nat.div_mul_le_self _ _)

theorem unit_whole {s : Bool} {m M : Nat} {p : Int} (h : m * 2 ^ (p + 1074).toNat = M * 2 ^ 1074) : unit s m p = signed s M 1074 := by
  unfold unit signed
  rw [Nat.shiftLeft_eq, Nat.shiftLeft_eq, h]

theorem order_whole {x z : Nat} {s t : Bool} {m M : Nat} {p : Int} (hr : double.read x = .number s m p) (lo : -1074 ≤ p) (hz : Whole t M z) : double.order x z = some (compare (unit s m p) (signed t M 1074)) ∧ double.order z x = some (compare (signed t M 1074) (unit s m p)) := by
  obtain ⟨m', p', hr', lo', he⟩ := hz.read
  unfold Format.order
  rw [hr, hr', order_unit _ _ _ _ lo lo', order_unit _ _ _ _ lo' lo, unit_whole he]
  exact ⟨rfl, rfl⟩

end Go.Proofs.YtihkabgoaejcgaaDoor.Flt
