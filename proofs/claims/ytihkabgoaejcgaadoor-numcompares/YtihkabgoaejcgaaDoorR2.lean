/- The library's Round tells a float rounded, half away from nothing. -/
import Derived.Test.YtihkabgoaejcgaaDoorR1
import Derived.Laws.BitsAllLaws
namespace Go.Proofs.YtihkabgoaejcgaaDoor
open Go.RowKit

theorem and_exp11 (x : Nat) : (x / 4503599627370496) &&& 2047 = x / 4503599627370496 % 2048 := by
  rw [show (2047 : Nat) = 2 ^ 11 - 1 from rfl, Nat.and_two_pow_sub_one_eq_mod]

theorem and_top {x : Nat} (hx : x < 18446744073709551616) : x &&& 9223372036854775808 = if 9223372036854775808 ≤ x then 9223372036854775808 else 0 := by
  have h := Nat.and_div_two_pow (a := x) (b := 9223372036854775808) (n := 63)
  have h2 := Nat.and_mod_two_pow (a := x) (b := 9223372036854775808) (n := 63)
  rw [show (2 : Nat) ^ 63 = 9223372036854775808 from rfl, show 9223372036854775808 / 9223372036854775808 = 1 from rfl, Nat.and_one_is_mod] at h
  rw [show (2 : Nat) ^ 63 = 9223372036854775808 from rfl, show 9223372036854775808 % 9223372036854775808 = 0 from rfl, Nat.and_zero] at h2
  generalize x &&& 9223372036854775808 = y at *
  split <;> omega

theorem or_one (s : Bool) : (if s then 9223372036854775808 else 0) ||| 4607182418800017408 = (if s then 9223372036854775808 else 0) + 4607182418800017408 := by
  cases s <;> decide

theorem clear_low {y k : Nat} (hy : y < 18446744073709551616) (hk : k ≤ 52) : y &&& (18446744073709551615 - (2 ^ k - 1)) = y / 2 ^ k * 2 ^ k := by
  have hp := Nat.two_pow_pos k
  have e : 18446744073709551615 - (2 ^ k - 1) = (2 ^ (64 - k) - 1) <<< k := by
    have : 2 ^ (64 - k) * 2 ^ k = 18446744073709551616 := by rw [← Nat.pow_add, show 64 - k + k = 64 by omega]
    rw [Nat.shiftLeft_eq, Nat.sub_mul, this, Nat.one_mul]
    omega
  rw [e, ← Nat.shiftRight_eq_div_pow, ← Nat.shiftLeft_eq]
  apply Nat.eq_of_testBit_eq
  intro i
  simp only [Nat.testBit_and, Nat.testBit_shiftLeft, Nat.testBit_shiftRight, Nat.testBit_two_pow_sub_one]
  by_cases h : k ≤ i
  · by_cases h2 : i - k < 64 - k
    · simp [h, h2, show k + (i - k) = i by omega]
    · have : y.testBit i = false := Nat.testBit_lt_two_pow (Nat.lt_of_lt_of_le hy (by rw [show (18446744073709551616 : Nat) = 2 ^ 64 from rfl]; exact Nat.pow_le_pow_right (by decide) (by omega)))
      simp [h, h2, show k + (i - k) = i by omega, this]
  · simp [h]

theorem round_any {x : Nat} (hx : x < 18446744073709551616) (fx : Flt.fin x = true) : ∃ z v, Flt.Rounded x z v ∧ ∀ w, Calls Tryd.prog 71 #[.float .f64 x] w fun e w' => e = .returned (.float .f64 z) ∧ w' = w := by
  have hb := f64bits x
  have hq : x / 4503599627370496 < 18446744073709551616 := by omega
  have e1 : bits .and .u64 ((x : Int) / 4503599627370496) 2047 = ((x / 4503599627370496 % 2048 : Nat) : Int) := by
    have := bits_and_u64_nat (x / 4503599627370496) 2047 hq (by decide)
    rw [and_exp11] at this
    exact this
  have e2 : bits .and .u64 (x : Int) 9223372036854775808 = ((if 9223372036854775808 ≤ x then 9223372036854775808 else 0 : Nat) : Int) := by
    have := bits_and_u64_nat x 9223372036854775808 hx (by decide)
    rw [and_top hx] at this
    exact this
  rcases Nat.lt_or_ge (x / 4503599627370496 % 2048) 1022 with h | h
  · have := round_w0 x _ _ _ hb e1 (by simp; omega) e2 (by simp; omega)
    rw [Int.toNat_natCast] at this
    exact ⟨_, _, Flt.round_none hx fx h, this⟩
  rcases Nat.eq_or_lt_of_le h with h | h
  · have e3 : bits .or .u64 ((if 9223372036854775808 ≤ x then 9223372036854775808 else 0 : Nat) : Int) 4607182418800017408 = (((if 9223372036854775808 ≤ x then 9223372036854775808 else 0) + 4607182418800017408 : Nat) : Int) := by
      have k := bits_or_u64_nat (if 9223372036854775808 ≤ x then 9223372036854775808 else 0) 4607182418800017408 (by split <;> decide) (by decide)
      have o := or_one (decide (9223372036854775808 ≤ x))
      simp only [decide_eq_true_eq] at o
      rw [o] at k
      exact k
    have := round_w1 x _ _ _ _ hb e1 (by simp; omega) e2 (by simp; omega) e3
    rw [Int.toNat_natCast] at this
    exact ⟨_, _, Flt.round_one hx fx h.symm, this⟩
  rcases Nat.lt_or_ge (x / 4503599627370496 % 2048) 1075 with h2 | h2
  · obtain ⟨k, k1, k2, he⟩ : ∃ k, 1 ≤ k ∧ k ≤ 52 ∧ x / 4503599627370496 % 2048 = 1075 - k := ⟨1075 - x / 4503599627370496 % 2048, by omega, by omega, by omega⟩
    obtain ⟨v, hv⟩ := Flt.round_mid hx fx k1 k2 he
    have p1 : 2251799813685248 / 2 ^ (52 - k) = 2 ^ (k - 1) := by
      rw [show 2251799813685248 = 2 ^ (k - 1) * 2 ^ (52 - k) by rw [← Nat.pow_add, show k - 1 + (52 - k) = 51 by omega]]
      exact Nat.mul_div_cancel _ (Nat.two_pow_pos _)
    have p2 : 4503599627370495 / 2 ^ (52 - k) = 2 ^ k - 1 := by
      have hp := Nat.two_pow_pos (52 - k)
      have hp2 := Nat.two_pow_pos k
      have hm : 2 ^ k * 2 ^ (52 - k) = 4503599627370496 := by rw [← Nat.pow_add, show k + (52 - k) = 52 by omega]
      refine (Nat.div_eq_iff hp).2 ⟨?_, ?_⟩ <;> rw [Nat.sub_mul] <;> omega
    have hk52 : 2 ^ (k - 1) ≤ 2 ^ 51 := Nat.pow_le_pow_right (by decide) (by omega)
    have hk53 : 2 ^ k ≤ 2 ^ 52 := Nat.pow_le_pow_right (by decide) (by omega)
    have hfx : x % 9223372036854775808 < 9218868437227405312 := by simpa [Flt.fin] using fx
    have hy : x + 2 ^ (k - 1) < 18446744073709551616 := by omega
    have e3 : (2251799813685248 : Int) / 2 ^ (52 - k) = ((2 ^ (k - 1) : Nat) : Int) := by rw [← p1]; simp
    have e5 : (4503599627370495 : Int) / 2 ^ (52 - k) = ((2 ^ k - 1 : Nat) : Int) := by rw [← p2]; simp
    have e4 : IntKind.u64.wrap ((x : Int) + ((2 ^ (k - 1) : Nat) : Int)) = ((x + 2 ^ (k - 1) : Nat) : Int) := by
      rw [IntKind.wrap_u64]
      generalize 2 ^ (k - 1) = q at hy
      omega
    have e6 : bits .andNot .u64 ((x + 2 ^ (k - 1) : Nat) : Int) ((2 ^ k - 1 : Nat) : Int) = (((x + 2 ^ (k - 1)) / 2 ^ k * 2 ^ k : Nat) : Int) := by
      have := u64_andNot_nat (x + 2 ^ (k - 1)) (2 ^ k - 1) hy (by omega)
      rw [clear_low hy k2] at this
      exact this
    have := round_w2 x _ _ _ _ _ _ (52 - k) (by omega) hb e1 (by simp; omega) (by simp; omega) (by rw [IntKind.wrap_u64]; omega) e3 e4 e5 e6
    rw [Int.toNat_natCast] at this
    exact ⟨_, v, hv, this⟩
  · obtain ⟨v, hv⟩ := Flt.round_self hx fx h2
    have := round_w3 x _ _ hb e1 (by simp; omega) (by simp; omega)
    rw [Int.toNat_natCast] at this
    exact ⟨_, v, hv, this⟩
end Go.Proofs.YtihkabgoaejcgaaDoor
