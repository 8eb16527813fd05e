/- Plain facts on binary floats of 64 bits: floors and ceilings of a number by its quotient and rest. -/
import Derived.Test.YtihkabgoaejcgaaDoorFltF
namespace Go.Proofs.YtihkabgoaejcgaaDoor.Flt
open Ieee

/-- past its digits a number is all rest -/
theorem gap_parts (n d : Nat) : n / 2 ^ min d (n.log2 + 2) = n / 2 ^ d ∧ n % 2 ^ min d (n.log2 + 2) = n % 2 ^ d := by
  rcases Nat.le_total d (n.log2 + 2) with h | h
  · rw [Nat.min_eq_left h]; exact ⟨rfl, rfl⟩
  · rw [Nat.min_eq_right h]
    have hlt : n < 2 ^ (n.log2 + 2) := by
      by_cases h0 : n = 0
      · subst h0; exact Nat.two_pow_pos _
      · exact Nat.lt_trans (log2_bounds h0).2 (Nat.pow_lt_pow_right (by decide) (by omega))
    have hlt2 : n < 2 ^ d := Nat.lt_of_lt_of_le hlt (Nat.pow_le_pow_right (by decide) h)
    rw [Nat.div_eq_of_lt hlt, Nat.div_eq_of_lt hlt2, Nat.mod_eq_of_lt hlt, Nat.mod_eq_of_lt hlt2]
    exact ⟨rfl, rfl⟩

theorem cut_down (s : Bool) (n d : Nat) : Toward.down.cut s n d = n / 2 ^ d + (s && n % 2 ^ d != 0).toNat := by
  unfold Toward.cut
  simp only [Nat.one_shiftLeft]
  rw [(gap_parts n d).1, (gap_parts n d).2]

theorem cut_up (s : Bool) (n d : Nat) : Toward.up.cut s n d = n / 2 ^ d + (!s && n % 2 ^ d != 0).toNat := by
  unfold Toward.cut
  simp only [Nat.one_shiftLeft]
  rw [(gap_parts n d).1, (gap_parts n d).2]

/-- a quotient of a canonical magnitude, and one more, are whole floats -/
theorem whole_round {x : Nat} (hx : x < 18446744073709551616) (fx : fin x = true) : ∃ s m p, double.read x = .number s m p ∧ -1074 ≤ p ∧ ∀ b : Bool, (b = true → p < 0) → Whole s (m * 2 ^ p.toNat / 2 ^ (-p).toNat + b.toNat) (double.nearest s (m * 2 ^ p.toNat / 2 ^ (-p).toNat + b.toNat) 0) := by
  obtain ⟨m, p, hr, hc, hp, he⟩ := read_canon hx fx
  have hi := hc.hi
  refine ⟨_, m, p, hr, hc.lo, fun b hb => ?_⟩
  rcases Int.lt_or_le p 0 with h | h
  · rw [show p.toNat = 0 by omega, Nat.pow_zero, Nat.mul_one]
    have : m / 2 ^ (-p).toNat ≤ m := Nat.div_le_self _ _
    have hb1 : b.toNat ≤ 1 := by cases b <;> simp
    exact whole_small _ (by omega)
  · have hbf : b = false := by
      cases b
      · rfl
      · exact absurd (hb rfl) (by omega)
    subst hbf
    rw [show (-p).toNat = 0 by omega, Nat.pow_zero, Nat.div_one, Bool.toNat_false, Nat.add_zero]
    have hw := whole_self hx fx hr hc he h
    rw [hw.near]; exact hw

end Go.Proofs.YtihkabgoaejcgaaDoor.Flt
