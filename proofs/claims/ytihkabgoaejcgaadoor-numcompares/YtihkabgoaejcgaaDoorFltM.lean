/- Plain facts on binary floats of 64 bits: a sign turned; where floors, ceilings, truncations and roundings of one float lie to each other. -/
import Derived.Test.YtihkabgoaejcgaaDoorFltK
namespace Go.Proofs.YtihkabgoaejcgaaDoor.Flt
open Ieee

theorem xor_top_mod (u : Nat) : (u ^^^ 9223372036854775808) % 9223372036854775808 = u % 9223372036854775808 := by
  have := Nat.xor_mod_two_pow (a := u) (b := 9223372036854775808) (n := 63)
  rw [show (2 : Nat) ^ 63 = 9223372036854775808 from rfl, show 9223372036854775808 % 9223372036854775808 = 0 from rfl, Nat.xor_zero] at this
  exact this

theorem xor_top_val {x : Nat} (hx : x < 18446744073709551616) : x ^^^ 9223372036854775808 = if 9223372036854775808 ≤ x then x - 9223372036854775808 else x + 9223372036854775808 := by
  have h1 := xor_top_mod x
  have h2 := Nat.xor_div_two_pow (a := x) (b := 9223372036854775808) (n := 63)
  rw [show (2 : Nat) ^ 63 = 9223372036854775808 from rfl, show 9223372036854775808 / 9223372036854775808 = 1 from rfl] at h2
  have hd : x / 9223372036854775808 = 0 ∨ x / 9223372036854775808 = 1 := by omega
  generalize x ^^^ 9223372036854775808 = y at *
  rcases hd with h | h
  · rw [h] at h2
    rw [if_neg (by omega)]
    have : (0 : Nat) ^^^ 1 = 1 := by decide
    omega
  · rw [h] at h2
    rw [if_pos (by omega)]
    have : (1 : Nat) ^^^ 1 = 0 := by decide
    omega

theorem U_turn {x y : Nat} (hx : x < 18446744073709551616) (fx : fin x = true) (hy : y < 18446744073709551616) (hm : y % 9223372036854775808 = x % 9223372036854775808) (hs : 9223372036854775808 ≤ y ↔ ¬ 9223372036854775808 ≤ x) : fin y = true ∧ U y = -U x := by
  have fy : fin y = true := by unfold fin at fx ⊢; rw [hm]; exact fx
  refine ⟨fy, ?_⟩
  obtain ⟨m, p, hr, hc, hp, he⟩ := read_canon hx fx
  obtain ⟨n, q, hr', hc', hp', he'⟩ := read_canon hy fy
  have l1 := hc.lo
  have l2 := hc.hi
  have l3 := hc.norm
  have k1 := hc'.lo
  have k2 := hc'.hi
  have k3 := hc'.norm
  have em : n = m := by omega
  have ep : q = p := by omega
  subst em ep
  rw [U_abs hr, U_abs hr']
  by_cases h : 9223372036854775808 ≤ x
  · rw [decide_eq_true h, decide_eq_false (by omega)]; simp
  · rw [decide_eq_false h, decide_eq_true (by omega)]; simp

theorem U_xor {x : Nat} (hx : x < 18446744073709551616) (fx : fin x = true) : x ^^^ 9223372036854775808 < 18446744073709551616 ∧ fin (x ^^^ 9223372036854775808) = true ∧ U (x ^^^ 9223372036854775808) = -U x := by
  have hl : x ^^^ 9223372036854775808 < 18446744073709551616 := Nat.xor_lt_two_pow (n := 64) hx (by decide)
  refine ⟨hl, U_turn hx fx hl (xor_top_mod x) ?_⟩
  rw [xor_top_val hx]
  split <;> omega

/-- a float with a fraction is small -/
theorem frac_small {x : Nat} (hx : x < 18446744073709551616) (fx : fin x = true) : (∃ t : Int, U x = t * P) ∨ (-(9007199254740992 * P) < U x ∧ U x < 9007199254740992 * P) := by
  obtain ⟨m, p, hr, hc, hp, he⟩ := read_canon hx fx
  have lo := hc.lo
  rcases Int.lt_or_le p 0 with h | h
  · right
    have hU := U_abs hr
    have b1 : ((m * 2 ^ (p + 1074).toNat : Nat) : Int) < 9007199254740992 * P := by
      have h1 : ((2 ^ (p + 1074).toNat : Nat) : Int) ≤ P := by
        unfold P
        generalize hK : (1074 : Nat) = K
        exact pow_cast_le (by omega)
      have h2 := Int.mul_le_mul_of_nonneg_left h1 (Int.natCast_nonneg m)
      have h3 := Int.mul_lt_mul_of_pos_right (show (m : Int) < 9007199254740992 by have := hc.hi; omega) P_pos
      rw [Int.natCast_mul]
      omega
    have b0 : 0 ≤ ((m * 2 ^ (p + 1074).toNat : Nat) : Int) := Int.natCast_nonneg _
    generalize ((m * 2 ^ (p + 1074).toNat : Nat) : Int) = V at *
    rw [hU]
    have hP := P_pos
    split <;> omega
  · left
    exact ⟨_, (whole_self hx fx hr hc he h).U⟩

/-- how a float's floor f, ceiling c, truncation t, rounding r lie -/
structure Lies (V f c t r : Int) : Prop where
  fc : f ≤ c
  cf : c ≤ f + 1
  ft : f ≤ t
  tc : t ≤ c
  rr : r = f ∨ r = c
  vf : f * P ≤ V
  vc : V ≤ c * P
  eq : f = c ↔ V = f * P
  pos : 0 ≤ V → t = f
  neg : V < 0 → t = c

theorem lies {x z : Nat} {f c t r : Int} (h1 : f * P ≤ U x) (h2 : U x < (f + 1) * P) (h3 : U x ≤ c * P) (h4 : (c - 1) * P < U x) (h5 : 0 ≤ U x → t = f) (h6 : U x < 0 → t = c) (hr : Rounded x z r) : Lies (U x) f c t r := by
  have hP := P_pos
  have fc : f ≤ c := leP (Int.le_trans h1 h3)
  have cf : c ≤ f + 1 := by
    have := ltP (Int.lt_trans h4 h2)
    omega
  have a1 : (f + 1) * P = f * P + P := by rw [Int.add_mul, Int.one_mul]
  have a2 : (c - 1) * P = c * P - P := by rw [Int.sub_mul, Int.one_mul]
  have eq : f = c ↔ U x = f * P := by
    constructor
    · intro h; subst h; omega
    · intro h
      rw [h] at h4
      have := ltP h4
      omega
  refine ⟨fc, cf, ?_, ?_, ?_, h1, h3, eq, h5, h6⟩
  · rcases Int.lt_or_le (U x) 0 with h | h
    · have := h6 h; omega
    · have := h5 h; omega
  · rcases Int.lt_or_le (U x) 0 with h | h
    · have := h6 h; omega
    · have := h5 h; omega
  · have d1 : ∀ a : Int, (2 * a) * P = 2 * (a * P) := fun a => Int.mul_assoc _ _ _
    have d2 : ∀ a : Int, (2 * a + 1) * P = 2 * (a * P) + P := fun a => by rw [Int.add_mul, Int.one_mul, d1]
    have d3 : ∀ a : Int, (2 * a - 1) * P = 2 * (a * P) - P := fun a => by rw [Int.sub_mul, Int.one_mul, d1]
    rcases Int.lt_or_le (U x) 0 with h | h
    · obtain ⟨r1, r2⟩ := hr.down h
      have e1 : (2 * r - 1) * P < (2 * f + 2) * P := by rw [d3, show (2 * f + 2 : Int) = 2 * (f + 1) by omega, d1]; omega
      have e2 : (2 * f) * P ≤ (2 * r + 1) * P := by rw [d1, d2]; omega
      have e3 : (2 * c - 2) * P < (2 * r + 1) * P := by rw [show (2 * c - 2 : Int) = 2 * (c - 1) by omega, d1, d2]; omega
      have e4 : (2 * r - 1) * P < (2 * c) * P := by rw [d1, d3]; omega
      have e1' := ltP e1
      have e2' := leP e2
      have e3' := ltP e3
      have e4' := ltP e4
      omega
    · obtain ⟨r1, r2⟩ := hr.up h
      have e1 : (2 * r - 1) * P < (2 * f + 2) * P := by rw [d3, show (2 * f + 2 : Int) = 2 * (f + 1) by omega, d1]; omega
      have e2 : (2 * f) * P < (2 * r + 1) * P := by rw [d1, d2]; omega
      have e3 : (2 * c - 2) * P < (2 * r + 1) * P := by rw [show (2 * c - 2 : Int) = 2 * (c - 1) by omega, d1, d2]; omega
      have e4 : (2 * r - 1) * P ≤ (2 * c) * P := by rw [d1, d3]; omega
      have e1' := ltP e1
      have e2' := ltP e2
      have e3' := ltP e3
      have e4' := leP e4
      omega

/-- a floor or a ceiling that is no whole number of 60 bits -/
theorem beyond {x : Nat} {f c : Int} (hx : x < 18446744073709551616) (fx : fin x = true) (h1 : f * P ≤ U x) (h2 : U x < (f + 1) * P) (h3 : U x ≤ c * P) (h4 : (c - 1) * P < U x)
    (hb : f < -576460752303423488 ∨ 576460752303423487 < f ∨ c < -576460752303423488 ∨ 576460752303423487 < c) : 576460752303423488 * P ≤ U x ∨ U x ≤ -(576460752303423488 * P) := by
  have hP := P_pos
  have m1 : -576460752303423488 * P = -(576460752303423488 * P) := Int.neg_mul _ _
  rcases hb with h | h | h | h
  · right
    have := mulP_le (show f + 1 ≤ -576460752303423488 by omega)
    omega
  · left
    have := mulP_le (show 576460752303423488 ≤ f by omega)
    omega
  · right
    have := mulP_le (show c ≤ -576460752303423488 by omega)
    omega
  · left
    rcases frac_small hx fx with ⟨t, ht⟩ | ⟨_, hs⟩
    · rw [ht] at h3 h4 ⊢
      have e1 := leP h3
      have e2 := ltP h4
      exact mulP_le (by omega)
    · exfalso
      have := mulP_le (show 9007199254740992 ≤ c - 1 by omega)
      omega
end Go.Proofs.YtihkabgoaejcgaaDoor.Flt
