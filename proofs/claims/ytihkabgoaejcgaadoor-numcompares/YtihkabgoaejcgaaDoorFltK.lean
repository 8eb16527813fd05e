/- Plain facts on binary floats of 64 bits: a rounding, half away from nothing, by the float's bits. -/
import Derived.Test.YtihkabgoaejcgaaDoorFltJ
namespace Go.Proofs.YtihkabgoaejcgaaDoor.Flt
open Ieee

/-- z is x rounded: v its number -/
structure Rounded (x z : Nat) (v : Int) : Prop where
  made : Made x z v
  up : 0 ≤ U x → 2 * (v * P) ≤ 2 * U x + P ∧ 2 * U x < 2 * (v * P) + P
  down : U x < 0 → 2 * U x ≤ 2 * (v * P) + P ∧ 2 * (v * P) < 2 * U x + P

theorem rounded_by {x z N : Nat} {s : Bool} {V : Int} (hV : U x = if s then -V else V) (hN : Whole s N z) (V0 : 0 ≤ V) (h1 : 2 * ((N : Int) * P) ≤ 2 * V + P) (h2 : 2 * V < 2 * ((N : Int) * P) + P) : Rounded x z (signed s N 0) := by
  have hP := P_pos
  refine ⟨hN.made, ?_, ?_⟩ <;> rw [hV, signed_0]
  · intro h
    cases s
    · simp only [Bool.false_eq_true, if_false]; omega
    · simp only [if_true] at h ⊢
      have : -(N : Int) * P = -((N : Int) * P) := Int.neg_mul _ _
      rw [this]
      have hn : (N : Int) * P = 0 ∨ P ≤ (N : Int) * P := by
        rcases Nat.eq_zero_or_pos N with hh | hh
        · left; subst hh; simp
        · right
          have := mulP_le (show (1 : Int) ≤ N by omega)
          rw [Int.one_mul] at this
          exact this
      omega
  · intro h
    cases s
    · simp only [Bool.false_eq_true, if_false] at h; omega
    · simp only [if_true]
      have : -(N : Int) * P = -((N : Int) * P) := Int.neg_mul _ _
      rw [this]
      omega

theorem abs_of {x : Nat} {s : Bool} {m : Nat} {p : Int} (h : double.read x = .number s m p) : U x = if s then -((m * 2 ^ (p + 1074).toNat : Nat) : Int) else ((m * 2 ^ (p + 1074).toNat : Nat) : Int) := U_abs h

theorem P_split {k a : Nat} (h : k + a = 1074) : P = ((2 ^ k : Nat) : Int) * ((2 ^ a : Nat) : Int) := by
  unfold P
  rw [← h, Nat.pow_add, Int.natCast_mul]

theorem word_zero (s : Bool) : Whole s 0 (if s then 9223372036854775808 else 0) := by
  have := whole_small s (M := 0) (by omega)
  cases s
  · exact this
  · exact this

theorem word_one (s : Bool) : Whole s 1 ((if s then 9223372036854775808 else 0) + 4607182418800017408) := by
  have h := U_rung s (a := 1022) (m := 4503599627370496) (by omega) (by omega) (by omega)
  rw [word_val] at h
  rw [show 1022 * 4503599627370496 + 4503599627370496 = 4607182418800017408 by decide] at h
  refine whole_of_U h.2.2 h.2.1 (by omega) (by omega) ?_
  rw [h.1, ← signed_P]
  unfold signed
  have up : ∀ a b : Nat, b = 52 + a → 4503599627370496 <<< a = 1 <<< b := fun a b h => by
    rw [h, Nat.shiftLeft_eq, Nat.shiftLeft_eq, Nat.pow_add, Nat.one_mul]
  rw [up 1022 1074 (by omega)]

/-- what the exponent says -/
theorem exp_parts {x : Nat} (hx : x < 18446744073709551616) (fx : fin x = true) : ∃ (m a : Nat), double.read x = .number (decide (9223372036854775808 ≤ x)) m ((a : Int) - 1074) ∧ Canon m ((a : Int) - 1074) ∧ x = (if 9223372036854775808 ≤ x then 9223372036854775808 else 0) + (a * 4503599627370496 + m) ∧ (x / 4503599627370496 % 2048 = 0 → a = 0 ∧ m < 4503599627370496) ∧ (0 < x / 4503599627370496 % 2048 → x / 4503599627370496 % 2048 = a + 1 ∧ 4503599627370496 ≤ m) ∧ m < 9007199254740992 ∧ a ≤ 2045 := by
  obtain ⟨m, p, hr, hc, hp, he⟩ := read_canon hx fx
  have l1 := hc.lo
  have l2 := hc.hi
  have l3 := hc.norm
  refine ⟨m, (p + 1074).toNat, ?_, ?_, ?_, ?_, ?_, l2, by omega⟩
  · rw [hr]; congr 1; omega
  · rw [show (((p + 1074).toNat : Nat) : Int) - 1074 = p by omega]; exact hc
  · split <;> omega
  · intro h; constructor <;> omega
  · intro h; constructor <;> omega

theorem abs_a {x m a : Nat} {s : Bool} (h : double.read x = .number s m ((a : Int) - 1074)) : U x = if s then -((m : Int) * ((2 ^ a : Nat) : Int)) else ((m : Int) * ((2 ^ a : Nat) : Int)) := by
  rw [abs_of h, show ((a : Int) - 1074 + 1074).toNat = a by omega, Int.natCast_mul]

theorem pow_cast_le {a b : Nat} (h : a ≤ b) : ((2 ^ a : Nat) : Int) ≤ ((2 ^ b : Nat) : Int) := Int.ofNat_le.2 (Nat.pow_le_pow_right (by decide) h)
theorem pow_cast_pos (a : Nat) : 0 < ((2 ^ a : Nat) : Int) := Int.ofNat_lt.2 (Nat.two_pow_pos a)

/-- below a half -/
theorem round_none {x : Nat} (hx : x < 18446744073709551616) (fx : fin x = true) (he : x / 4503599627370496 % 2048 < 1022) : Rounded x (if 9223372036854775808 ≤ x then 9223372036854775808 else 0) 0 := by
  obtain ⟨m, a, hr, hc, hxe, e0, e1, hm, ha⟩ := exp_parts hx fx
  have ha' : a ≤ 1020 := by omega
  have hw := word_zero (decide (9223372036854775808 ≤ x))
  simp only [decide_eq_true_eq] at hw
  have hR := rounded_by (abs_a hr) hw (Int.mul_nonneg (Int.natCast_nonneg _) (Int.natCast_nonneg _)) (by
    have := Int.mul_nonneg (Int.natCast_nonneg m) (Int.natCast_nonneg (2 ^ a))
    have := P_pos
    simp only [Int.natCast_zero, Int.zero_mul]; omega) (by
    have h1 : (m : Int) * ((2 ^ a : Nat) : Int) < 9007199254740992 * ((2 ^ 1020 : Nat) : Int) := by
      have b1 := Int.mul_le_mul_of_nonneg_left (pow_cast_le ha') (Int.natCast_nonneg m)
      have b2 := Int.mul_lt_mul_of_pos_right (show (m : Int) < 9007199254740992 by omega) (pow_cast_pos 1020)
      omega
    have h2 := P_split (k := 54) (a := 1020) (by omega)
    have h3 : ((2 ^ 54 : Nat) : Int) = 18014398509481984 := by decide
    rw [h3] at h2
    rw [h2]
    generalize ((2 ^ 1020 : Nat) : Int) = Q at h1
    simp only [Int.natCast_zero, Int.zero_mul]
    omega)
  have hz : signed (decide (9223372036854775808 ≤ x)) 0 0 = 0 := by rw [signed_0]; simp
  rw [hz] at hR
  exact hR

/-- from a half on, below one -/
theorem round_one {x : Nat} (hx : x < 18446744073709551616) (fx : fin x = true) (he : x / 4503599627370496 % 2048 = 1022) : Rounded x ((if 9223372036854775808 ≤ x then 9223372036854775808 else 0) + 4607182418800017408) (if 9223372036854775808 ≤ x then -1 else 1) := by
  obtain ⟨m, a, hr, hc, hxe, e0, e1, hm, ha⟩ := exp_parts hx fx
  have h52 := (e1 (by omega)).2
  have ha' : a = 1021 := by have := (e1 (by omega)).1; omega
  subst ha'
  have hw := word_one (decide (9223372036854775808 ≤ x))
  simp only [decide_eq_true_eq] at hw
  have h2 := P_split (k := 53) (a := 1021) (by omega)
  have h3 : ((2 ^ 53 : Nat) : Int) = 9007199254740992 := by decide
  rw [h3] at h2
  have b1 := Int.mul_lt_mul_of_pos_right (show (m : Int) < 9007199254740992 by omega) (pow_cast_pos 1021)
  have b2 := Int.mul_le_mul_of_nonneg_right (show (4503599627370496 : Int) ≤ m by omega) (Int.natCast_nonneg (2 ^ 1021))
  have b3 := pow_cast_pos 1021
  have hR := rounded_by (abs_a hr) hw (Int.mul_nonneg (Int.natCast_nonneg _) (Int.natCast_nonneg _)) (by
    rw [h2]; generalize ((2 ^ 1021 : Nat) : Int) = Q at *
    simp only [Int.natCast_one, Int.one_mul]; omega) (by
    rw [h2]; generalize ((2 ^ 1021 : Nat) : Int) = Q at *
    simp only [Int.natCast_one, Int.one_mul]; omega)
  have hz : signed (decide (9223372036854775808 ≤ x)) 1 0 = if 9223372036854775808 ≤ x then -1 else 1 := by rw [signed_0]; simp
  rw [hz] at hR
  exact hR

/-- with a fraction -/
theorem round_mid {x k : Nat} (hx : x < 18446744073709551616) (fx : fin x = true) (h1 : 1 ≤ k) (h2 : k ≤ 52) (he : x / 4503599627370496 % 2048 = 1075 - k) : ∃ v, Rounded x ((x + 2 ^ (k - 1)) / 2 ^ k * 2 ^ k) v := by
  obtain ⟨m, a, hr, hc, hxe, e0, e1, hm, ha⟩ := exp_parts hx fx
  have h52 := (e1 (by omega)).2
  have ha' : k + a = 1074 := by have := (e1 (by omega)).1; omega
  have hk2 : 2 ^ k = 2 * 2 ^ (k - 1) := by rw [show k = k - 1 + 1 by omega, Nat.pow_succ]; simp; omega
  have d52 : (4503599627370496 : Nat) = 2 ^ (52 - k) * 2 ^ k := by rw [← Nat.pow_add, show 52 - k + k = 52 by omega]
  have d53 : (9007199254740992 : Nat) = 2 ^ (53 - k) * 2 ^ k := by rw [← Nat.pow_add, show 53 - k + k = 53 by omega]
  have d63 : (9223372036854775808 : Nat) = 2 ^ (63 - k) * 2 ^ k := by rw [← Nat.pow_add, show 63 - k + k = 63 by omega]
  have hpos := Nat.two_pow_pos k
  generalize hN : (m + 2 ^ (k - 1)) / 2 ^ k = N
  have n1 : N * 2 ^ k ≤ m + 2 ^ (k - 1) := by rw [← hN]; exact Nat.div_mul_le_self _ _
  have n2 : m + 2 ^ (k - 1) < (N + 1) * 2 ^ k := by rw [← hN, Nat.mul_comm]; exact Nat.lt_mul_div_succ _ hpos
  have n3 : 4503599627370496 ≤ N * 2 ^ k := by
    rw [d52]
    refine Nat.mul_le_mul_right _ ?_
    rw [← hN]
    refine (Nat.le_div_iff_mul_le hpos).2 ?_
    rw [← d52]; omega
  have n4 : N * 2 ^ k ≤ 9007199254740992 := by
    rw [d53]
    refine Nat.mul_le_mul_right _ ?_
    have : N * 2 ^ k < (2 ^ (53 - k) + 1) * 2 ^ k := by
      rw [Nat.add_mul, ← d53, Nat.one_mul]; omega
    have := Nat.lt_of_mul_lt_mul_right this
    omega
  have hz : (x + 2 ^ (k - 1)) / 2 ^ k * 2 ^ k = (if 9223372036854775808 ≤ x then 9223372036854775808 else 0) + (a * 4503599627370496 + N * 2 ^ k) := by
    have hc0 : ∃ c : Nat, x + 2 ^ (k - 1) = c * 2 ^ k + (m + 2 ^ (k - 1)) ∧ (if 9223372036854775808 ≤ x then 9223372036854775808 else 0) + a * 4503599627370496 = c * 2 ^ k := by
      by_cases hs : 9223372036854775808 ≤ x
      · rw [if_pos hs] at hxe ⊢
        refine ⟨2 ^ (63 - k) + a * 2 ^ (52 - k), ?_, ?_⟩
        · rw [Nat.add_mul, ← d63, Nat.mul_assoc, ← d52]; omega
        · rw [Nat.add_mul, ← d63, Nat.mul_assoc, ← d52]
      · rw [if_neg hs] at hxe ⊢
        refine ⟨a * 2 ^ (52 - k), ?_, ?_⟩
        · rw [Nat.mul_assoc, ← d52]; omega
        · rw [Nat.mul_assoc, ← d52]; omega
    obtain ⟨c, hc1, hc2⟩ := hc0
    rw [hc1, Nat.mul_comm c, Nat.mul_add_div hpos, hN, Nat.add_mul]
    omega
  have hu := U_rung (decide (9223372036854775808 ≤ x)) (a := a) (m := N * 2 ^ k) (by omega) n3 n4
  rw [word_val] at hu
  simp only [decide_eq_true_eq] at hu
  rw [← hz] at hu
  have hW : Whole (decide (9223372036854775808 ≤ x)) N ((x + 2 ^ (k - 1)) / 2 ^ k * 2 ^ k) := by
    have N0 : 0 < N := by rcases Nat.eq_zero_or_pos N with h | h; (subst h; omega); exact h
    refine whole_of_U hu.2.2 hu.2.1 N0 ?_ ?_
    · have : N ≤ N * 2 ^ k := Nat.le_mul_of_pos_right _ hpos
      omega
    · rw [hu.1, ← signed_P]
      unfold signed
      rw [Nat.shiftLeft_eq, Nat.shiftLeft_eq, Nat.mul_assoc, ← Nat.pow_add, ha']
  refine ⟨_, rounded_by (abs_a hr) hW (Int.mul_nonneg (Int.natCast_nonneg _) (Int.natCast_nonneg _)) ?_ ?_⟩
  all_goals
    rw [P_split ha', ← Int.mul_assoc (N : Int)]
    have q0 := pow_cast_pos a
    have c1 : (N : Int) * ((2 ^ k : Nat) : Int) = ((N * 2 ^ k : Nat) : Int) := (Int.natCast_mul _ _).symm
    rw [c1]
    have i1 := Int.ofNat_le.2 n1
    have i2 := Int.ofNat_lt.2 n2
    rw [Nat.add_mul, Nat.one_mul] at i2
    have hk3 : ((2 ^ k : Nat) : Int) = 2 * ((2 ^ (k - 1) : Nat) : Int) := by rw [hk2]; exact Int.natCast_mul _ _
    rw [hk3]
    have hh : ((2 ^ k : Nat) : Int) = 2 * ((2 ^ (k - 1) : Nat) : Int) := hk3
    generalize ((2 ^ a : Nat) : Int) = Q at q0
    have e1 : 2 * ((m : Int) * Q) = (2 * (m : Int)) * Q := (Int.mul_assoc _ _ _).symm
    have e2 : 2 * (((N * 2 ^ k : Nat) : Int) * Q) = (2 * ((N * 2 ^ k : Nat) : Int)) * Q := (Int.mul_assoc _ _ _).symm
    rw [e1, e2, ← Int.add_mul]
    first
      | refine Int.mul_le_mul_of_nonneg_right ?_ (Int.le_of_lt q0); omega
      | refine Int.mul_lt_mul_of_pos_right ?_ q0; omega

/-- without one -/
theorem round_self {x : Nat} (hx : x < 18446744073709551616) (fx : fin x = true) (he : 1075 ≤ x / 4503599627370496 % 2048) : ∃ v, Rounded x x v := by
  obtain ⟨m, p, hr, hc, hp, he2⟩ := read_canon hx fx
  have l1 := hc.lo
  have l2 := hc.hi
  have l3 := hc.norm
  have p0 : 0 ≤ p := by omega
  have hw := whole_self hx fx hr hc he2 p0
  have hU : U x = _ := hw.U
  have hP := P_pos
  refine ⟨_, hw.made, fun _ => ?_, fun _ => ?_⟩ <;> rw [hU] <;> omega
end Go.Proofs.YtihkabgoaejcgaaDoor.Flt
