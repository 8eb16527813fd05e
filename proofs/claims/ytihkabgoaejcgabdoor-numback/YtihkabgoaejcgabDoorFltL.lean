/- Plain facts on binary floats of 64 bits: the float nearest to a whole number, and its two neighbours. -/
import Derived.Test.YtihkabgoaejcgabDoorFltK
namespace Go.Proofs.YtihkabgoaejcgabDoor.Flt
open Ieee

/-- a whole float's number, read off its rung -/
theorem toInt_rung (s : Bool) {k t : Nat} (hk : k ≤ 100) (h1 : 4503599627370496 ≤ t) (h2 : t ≤ 9007199254740992) :
    (double.read (double.word s ((1074 + k) * 4503599627370496 + t))).toInt .zero = some (signed s (t * 2 ^ k) 0) ∧ U (double.word s ((1074 + k) * 4503599627370496 + t)) = signed s (t * 2 ^ k) 0 * P ∧ fin (double.word s ((1074 + k) * 4503599627370496 + t)) = true ∧ double.word s ((1074 + k) * 4503599627370496 + t) < 18446744073709551616 := by
  obtain ⟨u, f, l⟩ := U_rung s (a := 1074 + k) (m := t) (by omega) h1 h2
  have hU : U (double.word s ((1074 + k) * 4503599627370496 + t)) = signed s (t * 2 ^ k) 0 * P := by
    rw [u, ← signed_P]
    generalize hK : (1074 : Nat) = K
    unfold signed
    rw [Nat.shiftLeft_eq, Nat.shiftLeft_eq, Nat.mul_assoc, ← Nat.pow_add, Nat.add_comm]
  refine ⟨?_, hU, f, l⟩
  obtain ⟨zt, zf, zc, v, fl, ce, _, _, _, _, ht, b1, b2, b3, b4, i1, i2⟩ := cut_all l f
  rw [ht]
  congr 1
  rw [hU] at b1 b2 b3 b4 i1 i2
  have c1 := leP b1
  have c2 := ltP b2
  have c3 := leP b3
  have c4 := ltP b4
  rcases Int.lt_or_le (signed s (t * 2 ^ k) 0 * P) 0 with h | h
  · have := i2 h; omega
  · have := i1 h; omega

/-- what is nearest to a number of more than 53 places, and what lies beside it -/
theorem near_beside (s : Bool) {N : Nat} (h1 : 9007199254740992 ≤ N) (h2 : N ≤ 9223372036854775808) : ∃ (r T Tu Td : Nat),
    double.nearest s N 0 = double.word s r ∧ 4503599627370496 * 1075 < r ∧ r < 4503599627370496 * 1200 ∧ 9007199254740992 ≤ T ∧
    ((double.read (double.word s r)).toInt .zero = some (signed s T 0) ∧ U (double.word s r) = signed s T 0 * P) ∧
    (double.read (double.word s (r + 1))).toInt .zero = some (signed s Tu 0) ∧
    (double.read (double.word s (r - 1))).toInt .zero = some (signed s Td 0) ∧
    Tu ≤ T + 8192 ∧ T ≤ Td + 8192 ∧ T < Tu ∧ Td < T ∧ (N ≤ T → 2 * (T - N) ≤ Tu - T ∧ T - N ≤ N - Td) ∧ (T ≤ N → N - T ≤ Tu - N ∧ N - T ≤ N - Td ∧ N ≤ Tu) ∧ Td ≤ N := by
  have h0 : N ≠ 0 := by omega
  have hb := log2_bounds h0
  have hl1 : 53 ≤ N.log2 := (Nat.le_log2 h0).2 (by omega)
  have hl2 : N.log2 ≤ 63 := by
    have : N.log2 < 64 := (Nat.log2_lt h0).2 (by omega)
    omega
  obtain ⟨k, hk⟩ : ∃ k, N.log2 = k + 52 := ⟨N.log2 - 52, by omega⟩
  rw [hk] at hb
  have k1 : 1 ≤ k := by omega
  have k2 : k ≤ 11 := by omega
  have hp := Nat.two_pow_pos k
  have q1 : 4503599627370496 ≤ N / 2 ^ k := by
    refine (Nat.le_div_iff_mul_le hp).2 ?_
    have : 2 ^ (k + 52) = 4503599627370496 * 2 ^ k := by rw [Nat.pow_add, Nat.mul_comm]
    omega
  have q2 : N / 2 ^ k < 9007199254740992 := by
    refine (Nat.div_lt_iff_lt_mul hp).2 ?_
    have : 2 ^ (k + 52 + 1) = 9007199254740992 * 2 ^ k := by rw [Nat.pow_succ, Nat.pow_add]; omega
    omega
  have hn := near_big s (u := N) (k := k) (by omega) q1 q2
  have hT := topR_bounds q1 q2
  have hdm := Nat.div_add_mod N (2 ^ k)
  have hml := Nat.mod_lt N hp
  have hk2 : 2 ^ k = 2 * 2 ^ (k - 1) := by
    obtain ⟨j, rfl⟩ : ∃ j, k = j + 1 := ⟨k - 1, by omega⟩
    rw [Nat.pow_succ]; simp; omega
  have hk4 : 2 ^ k ≤ 2048 := by
    have : 2 ^ k ≤ 2 ^ 11 := Nat.pow_le_pow_right (by decide) k2
    omega
  have hp1 := Nat.two_pow_pos (k - 1)
  -- how far it lies
  have far : (topR N k = N / 2 ^ k ∧ 2 * (N % 2 ^ k) ≤ 2 ^ k) ∨ (topR N k = N / 2 ^ k + 1 ∧ 2 ^ k ≤ 2 * (N % 2 ^ k)) := by
    unfold topR
    by_cases hh : 2 ^ k < 2 * (N % 2 ^ k)
    · right; simp [hh]; omega
    · by_cases he : 2 ^ k = 2 * (N % 2 ^ k)
      · by_cases ho : N / 2 ^ k % 2 = 1
        · right; simp only [beq_iff_eq.2 he, beq_iff_eq.2 ho]; simp; omega
        · left
          have : (N / 2 ^ k % 2 == 1) = false := by simpa using ho
          simp only [this]; simp; omega
      · left
        have e : (2 ^ k == 2 * (N % 2 ^ k)) = false := by simpa using he
        simp only [e]; simp; omega
  generalize htop : topR N k = t at hn hT far
  generalize hq : N / 2 ^ k = q at *
  generalize hm : N % 2 ^ k = r0 at *
  have main := toInt_rung s (k := k) (t := t) (by omega) hT.1 hT.2
  -- above
  have above : ∃ Tu, (double.read (double.word s ((1074 + k) * 4503599627370496 + t + 1))).toInt .zero = some (signed s Tu 0) ∧ t * 2 ^ k + 2 ^ k ≤ Tu ∧ Tu ≤ t * 2 ^ k + 2 * 2 ^ k := by
    rcases Nat.lt_or_ge t 9007199254740992 with ht | ht
    · have := (toInt_rung s (k := k) (t := t + 1) (by omega) (by omega) (by omega)).1
      rw [← Nat.add_assoc] at this
      refine ⟨_, this, ?_, ?_⟩ <;> rw [Nat.add_mul] <;> omega
    · have te : t = 9007199254740992 := by omega
      have := (toInt_rung s (k := k + 1) (t := 4503599627370497) (by omega) (by omega) (by omega)).1
      rw [show (1074 + (k + 1)) * 4503599627370496 + 4503599627370497 = (1074 + k) * 4503599627370496 + t + 1 by omega] at this
      have te2 : t * 2 ^ k = 9007199254740992 * 2 ^ k := by rw [te]
      refine ⟨_, this, ?_, ?_⟩ <;> rw [Nat.pow_succ] <;> omega
  -- below
  have below : ∃ Td, (double.read (double.word s ((1074 + k) * 4503599627370496 + t - 1))).toInt .zero = some (signed s Td 0) ∧ (Td = t * 2 ^ k - 2 ^ k ∧ 2 ^ k ≤ t * 2 ^ k ∨ t = 4503599627370496 ∧ Td = t * 2 ^ k - 2 ^ (k - 1) ∧ 2 ^ (k - 1) ≤ t * 2 ^ k) := by
    have tp : 2 ^ k ≤ t * 2 ^ k := Nat.le_mul_of_pos_left _ (by omega)
    rcases Nat.lt_or_ge 4503599627370496 t with ht | ht
    · have := (toInt_rung s (k := k) (t := t - 1) (by omega) (by omega) (by omega)).1
      rw [show (1074 + k) * 4503599627370496 + (t - 1) = (1074 + k) * 4503599627370496 + t - 1 by omega] at this
      refine ⟨_, this, Or.inl ⟨?_, tp⟩⟩
      rw [Nat.sub_mul]; omega
    · have te : t = 4503599627370496 := by omega
      have := (toInt_rung s (k := k - 1) (t := 9007199254740991) (by omega) (by omega) (by omega)).1
      rw [show (1074 + (k - 1)) * 4503599627370496 + 9007199254740991 = (1074 + k) * 4503599627370496 + t - 1 by omega] at this
      have te2 : t * 2 ^ k = 4503599627370496 * 2 ^ k := by rw [te]
      refine ⟨_, this, Or.inr ⟨te, ?_, ?_⟩⟩ <;> omega
  obtain ⟨Tu, au, au1, au2⟩ := above
  obtain ⟨Td, bd, bd1⟩ := below
  have tq : t * 2 ^ k = q * 2 ^ k ∨ t * 2 ^ k = q * 2 ^ k + 2 ^ k := by
    rcases far with ⟨e, _⟩ | ⟨e, _⟩
    · left; rw [e]
    · right; rw [e, Nat.add_mul]; omega
  rw [Nat.mul_comm] at hdm
  have tbig : 9007199254740992 ≤ t * 2 ^ k := by
    have : 4503599627370496 * 2 ^ k ≤ t * 2 ^ k := Nat.mul_le_mul_right _ hT.1
    omega
  refine ⟨(1074 + k) * 4503599627370496 + t, t * 2 ^ k, Tu, Td, hn, by omega, by omega, tbig, ⟨main.1, main.2.1⟩, au, bd, by omega, ?_, by omega, ?_, ?_, ?_, ?_⟩
  · rcases bd1 with ⟨e, _⟩ | ⟨_, e, _⟩ <;> omega
  · rcases bd1 with ⟨e, _⟩ | ⟨_, e, _⟩ <;> omega
  · intro h
    rcases far with ⟨e, f⟩ | ⟨e, f⟩
    · subst e
      have r00 : r0 = 0 := by omega
      rcases bd1 with ⟨e, _⟩ | ⟨_, e, _⟩ <;> omega
    · have tt : t * 2 ^ k = q * 2 ^ k + 2 ^ k := by rw [e, Nat.add_mul]; omega
      rcases bd1 with ⟨e2, _⟩ | ⟨e3, e2, _⟩ <;> omega
  · intro h
    rcases far with ⟨e, f⟩ | ⟨e, f⟩
    · subst e
      rcases bd1 with ⟨e, _⟩ | ⟨_, e, _⟩ <;> omega
    · exfalso
      have tt : t * 2 ^ k = q * 2 ^ k + 2 ^ k := by rw [e, Nat.add_mul]; omega
      omega
  · rcases far with ⟨e, f⟩ | ⟨e, f⟩
    · subst e
      rcases bd1 with ⟨e, _⟩ | ⟨_, e, _⟩ <;> omega
    · have tt : t * 2 ^ k = q * 2 ^ k + 2 ^ k := by rw [e, Nat.add_mul]; omega
      rcases bd1 with ⟨e2, _⟩ | ⟨e3, e2, _⟩ <;> omega
end Go.Proofs.YtihkabgoaejcgabDoor.Flt
