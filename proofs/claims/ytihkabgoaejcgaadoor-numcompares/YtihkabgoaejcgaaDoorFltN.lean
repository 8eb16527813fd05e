/- Plain facts on binary floats of 64 bits: what is left of a float without its whole part is a float. -/
import Derived.Test.YtihkabgoaejcgaaDoorFltM
namespace Go.Proofs.YtihkabgoaejcgaaDoor.Flt
open Ieee

theorem near_int {s : Bool} {M : Nat} (hW : Whole s M (double.nearest s M 0)) : ∃ q, double.nearest (decide (signed s M 0 < 0)) (signed s M 0).natAbs 0 = q ∧ q < 18446744073709551616 ∧ fin q = true ∧ U q = signed s M 0 * P := by
  by_cases h0 : M = 0
  · subst h0
    have hw := whole_small false (M := 0) (by omega)
    refine ⟨_, rfl, ?_⟩
    have e : signed s 0 0 = 0 := by rw [signed_0]; split <;> simp
    rw [e]
    refine ⟨hw.lt, hw.fin, ?_⟩
    have := hw.U
    rw [signed_0] at this
    exact this
  · have hs : decide (signed s M 0 < 0) = s := by
      rw [signed_0]
      cases s
      · rw [decide_eq_false_iff_not]; simp only [Bool.false_eq_true, if_false]; omega
      · rw [decide_eq_true_eq]; simp only [if_true]; omega
    have hn : (signed s M 0).natAbs = M := by rw [signed_0]; split <;> omega
    rw [hs, hn]
    exact ⟨_, rfl, hW.lt, hW.fin, hW.U⟩

/-- a float less its whole part -/
theorem frac_of {x : Nat} (hx : x < 18446744073709551616) (fx : fin x = true) {T : Int} (hT : (double.read x).toInt .zero = some T) :
    ∃ q p, double.nearest (decide (T < 0)) T.natAbs 0 = q ∧ double.sub x q = some p ∧ p < 18446744073709551616 ∧ fin p = true ∧ U p = U x - T * P := by
  obtain ⟨s, m, p0, M, b, hr, lo, hM, hb, hw, V, hV, V0, h1, h2, h3, h4⟩ := parts_of_U hx fx
  have w0 := hw false (by simp)
  rw [Bool.toNat_false, Nat.add_zero] at w0
  have hTM : T = signed s M 0 := by
    rw [hr, toInt_part, ← hM] at hT
    exact (Option.some.inj hT).symm
  obtain ⟨q, q1, q2, q3, q4⟩ := near_int w0
  rw [← hTM] at q1 q4
  have hab : ∃ r a, (U x - U q).natAbs = r * 2 ^ a ∧ r < 9007199254740992 ∧ a ≤ 2045 := by
    obtain ⟨m', p', hr', hc, hp, he⟩ := read_canon hx fx
    rw [hr] at hr'
    have em : m = m' := by injection hr'
    have ep : p0 = p' := by injection hr'
    subst em ep
    rw [q4, hTM, U_abs hr, signed_0]
    have hsame : ((if s = true then -((m * 2 ^ (p0 + 1074).toNat : Nat) : Int) else ((m * 2 ^ (p0 + 1074).toNat : Nat) : Int)) - (if s = true then -(M : Int) else (M : Int)) * P).natAbs = m * 2 ^ (p0 + 1074).toNat - M * 2 ^ 1074 := by
      have hle := (part_bounds m lo).1
      rw [← hM] at hle
      have c : (M : Int) * P = ((M * 2 ^ 1074 : Nat) : Int) := (castP M).symm
      generalize m * 2 ^ (p0 + 1074).toNat = A at hle
      cases s
      · simp only [Bool.false_eq_true, if_false]
        rw [c]
        generalize M * 2 ^ 1074 = B at hle
        omega
      · simp only [if_true]
        rw [Int.neg_mul, c]
        generalize M * 2 ^ 1074 = B at hle
        omega
    rw [hsame]
    rcases Int.lt_or_le p0 0 with hp0 | hp0
    · refine ⟨m % 2 ^ (-p0).toNat, (p0 + 1074).toNat, ?_, ?_, by omega⟩
      · have e : p0.toNat = 0 := by omega
        rw [e, Nat.pow_zero, Nat.mul_one] at hM
        have hpw : ∀ K : Nat, K = 1074 → (2 : Nat) ^ K = 2 ^ (-p0).toNat * 2 ^ (p0 + 1074).toNat := fun K hK => by rw [← Nat.pow_add]; congr 1; omega
        rw [hpw 1074 rfl, ← Nat.mul_assoc, ← Nat.sub_mul, hM]
        congr 1
        have := Nat.div_add_mod m (2 ^ (-p0).toNat)
        rw [Nat.mul_comm] at this
        omega
      · exact Nat.lt_of_le_of_lt (Nat.mod_le _ _) hc.hi
    · refine ⟨0, 0, ?_, by omega, by omega⟩
      have hz := (part_rest m lo).1 (by
        have e : (-p0).toNat = 0 := by omega
        rw [e, Nat.pow_zero]; exact Nat.mod_one _)
      rw [hz, ← hM, Nat.zero_mul]
      exact Nat.sub_self _
  obtain ⟨r, a, e1, e2, e3⟩ := hab
  obtain ⟨z, z1, z2, z3, z4⟩ := sub_exact hx q2 fx q3 e2 e3 e1
  exact ⟨q, z, q1, z1, z2, z3, by rw [z4, q4]⟩

/-- a half, both ways -/
theorem U_half : 2 * U 4602678819172646912 = P ∧ fin 4602678819172646912 = true := by
  have h := U_rung false (a := 1021) (m := 4503599627370496) (by omega) (by omega) (by omega)
  rw [word_val] at h
  have e : (if false = true then 9223372036854775808 else 0) + (1021 * 4503599627370496 + 4503599627370496) = 4602678819172646912 := by decide
  rw [e] at h
  refine ⟨?_, h.2.1⟩
  rw [h.1]
  have up : ∀ a b : Nat, b = 53 + a → 2 * (((4503599627370496 <<< a : Nat)) : Int) = ((2 ^ b : Nat) : Int) := fun a b hb => by
    rw [hb, Nat.shiftLeft_eq, Nat.pow_add]
    have : (2 : Nat) ^ 53 = 2 * 4503599627370496 := by decide
    rw [this]
    generalize 2 ^ a = A
    omega
  unfold P signed
  simp only [Bool.false_eq_true, if_false]
  exact up 1021 1074 (by omega)

theorem U_half_neg : 2 * U 13826050856027422720 = -P ∧ fin 13826050856027422720 = true := by
  have := U_turn (x := 4602678819172646912) (y := 13826050856027422720) (by decide) U_half.2 (by decide) (by decide) (by decide)
  refine ⟨?_, this.1⟩
  rw [this.2]
  have := U_half.1
  omega

/-- where the whole part is T, and F is left -/
theorem by_parts {x z : Nat} {f c t r : Int} (L : Lies (U x) f c t r) (b2 : U x < (f + 1) * P) (b4 : (c - 1) * P < U x) (hR : Rounded x z r) :
    (U x - t * P < 0 → f = t - 1) ∧ (0 ≤ U x - t * P → f = t) ∧ (0 < U x - t * P → c = t + 1) ∧ (U x - t * P ≤ 0 → c = t) ∧
    (P ≤ 2 * (U x - t * P) → r = t + 1) ∧ (2 * (U x - t * P) ≤ -P → r = t - 1) ∧ (-P < 2 * (U x - t * P) → 2 * (U x - t * P) < P → r = t) := by
  have hP := P_pos
  have h1 := L.vf
  have h3 := L.vc
  have fc := L.fc
  have cf := L.cf
  have ft := L.ft
  have tc := L.tc
  have a1 : ∀ a : Int, (a + 1) * P = a * P + P := fun a => by rw [Int.add_mul, Int.one_mul]
  have a2 : ∀ a : Int, (a - 1) * P = a * P - P := fun a => by rw [Int.sub_mul, Int.one_mul]
  have hft : t = f ∨ t = f + 1 := by omega
  have hct : t = c ∨ t = c - 1 := by omega
  rw [a1] at b2
  rw [a2] at b4
  have d1 : ∀ a : Int, (2 * a) * P = 2 * (a * P) := fun a => Int.mul_assoc _ _ _
  refine ⟨fun h => ?_, fun h => ?_, fun h => ?_, fun h => ?_, fun h => ?_, fun h => ?_, fun h h' => ?_⟩
  · rcases hft with e | e
    · subst e; omega
    · omega
  · rcases hft with e | e
    · exact e.symm
    · subst e; rw [a1] at h; omega
  · rcases hct with e | e
    · subst e; omega
    · omega
  · rcases hct with e | e
    · exact e.symm
    · subst e; rw [a2] at h; omega
  · rcases Int.lt_or_le (U x) 0 with hu | hu
    · have := L.neg hu
      subst this
      omega
    · have := L.pos hu
      subst this
      obtain ⟨r1, r2⟩ := hR.up hu
      have e1 : (2 * t + 1) * P < (2 * r + 1) * P := by rw [Int.add_mul, Int.add_mul, Int.one_mul, d1, d1]; omega
      have e2 : (2 * r - 1) * P < (2 * t + 2) * P := by rw [Int.sub_mul, Int.add_mul, Int.one_mul, d1, d1]; omega
      have := ltP e1
      have := ltP e2
      omega
  · rcases Int.lt_or_le (U x) 0 with hu | hu
    · have := L.neg hu
      subst this
      obtain ⟨r1, r2⟩ := hR.down hu
      have e1 : (2 * r - 1) * P < (2 * t - 1) * P := by rw [Int.sub_mul, Int.sub_mul, Int.one_mul, d1, d1]; omega
      have e2 : (2 * t - 2) * P < (2 * r + 1) * P := by rw [Int.sub_mul, Int.add_mul, Int.one_mul, d1, d1]; omega
      have := ltP e1
      have := ltP e2
      omega
    · have := L.pos hu
      subst this
      omega
  · rcases Int.lt_or_le (U x) 0 with hu | hu
    · have := L.neg hu
      subst this
      obtain ⟨r1, r2⟩ := hR.down hu
      have e1 : (2 * r) * P < (2 * t + 1) * P := by rw [Int.add_mul, Int.one_mul, d1, d1]; omega
      have e2 : (2 * t - 1) * P < (2 * r + 1) * P := by rw [Int.sub_mul, Int.add_mul, Int.one_mul, d1, d1]; omega
      have := ltP e1
      have := ltP e2
      omega
    · have := L.pos hu
      subst this
      obtain ⟨r1, r2⟩ := hR.up hu
      have e1 : (2 * r - 1) * P < (2 * t + 1) * P := by rw [Int.sub_mul, Int.add_mul, Int.one_mul, d1, d1]; omega
      have e2 : (2 * t) * P < (2 * r + 1) * P := by rw [Int.add_mul, Int.one_mul, d1, d1]; omega
      have := ltP e1
      have := ltP e2
      omega
end Go.Proofs.YtihkabgoaejcgaaDoor.Flt
