/- Plain facts on binary floats of 64 bits: where whole parts, floors, ceilings and roundings lie. -/
import Derived.Test.YtihkabgoaejcgaaDoorFltI
namespace Go.Proofs.YtihkabgoaejcgaaDoor.Flt
open Ieee

/-- a magnitude in units -/
theorem U_abs {x : Nat} {s : Bool} {m : Nat} {p : Int} (h : double.read x = .number s m p) : U x = if s then -((m * 2 ^ (p + 1074).toNat : Nat) : Int) else ((m * 2 ^ (p + 1074).toNat : Nat) : Int) := by
  rw [U_of h]; unfold unit signed; simp only [Nat.shiftLeft_eq]

theorem signed_0 (s : Bool) (M : Nat) : signed s M 0 = if s then -(M : Int) else (M : Int) := by unfold signed; simp only [Nat.shiftLeft_zero]

theorem mulP_lt {a b : Int} (h : a < b) : a * P < b * P := Int.mul_lt_mul_of_pos_right h P_pos
theorem mulP_le {a b : Int} (h : a ≤ b) : a * P ≤ b * P := Int.mul_le_mul_of_nonneg_right h (Int.le_of_lt P_pos)
theorem ltP {a b : Int} (h : a * P < b * P) : a < b := Int.lt_of_mul_lt_mul_right h (Int.le_of_lt P_pos)
theorem leP {a b : Int} (h : a * P ≤ b * P) : a ≤ b := Int.le_of_mul_le_mul_right h P_pos

/-- no rest, no fraction -/
theorem part_rest (m : Nat) {p : Int} (lo : -1074 ≤ p) : (m * 2 ^ p.toNat % 2 ^ (-p).toNat = 0 → m * 2 ^ (p + 1074).toNat = (m * 2 ^ p.toNat / 2 ^ (-p).toNat) * 2 ^ 1074) ∧ (m * 2 ^ p.toNat % 2 ^ (-p).toNat ≠ 0 → p < 0 ∧ (m * 2 ^ p.toNat / 2 ^ (-p).toNat) * 2 ^ 1074 < m * 2 ^ (p + 1074).toNat) := by
  generalize hK : (1074 : Nat) = K
  rcases Int.lt_or_le p 0 with hp | hp
  · have e : p.toNat = 0 := by omega
    have e2 : K = (-p).toNat + (p + 1074).toNat := by omega
    rw [e, Nat.pow_zero, Nat.mul_one, e2, Nat.pow_add, ← Nat.mul_assoc]
    have hdm := Nat.div_add_mod m (2 ^ (-p).toNat)
    rw [Nat.mul_comm] at hdm
    refine ⟨fun h => ?_, fun h => ⟨hp, ?_⟩⟩
    · rw [h, Nat.add_zero] at hdm; rw [hdm]
    · exact Nat.mul_lt_mul_of_pos_right (by omega) (Nat.two_pow_pos _)
  · have e : (p + 1074).toNat = p.toNat + K := by omega
    have e2 : (-p).toNat = 0 := by omega
    rw [e, e2, Nat.pow_zero, Nat.div_one, Nat.pow_add, ← Nat.mul_assoc]
    exact ⟨fun _ => rfl, fun h => absurd (Nat.mod_one _) h⟩

/-- a float made whole: v is its number -/
structure Made (x z : Nat) (v : Int) : Prop where
  lt : z < 18446744073709551616
  fin : Flt.fin z = true
  val : Flt.U z = v * P
  int : (double.read z).toInt .zero = some v

theorem Whole.made {x : Nat} {s : Bool} {M z : Nat} (h : Whole s M z) : Made x z (signed s M 0) := ⟨h.lt, h.fin, h.U, h.toInt⟩

theorem castP (M : Nat) : ((M * 2 ^ 1074 : Nat) : Int) = (M : Int) * P := Int.natCast_mul M _

/-- what the parts of a float say of its value -/
theorem parts_of_U {x : Nat} (hx : x < 18446744073709551616) (fx : fin x = true) : ∃ (s : Bool) (m : Nat) (p : Int) (M : Nat) (b : Bool), double.read x = .number s m p ∧ -1074 ≤ p ∧ M = m * 2 ^ p.toNat / 2 ^ (-p).toNat ∧ b = (m * 2 ^ p.toNat % 2 ^ (-p).toNat != 0) ∧
    (∀ c : Bool, (c = true → b = true) → Whole s (M + c.toNat) (double.nearest s (M + c.toNat) 0)) ∧
    (∃ V : Int, U x = (if s then -V else V) ∧ 0 ≤ V ∧ (M : Int) * P ≤ V ∧ V < ((M : Int) + 1) * P ∧ (b = false → V = (M : Int) * P) ∧ (b = true → (M : Int) * P < V)) := by
  obtain ⟨s, m, p, hr, lo, hw⟩ := whole_round hx fx
  refine ⟨s, m, p, _, _, hr, lo, rfl, rfl, fun c hc => ?_, _, U_abs hr, Int.natCast_nonneg _, ?_, ?_, ?_, ?_⟩
  · refine hw c (fun h => ?_)
    have := hc h
    exact ((part_rest m lo).2 (by simpa using this)).1
  · have := Int.ofNat_le.2 (part_bounds m lo).1
    rw [castP] at this
    exact this
  · have := Int.ofNat_lt.2 (part_bounds m lo).2
    rw [castP, Int.natCast_add] at this
    exact this
  · intro h
    have := (part_rest m lo).1 (by simpa using h)
    rw [this, castP]
  · intro h
    have := Int.ofNat_lt.2 ((part_rest m lo).2 (by simpa using h)).2
    rw [castP] at this
    exact this

theorem toNat01 (b : Bool) : ((b.toNat : Nat) : Int) = if b then 1 else 0 := by cases b <;> rfl

/-- truncation, floor, ceiling: by the model's own -/
theorem cut_all {x : Nat} (hx : x < 18446744073709551616) (fx : fin x = true) : ∃ zt zf zc : Nat, ∃ t f c : Int,
    (∃ (s : Bool) (m : Nat) (p : Int), double.read x = .number s m p ∧ double.write ((Datum.number s m p).integral .zero) = zt ∧ double.write ((Datum.number s m p).integral .down) = zf ∧ double.write ((Datum.number s m p).integral .up) = zc) ∧
    Made x zt t ∧ Made x zf f ∧ Made x zc c ∧ (double.read x).toInt .zero = some t ∧
    f * P ≤ U x ∧ U x < (f + 1) * P ∧ U x ≤ c * P ∧ (c - 1) * P < U x ∧ (0 ≤ U x → t = f) ∧ (U x < 0 → t = c) := by
  obtain ⟨s, m, p, M, b, hr, lo, hM, hb, hw, V, hV, V0, h1, h2, h3, h4⟩ := parts_of_U hx fx
  have w0 := hw false (by simp)
  have wf := hw (s && b) (by simp)
  have wc := hw (!s && b) (by simp)
  rw [Bool.toNat_false, Nat.add_zero] at w0
  refine ⟨_, _, _, _, _, _, ⟨s, m, p, hr, ?_, ?_, ?_⟩, w0.made, wf.made, wc.made, ?_, ?_⟩
  · simp only [Datum.integral, cut_zero, Nat.shiftLeft_eq, ← hM]; rfl
  · simp only [Datum.integral, cut_down, Nat.shiftLeft_eq, ← hM, ← hb]; rfl
  · simp only [Datum.integral, cut_up, Nat.shiftLeft_eq, ← hM, ← hb]; rfl
  · rw [hr, toInt_part, ← hM]
  · rw [signed_0, signed_0, signed_0, Int.natCast_add, Int.natCast_add, toNat01, toNat01, hV]
    have hP := P_pos
    have a1 : ∀ a : Int, (a + 1) * P = a * P + P := fun a => by rw [Int.add_mul, Int.one_mul]
    have a2 : ∀ a : Int, (a - 1) * P = a * P - P := fun a => by rw [Int.sub_mul, Int.one_mul]
    have a3 : ∀ a : Int, -a * P = -(a * P) := fun a => Int.neg_mul _ _
    rw [a1] at h2
    cases s <;> cases b <;> simp only [Bool.false_eq_true, if_false, if_true, Bool.and_true, Bool.and_false, Bool.not_true, Bool.not_false, Int.add_zero, a1, a2, a3] <;> simp only [Bool.false_eq_true, true_implies, false_implies, reduceCtorEq] at h3 h4
    · refine ⟨by omega, by omega, by omega, by omega, fun _ => trivial, fun _ => trivial⟩
    · refine ⟨by omega, by omega, by omega, by omega, fun _ => trivial, fun _ => by omega⟩
    · refine ⟨by omega, by omega, by omega, by omega, fun _ => trivial, fun _ => trivial⟩
    · have hMn : 0 ≤ (M : Int) * P := Int.mul_nonneg (Int.natCast_nonneg _) (Int.le_of_lt hP)
      refine ⟨by omega, by omega, by omega, by omega, fun _ => by omega, fun _ => trivial⟩
end Go.Proofs.YtihkabgoaejcgaaDoor.Flt
