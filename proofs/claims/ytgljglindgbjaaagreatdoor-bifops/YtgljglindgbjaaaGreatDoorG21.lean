import Derived.Test.YtgljglindgbjaaaGreatDoorG20
/- Plain facts on binary floats of 64 bits: where whole parts, floors, ceilings and roundings lie. -/
namespace Go.Proofs.YtgljglindgbjaaaGreatDoor.Flt
open Ieee

/-- a magnitude in units -/
theorem U_abs {x : Nat} {s : Bool} {m : Nat} {p : Int} (h : double.read x = .number s m p) : U x = if s then -((m * 2 ^ (p + 1074).toNat : Nat) : Int) else ((m * 2 ^ (p + 1074).toNat : Nat) : Int) := by
  rw [U_of h]; unfold unit signed; simp only [Nat.shiftLeft_eq]

theorem signed_0 (s : Bool) (M : Nat) : signed s M 0 = if s then -(M : Int) else (M : Int) := by unfold signed; simp only [Nat.shiftLeft_zero]

theorem mulP_lt {a b : Int} (h : a < b) : a * P < b * P := Int.mul_lt_mul_of_pos_right h P_pos
theorem mulP_le {a b : Int} (h : a ≤ b) : a * P ≤ b * P := Int.mul_le_mul_of_nonneg_right h (Int.le_of_lt P_pos)
theorem ltP {a b : Int} (h : a * P < b * P) : a < b := Int.lt_of_mul_lt_mul_right h (Int.le_of_lt P_pos)
theorem leP {a b : Int} (h : a * P ≤ b * P) : a ≤ b := Int.le_of_mul_le_mul_right h P_pos

/-- no rest, no fraction -/
theorem part_rest (m : Nat) {p : Int} (lo : -1074 ≤ p) : (m * 2 ^ p.toNat % 2 ^ (-p).toNat = 0 → m * 2 ^ (p + 1074).toNat = (m * 2 ^ p.toNat / 2 ^ (-p).toNat) * 2 ^ 1074) ∧ (m * 2 ^ p.toNat % 2 ^ (-p).toNat ≠ 0 → p < 0 ∧ (m * 2 ^ p.toNat / 2 ^ (-p).toNat) * 2 ^ 1074 < m * 2 ^ (p + 1074).toNat) := by
  generalize hK : (1074 : Nat) = K
  rcases Int.lt_or_le p 0 with hp | hp
  · have e : p.toNat = 0 := by omega
    have e2 : K = (-p).toNat + (p + 1074).toNat := by omega
    rw [e, Nat.pow_zero, Nat.mul_one, e2, Nat.pow_add, ← Nat.mul_assoc]
    have hdm := Nat.div_add_mod m (2 ^ (-p).toNat)
    rw [Nat.mul_comm] at hdm
    refine ⟨fun h => ?_, fun h => ⟨hp, ?_⟩⟩
    · rw [h, Nat.add_zero] at hdm; rw [hdm]
    · exact Nat.mul_lt_mul_of_pos_right (by omega) (Nat.two_pow_pos _)
  · have e : (p + 1074).toNat = p.toNat + K := by omega
    have e2 : (-p).toNat = 0 := by omega
    rw [e, e2, Nat.pow_zero, Nat.div_one, Nat.pow_add, ← Nat.mul_assoc]
    exact ⟨fun _ => rfl, fun h => absurd (Nat.mod_one _) h⟩

/-- a float made whole: v is its number -/
structure Made (x z : Nat) (v : Int) : Prop where
  lt : z < 18446744073709551616
  fin : Flt.fin z = true
  val : Flt.U z = v * P
  int : (double.read z).toInt .zero = some v

theorem Whole.made {x : Nat} {s : Bool} {M z : Nat} (h : Whole s M z) : Made x z (signed s M 0) := ⟨h.lt, h.fin, h.U, h.toInt⟩

theorem castP (M : Nat) : ((M * 2 ^ 1074 : Nat) : Int) = (M : Int) * P := Int.natCast_mul M _

/-- what the parts of a float say of its value -/
theorem parts_of_U {x : Nat} (hx : x < 18446744073709551616) (fx : fin x = true) : ∃ (s : Bool) (m : Nat) (p : Int) (M : Nat) (b : Bool), double.read x = .number s m p ∧ -1074 ≤ p ∧ M = m * 2 ^ p.toNat / 2 ^ (-p).toNat ∧ b = (m * 2 ^ p.toNat % 2 ^ (-p).toNat != 0) ∧
    (∀ c : Bool, (c = true → b = true) → Whole s (M + c.toNat) (double.nearest s (M + c.toNat) 0)) ∧
    (∃ V : Int, U x = (if s then -V else V) ∧ 0 ≤ V ∧ (M : Int) * P ≤ V ∧ V < ((M : Int) + 1) * P ∧ (b = false → V = (M : Int) * P) ∧ (b = true → (M : Int) * P < V)) := by
  obtain ⟨s, m, p, hr, lo, hw⟩ := whole_round hx fx
  refine ⟨s, m, p, _, _, hr, lo, rfl, rfl, fun c hc => ?_, _, U_abs hr, Int.natCast_nonneg _, ?_, ?_, ?_, ?_⟩
  · refine hw c (fun h => ?_)
    have := hc h
    exact ((part_rest m lo).2 (by simpa using this)).1
  · have := Int.ofNat_le.2 (part_bounds m lo).1
    rw [castP] at this
    exact this
  · have := Int.ofNat_lt.2 (part_bounds m lo).2
    rw [castP, Int.natCast_add] at this
    exact this
  · intro h
    have := (part_rest m lo).1 (by simpa using h)
    rw [this, castP]
  · intro h
    have := Int.ofNat_lt.2 ((part_rest m lo).2 (by simpa using h)).2
    rw [castP] at this
    exact this

theorem toNat01 (b : Bool) : ((b.toNat : Nat) : Int) = if b then 1 else 0 := by cases b <;> rfl

/-- truncation, floor, ceiling: by the model's own -/
theorem cut_all {x : Nat} (hx : x < 18446744073709551616) (fx : fin x = true) : ∃ zt zf zc : Nat, ∃ t f c : Int,
    (∃ (s : Bool) (m : Nat) (p : Int), double.read x = .number s m p ∧ double.write ((Datum.number s m p).integral .zero) = zt ∧ double.write ((Datum.number s m p).integral .down) = zf ∧ double.write ((Datum.number s m p).integral .up) = zc) ∧
    Made x zt t ∧ Made x zf f ∧ Made x zc c ∧ (double.read x).toInt .zero = some t ∧
    f * P ≤ U x ∧ U x < (f + 1) * P ∧ U x ≤ c * P ∧ (c - 1) * P < U x ∧ (0 ≤ U x → t = f) ∧ (U x < 0 → t = c) := by
  obtain ⟨s, m, p, M, b, hr, lo, hM, hb, hw, V, hV, V0, h1, h2, h3, h4⟩ := parts_of_U hx fx
  have w0 := hw false (by simp)
  have wf := hw (s && b) (by simp)
  have wc := hw (!s && b) (by simp)
  rw [Bool.toNat_false, Nat.add_zero] at w0
  refine ⟨_, _, _, _, _, _, ⟨s, m, p, hr, ?_, ?_, ?_⟩, w0.made, wf.made, wc.made, ?_, ?_⟩
  · simp only [Datum.integral, cut_zero, Nat.shiftLeft_eq, ← hM]; rfl
  · simp only [Datum.integral, cut_down, Nat.shiftLeft_eq, ← hM, ← hb]; rfl
  · simp only [Datum.integral, cut_up, Nat.shiftLeft_eq, ← hM, ← hb]; rfl
  · rw [hr, toInt_part, ← hM]
  · rw [signed_0, signed_0, signed_0, Int.natCast_add, Int.natCast_add, toNat01, toNat01, hV]
    have hP := P_pos
    have a1 : ∀ a : Int, (a + 1) * P = a * P + P := fun a => by rw [Int.add_mul, Int.one_mul]
    have a2 : ∀ a : Int, (a - 1) * P = a * P - P := fun a => by rw [Int.sub_mul, Int.one_mul]
    have a3 : ∀ a : Int, -a * P = -(a * P) := fun a => Int.neg_mul _ _
    rw [a1] at h2
    cases s <;> cases b <;> simp only [Bool.false_eq_true, if_false, if_true, Bool.and_true, Bool.and_false, Bool.not_true, Bool.not_false, Int.add_zero, a1, a2, a3] <;> simp only [Bool.false_eq_true, true_implies, false_implies, reduceCtorEq] at h3 h4
    · refine ⟨by omega, by omega, by omega, by omega, fun _ => trivial, fun _ => trivial⟩
    · refine ⟨by omega, by omega, by omega, by omega, fun _ => trivial, fun _ => by omega⟩
    · refine ⟨by omega, by omega, by omega, by omega, fun _ => trivial, fun _ => trivial⟩
    · have hMn : 0 ≤ (M : Int) * P := Int.mul_nonneg (Int.natCast_nonneg _) (Int.le_of_lt hP)
      refine ⟨by omega, by omega, by omega, by omega, fun _ => by omega, fun _ => trivial⟩
end Go.Proofs.YtgljglindgbjaaaGreatDoor.Flt


/- Plain facts on binary floats of 64 bits: a rounding, half away from nothing, by the float's bits. -/
namespace Go.Proofs.YtgljglindgbjaaaGreatDoor.Flt
open Ieee

/-- z is x rounded: v its number -/
structure Rounded (x z : Nat) (v : Int) : Prop where
  made : Made x z v
  up : 0 ≤ U x → 2 * (v * P) ≤ 2 * U x + P ∧ 2 * U x < 2 * (v * P) + P
  down : U x < 0 → 2 * U x ≤ 2 * (v * P) + P ∧ 2 * (v * P) < 2 * U x + P

theorem rounded_by {x z N : Nat} {s : Bool} {V : Int} (hV : U x = if s then -V else V) (hN : Whole s N z) (V0 : 0 ≤ V) (h1 : 2 * ((N : Int) * P) ≤ 2 * V + P) (h2 : 2 * V < 2 * ((N : Int) * P) + P) : Rounded x z (signed s N 0) := by
  have hP := P_pos
  refine ⟨hN.made, ?_, ?_⟩ <;> rw [hV, signed_0]
  · intro h
    cases s
    · simp only [Bool.false_eq_true, if_false]; omega
    · simp only [if_true] at h ⊢
      have : -(N : Int) * P = -((N : Int) * P) := Int.neg_mul _ _
      rw [this]
      have hn : (N : Int) * P = 0 ∨ P ≤ (N : Int) * P := by
        rcases Nat.eq_zero_or_pos N with hh | hh
        · left; subst hh; simp
        · right
          have := mulP_le (show (1 : Int) ≤ N by omega)
          rw [Int.one_mul] at this
          exact this
      omega
  · intro h
    cases s
    · simp only [Bool.false_eq_true, if_false] at h; omega
    · simp only [if_true]
      have : -(N : Int) * P = -((N : Int) * P) := Int.neg_mul _ _
      rw [this]
      omega

theorem abs_of {x : Nat} {s : Bool} {m : Nat} {p : Int} (h : double.read x = .number s m p) : U x = if s then -((m * 2 ^ (p + 1074).toNat : Nat) : Int) else ((m * 2 ^ (p + 1074).toNat : Nat) : Int) := U_abs h

theorem P_split {k a : Nat} (h : k + a = 1074) : P = ((2 ^ k : Nat) : Int) * ((2 ^ a : Nat) : Int) := by
  unfold P
  rw [← h, Nat.pow_add, Int.natCast_mul]

theorem word_zero (s : Bool) : Whole s 0 (if s then 9223372036854775808 else 0) := by
  have := whole_small s (M := 0) (by omega)
  cases s
  · exact this
  · exact this

theorem word_one (s : Bool) : Whole s 1 ((if s then 9223372036854775808 else 0) + 4607182418800017408) := by
  have h := U_rung s (a := 1022) (m := 4503599627370496) (by omega) (by omega) (by omega)
  rw [word_val] at h
  rw [show 1022 * 4503599627370496 + 4503599627370496 = 4607182418800017408 by decide] at h
  refine whole_of_U h.2.2 h.2.1 (by omega) (by omega) ?_
  rw [h.1, ← signed_P]
  unfold signed
  have up : ∀ a b : Nat, b = 52 + a → 4503599627370496 <<< a = 1 <<< b := fun a b h => by
    rw [h, Nat.shiftLeft_eq, Nat.shiftLeft_eq, Nat.pow_add, Nat.one_mul]
  rw [up 1022 1074 (by omega)]

/-- what the exponent says -/
theorem exp_parts {x : Nat} (hx : x < 18446744073709551616) (fx : fin x = true) : ∃ (m a : Nat), double.read x = .number (decide (9223372036854775808 ≤ x)) m ((a : Int) - 1074) ∧ Canon m ((a : Int) - 1074) ∧ x = (if 9223372036854775808 ≤ x then 9223372036854775808 else 0) + (a * 4503599627370496 + m) ∧ (x / 4503599627370496 % 2048 = 0 → a = 0 ∧ m < 4503599627370496) ∧ (0 < x / 4503599627370496 % 2048 → x / 4503599627370496 % 2048 = a + 1 ∧ 4503599627370496 ≤ m) ∧ m < 9007199254740992 ∧ a ≤ 2045 := by
  obtain ⟨m, p, hr, hc, hp, he⟩ := read_canon hx fx
  have l1 := hc.lo
  have l2 := hc.hi
  have l3 := hc.norm
  refine ⟨m, (p + 1074).toNat, ?_, ?_, ?_, ?_, ?_, l2, by omega⟩
  · rw [hr]; congr 1; omega
  · rw [show (((p + 1074).toNat : Nat) : Int) - 1074 = p by omega]; exact hc
  · split <;> omega
  · intro h; constructor <;> omega
  · intro h; constructor <;> omega

theorem abs_a {x m a : Nat} {s : Bool} (h : double.read x = .number s m ((a : Int) - 1074)) : U x = if s then -((m : Int) * ((2 ^ a : Nat) : Int)) else ((m : Int) * ((2 ^ a : Nat) : Int)) := by
  rw [abs_of h, show ((a : Int) - 1074 + 1074).toNat = a by omega, Int.natCast_mul]

theorem pow_cast_le {a b : Nat} (h : a ≤ b) : ((2 ^ a : Nat) : Int) ≤ ((2 ^ b : Nat) : Int) := Int.ofNat_le.2 (Nat.pow_le_pow_right (by decide) h)
theorem pow_cast_pos (a : Nat) : 0 < ((2 ^ a : Nat) : Int) := Int.ofNat_lt.2 (Nat.two_pow_pos a)

/-- below a half -/
theorem round_none {x : Nat} (hx : x < 18446744073709551616) (fx : fin x = true) (he : x / 4503599627370496 % 2048 < 1022) : Rounded x (if 9223372036854775808 ≤ x then 9223372036854775808 else 0) 0 := by
  obtain ⟨m, a, hr, hc, hxe, e0, e1, hm, ha⟩ := exp_parts hx fx
  have ha' : a ≤ 1020 := by omega
  have hw := word_zero (decide (9223372036854775808 ≤ x))
  simp only [decide_eq_true_eq] at hw
  have hR := rounded_by (abs_a hr) hw (Int.mul_nonneg (Int.natCast_nonneg _) (Int.natCast_nonneg _)) (by
    have := Int.mul_nonneg (Int.natCast_nonneg m) (Int.natCast_nonneg (2 ^ a))
    have := P_pos
    simp only [Int.natCast_zero, Int.zero_mul]; omega) (by
    have h1 : (m : Int) * ((2 ^ a : Nat) : Int) < 9007199254740992 * ((2 ^ 1020 : Nat) : Int) := by
      have b1 := Int.mul_le_mul_of_nonneg_left (pow_cast_le ha') (Int.natCast_nonneg m)
      have b2 := Int.mul_lt_mul_of_pos_right (show (m : Int) < 9007199254740992 by omega) (pow_cast_pos 1020)
      omega
    have h2 := P_split (k := 54) (a := 1020) (by omega)
    have h3 : ((2 ^ 54 : Nat) : Int) = 18014398509481984 := by decide
    rw [h3] at h2
    rw [h2]
    generalize ((2 ^ 1020 : Nat) : Int) = Q at h1
    simp only [Int.natCast_zero, Int.zero_mul]
    omega)
  have hz : signed (decide (9223372036854775808 ≤ x)) 0 0 = 0 := by rw [signed_0]; simp
  rw [hz] at hR
  exact hR

/-- from a half on, below one -/
theorem round_one {x : Nat} (hx : x < 18446744073709551616) (fx : fin x = true) (he : x / 4503599627370496 % 2048 = 1022) : Rounded x ((if 9223372036854775808 ≤ x then 9223372036854775808 else 0) + 4607182418800017408) (if 9223372036854775808 ≤ x then -1 else 1) := by
  obtain ⟨m, a, hr, hc, hxe, e0, e1, hm, ha⟩ := exp_parts hx fx
  have h52 := (e1 (by omega)).2
  have ha' : a = 1021 := by have := (e1 (by omega)).1; omega
  subst ha'
  have hw := word_one (decide (9223372036854775808 ≤ x))
  simp only [decide_eq_true_eq] at hw
  have h2 := P_split (k := 53) (a := 1021) (by omega)
  have h3 : ((2 ^ 53 : Nat) : Int) = 9007199254740992 := by decide
  rw [h3] at h2
  have b1 := Int.mul_lt_mul_of_pos_right (show (m : Int) < 9007199254740992 by omega) (pow_cast_pos 1021)
  have b2 := Int.mul_le_mul_of_nonneg_right (show (4503599627370496 : Int) ≤ m by omega) (Int.natCast_nonneg (2 ^ 1021))
  have b3 := pow_cast_pos 1021
  have hR := rounded_by (abs_a hr) hw (Int.mul_nonneg (Int.natCast_nonneg _) (Int.natCast_nonneg _)) (by
    rw [h2]; generalize ((2 ^ 1021 : Nat) : Int) = Q at *
    simp only [Int.natCast_one, Int.one_mul]; omega) (by
    rw [h2]; generalize ((2 ^ 1021 : Nat) : Int) = Q at *
    simp only [Int.natCast_one, Int.one_mul]; omega)
  have hz : signed (decide (9223372036854775808 ≤ x)) 1 0 = if 9223372036854775808 ≤ x then -1 else 1 := by rw [signed_0]; simp
  rw [hz] at hR
  exact hR

/-- with a fraction -/
theorem round_mid {x k : Nat} (hx : x < 18446744073709551616) (fx : fin x = true) (h1 : 1 ≤ k) (h2 : k ≤ 52) (he : x / 4503599627370496 % 2048 = 1075 - k) : ∃ v, Rounded x ((x + 2 ^ (k - 1)) / 2 ^ k * 2 ^ k) v := by
  obtain ⟨m, a, hr, hc, hxe, e0, e1, hm, ha⟩ := exp_parts hx fx
  have h52 := (e1 (by omega)).2
  have ha' : k + a = 1074 := by have := (e1 (by omega)).1; omega
  have hk2 : 2 ^ k = 2 * 2 ^ (k - 1) := by rw [show k = k - 1 + 1 by omega, Nat.pow_succ]; simp; omega
  have d52 : (4503599627370496 : Nat) = 2 ^ (52 - k) * 2 ^ k := by rw [← Nat.pow_add, show 52 - k + k = 52 by omega]
  have d53 : (9007199254740992 : Nat) = 2 ^ (53 - k) * 2 ^ k := by rw [← Nat.pow_add, show 53 - k + k = 53 by omega]
  have d63 : (9223372036854775808 : Nat) = 2 ^ (63 - k) * 2 ^ k := by rw [← Nat.pow_add, show 63 - k + k = 63 by omega]
  have hpos := Nat.two_pow_pos k
  generalize hN : (m + 2 ^ (k - 1)) / 2 ^ k = N
  have n1 : N * 2 ^ k ≤ m + 2 ^ (k - 1) := by rw [← hN]; exact Nat.div_mul_le_self _ _
  have n2 : m + 2 ^ (k - 1) < (N + 1) * 2 ^ k := by rw [← hN, Nat.mul_comm]; exact Nat.lt_mul_div_succ _ hpos
  have n3 : 4503599627370496 ≤ N * 2 ^ k := by
    rw [d52]
    refine Nat.mul_le_mul_right _ ?_
    rw [← hN]
    refine (Nat.le_div_iff_mul_le hpos).2 ?_
    rw [← d52]; omega
  have n4 : N * 2 ^ k ≤ 9007199254740992 := by
    rw [d53]
    refine Nat.mul_le_mul_right _ ?_
    have : N * 2 ^ k < (2 ^ (53 - k) + 1) * 2 ^ k := by
      rw [Nat.add_mul, ← d53, Nat.one_mul]; omega
    have := Nat.lt_of_mul_lt_mul_right this
    omega
  have hz : (x + 2 ^ (k - 1)) / 2 ^ k * 2 ^ k = (if 9223372036854775808 ≤ x then 9223372036854775808 else 0) + (a * 4503599627370496 + N * 2 ^ k) := by
    have hc0 : ∃ c : Nat, x + 2 ^ (k - 1) = c * 2 ^ k + (m + 2 ^ (k - 1)) ∧ (if 9223372036854775808 ≤ x then 9223372036854775808 else 0) + a * 4503599627370496 = c * 2 ^ k := by
      by_cases hs : 9223372036854775808 ≤ x
      · rw [if_pos hs] at hxe ⊢
        refine ⟨2 ^ (63 - k) + a * 2 ^ (52 - k), ?_, ?_⟩
        · rw [Nat.add_mul, ← d63, Nat.mul_assoc, ← d52]; omega
        · rw [Nat.add_mul, ← d63, Nat.mul_assoc, ← d52]
      · rw [if_neg hs] at hxe ⊢
        refine ⟨a * 2 ^ (52 - k), ?_, ?_⟩
        · rw [Nat.mul_assoc, ← d52]; omega
        · rw [Nat.mul_assoc, ← d52]; omega
    obtain ⟨c, hc1, hc2⟩ := hc0
    rw [hc1, Nat.mul_comm c, Nat.mul_add_div hpos, hN, Nat.add_mul]
    omega
  have hu := U_rung (decide (9223372036854775808 ≤ x)) (a := a) (m := N * 2 ^ k) (by omega) n3 n4
  rw [word_val] at hu
  simp only [decide_eq_true_eq] at hu
  rw [← hz] at hu
  have hW : Whole (decide (9223372036854775808 ≤ x)) N ((x + 2 ^ (k - 1)) / 2 ^ k * 2 ^ k) := by
    have N0 : 0 < N := by rcases Nat.eq_zero_or_pos N with h | h; (subst h; omega); exact h
    refine whole_of_U hu.2.2 hu.2.1 N0 ?_ ?_
    · have : N ≤ N * 2 ^ k := Nat.le_mul_of_pos_right _ hpos
      omega
    · rw [hu.1, ← signed_P]
      unfold signed
      rw [Nat.shiftLeft_eq, Nat.shiftLeft_eq, Nat.mul_assoc, ← Nat.pow_add, ha']
  refine ⟨_, rounded_by (abs_a hr) hW (Int.mul_nonneg (Int.natCast_nonneg _) (Int.natCast_nonneg _)) ?_ ?_⟩
  all_goals
    rw [P_split ha', ← Int.mul_assoc (N : Int)]
    have q0 := pow_cast_pos a
    have c1 : (N : Int) * ((2 ^ k : Nat) : Int) = ((N * 2 ^ k : Nat) : Int) := (Int.natCast_mul _ _).symm
    rw [c1]
    have i1 := Int.ofNat_le.2 n1
    have i2 := Int.ofNat_lt.2 n2
    rw [Nat.add_mul, Nat.one_mul] at i2
    have hk3 : ((2 ^ k : Nat) : Int) = 2 * ((2 ^ (k - 1) : Nat) : Int) := by rw [hk2]; exact Int.natCast_mul _ _
    rw [hk3]
    have hh : ((2 ^ k : Nat) : Int) = 2 * ((2 ^ (k - 1) : Nat) : Int) := hk3
    generalize ((2 ^ a : Nat) : Int) = Q at q0
    have e1 : 2 * ((m : Int) * Q) = (2 * (m : Int)) * Q := (Int.mul_assoc _ _ _).symm
    have e2 : 2 * (((N * 2 ^ k : Nat) : Int) * Q) = (2 * ((N * 2 ^ k : Nat) : Int)) * Q := (Int.mul_assoc _ _ _).symm
    rw [e1, e2, ← Int.add_mul]
    first
      | refine Int.mul_le_mul_of_nonneg_right ?_ (Int.le_of_lt q0); omega
      | refine Int.mul_lt_mul_of_pos_right ?_ q0; omega

/-- without one -/
theorem round_self {x : Nat} (hx : x < 18446744073709551616) (fx : fin x = true) (he : 1075 ≤ x / 4503599627370496 % 2048) : ∃ v, Rounded x x v := by
  obtain ⟨m, p, hr, hc, hp, he2⟩ := read_canon hx fx
  have l1 := hc.lo
  have l2 := hc.hi
  have l3 := hc.norm
  have p0 : 0 ≤ p := by omega
  have hw := whole_self hx fx hr hc he2 p0
  have hU : U x = _ := hw.U
  have hP := P_pos
  refine ⟨_, hw.made, fun _ => ?_, fun _ => ?_⟩ <;> rw [hU] <;> omega
end Go.Proofs.YtgljglindgbjaaaGreatDoor.Flt


/- Plain facts on binary floats of 64 bits: a sign turned; where floors, ceilings, truncations and roundings of one float lie to each other. -/
namespace Go.Proofs.YtgljglindgbjaaaGreatDoor.Flt
open Ieee

theorem xor_top_mod (u : Nat) : (u ^^^ 9223372036854775808) % 9223372036854775808 = u % 9223372036854775808 := by
  have := Nat.xor_mod_two_pow (a := u) (b := 9223372036854775808) (n := 63)
  rw [show (2 : Nat) ^ 63 = 9223372036854775808 from rfl, show 9223372036854775808 % 9223372036854775808 = 0 from rfl, Nat.xor_zero] at this
  exact this

theorem xor_top_val {x : Nat} (hx : x < 18446744073709551616) : x ^^^ 9223372036854775808 = if 9223372036854775808 ≤ x then x - 9223372036854775808 else x + 9223372036854775808 := by
  have h1 := xor_top_mod x
  have h2 := Nat.xor_div_two_pow (a := x) (b := 9223372036854775808) (n := 63)
  rw [show (2 : Nat) ^ 63 = 9223372036854775808 from rfl, show 9223372036854775808 / 9223372036854775808 = 1 from rfl] at h2
  have hd : x / 9223372036854775808 = 0 ∨ x / 9223372036854775808 = 1 := by omega
  generalize x ^^^ 9223372036854775808 = y at *
  rcases hd with h | h
  · rw [h] at h2
    rw [if_neg (by omega)]
    have : (0 : Nat) ^^^ 1 = 1 := by decide
    omega
  · rw [h] at h2
    rw [if_pos (by omega)]
    have : (1 : Nat) ^^^ 1 = 0 := by decide
    omega

theorem U_turn {x y : Nat} (hx : x < 18446744073709551616) (fx : fin x = true) (hy : y < 18446744073709551616) (hm : y % 9223372036854775808 = x % 9223372036854775808) (hs : 9223372036854775808 ≤ y ↔ ¬ 9223372036854775808 ≤ x) : fin y = true ∧ U y = -U x := by
  have fy : fin y = true := by unfold fin at fx ⊢; rw [hm]; exact fx
  refine ⟨fy, ?_⟩
  obtain ⟨m, p, hr, hc, hp, he⟩ := read_canon hx fx
  obtain ⟨n, q, hr', hc', hp', he'⟩ := read_canon hy fy
  have l1 := hc.lo
  have l2 := hc.hi
  have l3 := hc.norm
  have k1 := hc'.lo
  have k2 := hc'.hi
  have k3 := hc'.norm
  have em : n = m := by omega
  have ep : q = p := by omega
  subst em ep
  rw [U_abs hr, U_abs hr']
  by_cases h : 9223372036854775808 ≤ x
  · rw [decide_eq_true h, decide_eq_false (by omega)]; simp
  · rw [decide_eq_false h, decide_eq_true (by omega)]; simp

theorem U_xor {x : Nat} (hx : x < 18446744073709551616) (fx : fin x = true) : x ^^^ 9223372036854775808 < 18446744073709551616 ∧ fin (x ^^^ 9223372036854775808) = true ∧ U (x ^^^ 9223372036854775808) = -U x := by
  have hl : x ^^^ 9223372036854775808 < 18446744073709551616 := Nat.xor_lt_two_pow (n := 64) hx (by decide)
  refine ⟨hl, U_turn hx fx hl (xor_top_mod x) ?_⟩
  rw [xor_top_val hx]
  split <;> omega

/-- a float with a fraction is small -/
theorem frac_small {x : Nat} (hx : x < 18446744073709551616) (fx : fin x = true) : (∃ t : Int, U x = t * P) ∨ (-(9007199254740992 * P) < U x ∧ U x < 9007199254740992 * P) := by
  obtain ⟨m, p, hr, hc, hp, he⟩ := read_canon hx fx
  have lo := hc.lo
  rcases Int.lt_or_le p 0 with h | h
  · right
    have hU := U_abs hr
    have b1 : ((m * 2 ^ (p + 1074).toNat : Nat) : Int) < 9007199254740992 * P := by
      have h1 : ((2 ^ (p + 1074).toNat : Nat) : Int) ≤ P := by
        unfold P
        generalize hK : (1074 : Nat) = K
        exact pow_cast_le (by omega)
      have h2 := Int.mul_le_mul_of_nonneg_left h1 (Int.natCast_nonneg m)
      have h3 := Int.mul_lt_mul_of_pos_right (show (m : Int) < 9007199254740992 by have := hc.hi; omega) P_pos
      rw [Int.natCast_mul]
      omega
    have b0 : 0 ≤ ((m * 2 ^ (p + 1074).toNat : Nat) : Int) := Int.natCast_nonneg _
    generalize ((m * 2 ^ (p + 1074).toNat : Nat) : Int) = V at *
    rw [hU]
    have hP := P_pos
    split <;> omega
  · left
    exact ⟨_, (whole_self hx fx hr hc he h).U⟩

/-- how a float's floor f, ceiling c, truncation t, rounding r lie -/
structure Lies (V f c t r : Int) : Prop where
  fc : f ≤ c
  cf : c ≤ f + 1
  ft : f ≤ t
  tc : t ≤ c
  rr : r = f ∨ r = c
  vf : f * P ≤ V
  vc : V ≤ c * P
  eq : f = c ↔ V = f * P
  pos : 0 ≤ V → t = f
  neg : V < 0 → t = c

theorem lies {x z : Nat} {f c t r : Int} (h1 : f * P ≤ U x) (h2 : U x < (f + 1) * P) (h3 : U x ≤ c * P) (h4 : (c - 1) * P < U x) (h5 : 0 ≤ U x → t = f) (h6 : U x < 0 → t = c) (hr : Rounded x z r) : Lies (U x) f c t r := by
  have hP := P_pos
  have fc : f ≤ c := leP (Int.le_trans h1 h3)
  have cf : c ≤ f + 1 := by
    have := ltP (Int.lt_trans h4 h2)
    omega
  have a1 : (f + 1) * P = f * P + P := by rw [Int.add_mul, Int.one_mul]
  have a2 : (c - 1) * P = c * P - P := by rw [Int.sub_mul, Int.one_mul]
  have eq : f = c ↔ U x = f * P := by
    constructor
    · intro h; subst h; omega
    · intro h
      rw [h] at h4
      have := ltP h4
      omega
  refine ⟨fc, cf, ?_, ?_, ?_, h1, h3, eq, h5, h6⟩
  · rcases Int.lt_or_le (U x) 0 with h | h
    · have := h6 h; omega
    · have := h5 h; omega
  · rcases Int.lt_or_le (U x) 0 with h | h
    · have := h6 h; omega
    · have := h5 h; omega
  · have d1 : ∀ a : Int, (2 * a) * P = 2 * (a * P) := fun a => Int.mul_assoc _ _ _
    have d2 : ∀ a : Int, (2 * a + 1) * P = 2 * (a * P) + P := fun a => by rw [Int.add_mul, Int.one_mul, d1]
    have d3 : ∀ a : Int, (2 * a - 1) * P = 2 * (a * P) - P := fun a => by rw [Int.sub_mul, Int.one_mul, d1]
    rcases Int.lt_or_le (U x) 0 with h | h
    · obtain ⟨r1, r2⟩ := hr.down h
      have e1 : (2 * r - 1) * P < (2 * f + 2) * P := by rw [d3, show (2 * f + 2 : Int) = 2 * (f + 1) by omega, d1]; omega
      have e2 : (2 * f) * P ≤ (2 * r + 1) * P := by rw [d1, d2]; omega
      have e3 : (2 * c - 2) * P < (2 * r + 1) * P := by rw [show (2 * c - 2 : Int) = 2 * (c - 1) by omega, d1, d2]; omega
      have e4 : (2 * r - 1) * P < (2 * c) * P := by rw [d1, d3]; omega
      have e1' := ltP e1
      have e2' := leP e2
      have e3' := ltP e3
      have e4' := ltP e4
      omega
    · obtain ⟨r1, r2⟩ := hr.up h
      have e1 : (2 * r - 1) * P < (2 * f + 2) * P := by rw [d3, show (2 * f + 2 : Int) = 2 * (f + 1) by omega, d1]; omega
      have e2 : (2 * f) * P < (2 * r + 1) * P := by rw [d1, d2]; omega
      have e3 : (2 * c - 2) * P < (2 * r + 1) * P := by rw [show (2 * c - 2 : Int) = 2 * (c - 1) by omega, d1, d2]; omega
      have e4 : (2 * r - 1) * P ≤ (2 * c) * P := by rw [d1, d3]; omega
      have e1' := ltP e1
      have e2' := ltP e2
      have e3' := ltP e3
      have e4' := leP e4
      omega

/-- a floor or a ceiling that is no whole number of 60 bits -/
theorem beyond {x : Nat} {f c : Int} (hx : x < 18446744073709551616) (fx : fin x = true) (h1 : f * P ≤ U x) (h2 : U x < (f + 1) * P) (h3 : U x ≤ c * P) (h4 : (c - 1) * P < U x)
    (hb : f < -576460752303423488 ∨ 576460752303423487 < f ∨ c < -576460752303423488 ∨ 576460752303423487 < c) : 576460752303423488 * P ≤ U x ∨ U x ≤ -(576460752303423488 * P) := by
  have hP := P_pos
  have m1 : -576460752303423488 * P = -(576460752303423488 * P) := Int.neg_mul _ _
  rcases hb with h | h | h | h
  · right
    have := mulP_le (show f + 1 ≤ -576460752303423488 by omega)
    omega
  · left
    have := mulP_le (show 576460752303423488 ≤ f by omega)
    omega
  · right
    have := mulP_le (show c ≤ -576460752303423488 by omega)
    omega
  · left
    rcases frac_small hx fx with ⟨t, ht⟩ | ⟨_, hs⟩
    · rw [ht] at h3 h4 ⊢
      have e1 := leP h3
      have e2 := ltP h4
      exact mulP_le (by omega)
    · exfalso
      have := mulP_le (show 9007199254740992 ≤ c - 1 by omega)
      omega
end Go.Proofs.YtgljglindgbjaaaGreatDoor.Flt


