import Derived.Test.YtgljglindgbjaaaGreatDoorG10
/- Plain facts on binary floats of 64 bits: a difference lies to nothing as its parts lie to each other; a float made whole. -/
namespace Go.Proofs.YtgljglindgbjaaaGreatDoor.Flt
open Ieee

theorem nearest_pos (neg : Bool) {n : Nat} (h : n ≠ 0) {e : Int} (he : -1074 ≤ e) : ∃ r, 0 < r ∧ r ≤ 9218868437227405312 ∧ double.nearest neg n e = double.word neg r := by
  unfold Format.nearest
  simp only [bn, ir, lp]
  rw [if_neg h]
  refine ⟨_, ?_, Nat.min_le_right _ _, rfl⟩
  generalize hl : max (e + (n.log2 : Int) - (double.fractionBits : Int)) (-1074) = last
  by_cases hlast : last = -1074
  · subst hlast
    have e2 : ((-1074 : Int) - e).toNat = 0 := by omega
    rw [e2]
    have hc := cut_even_exact neg (n <<< (e - -1074).toNat) 0
    rw [Nat.pow_zero, Nat.mul_one] at hc
    rw [hc]
    have : 0 < n <<< (e - -1074).toNat := by rw [Nat.shiftLeft_eq]; exact Nat.mul_pos (by omega) (Nat.two_pow_pos _)
    omega
  · have : -1074 < last := by omega
    omega

theorem signed_not (s : Bool) (m k : Nat) : signed (!s) m k = -signed s m k := by cases s <;> simp [signed]

theorem sub_order {x y : Nat} (hx : x < 18446744073709551616) (hy : y < 18446744073709551616) (fx : fin x = true) (fy : fin y = true) : ∃ z, double.sub x y = some z ∧ double.order z 0 = double.order x y := by
  obtain ⟨m, p, hr, hc, hp, he⟩ := read_canon hx fx
  obtain ⟨n, q, hr', hc', hp', he'⟩ := read_canon hy fy
  generalize decide (9223372036854775808 ≤ x) = s at hr
  generalize decide (9223372036854775808 ≤ y) = t at hr'
  have l1 := hc.lo
  have l2 := hc'.lo
  have ho : double.order x y = some (compare (unit s m p) (unit t n q)) := by
    unfold Format.order; rw [hr, hr', order_unit _ _ _ _ l1 l2]
  have e1 : (p + 1074).toNat = (p - min p q).toNat + (min p q + 1074).toNat := by omega
  have e2 : (q + 1074).toNat = (q - min p q).toNat + (min p q + 1074).toNat := by omega
  rw [ho]
  unfold unit
  rw [e1, e2, signed_up, signed_up, compare_mul (by have := Nat.two_pow_pos (min p q + 1074).toNat; omega)]
  unfold Format.sub
  rw [hr, hr']
  simp only [Datum.opposite, Datum.sum, Option.map_some, Format.write]
  refine ⟨_, rfl, ?_⟩
  rw [signed_not]
  generalize signed s m (p - min p q).toNat = a
  generalize signed t n (q - min p q).toNat = b
  have hb : -1074 ≤ min p q := by omega
  generalize min p q = base at hb
  rcases Int.lt_trichotomy a b with h | h | h
  · obtain ⟨r, h0, h1, hn⟩ := nearest_pos (if a + -b = 0 then s && !t else decide (a + -b < 0)) (n := (a + -b).natAbs) (by omega) hb
    have hs : (if a + -b = 0 then s && !t else decide (a + -b < 0)) = true := by rw [if_neg (by omega)]; exact decide_eq_true (by omega)
    rw [hs] at hn ⊢
    rw [hn, order_word_zero _ h0 h1, Int.compare_eq_lt.2 h]
    rfl
  · subst h
    have h0 : a + -a = 0 := by omega
    rw [h0]
    have : double.nearest (if (0 : Int) = 0 then s && !t else decide ((0 : Int) < 0)) (Int.natAbs 0) base = double.word (s && !t) 0 := by
      unfold Format.nearest; simp
    rw [this, word_val]
    simp only [Std.ReflCmp.compare_self]
    cases (s && !t) <;> decide
  · obtain ⟨r, h0, h1, hn⟩ := nearest_pos (if a + -b = 0 then s && !t else decide (a + -b < 0)) (n := (a + -b).natAbs) (by omega) hb
    have hs : (if a + -b = 0 then s && !t else decide (a + -b < 0)) = false := by rw [if_neg (by omega)]; exact decide_eq_false (by omega)
    rw [hs] at hn ⊢
    rw [hn, order_word_zero _ h0 h1, Int.compare_eq_gt.2 h]
    rfl

theorem cut_zero (s : Bool) (n d : Nat) : Toward.zero.cut s n d = n / 2 ^ d := by
  unfold Toward.cut
  simp only [Nat.one_shiftLeft, Bool.toNat_false, Nat.add_zero]
  rcases Nat.le_total d (n.log2 + 2) with h | h
  · rw [Nat.min_eq_left h]
  · rw [Nat.min_eq_right h]
    have hlt : n < 2 ^ (n.log2 + 2) := by
      by_cases h0 : n = 0
      · subst h0; exact Nat.two_pow_pos _
      · exact Nat.lt_trans (log2_bounds h0).2 (Nat.pow_lt_pow_right (by decide) (by omega))
    rw [Nat.div_eq_of_lt hlt, Nat.div_eq_of_lt (Nat.lt_of_lt_of_le hlt (Nat.pow_le_pow_right (by decide) h))]

/-- z is the whole number M, of the sign s -/
structure Whole (s : Bool) (M z : Nat) : Prop where
  lt : z < 18446744073709551616
  fin : fin z = true
  near : double.nearest s M 0 = z
  read : ∃ m p, double.read z = .number s m p ∧ -1074 ≤ p ∧ m * 2 ^ (p + 1074).toNat = M * 2 ^ 1074

theorem Whole.toInt {s : Bool} {M z : Nat} (h : Whole s M z) : (double.read z).toInt .zero = some (signed s M 0) := by
  obtain ⟨m, p, hr, lo, he⟩ := h.read
  rw [hr]
  unfold Datum.toInt Datum.integral
  simp only [Option.some.injEq, cut_zero, Nat.shiftLeft_eq]
  have : m * 2 ^ p.toNat / 2 ^ (-p).toNat = M := by
    rcases Int.le_total 0 p with hp | hp
    · rw [show (-p).toNat = 0 by omega, Nat.pow_zero, Nat.div_one]
      rw [show (p + 1074).toNat = p.toNat + 1074 by omega, Nat.pow_add, ← Nat.mul_assoc] at he
      exact Nat.eq_of_mul_eq_mul_right (Nat.two_pow_pos 1074) he
    · rw [show p.toNat = 0 by omega, Nat.pow_zero, Nat.mul_one]
      rw [show 1074 = (-p).toNat + (p + 1074).toNat by omega, Nat.pow_add, ← Nat.mul_assoc] at he
      have he2 : m = M * 2 ^ (-p).toNat := by
        refine Nat.eq_of_mul_eq_mul_right (Nat.two_pow_pos (p + 1074).toNat) ?_
        rw [← he]
      rw [he2, Nat.mul_div_cancel _ (Nat.two_pow_pos _)]
  rw [this]
end Go.Proofs.YtgljglindgbjaaaGreatDoor.Flt


/- Plain facts on binary floats of 64 bits: a float made whole. -/
namespace Go.Proofs.YtgljglindgbjaaaGreatDoor.Flt
open Ieee

theorem lift52 {M m a b c d : Nat} (hb : b = a + c) (hd : d = 52 + c) (h : M * 2 ^ 52 = m * 2 ^ a) : m * 2 ^ b = M * 2 ^ d := by
  rw [hb, hd, Nat.pow_add, ← Nat.mul_assoc, ← h, Nat.mul_assoc, ← Nat.pow_add]

theorem whole_small (s : Bool) {M : Nat} (h : M ≤ 9007199254740992) : Whole s M (double.nearest s M 0) := by
  by_cases h0 : M = 0
  · subst h0
    cases s
    · exact ⟨by decide, by decide, rfl, 0, -1074, by decide, by decide, by generalize (2 : Nat) ^ 1074 = P; simp⟩
    · exact ⟨by decide, by decide, rfl, 0, -1074, by decide, by decide, by generalize (2 : Nat) ^ 1074 = P; simp⟩
  · obtain ⟨m, p, hc, hm, hp, hn, hv, hp2⟩ := nearest_small s h0 h
    have hi := hc.hi
    have hr := read_word s hc hm (by omega)
    rw [← hn] at hr
    rw [word_val] at hn
    refine ⟨?_, ?_, rfl, m, p, hr, hc.lo, ?_⟩
    · rw [hn]; cases s <;> simp <;> omega
    · rw [hn]; simp only [fin, decide_eq_true_eq]; cases s <;> simp <;> omega
    · have hv2 : M * 2 ^ 52 = m * 2 ^ (p + 52).toNat := by exact_mod_cast hv
      generalize hK : (1074 : Nat) = K
      exact lift52 (c := 1022) (by omega) (by omega) hv2

theorem whole_self {x : Nat} (hx : x < 18446744073709551616) (fx : fin x = true) {m : Nat} {p : Int} (hr : double.read x = .number (decide (9223372036854775808 ≤ x)) m p) (hc : Canon m p) (he : x % 9223372036854775808 = (p + 1074).toNat * 4503599627370496 + m) (hp : 0 ≤ p) : Whole (decide (9223372036854775808 ≤ x)) (m * 2 ^ p.toNat) x := by
  have hw := write_read hx hc he fx p.toNat
  rw [show p - (p.toNat : Int) = 0 by omega] at hw
  refine ⟨hx, fx, hw, m, p, hr, hc.lo, ?_⟩
  rw [show (p + 1074).toNat = p.toNat + 1074 by omega, Nat.pow_add, ← Nat.mul_assoc]

/-- a float's whole part -/
theorem whole_part {x : Nat} (hx : x < 18446744073709551616) (fx : fin x = true) : ∃ s m p M, double.read x = .number s m p ∧ -1074 ≤ p ∧ (double.read x).integral .zero = .number s M 0 ∧ (double.read x).toInt .zero = some (signed s M 0) ∧ Whole s M (double.nearest s M 0) ∧ M * 2 ^ 1074 ≤ m * 2 ^ (p + 1074).toNat := by
  obtain ⟨m, p, hr, hc, hp, he⟩ := read_canon hx fx
  have lo := hc.lo
  have hi := hc.hi
  refine ⟨_, m, p, m * 2 ^ p.toNat / 2 ^ (-p).toNat, hr, lo, ?_, ?_, ?_, ?_⟩
  · rw [hr]; simp only [Datum.integral, cut_zero, Nat.shiftLeft_eq]
  · rw [hr]; simp only [Datum.toInt, Datum.integral, cut_zero, Nat.shiftLeft_eq]
  · rcases Int.le_total 0 p with h | h
    · rw [show (-p).toNat = 0 by omega, Nat.pow_zero, Nat.div_one]
      have hw := whole_self hx fx hr hc he h
      rw [hw.near]; exact hw
    · rw [show p.toNat = 0 by omega, Nat.pow_zero, Nat.mul_one]
      exact whole_small _ (Nat.le_trans (Nat.div_le_self _ _) (by omega))
  · rcases Int.le_total 0 p with h | h
    · rw [show (-p).toNat = 0 by omega, Nat.pow_zero, Nat.div_one, show (p + 1074).toNat = p.toNat + 1074 by omega, Nat.pow_add, ← Nat.mul_assoc]
      exact Nat.le_refl _
    · rw [show p.toNat = 0 by omega, Nat.pow_zero, Nat.mul_one]
      have hpw : (2 : Nat) ^ 1074 = 2 ^ (-p).toNat * 2 ^ (p + 1074).toNat := by rw [← Nat.pow_add]; congr 1; omega
      rw [hpw, ← Nat.mul_assoc]
      exact Nat.mul_le_mul_right _ (Nat.div_mul_le_self _ _)

theorem unit_whole {s : Bool} {m M : Nat} {p : Int} (h : m * 2 ^ (p + 1074).toNat = M * 2 ^ 1074) : unit s m p = signed s M 1074 := by
  unfold unit signed
  rw [Nat.shiftLeft_eq, Nat.shiftLeft_eq, h]

theorem order_whole {x z : Nat} {s t : Bool} {m M : Nat} {p : Int} (hr : double.read x = .number s m p) (lo : -1074 ≤ p) (hz : Whole t M z) : double.order x z = some (compare (unit s m p) (signed t M 1074)) ∧ double.order z x = some (compare (signed t M 1074) (unit s m p)) := by
  obtain ⟨m', p', hr', lo', he⟩ := hz.read
  unfold Format.order
  rw [hr, hr', order_unit _ _ _ _ lo lo', order_unit _ _ _ _ lo' lo, unit_whole he]
  exact ⟨rfl, rfl⟩

end Go.Proofs.YtgljglindgbjaaaGreatDoor.Flt


/- Plain facts on binary floats of 64 bits: a finite float's value in units of 2^-1074; unlike floats of one value are the zeros; a whole number against a float's value. -/
namespace Go.Proofs.YtgljglindgbjaaaGreatDoor.Flt
open Ieee

def ordI : Ordering → Int
  | .lt => -1
  | .eq => 0
  | .gt => 1

/-- what Exact tells where the float's whole part is v, and o how the float lies to it -/
def exactV (v n : Int) (o : Ordering) : Int := if v < n then -1 else if n < v then 1 else ordI o

/-- a float's value in units of 2^-1074 -/
def U (x : Nat) : Int := match double.read x with
  | .number s m p => unit s m p
  | _ => 0

theorem U_of {x : Nat} {s : Bool} {m : Nat} {p : Int} (h : double.read x = .number s m p) : U x = unit s m p := by unfold U; rw [h]

theorem U_zero : U 0 = 0 := by
  have hz : double.read 0 = .number false 0 (-1074) := by decide
  rw [U_of hz]; simp [unit, signed]

theorem order_U {x y : Nat} (hx : x < 18446744073709551616) (hy : y < 18446744073709551616) (fx : fin x = true) (fy : fin y = true) : double.order x y = some (compare (U x) (U y)) := by
  obtain ⟨m, p, hr, hc, hp, he⟩ := read_canon hx fx
  obtain ⟨n, q, hr', hc', hp', he'⟩ := read_canon hy fy
  rw [U_of hr, U_of hr']
  unfold Format.order
  rw [hr, hr', order_unit _ _ _ _ hc.lo hc'.lo]

theorem canon_le {m n : Nat} {p q : Int} (hc : Canon m p) (hd : Canon n q) (h : m * 2 ^ (p + 1074).toNat = n * 2 ^ (q + 1074).toNat) (h0 : 0 < m) : q ≤ p := by
  rcases Int.lt_or_le p q with hlt | hle
  · exfalso
    have l1 := hc.lo
    have e : (q + 1074).toNat = (q - p).toNat + (p + 1074).toNat := by omega
    rw [e, Nat.pow_add, ← Nat.mul_assoc] at h
    have h2 := Nat.eq_of_mul_eq_mul_right (Nat.two_pow_pos _) h
    have hn : 4503599627370496 ≤ n := by have := hd.norm; omega
    have e2 : (q - p).toNat = (q - p).toNat - 1 + 1 := by omega
    rw [e2, Nat.pow_succ, ← Nat.mul_assoc] at h2
    have h3 : n ≤ n * 2 ^ ((q - p).toNat - 1) := Nat.le_mul_of_pos_right _ (Nat.two_pow_pos _)
    have := hc.hi
    omega
  · exact hle

theorem canon_inj {m n : Nat} {p q : Int} (hc : Canon m p) (hd : Canon n q) (h : m * 2 ^ (p + 1074).toNat = n * 2 ^ (q + 1074).toNat) (h0 : 0 < m) : m = n ∧ p = q := by
  have a := canon_le hc hd h h0
  have h1 : 0 < n := by
    rcases Nat.eq_zero_or_pos n with e | e
    · subst e
      rw [Nat.zero_mul] at h
      have := Nat.mul_pos h0 (Nat.two_pow_pos (p + 1074).toNat)
      omega
    · exact e
  have b := canon_le hd hc h.symm h1
  have e : p = q := by omega
  subst e
  exact ⟨Nat.eq_of_mul_eq_mul_right (Nat.two_pow_pos _) h, rfl⟩

/-- unlike floats of one value: both are nothing -/
theorem U_inj {x y : Nat} (hx : x < 18446744073709551616) (hy : y < 18446744073709551616) (fx : fin x = true) (fy : fin y = true) (h : U x = U y) (hne : x ≠ y) : U x = 0 := by
  obtain ⟨m, p, hr, hc, hp, he⟩ := read_canon hx fx
  obtain ⟨n, q, hr', hc', hp', he'⟩ := read_canon hy fy
  rw [U_of hr] at h ⊢
  rw [U_of hr'] at h
  rcases Nat.eq_zero_or_pos m with h0 | h0
  · subst h0; simp [unit, signed]
  · exfalso
    have hpos := Nat.mul_pos h0 (Nat.two_pow_pos (p + 1074).toNat)
    unfold unit signed at h
    simp only [Nat.shiftLeft_eq] at h
    by_cases hs : 9223372036854775808 ≤ x <;> by_cases ht : 9223372036854775808 ≤ y
    · rw [decide_eq_true hs, decide_eq_true ht] at h
      simp only [if_true] at h
      obtain ⟨e1, e2⟩ := canon_inj hc hc' (by omega) h0
      subst e1 e2
      omega
    · rw [decide_eq_true hs, decide_eq_false ht] at h
      simp only [if_true, Bool.false_eq_true, if_false] at h
      omega
    · rw [decide_eq_false hs, decide_eq_true ht] at h
      simp only [if_true, Bool.false_eq_true, if_false] at h
      omega
    · rw [decide_eq_false hs, decide_eq_false ht] at h
      simp only [Bool.false_eq_true, if_false] at h
      obtain ⟨e1, e2⟩ := canon_inj hc hc' (by omega) h0
      subst e1 e2
      omega

/-- a whole number in units -/
def P : Int := ((2 ^ 1074 : Nat) : Int)
theorem P_pos : 0 < P := by unfold P; have := Nat.two_pow_pos 1074; omega
theorem signed_P (s : Bool) (M : Nat) : signed s M 1074 = signed s M 0 * P := by
  have := signed_up s M 0 1074
  rw [Nat.zero_add] at this
  exact this

/-- a float's whole part, and that it is less than one below it -/
theorem part_bounds (m : Nat) {p : Int} (lo : -1074 ≤ p) : (m * 2 ^ p.toNat / 2 ^ (-p).toNat) * 2 ^ 1074 ≤ m * 2 ^ (p + 1074).toNat ∧ m * 2 ^ (p + 1074).toNat < (m * 2 ^ p.toNat / 2 ^ (-p).toNat + 1) * 2 ^ 1074 := by
  generalize hK : (1074 : Nat) = K
  rcases Int.le_total 0 p with hp | hp
  · have e : (p + 1074).toNat = p.toNat + K := by omega
    have e2 : (-p).toNat = 0 := by omega
    rw [e, e2, Nat.pow_zero, Nat.div_one, Nat.pow_add, ← Nat.mul_assoc]
    exact ⟨Nat.le_refl _, Nat.mul_lt_mul_of_pos_right (Nat.lt_succ_self _) (Nat.two_pow_pos _)⟩
  · have e : p.toNat = 0 := by omega
    have e2 : K = (-p).toNat + (p + 1074).toNat := by omega
    rw [e, Nat.pow_zero, Nat.mul_one, e2, Nat.pow_add, ← Nat.mul_assoc, ← Nat.mul_assoc]
    refine ⟨Nat.mul_le_mul_right _ (Nat.div_mul_le_self _ _), Nat.mul_lt_mul_of_pos_right ?_ (Nat.two_pow_pos _)⟩
    rw [Nat.mul_comm]
    exact Nat.lt_mul_div_succ _ (Nat.two_pow_pos _)

theorem toInt_part (s : Bool) (m : Nat) (p : Int) : (Datum.number s m p).toInt .zero = some (signed s (m * 2 ^ p.toNat / 2 ^ (-p).toNat) 0) := by
  unfold Datum.toInt Datum.integral
  simp only [cut_zero, Nat.shiftLeft_eq]

/-- where a float lies by its whole part, that is where it lies by its value -/
theorem exact_value {s : Bool} {m M : Nat} {p : Int} (n : Int) (h1 : M * 2 ^ 1074 ≤ m * 2 ^ (p + 1074).toNat) (h2 : m * 2 ^ (p + 1074).toNat < (M + 1) * 2 ^ 1074) :
    exactV (signed s M 0) n (compare (unit s m p) (signed s M 1074)) = ordI (compare (unit s m p) (n * P)) := by
  rw [signed_P]
  have hP := P_pos
  have e1 : ((M : Int) * P) ≤ ((m * 2 ^ (p + 1074).toNat : Nat) : Int) := by
    have := Int.ofNat_le.2 h1
    rw [Int.natCast_mul M] at this
    exact this
  have e2 : ((m * 2 ^ (p + 1074).toNat : Nat) : Int) < ((M : Int) + 1) * P := by
    have := Int.ofNat_lt.2 h2
    rw [Int.natCast_mul (M + 1), Int.natCast_add] at this
    exact this
  have eu : unit s m p = if s then -((m * 2 ^ (p + 1074).toNat : Nat) : Int) else ((m * 2 ^ (p + 1074).toNat : Nat) : Int) := by
    unfold unit signed; simp only [Nat.shiftLeft_eq]
  rw [eu]
  generalize ((m * 2 ^ (p + 1074).toNat : Nat) : Int) = V at e1 e2
  have ev : signed s M 0 = if s then -(M : Int) else (M : Int) := by unfold signed; simp only [Nat.shiftLeft_zero]
  rw [ev]
  generalize (M : Int) = N at e1 e2
  have mono : ∀ a b : Int, a ≤ b → a * P ≤ b * P := fun a b h => Int.mul_le_mul_of_nonneg_right h (Int.le_of_lt hP)
  unfold exactV
  have addP : (N + 1) * P = N * P + P := by rw [Int.add_mul, Int.one_mul]
  cases s
  · simp only [Bool.false_eq_true, if_false]
    rcases Int.lt_trichotomy N n with h | h | h
    · rw [if_pos h, Int.compare_eq_lt.2 (by have := mono (N + 1) n (by omega); omega)]; rfl
    · subst h; rw [if_neg (by omega), if_neg (by omega)]
    · rw [if_neg (by omega), if_pos h, Int.compare_eq_gt.2 (by have := mono (n + 1) N (by omega); rw [Int.add_mul, Int.one_mul] at this; omega)]; rfl
  · simp only [if_true]
    have negN : -N * P = -(N * P) := Int.neg_mul _ _
    rcases Int.lt_trichotomy (-N) n with h | h | h
    · rw [if_pos h, Int.compare_eq_lt.2 (by have := mono (-N + 1) n (by omega); rw [Int.add_mul, Int.one_mul, negN] at this; omega)]; rfl
    · subst h; rw [if_neg (by omega), if_neg (by omega)]
    · rw [if_neg (by omega), if_pos h, Int.compare_eq_gt.2 (by have := mono n (-N - 1) (by omega); rw [Int.sub_mul, Int.one_mul, negN] at this; omega)]; rfl
end Go.Proofs.YtgljglindgbjaaaGreatDoor.Flt


