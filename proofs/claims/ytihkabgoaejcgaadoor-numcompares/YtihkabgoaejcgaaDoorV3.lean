/- The document's nearest float is float64's own: the walks of V2 brought together. -/
import Derived.Test.YtihkabgoaejcgaaDoorV2
namespace Go.Proofs.YtihkabgoaejcgaaDoor
open Go.RowKit

theorem foi (n : Int) : floatOfInt .f64 n = Ieee.double.nearest (decide (n < 0)) n.natAbs 0 := rfl
theorem wrap_nat {a : Nat} (h : a < 18446744073709551616) : IntKind.u64.wrap (a : Int) = a := by rw [IntKind.wrap_u64]; omega

/-- the numbers on the way -/
theorem parts_of {u k : Nat} (hk2 : k ≤ 11) (hu : u ≤ 9223372036854775808) :
    (u : Int) / 2 ^ k = ((u / 2 ^ k : Nat) : Int) ∧ IntKind.u64.wrap (((u / 2 ^ k : Nat) : Int) * 2 ^ k) = ((u / 2 ^ k * 2 ^ k : Nat) : Int) ∧
    IntKind.u64.wrap ((u : Int) - ((u / 2 ^ k * 2 ^ k : Nat) : Int)) = ((u % 2 ^ k : Nat) : Int) ∧ IntKind.u64.wrap (2 ^ k) = ((2 ^ k : Nat) : Int) ∧
    ((2 ^ k : Nat) : Int) / 2 = ((2 ^ k / 2 : Nat) : Int) ∧ IntKind.u64.wrap (((u / 2 ^ k : Nat) : Int) + 1) = ((u / 2 ^ k + 1 : Nat) : Int) ∧
    (((u / 2 ^ k : Nat) : Int)).tmod 2 = ((u / 2 ^ k % 2 : Nat) : Int) := by
  have hm := Nat.div_add_mod u (2 ^ k)
  have hle : 2 ^ k ≤ 2048 := Nat.le_trans (Nat.pow_le_pow_right (by decide) hk2) (by decide)
  have ht : u / 2 ^ k ≤ u := Nat.div_le_self _ _
  have hs : u / 2 ^ k * 2 ^ k ≤ u := Nat.div_mul_le_self _ _
  rw [Nat.mul_comm] at hm
  refine ⟨by simp, ?_, ?_, ?_, by simp, ?_, ?_⟩
  · have := wrap_nat (a := u / 2 ^ k * 2 ^ k) (by omega)
    simpa using this
  · rw [show (u : Int) - ((u / 2 ^ k * 2 ^ k : Nat) : Int) = ((u % 2 ^ k : Nat) : Int) by omega]
    exact wrap_nat (by omega)
  · have := wrap_nat (a := 2 ^ k) (by omega)
    simpa using this
  · have := wrap_nat (a := u / 2 ^ k + 1) (by omega)
    simpa using this
  · rw [Int.tmod_eq_emod_of_nonneg (Int.natCast_nonneg _)]
    simp

theorem more_of {u k : Nat} (h : ∀ j, j < k → 9007199254740992 ≤ u / 2 ^ j) : Hid (∀ j : Nat, j < k → decide ((9007199254740992 : Int) ≤ (u : Int) / 2 ^ j) = true) := by
  show ∀ j : Nat, j < k → _
  intro j hj
  have := h j hj
  rw [show (u : Int) / 2 ^ j = ((u / 2 ^ j : Nat) : Int) by simp, decide_eq_true_eq]
  omega

theorem rungs_of {t : Nat} (h1 : 4503599627370496 ≤ t) (h2 : t ≤ 9007199254740992) : floatOfInt .f64 ((t : Nat) : Int) = (fun j => (1074 + j) * 4503599627370496 + t) 0 ∧ Hid (∀ j, j ≤ 11 → floatBits .mul .f64 ((fun j => (1074 + j) * 4503599627370496 + t) j) 4611686018427387904 = some ((fun j => (1074 + j) * 4503599627370496 + t) (j + 1))) := by
  refine ⟨?_, fun j hj => Flt.mul_two (by omega) h1 h2⟩
  have hd : decide ((t : Int) < 0) = false := by rw [decide_eq_false_iff_not]; omega
  rw [foi, hd, Int.natAbs_natCast, Flt.near_top h1 h2]

theorem refNear_pos (x : Int) (u : Nat) (hx : x = u) (h1 : 9007199254740992 ≤ u) (h2 : u ≤ 9223372036854775807) (w : World) : Calls Tryd.prog 29 #[.int .i64 x] w fun e w' => e = .returned (.float .f64 (floatOfInt .f64 x)) ∧ w' = w := by
  obtain ⟨k, hk1, hk2, ht1, ht2, hmore⟩ := shift_of h1 (by omega)
  obtain ⟨e1, e2, e3, e4, e5, e6, e7⟩ := parts_of (u := u) hk2 (by omega)
  have HM := more_of hmore
  have d0 : decide (-9007199254740992 < x) = true := by rw [decide_eq_true_eq]; omega
  have d1 : decide (x < 9007199254740992) = false := by rw [decide_eq_false_iff_not]; omega
  have d2 : decide (x < 0) = false := by rw [decide_eq_false_iff_not]; omega
  have d3 : IntKind.u64.wrap x = x := by rw [IntKind.wrap_u64]; omega
  subst hx
  have hb := Flt.topR_bounds ht1 ht2
  have hn := Flt.near_big false (u := u) (k := k) (by omega) ht1 ht2
  have db : decide ((9007199254740992 : Int) ≤ ((u / 2 ^ k : Nat) : Int)) = false := by rw [decide_eq_false_iff_not]; omega
  have hT : Flt.topR u k = u / 2 ^ k + (2 ^ k < 2 * (u % 2 ^ k) || (2 ^ k == 2 * (u % 2 ^ k) && u / 2 ^ k % 2 == 1) : Bool).toNat := rfl
  have hev : 2 ^ k / 2 * 2 = 2 ^ k := by rw [show k = k - 1 + 1 by omega, Nat.pow_succ]; omega
  obtain ⟨g0, HG⟩ := rungs_of hb.1 hb.2
  have hfin : floatOfInt .f64 (u : Int) = (fun j => (1074 + j) * 4503599627370496 + Flt.topR u k) k := by
    rw [foi, d2, Int.natAbs_natCast, hn, Flt.word_val]; simp
  rw [hfin]
  rcases Nat.lt_trichotomy (2 ^ k) (2 * (u % 2 ^ k)) with hc | hc | hc
  · have dA : decide (((2 ^ k / 2 : Nat) : Int) < ((u % 2 ^ k : Nat) : Int)) = true := by rw [decide_eq_true_eq]; omega
    have et : Flt.topR u k = u / 2 ^ k + 1 := by rw [hT]; simp [hc]
    rw [← et] at e6
    exact refNear_posA (HM := HM) (e1 := e1) (e2 := e2) (e3 := e3) (e4 := e4) (e5 := e5) (dA := dA) (e6 := e6) (db := db) (hg0 := g0) (HG := HG) (d0 := d0) (d1 := d1) (d2 := d2) (d3 := d3) (hk1 := hk1) (hk2 := hk2) (w := w)
  · have dA : decide (((2 ^ k / 2 : Nat) : Int) < ((u % 2 ^ k : Nat) : Int)) = false := by rw [decide_eq_false_iff_not]; omega
    have dB : (((u % 2 ^ k : Nat) : Int) == ((2 ^ k / 2 : Nat) : Int)) = true := by rw [beq_iff_eq]; omega
    by_cases ho : u / 2 ^ k % 2 = 1
    · have dD : (((u / 2 ^ k % 2 : Nat) : Int) == 1) = true := by rw [beq_iff_eq]; omega
      have et : Flt.topR u k = u / 2 ^ k + 1 := by rw [hT]; simp [← hc, ho]
      rw [← et] at e6
      exact refNear_posB (HM := HM) (e1 := e1) (e2 := e2) (e3 := e3) (e4 := e4) (e5 := e5) (dA := dA) (dB := dB) (dD := dD) (e6 := e6) (e7 := e7) (db := db) (hg0 := g0) (HG := HG) (d0 := d0) (d1 := d1) (d2 := d2) (d3 := d3) (hk1 := hk1) (hk2 := hk2) (w := w)
    · have dD : (((u / 2 ^ k % 2 : Nat) : Int) == 1) = false := by rw [beq_eq_false_iff_ne]; omega
      have et : Flt.topR u k = u / 2 ^ k := by rw [hT]; simp [← hc, ho]
      exact refNear_posC (HM := HM) (e1 := e1) (e2 := e2) (e3 := e3) (e4 := e4) (e5 := e5) (dA := dA) (dB := dB) (dD := dD) (e7 := e7) (db := db) (hg0 := (by rw [← et]; exact g0)) (HG := HG) (d0 := d0) (d1 := d1) (d2 := d2) (d3 := d3) (hk1 := hk1) (hk2 := hk2) (w := w)
  · have dA : decide (((2 ^ k / 2 : Nat) : Int) < ((u % 2 ^ k : Nat) : Int)) = false := by rw [decide_eq_false_iff_not]; omega
    have dB : (((u % 2 ^ k : Nat) : Int) == ((2 ^ k / 2 : Nat) : Int)) = false := by rw [beq_eq_false_iff_ne]; omega
    have et : Flt.topR u k = u / 2 ^ k := by rw [hT]; simp [Nat.not_lt.2 (Nat.le_of_lt hc), Nat.ne_of_gt hc]
    exact refNear_posD (HM := HM) (e1 := e1) (e2 := e2) (e3 := e3) (e4 := e4) (e5 := e5) (dA := dA) (dB := dB) (db := db) (hg0 := (by rw [← et]; exact g0)) (HG := HG) (d0 := d0) (d1 := d1) (d2 := d2) (d3 := d3) (hk1 := hk1) (hk2 := hk2) (w := w)

theorem refNear_neg (x : Int) (u : Nat) (hx : x = -(u : Int)) (h1 : 9007199254740992 ≤ u) (h2 : u ≤ 9223372036854775808) (w : World) : Calls Tryd.prog 29 #[.int .i64 x] w fun e w' => e = .returned (.float .f64 (floatOfInt .f64 x)) ∧ w' = w := by
  obtain ⟨k, hk1, hk2, ht1, ht2, hmore⟩ := shift_of h1 (by omega)
  obtain ⟨e1, e2, e3, e4, e5, e6, e7⟩ := parts_of (u := u) hk2 (by omega)
  have HM := more_of hmore
  have d1 : decide (-9007199254740992 < x) = false := by rw [decide_eq_false_iff_not]; omega
  have d2 : decide (x < 0) = true := by rw [decide_eq_true_eq]; omega
  have d3 : IntKind.u64.wrap x = ((18446744073709551616 - u : Nat) : Int) := by rw [IntKind.wrap_u64]; omega
  have d4 : IntKind.u64.wrap (-((18446744073709551616 - u : Nat) : Int)) = (u : Int) := by rw [IntKind.wrap_u64]; omega
  have hb := Flt.topR_bounds ht1 ht2
  have hn := Flt.near_big true (u := u) (k := k) (by omega) ht1 ht2
  have db : decide ((9007199254740992 : Int) ≤ ((u / 2 ^ k : Nat) : Int)) = false := by rw [decide_eq_false_iff_not]; omega
  have hT : Flt.topR u k = u / 2 ^ k + (2 ^ k < 2 * (u % 2 ^ k) || (2 ^ k == 2 * (u % 2 ^ k) && u / 2 ^ k % 2 == 1) : Bool).toNat := rfl
  have hev : 2 ^ k / 2 * 2 = 2 ^ k := by rw [show k = k - 1 + 1 by omega, Nat.pow_succ]; omega
  obtain ⟨g0, HG⟩ := rungs_of hb.1 hb.2
  have HZ : floatBits .sub .f64 0 ((fun j => (1074 + j) * 4503599627370496 + Flt.topR u k) k) = some (9223372036854775808 + ((1074 + k) * 4503599627370496 + Flt.topR u k)) := Flt.zero_sub (by show 4503599627370496 ≤ (1074 + k) * 4503599627370496 + Flt.topR u k; omega) (by show (1074 + k) * 4503599627370496 + Flt.topR u k < 9218868437227405312; omega)
  have hfin : floatOfInt .f64 x = 9223372036854775808 + ((1074 + k) * 4503599627370496 + Flt.topR u k) := by
    rw [foi, d2, show x.natAbs = u by omega, hn, Flt.word_val]; rfl
  rw [hfin]
  rcases Nat.lt_trichotomy (2 ^ k) (2 * (u % 2 ^ k)) with hc | hc | hc
  · have dA : decide (((2 ^ k / 2 : Nat) : Int) < ((u % 2 ^ k : Nat) : Int)) = true := by rw [decide_eq_true_eq]; omega
    have et : Flt.topR u k = u / 2 ^ k + 1 := by rw [hT]; simp [hc]
    rw [← et] at e6
    exact refNear_negA (HM := HM) (e1 := e1) (e2 := e2) (e3 := e3) (e4 := e4) (e5 := e5) (dA := dA) (e6 := e6) (db := db) (hg0 := g0) (HG := HG) (HZ := HZ) (d1 := d1) (d2 := d2) (d3 := d3) (d4 := d4) (hk1 := hk1) (hk2 := hk2) (w := w)
  · have dA : decide (((2 ^ k / 2 : Nat) : Int) < ((u % 2 ^ k : Nat) : Int)) = false := by rw [decide_eq_false_iff_not]; omega
    have dB : (((u % 2 ^ k : Nat) : Int) == ((2 ^ k / 2 : Nat) : Int)) = true := by rw [beq_iff_eq]; omega
    by_cases ho : u / 2 ^ k % 2 = 1
    · have dD : (((u / 2 ^ k % 2 : Nat) : Int) == 1) = true := by rw [beq_iff_eq]; omega
      have et : Flt.topR u k = u / 2 ^ k + 1 := by rw [hT]; simp [← hc, ho]
      rw [← et] at e6
      exact refNear_negB (HM := HM) (e1 := e1) (e2 := e2) (e3 := e3) (e4 := e4) (e5 := e5) (dA := dA) (dB := dB) (dD := dD) (e6 := e6) (e7 := e7) (db := db) (hg0 := g0) (HG := HG) (HZ := HZ) (d1 := d1) (d2 := d2) (d3 := d3) (d4 := d4) (hk1 := hk1) (hk2 := hk2) (w := w)
    · have dD : (((u / 2 ^ k % 2 : Nat) : Int) == 1) = false := by rw [beq_eq_false_iff_ne]; omega
      have et : Flt.topR u k = u / 2 ^ k := by rw [hT]; simp [← hc, ho]
      exact refNear_negC (HM := HM) (e1 := e1) (e2 := e2) (e3 := e3) (e4 := e4) (e5 := e5) (dA := dA) (dB := dB) (dD := dD) (e7 := e7) (db := db) (hg0 := (by rw [← et]; exact g0)) (HG := HG) (HZ := HZ) (d1 := d1) (d2 := d2) (d3 := d3) (d4 := d4) (hk1 := hk1) (hk2 := hk2) (w := w)
  · have dA : decide (((2 ^ k / 2 : Nat) : Int) < ((u % 2 ^ k : Nat) : Int)) = false := by rw [decide_eq_false_iff_not]; omega
    have dB : (((u % 2 ^ k : Nat) : Int) == ((2 ^ k / 2 : Nat) : Int)) = false := by rw [beq_eq_false_iff_ne]; omega
    have et : Flt.topR u k = u / 2 ^ k := by rw [hT]; simp [Nat.not_lt.2 (Nat.le_of_lt hc), Nat.ne_of_gt hc]
    exact refNear_negD (HM := HM) (e1 := e1) (e2 := e2) (e3 := e3) (e4 := e4) (e5 := e5) (dA := dA) (dB := dB) (db := db) (hg0 := (by rw [← et]; exact g0)) (HG := HG) (HZ := HZ) (d1 := d1) (d2 := d2) (d3 := d3) (d4 := d4) (hk1 := hk1) (hk2 := hk2) (w := w)

theorem refNear_any (n : Int) (h1 : -9223372036854775808 ≤ n) (h2 : n ≤ 9223372036854775807) (w : World) : Calls Tryd.prog 29 #[.int .i64 n] w fun e w' => e = .returned (.float .f64 (floatOfInt .f64 n)) ∧ w' = w := by
  rcases (by omega : n ≤ -9007199254740992 ∨ (-9007199254740992 < n ∧ n < 9007199254740992) ∨ 9007199254740992 ≤ n) with h | h | h
  · exact refNear_neg n n.natAbs (by omega) (by omega) (by omega) w
  · exact refNear_small n h.1 h.2 w
  · exact refNear_pos n n.natAbs (by omega) (by omega) (by omega) w

end Go.Proofs.YtihkabgoaejcgaaDoor
