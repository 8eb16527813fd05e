/- Plain facts on binary floats of 64 bits: what a canonical form's rung is worth; exact differences. -/
import Derived.Test.YtihkabgoaejcgaaDoorFltG
import Derived.Test.YtihkabgoaejcgaaDoorFltH
namespace Go.Proofs.YtihkabgoaejcgaaDoor.Flt
open Ieee

theorem read_of_canon (s : Bool) {m : Nat} {p : Int} (hc : Canon m p) (hp : p ≤ 971) :
    double.read (double.word s ((p + 1074).toNat * 4503599627370496 + m)) = .number s m p ∧ fin (double.word s ((p + 1074).toNat * 4503599627370496 + m)) = true ∧ double.word s ((p + 1074).toNat * 4503599627370496 + m) < 18446744073709551616 := by
  have hw := word_val s ((p + 1074).toNat * 4503599627370496 + m)
  have l1 := hc.lo
  have l2 := hc.hi
  have l3 := hc.norm
  generalize hr : (p + 1074).toNat * 4503599627370496 + m = r at *
  have hrl : r < 9218868437227405312 := by omega
  generalize double.word s r = x at *
  have hx : x < 18446744073709551616 := by cases s <;> simp at hw <;> omega
  have hm : x % 9223372036854775808 = r := by cases s <;> simp at hw <;> omega
  have hf : fin x = true := by simp only [fin, hm, decide_eq_true_eq]; omega
  have hs : decide (9223372036854775808 ≤ x) = s := by cases s <;> simp at hw ⊢ <;> omega
  refine ⟨?_, hf, hx⟩
  obtain ⟨m2, p2, h2, c2, u2, e2⟩ := read_canon hx hf
  have k1 := c2.lo
  have k2 := c2.hi
  have k3 := c2.norm
  have em : m2 = m := by omega
  have ep : p2 = p := by omega
  rw [h2, hs, em, ep]

theorem U_canon (s : Bool) {m : Nat} {p : Int} (hc : Canon m p) (hp : p ≤ 971) : U (double.word s ((p + 1074).toNat * 4503599627370496 + m)) = signed s m (p + 1074).toNat :=
  U_of (read_of_canon s hc hp).1

/-- what a rung of 53 bits is worth -/
theorem U_rung (s : Bool) {a m : Nat} (ha : a ≤ 2000) (h1 : 4503599627370496 ≤ m) (h2 : m ≤ 9007199254740992) :
    U (double.word s (a * 4503599627370496 + m)) = signed s m a ∧ fin (double.word s (a * 4503599627370496 + m)) = true ∧ double.word s (a * 4503599627370496 + m) < 18446744073709551616 := by
  rcases Nat.lt_or_ge m 9007199254740992 with h | h
  · have hc : Canon m ((a : Int) - 1074) := ⟨by omega, h, Or.inl h1⟩
    have k := read_of_canon s hc (by omega)
    have u := U_canon s hc (by omega)
    rw [show ((a : Int) - 1074 + 1074).toNat = a by omega] at k u
    exact ⟨u, k.2⟩
  · obtain rfl : m = 9007199254740992 := by omega
    have hc : Canon 4503599627370496 ((a : Int) + 1 - 1074) := ⟨by omega, by omega, Or.inl (by omega)⟩
    have k := read_of_canon s hc (by omega)
    have u := U_canon s hc (by omega)
    rw [show ((a : Int) + 1 - 1074 + 1074).toNat = a + 1 by omega, show (a + 1) * 4503599627370496 + 4503599627370496 = a * 4503599627370496 + 9007199254740992 by omega] at k u
    refine ⟨?_, k.2⟩
    rw [u]
    unfold signed
    have : 4503599627370496 <<< (a + 1) = 9007199254740992 <<< a := by rw [Nat.shiftLeft_eq, Nat.shiftLeft_eq, Nat.pow_succ]; omega
    rw [this]

theorem Whole.U {s : Bool} {M z : Nat} (h : Whole s M z) : U z = signed s M 0 * P := by
  obtain ⟨m, p, hr, lo, he⟩ := h.read
  rw [U_of hr, unit_whole he, signed_P]

/-- a float that is worth a small whole number is it -/
theorem whole_of_U {z N : Nat} {s : Bool} (hz : z < 18446744073709551616) (fz : fin z = true) (h0 : 0 < N) (hN : N ≤ 9007199254740992) (hU : Flt.U z = signed s N 0 * P) : Whole s N z := by
  have hw := whole_small s hN
  by_cases e : z = double.nearest s N 0
  · rw [e]; exact hw
  · exfalso
    have := U_inj hz hw.lt fz hw.fin (by rw [hU, hw.U]) e
    rw [hU] at this
    have hP := P_pos
    rcases Int.mul_eq_zero.1 this with h | h
    · cases s
      · simp only [signed, Nat.shiftLeft_zero, Bool.false_eq_true, if_false] at h; omega
      · simp only [signed, Nat.shiftLeft_zero, if_true] at h; omega
    · omega

/-- a number of at most 53 places is written as it is -/
theorem nearest_value (s : Bool) {n m a : Nat} {e : Int} (he : -1074 ≤ e) (hm : m < 9007199254740992) (ha : a ≤ 2045) (h : n * 2 ^ (e + 1074).toNat = m * 2 ^ a) :
    U (double.nearest s n e) = signed s n (e + 1074).toNat ∧ fin (double.nearest s n e) = true ∧ double.nearest s n e < 18446744073709551616 := by
  by_cases h0 : n = 0
  · subst h0
    have e1 : double.nearest s 0 e = double.word s (((-1074 : Int) + 1074).toNat * 4503599627370496 + 0) := by
      unfold Format.nearest; simp
    have hc : Canon 0 (-1074) := ⟨by omega, by omega, Or.inr rfl⟩
    rw [e1]
    refine ⟨?_, (read_of_canon s hc (by omega)).2⟩
    rw [U_canon s hc (by omega)]
    cases s <;> simp [signed]
  · have m0 : m ≠ 0 := by
      intro hh
      subst hh
      rw [Nat.zero_mul] at h
      have := Nat.mul_pos (Nat.pos_of_ne_zero h0) (Nat.two_pow_pos (e + 1074).toNat)
      omega
    have lg : n.log2 + (e + 1074).toNat = m.log2 + a := by rw [← log2_mul_pow h0, ← log2_mul_pow m0, h]
    have lm : m.log2 ≤ 52 := by
      have b := (log2_bounds m0).1
      rcases Nat.lt_or_ge 52 m.log2 with hh | hh
      · have : 2 ^ 53 ≤ 2 ^ m.log2 := Nat.pow_le_pow_right (by decide) hh
        omega
      · exact hh
    have key : ∃ m' last, Canon m' last ∧ last ≤ 971 ∧ n * 2 ^ (e + 1074).toNat = m' * 2 ^ (last + 1074).toNat ∧ double.nearest s n e = double.word s (min ((last + 1074).toNat * 4503599627370496 + m') 9218868437227405312) := by
      unfold Format.nearest
      simp only [bn, ir, lp]
      rw [if_neg h0]
      have hfb : (double.fractionBits : Int) = 52 := by decide
      rw [hfb]
      generalize hl : max (e + (n.log2 : Int) - 52) (-1074) = last
      rcases Int.lt_or_le e last with hlt | hle
      · have hlast : last = e + (n.log2 : Int) - 52 := by omega
        have hn : n = m * 2 ^ (a - (last + 1074).toNat) * 2 ^ (last - e).toNat := by
          refine Nat.eq_of_mul_eq_mul_right (Nat.two_pow_pos (e + 1074).toNat) ?_
          rw [h, Nat.mul_assoc, Nat.mul_assoc, ← Nat.pow_add, ← Nat.pow_add]
          congr 2
          omega
        have e2 : (e - last).toNat = 0 := by omega
        generalize hm' : m * 2 ^ (a - (last + 1074).toNat) = m' at hn
        have hl2 : m'.log2 = 52 := by rw [← hm', log2_mul_pow m0]; omega
        have m'0 : m' ≠ 0 := by rw [← hm']; exact Nat.mul_ne_zero m0 (by have := Nat.two_pow_pos (a - (last + 1074).toNat); omega)
        have hb := log2_bounds m'0
        rw [hl2] at hb
        refine ⟨m', last, ⟨by omega, by omega, Or.inl (by omega)⟩, by omega, ?_, ?_⟩
        · rw [hn, Nat.mul_assoc, ← Nat.pow_add]
          congr 2
          omega
        · rw [e2, Nat.shiftLeft_zero]
          have := cut_even_exact s m' (last - e).toNat
          rw [← hn] at this
          rw [this, show (last - -1074).toNat = (last + 1074).toNat by omega]
      · have e2 : (last - e).toNat = 0 := by omega
        have hc := cut_even_exact s (n <<< (e - last).toNat) 0
        rw [Nat.pow_zero, Nat.mul_one] at hc
        have hl2 : (n <<< (e - last).toNat).log2 = n.log2 + (e - last).toNat := by rw [Nat.shiftLeft_eq, log2_mul_pow h0]
        have m'0 : n <<< (e - last).toNat ≠ 0 := by rw [Nat.shiftLeft_eq]; exact Nat.mul_ne_zero h0 (by have := Nat.two_pow_pos (e - last).toNat; omega)
        have hb := log2_bounds m'0
        rw [hl2] at hb
        have hup : n.log2 + (e - last).toNat ≤ 52 := by omega
        have h53 : 2 ^ (n.log2 + (e - last).toNat + 1) ≤ 2 ^ 53 := Nat.pow_le_pow_right (by decide) (by omega)
        refine ⟨n <<< (e - last).toNat, last, ⟨by omega, by omega, ?_⟩, by omega, ?_, ?_⟩
        · rcases Int.lt_or_le (-1074) last with hh | hh
          · left
            have : n.log2 + (e - last).toNat = 52 := by omega
            rw [this] at hb
            omega
          · right; omega
        · rw [Nat.shiftLeft_eq, Nat.mul_assoc, ← Nat.pow_add]
          congr 2
          omega
        · rw [e2, hc, show (last - -1074).toNat = (last + 1074).toNat by omega]
    obtain ⟨m', last, hc, hlast, hv, hw⟩ := key
    have l1 := hc.lo
    have l2 := hc.hi
    rw [Nat.min_eq_left (by omega)] at hw
    rw [hw]
    refine ⟨?_, (read_of_canon s hc hlast).2⟩
    rw [U_canon s hc hlast]
    unfold signed
    rw [Nat.shiftLeft_eq, Nat.shiftLeft_eq, hv]

/-- a difference of at most 53 places is told as it is -/
theorem sub_exact {x y m a : Nat} (hx : x < 18446744073709551616) (hy : y < 18446744073709551616) (fx : fin x = true) (fy : fin y = true) (hm : m < 9007199254740992) (ha : a ≤ 2045) (hD : (U x - U y).natAbs = m * 2 ^ a) :
    ∃ z, double.sub x y = some z ∧ z < 18446744073709551616 ∧ fin z = true ∧ U z = U x - U y := by
  obtain ⟨m1, p, hr, hc, hp, he⟩ := read_canon hx fx
  obtain ⟨n1, q, hr', hc', hp', he'⟩ := read_canon hy fy
  generalize decide (9223372036854775808 ≤ x) = s at hr
  generalize decide (9223372036854775808 ≤ y) = t at hr'
  have l1 := hc.lo
  have l2 := hc'.lo
  rw [U_of hr, U_of hr'] at hD ⊢
  unfold unit at hD ⊢
  have e1 : (p + 1074).toNat = (p - min p q).toNat + (min p q + 1074).toNat := by omega
  have e2 : (q + 1074).toNat = (q - min p q).toNat + (min p q + 1074).toNat := by omega
  rw [e1, e2, signed_up, signed_up, ← Int.sub_mul] at hD ⊢
  unfold Format.sub
  rw [hr, hr']
  simp only [Datum.opposite, Datum.sum, Option.map_some, Format.write]
  rw [signed_not]
  generalize signed s m1 (p - min p q).toNat = A at hD ⊢
  generalize signed t n1 (q - min p q).toNat = B at hD ⊢
  have hb : -1074 ≤ min p q := by omega
  generalize min p q = base at hb hD ⊢
  refine ⟨_, rfl, ?_⟩
  rw [Int.natAbs_mul, Int.natAbs_natCast] at hD
  have hab : A + -B = A - B := by omega
  rw [hab]
  have nv := nearest_value (if A - B = 0 then s && !t else decide (A - B < 0)) (n := (A - B).natAbs) hb hm ha hD
  refine ⟨nv.2.2, nv.2.1, ?_⟩
  rw [nv.1]
  unfold signed
  rw [Nat.shiftLeft_eq]
  rcases Int.lt_trichotomy (A - B) 0 with h | h | h
  · have hs : (if A - B = 0 then s && !t else decide (A - B < 0)) = true := by rw [if_neg (by omega)]; exact decide_eq_true h
    rw [hs, if_pos rfl, Int.natCast_mul, show ((A - B).natAbs : Int) = -(A - B) by omega, Int.neg_mul, Int.neg_neg]
  · rw [h]; simp
  · have hs : (if A - B = 0 then s && !t else decide (A - B < 0)) = false := by rw [if_neg (by omega)]; exact decide_eq_false (by omega)
    rw [hs, if_neg (by simp), Int.natCast_mul, show ((A - B).natAbs : Int) = (A - B) by omega]
end Go.Proofs.YtihkabgoaejcgaaDoor.Flt
