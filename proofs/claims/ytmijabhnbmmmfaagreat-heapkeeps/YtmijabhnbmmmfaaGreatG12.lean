import Derived.Test.YtmijabhnbmmmfaaGreatRows
import Derived.WalkKit
import Derived.WalkSpells
import Derived.WalkLawsBesides
import Derived.Laws.BitsAllLaws
/- Bits of words as whole numbers: rests, quotients, sums. -/
namespace Go.Proofs.YtmijabhnbmmmfaaGreat
open Go.RowKit

theorem and15 (u : Int) (h0 : 0 ≤ u) (h1 : u ≤ 18446744073709551615) : bits .and .u64 u 15 = u % 16 := by
  obtain ⟨A, rfl⟩ := Int.eq_ofNat_of_zero_le h0
  have h := u64_and_nat A 15 (by omega) (by omega)
  have e : A &&& 15 = A % 16 := Nat.and_two_pow_sub_one_eq_mod A 4
  rw [e] at h
  exact h

theorem or16 (k t : Int) (h0 : 0 ≤ k) (h1 : k < 1152921504606846976) (h2 : 0 ≤ t) (h3 : t < 16) : bits .or .u64 (k * 16) t = k * 16 + t := by
  obtain ⟨A, rfl⟩ := Int.eq_ofNat_of_zero_le h0
  obtain ⟨B, rfl⟩ := Int.eq_ofNat_of_zero_le h2
  have h := u64_or_nat (A * 16) B (by omega) (by omega)
  have e : A * 16 ||| B = A * 16 + B := by
    have := Nat.two_pow_add_eq_or_of_lt (i := 4) (b := B) (by omega) A
    rw [Nat.mul_comm A 16]
    exact this.symm
  rw [e] at h
  simpa using h

theorem i64_or16 (k t : Int) (h0 : 0 ≤ k) (h1 : k ≤ 65536) (h2 : 0 ≤ t) (h3 : t < 16) : bits .or .i64 (k * 16) t = k * 16 + t := by
  obtain ⟨A, rfl⟩ := Int.eq_ofNat_of_zero_le h0
  obtain ⟨B, rfl⟩ := Int.eq_ofNat_of_zero_le h2
  have e : A * 16 ||| B = A * 16 + B := by
    have := Nat.two_pow_add_eq_or_of_lt (i := 4) (b := B) (by omega) A
    rw [Nat.mul_comm A 16]
    exact this.symm
  have a1 : (BitVec.ofInt 64 ((A : Int) * 16)).toNat = A * 16 := by
    have : ((A : Int) * 16) = ((A * 16 : Nat) : Int) := by omega
    rw [this, BitVec.ofInt_natCast, BitVec.toNat_ofNat]; exact Nat.mod_eq_of_lt (by omega)
  have a2 : (BitVec.ofInt 64 (B : Int)).toNat = B := by
    rw [BitVec.ofInt_natCast, BitVec.toNat_ofNat]; exact Nat.mod_eq_of_lt (by omega)
  show IntKind.i64.wrap ((BitVec.ofInt 64 ((A : Int) * 16) ||| BitVec.ofInt 64 (B : Int)).toNat : Int) = _
  rw [BitVec.toNat_or, a1, a2, e]
  have := wrap64_wf ((A * 16 + B : Nat) : Int)
  simp [IntKind.wrap, IntKind.bits, IntKind.signed]
  omega

theorem i64_and15 (x : Int) : bits .and .i64 x 15 = x % 16 := by
  have a1 : (BitVec.ofInt 64 x).toNat = (x % 18446744073709551616).toNat := by simp
  have a2 : (BitVec.ofInt 64 (15 : Int)).toNat = 15 := by decide
  show IntKind.i64.wrap ((BitVec.ofInt 64 x &&& BitVec.ofInt 64 (15 : Int)).toNat : Int) = _
  rw [BitVec.toNat_and, a1, a2]
  have e : (x % 18446744073709551616).toNat &&& 15 = (x % 18446744073709551616).toNat % 16 := Nat.and_two_pow_sub_one_eq_mod _ 4
  rw [e]
  simp [IntKind.wrap, IntKind.bits, IntKind.signed]
  omega

theorem wrap_u (x : Int) : IntKind.u64.wrap x = x % 18446744073709551616 := by simp [IntKind.wrap, IntKind.bits, IntKind.signed]

/-- a tag's bits; a body with its sign; what may be; a word made -/
def tagI (u : Int) : Int := u % 16
def bodyI (u : Int) : Int := if u % 16 = 1 ∧ 576460752303423488 ≤ u / 16 then u / 16 - 1152921504606846976 else u / 16
def mayB (t b : Int) : Bool := if t = 1 then decide (-576460752303423488 ≤ b ∧ b ≤ 576460752303423487) else if t = 4 then decide (b = 0) else decide (0 ≤ b ∧ b ≤ 1099511627776)
def joinI (t b : Int) : Int := b % 1152921504606846976 * 16 + t
def tagB (t : Int) : Bool := decide (1 ≤ t ∧ t ≤ 8)
def ofW (t b : Int) : Int := if tagB t && mayB t b then joinI t b else 0
def ofE (t b : Int) : Int := if tagB t then (if mayB t b then 0 else 12) else 1
end Go.Proofs.YtmijabhnbmmmfaaGreat


/- Contracts of words: Tag, Body, join, mayBe, Of, Right, and the document's. -/
namespace Go.Proofs.YtmijabhnbmmmfaaGreat
open Go.RowKit

theorem tag_any (u : Int) (h0 : 0 ≤ u) (h1 : u ≤ 18446744073709551615) (w : World) : Calls Tryz.prog 81 #[.int .u64 u] w fun e w' => e = .returned (.int .u64 (tagI u)) ∧ w' = w := by
  have ha := and15 u h0 h1
  go_enter Tryz.func81, Tryz.ntmps81
  go_wp2
  go_ret
  exact ⟨by simp [tagI], rfl⟩

theorem rtag_any (u : Int) (h0 : 0 ≤ u) (h1 : u ≤ 18446744073709551615) (w : World) : Calls Tryz.prog 70 #[.int .u64 u] w fun e w' => e = .returned (.int .u64 (tagI u)) ∧ w' = w := by
  have ha := and15 u h0 h1
  go_enter Tryz.func70, Tryz.ntmps70
  go_wp2
  go_ret
  exact ⟨by simp [tagI], rfl⟩

theorem w64 (x : Int) : wrap64 x = (x + 9223372036854775808) % 18446744073709551616 - 9223372036854775808 := by
  unfold wrap64
  first | rfl | omega | (simp [IntKind.wrap]; omega)

theorem body_any (u : Int) (h0 : 0 ≤ u) (h1 : u ≤ 18446744073709551615) (w : World) : Calls Tryz.prog 78 #[.int .u64 u] w fun e w' => e = .returned (.int .i64 (bodyI u)) ∧ w' = w := by
  by_cases ht : u % 16 = 1
  · have ht' : tagI u = 1 := ht
    have hb : wrap64 u / 16 = bodyI u := by
      rw [w64]
      unfold bodyI
      split <;> omega
    go_enter Tryz.func78, Tryz.ntmps78
    go_wp2_with (go_at_call 81; refine (tag_any u h0 h1 _).mono ?_; rintro e w' ⟨rfl, rfl⟩; rw [ht'])
    go_ret
    exact ⟨by simp, rfl⟩
  · have ht' : (tagI u == 1) = false := by simpa [tagI] using ht
    have hb : wrap64 (u / 16) = bodyI u := by
      rw [w64]
      unfold bodyI
      split <;> omega
    go_enter Tryz.func78, Tryz.ntmps78
    go_wp2_with (go_at_call 81; refine (tag_any u h0 h1 _).mono ?_; rintro e w' ⟨rfl, rfl⟩)
    go_ret
    exact ⟨by simp; unfold bodyI; split <;> omega, rfl⟩

theorem rbody_any (u : Int) (h0 : 0 ≤ u) (h1 : u ≤ 18446744073709551615) (w : World) : Calls Tryz.prog 69 #[.int .u64 u] w fun e w' => e = .returned (.int .i64 (bodyI u)) ∧ w' = w := by
  by_cases ht : u % 16 = 1
  · have ht' : tagI u = 1 := ht
    by_cases hg : 576460752303423488 ≤ u / 16
    · have hb : wrap64 (wrap64 (u / 16) - 1152921504606846976) = bodyI u := by
        rw [w64, w64]
        unfold bodyI
        split <;> omega
      go_enter Tryz.func69, Tryz.ntmps69
      go_wp2_with (go_at_call 70; refine (rtag_any u h0 h1 _).mono ?_; rintro e w' ⟨rfl, rfl⟩; rw [ht'])
      go_ret
      exact ⟨by simp; unfold bodyI; split <;> omega, rfl⟩
    · have hb : wrap64 (u / 16) = bodyI u := by
        rw [w64]
        unfold bodyI
        split <;> omega
      go_enter Tryz.func69, Tryz.ntmps69
      go_wp2_with (go_at_call 70; refine (rtag_any u h0 h1 _).mono ?_; rintro e w' ⟨rfl, rfl⟩; rw [ht'])
      go_ret
      exact ⟨by simp; unfold bodyI; split <;> omega, rfl⟩
  · have ht' : (tagI u == 1) = false := by simpa [tagI] using ht
    have hb : wrap64 (u / 16) = bodyI u := by
      rw [w64]
      unfold bodyI
      split <;> omega
    go_enter Tryz.func69, Tryz.ntmps69
    go_wp2_with (go_at_call 70; refine (rtag_any u h0 h1 _).mono ?_; rintro e w' ⟨rfl, rfl⟩)
    go_ret
    exact ⟨by simp; unfold bodyI; split <;> omega, rfl⟩

theorem join_any (t b : Int) (t0 : 0 ≤ t) (t1 : t < 16) (w : World) : Calls Tryz.prog 101 #[.int .u64 t, .int .i64 b] w fun e w' => e = .returned (.int .u64 (joinI t b)) ∧ w' = w := by
  have h1 : IntKind.u64.wrap (IntKind.u64.wrap b * 16) = b % 1152921504606846976 * 16 := by rw [wrap_u, wrap_u]; omega
  have h2 := or16 (b % 1152921504606846976) t (by omega) (by omega) t0 t1
  go_enter Tryz.func101, Tryz.ntmps101
  go_wp2
  go_ret
  exact ⟨by simp [joinI], rfl⟩

theorem maybe_any (t b : Int) (w : World) : Calls Tryz.prog 100 #[.int .u64 t, .int .i64 b] w fun e w' => e = .returned (.bool (mayB t b)) ∧ w' = w := by
  by_cases h1 : t = 1
  · subst h1
    by_cases hg : -576460752303423488 ≤ b
    · go_enter Tryz.func100, Tryz.ntmps100
      go_wp2
      go_ret
      exact ⟨by simp [mayB, hg] <;> omega, rfl⟩
    · go_enter Tryz.func100, Tryz.ntmps100
      go_wp2
      go_ret
      exact ⟨by simp [mayB] <;> omega, rfl⟩
  · by_cases h4 : t = 4
    · subst h4
      go_enter Tryz.func100, Tryz.ntmps100
      go_wp2
      go_ret
      exact ⟨by simp [mayB]; rfl, rfl⟩
    · have h1' : (t == 1) = false := by simpa using h1
      have h4' : (t == 4) = false := by simpa using h4
      by_cases hg : 0 ≤ b
      · go_enter Tryz.func100, Tryz.ntmps100
        go_wp2
        go_ret
        exact ⟨by simp [mayB, hg, h1, h4] <;> omega, rfl⟩
      · go_enter Tryz.func100, Tryz.ntmps100
        go_wp2
        go_ret
        exact ⟨by simp [mayB, h1, h4] <;> omega, rfl⟩
end Go.Proofs.YtmijabhnbmmmfaaGreat


