import Derived.Test.YtmijabhnbmmmfaaGreatG11
import Derived.Test.YtmijabhnbmmmfaaGreatRows
import Derived.WalkKit
import Derived.WalkSpells
import Derived.WalkLawsBesides
import Derived.Laws.BitsAllLaws
/- A row of right terms. -/
namespace Go.Proofs.YtmijabhnbmmmfaaGreat
open Go.RowKit Go.Deep
attribute [local go_sem] store_float f64bits
attribute [local go_sem ↓] Go.wp_at_zero Go.wp_at_succ

theorem fine_any (e : Int) (w : World) : Calls Tryz.prog 20 #[.int .i64 e] w fun en w' => en = .returned (.bool (e == 0)) ∧ w' = w := by
  go_enter Tryz.func20, Tryz.ntmps20
  go_wp2
  go_ret
  exact ⟨rfl, rfl⟩

/-- Are all of a row right? -/
def allOk (kids : List Tr) : Bool := kids.all fun t => errT t == 0

theorem allOk_drop {kids : List Tr} {m : Nat} {t : Tr} (h : kids[m]? = some t) : allOk (kids.drop m) = ((errT t == 0) && allOk (kids.drop (m + 1))) := by
  unfold allOk
  rw [drop_one h, List.all_cons]

set_option maxHeartbeats 1600000 in
set_option maxRecDepth 100000 in
theorem right_row (a : Option Addr) (c : Nat) (kids : List Tr) (w : World) (hin : (Tr.mk 0 0 0 ⟨#[]⟩ a c kids).In w 0) :
    Calls Tryz.prog 16 #[.slice a kids.length c] w fun e w' => e = .returned (.bool (decide (kids.length ≤ 40) && decide (0 ≤ fewT (.mk 0 0 0 ⟨#[]⟩ a c kids) 60000 1000) && allOk kids)) ∧ Below w.heap.size w w' := by
  have hlen := len_small hin
  by_cases h40 : kids.length ≤ 40
  case neg =>
    have e : (decide (kids.length ≤ 40) && decide (0 ≤ fewT (.mk 0 0 0 ⟨#[]⟩ a c kids) 60000 1000) && allOk kids) = false := by simp [h40]
    rw [e]
    clear hin e
    have q : (40 : Int) < (kids.length : Int) := by omega
    go_enter Tryz.func16, Tryz.ntmps16
    go_wp2
    go_ret
    exact ⟨rfl, Below.refl _ _⟩
  have FW := hidb (few_any (.mk 0 0 0 ⟨#[]⟩ a c kids) 60000 1000 w hin (by omega) (by omega) (by omega) (by omega))
  have hsm := few_small (.mk 0 0 0 ⟨#[]⟩ a c kids) 60000 1000 (by omega)
  simp only [decide_eq_true h40, Bool.true_and]
  generalize fewT (.mk 0 0 0 ⟨#[]⟩ a c kids) 60000 1000 = Q at *
  have q : ¬ (40 : Int) < (kids.length : Int) := by omega
  have HIN := hidb hin
  by_cases h0 : 0 ≤ Q
  case neg =>
    have e : (decide (0 ≤ Q) && allOk kids) = false := by simp [h0]
    rw [e]
    clear hin e hsm
    have hq0 : Q < 0 := by omega
    go_enter Tryz.func16, Tryz.ntmps16
    go_wp2_with (go_at_call 28; refine FW.out.mono ?_; rintro e w1 ⟨rfl, hb1⟩)
    go_ret
    exact ⟨rfl, hb1⟩
  have HSM := hidb (hsm h0).1
  simp only [decide_eq_true h0, Bool.true_and]
  have hq0 : ¬ Q < 0 := by omega
  clear hin hsm h0
  go_enter Tryz.func16, Tryz.ntmps16
  go_wp2_with (go_at_call 28; refine FW.out.mono ?_; rintro e w1 ⟨rfl, hb1⟩; have HB1 := hidb hb1; clear hb1)
  go_loopw [3] (fun iv wr => ∃ (m : Nat), m ≤ kids.length ∧ iv = .int .i64 m ∧ allOk (kids.drop m) = allOk kids ∧ Below w.heap.size w wr) (fun iv _ => kids.length - (intOf iv).toNat)
  case atStart => exact ⟨0, by omega, rfl, by simp, HB1.out⟩
  case round =>
    obtain ⟨m, hm, rfl, hall, hbel⟩ := hrel
    have HA := hidb hall
    have HB := hidb hbel
    clear hall hbel HB1 FW
    by_cases hml : m < kids.length
    · have hmb : (m : Int) < (kids.length : Int) := by omega
      have hmz : (0 : Int) ≤ (m : Int) := by omega
      obtain ⟨b, o, rfl, hat⟩ := kid_at HIN.out (by omega)
      obtain ⟨k', n', f', s', a', c', kids', hu', hin', x0, x1, x2, x3, x4⟩ := hat m hml
      have hlb : b < w.heap.size := World.block_lt_of_cell? w _ x0
      have v0 := (HB.out.cell hlb).trans x0
      have v1 := (HB.out.cell hlb).trans x1
      have v2 := (HB.out.cell hlb).trans x2
      have v3 := (HB.out.cell hlb).trans x3
      have v4 := (HB.out.cell hlb).trans x4
      have hsk : Small (.mk k' n' f' s' a' c' kids') := by have := HSM.out; unfold Small at this; exact smallAll_get this.2 (List.mem_of_getElem? hu')
      have CK := hidb (check_t (.mk k' n' f' s' a' c' kids') wr (in_below HB.out hin') hsk)
      have hd := allOk_drop hu'
      rw [HA.out] at hd
      have HD := hidb hd
      clear hu' hin' hat hsk x0 x1 x2 x3 x4 hd
      generalize errT (.mk k' n' f' s' a' c' kids') = E at *
      cases hE : (E == 0) with
      | false =>
        have FN := hidb (fine_any E)
        rw [hE] at FN
        have e : allOk kids = false := by have := HD.out; rw [hE] at this; simpa using this
        have HEF := hidb e
        clear hE e
        go_wp2_with (first | (go_at_call 27; refine CK.out.mono ?_; rintro e wz ⟨rfl, hbz⟩; have HZ := hidb (HB.out.trans (hbz.mono HB.out.size)); clear hbz) | (go_at_call 20; refine (FN.out _).mono ?_; rintro e w' ⟨rfl, rfl⟩))
        go_ret
        exact ⟨by rw [HEF.out]; rfl, HZ.out⟩
      | true =>
        have FN := hidb (fine_any E)
        rw [hE] at FN
        have e : allOk (kids.drop (m + 1)) = allOk kids := by have := HD.out; rw [hE] at this; simpa using this.symm
        have HE2 := hidb e
        clear hE e
        go_wp2_with (first | (go_at_call 27; refine CK.out.mono ?_; rintro e wz ⟨rfl, hbz⟩; have HZ := hidb (HB.out.trans (hbz.mono HB.out.size)); clear hbz) | (go_at_call 20; refine (FN.out _).mono ?_; rintro e w' ⟨rfl, rfl⟩))
        go_roundw
        case rel => exact ⟨m + 1, by omega, by go_num, HE2.out, HZ.out⟩
        case measure => simp [intOf]; omega
    · have hmn : ¬ (m : Int) < (kids.length : Int) := by omega
      have e : allOk kids = true := by
        have := HA.out
        rw [List.drop_of_length_le (by omega)] at this
        rw [← this]; rfl
      have HEF := hidb e
      clear e
      go_wp2
      go_ret
      exact ⟨by rw [HEF.out]; rfl, HB.out⟩
end Go.Proofs.YtmijabhnbmmmfaaGreat


/- Bits of words as whole numbers: rests, quotients, sums. -/
namespace Go.Proofs.YtmijabhnbmmmfaaGreat
open Go.RowKit

theorem and15 (u : Int) (h0 : 0 ≤ u) (h1 : u ≤ 18446744073709551615) : bits .and .u64 u 15 = u % 16 := by
  obtain ⟨A, rfl⟩ := Int.eq_ofNat_of_zero_le h0
  have h := u64_and_nat A 15 (by omega) (by omega)
  have e : A &&& 15 = A % 16 := Nat.and_two_pow_sub_one_eq_mod A 4
  rw [e] at h
  exact h

theorem or16 (k t : Int) (h0 : 0 ≤ k) (h1 : k < 1152921504606846976) (h2 : 0 ≤ t) (h3 : t < 16) : bits .or .u64 (k * 16) t = k * 16 + t := by
  obtain ⟨A, rfl⟩ := Int.eq_ofNat_of_zero_le h0
  obtain ⟨B, rfl⟩ := Int.eq_ofNat_of_zero_le h2
  have h := u64_or_nat (A * 16) B (by omega) (by omega)
  have e : A * 16 ||| B = A * 16 + B := by
    have := Nat.two_pow_add_eq_or_of_lt (i := 4) (b := B) (by omega) A
    rw [Nat.mul_comm A 16]
    exact this.symm
  rw [e] at h
  simpa using h

theorem i64_or16 (k t : Int) (h0 : 0 ≤ k) (h1 : k ≤ 65536) (h2 : 0 ≤ t) (h3 : t < 16) : bits .or .i64 (k * 16) t = k * 16 + t := by
  obtain ⟨A, rfl⟩ := Int.eq_ofNat_of_zero_le h0
  obtain ⟨B, rfl⟩ := Int.eq_ofNat_of_zero_le h2
  have e : A * 16 ||| B = A * 16 + B := by
    have := Nat.two_pow_add_eq_or_of_lt (i := 4) (b := B) (by omega) A
    rw [Nat.mul_comm A 16]
    exact this.symm
  have a1 : (BitVec.ofInt 64 ((A : Int) * 16)).toNat = A * 16 := by
    have : ((A : Int) * 16) = ((A * 16 : Nat) : Int) := by omega
    rw [this, BitVec.ofInt_natCast, BitVec.toNat_ofNat]; exact Nat.mod_eq_of_lt (by omega)
  have a2 : (BitVec.ofInt 64 (B : Int)).toNat = B := by
    rw [BitVec.ofInt_natCast, BitVec.toNat_ofNat]; exact Nat.mod_eq_of_lt (by omega)
  show IntKind.i64.wrap ((BitVec.ofInt 64 ((A : Int) * 16) ||| BitVec.ofInt 64 (B : Int)).toNat : Int) = _
  rw [BitVec.toNat_or, a1, a2, e]
  have := wrap64_wf ((A * 16 + B : Nat) : Int)
  simp [IntKind.wrap, IntKind.bits, IntKind.signed]
  omega

theorem i64_and15 (x : Int) : bits .and .i64 x 15 = x % 16 := by
  have a1 : (BitVec.ofInt 64 x).toNat = (x % 18446744073709551616).toNat := by simp
  have a2 : (BitVec.ofInt 64 (15 : Int)).toNat = 15 := by decide
  show IntKind.i64.wrap ((BitVec.ofInt 64 x &&& BitVec.ofInt 64 (15 : Int)).toNat : Int) = _
  rw [BitVec.toNat_and, a1, a2]
  have e : (x % 18446744073709551616).toNat &&& 15 = (x % 18446744073709551616).toNat % 16 := Nat.and_two_pow_sub_one_eq_mod _ 4
  rw [e]
  simp [IntKind.wrap, IntKind.bits, IntKind.signed]
  omega

theorem wrap_u (x : Int) : IntKind.u64.wrap x = x % 18446744073709551616 := by simp [IntKind.wrap, IntKind.bits, IntKind.signed]

/-- a tag's bits; a body with its sign; what may be; a word made -/
def tagI (u : Int) : Int := u % 16
def bodyI (u : Int) : Int := if u % 16 = 1 ∧ 576460752303423488 ≤ u / 16 then u / 16 - 1152921504606846976 else u / 16
def mayB (t b : Int) : Bool := if t = 1 then decide (-576460752303423488 ≤ b ∧ b ≤ 576460752303423487) else if t = 4 then decide (b = 0) else decide (0 ≤ b ∧ b ≤ 1099511627776)
def joinI (t b : Int) : Int := b % 1152921504606846976 * 16 + t
def tagB (t : Int) : Bool := decide (1 ≤ t ∧ t ≤ 8)
def ofW (t b : Int) : Int := if tagB t && mayB t b then joinI t b else 0
def ofE (t b : Int) : Int := if tagB t then (if mayB t b then 0 else 12) else 1
end Go.Proofs.YtmijabhnbmmmfaaGreat


