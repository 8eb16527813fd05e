/- Contracts of words: a word taken as a header, by the program and by the document. -/
import Derived.Test.YtjeenmllohaleaaWd3
namespace Go.Proofs.Ytjeenmllohaleaa
open Go.RowKit

def isB (u : Int) : Bool := decide (u % 16 = 7) && hdB (u / 16 % 16) && szB (u / 256)
def hkI (u : Int) : Int := if isB u then u / 16 % 16 else 0
def hsI (u : Int) : Int := if isB u then u / 256 else 0

theorem isB_made {u : Int} : isB u = true ↔ (hdE (bodyI u % 16) (bodyI u / 16) = 0 ∧ hdW (bodyI u % 16) (bodyI u / 16) = u) := by
  by_cases h7 : u % 16 = 7
  · have hb : bodyI u = u / 16 := by unfold bodyI; split <;> omega
    have h2 : u / 16 / 16 = u / 256 := by omega
    rw [hb, h2]
    cases hk : hdB (u / 16 % 16) <;> cases hs : szB (u / 256) <;> simp [isB, h7, hdE, hdW, hk, hs]
    omega
  · have hn : isB u = false := by simp [isB, h7]
    rw [hn]
    constructor
    · intro h; cases h
    · rintro ⟨h1, h2⟩
      exfalso
      revert h1 h2
      generalize bodyI u % 16 = k
      generalize bodyI u / 16 = s
      cases hk : hdB k <;> cases hs : szB s <;> simp [hdE, hdW, hk, hs]
      omega

theorem whead_any (u : Int) (h0 : 0 ≤ u) (h1 : u ≤ 18446744073709551615) (w : World) : Calls Try.prog 12 #[.int .u64 u] w fun e w' => e = .returned (.tuple #[.int .i64 (hkI u), .int .i64 (hsI u), .bool (isB u)]) ∧ w' = w := by
  have a1 := i64_and15 (bodyI u)
  cases hi : isB u
  · have hk : hkI u = 0 := by simp [hkI, hi]
    have hs : hsI u = 0 := by simp [hsI, hi]
    rw [hk, hs]
    have hn : ¬ (hdE (bodyI u % 16) (bodyI u / 16) = 0 ∧ hdW (bodyI u % 16) (bodyI u / 16) = u) := fun h => by rw [isB_made.2 h] at hi; cases hi
    by_cases hE : hdE (bodyI u % 16) (bodyI u / 16) = 0
    · have hW : (hdW (bodyI u % 16) (bodyI u / 16) != u) = true := by simpa using fun h => hn ⟨hE, h⟩
      clear hk hs hn
      go_enter Try.func12, Try.ntmps12
      go_wp2_with (first | (go_at_call 16; refine (body_any u h0 h1 _).mono ?_; rintro e w' ⟨rfl, rfl⟩) | (go_at_call 20; refine (header_any _ _ _).mono ?_; rintro e w' ⟨rfl, rfl⟩))
      refine bodyPost_ret (v := .tuple #[.int .i64 0, .int .i64 0, .bool false]) ?_ rfl ⟨rfl, rfl⟩
      simp [results, Try.results12, go_sem]
    · have hE' : (hdE (bodyI u % 16) (bodyI u / 16) != 0) = true := by simpa using hE
      clear hk hs hn
      go_enter Try.func12, Try.ntmps12
      go_wp2_with (first | (go_at_call 16; refine (body_any u h0 h1 _).mono ?_; rintro e w' ⟨rfl, rfl⟩) | (go_at_call 20; refine (header_any _ _ _).mono ?_; rintro e w' ⟨rfl, rfl⟩))
      refine bodyPost_ret (v := .tuple #[.int .i64 0, .int .i64 0, .bool false]) ?_ rfl ⟨rfl, rfl⟩
      simp [results, Try.results12, go_sem]
  · have h7 : u % 16 = 7 := by simp [isB] at hi; exact hi.1.1
    have hb : bodyI u = u / 16 := by unfold bodyI; split <;> omega
    have hk : hkI u = bodyI u % 16 := by simp [hkI, hi, hb]
    have hs : hsI u = bodyI u / 16 := by simp [hsI, hi, hb]; omega
    obtain ⟨hE, hW⟩ := isB_made.1 hi
    rw [hk, hs]
    clear hk hs hb h7 hi
    go_enter Try.func12, Try.ntmps12
    go_wp2_with (first | (go_at_call 16; refine (body_any u h0 h1 _).mono ?_; rintro e w' ⟨rfl, rfl⟩) | (go_at_call 20; refine (header_any _ _ _).mono ?_; rintro e w' ⟨rfl, rfl⟩))
    refine bodyPost_ret (v := .tuple #[.int .i64 (bodyI u % 16), .int .i64 (bodyI u / 16), .bool true]) ?_ rfl ⟨rfl, rfl⟩
    simp [results, Try.results12, go_sem]

theorem rhead_any (u : Int) (h0 : 0 ≤ u) (h1 : u ≤ 18446744073709551615) (w : World) : Calls Try.prog 13 #[.int .u64 u] w fun e w' => e = .returned (.tuple #[.int .i64 (hkI u), .int .i64 (hsI u), .bool (isB u)]) ∧ w' = w := by
  by_cases h7 : u % 16 = 7
  · have t7 : tagI u = 7 := h7
    have hb : bodyI u = u / 16 := by unfold bodyI; split <;> omega
    have hb0 : 0 ≤ bodyI u := by omega
    by_cases hg : bodyI u > 1048591
    · have hi : isB u = false := by
        have : szB (u / 256) = false := by simp [szB]; omega
        simp [isB, this]
      have hk : hkI u = 0 := by simp [hkI, hi]
      have hs : hsI u = 0 := by simp [hsI, hi]
      rw [hk, hs, hi]
      clear hk hs hi
      go_enter Try.func13, Try.ntmps13
      go_wp2_with (first | (go_at_call 15; refine (rtag_any u h0 h1 _).mono ?_; rintro e w' ⟨rfl, rfl⟩; rw [t7]) | (go_at_call 17; refine (rbody_any u h0 h1 _).mono ?_; rintro e w' ⟨rfl, rfl⟩))
      refine bodyPost_ret (v := .tuple #[.int .i64 0, .int .i64 0, .bool false]) ?_ rfl ⟨rfl, rfl⟩
      simp [results, Try.results13, go_sem]
    · have q1 : (bodyI u).tmod 16 = bodyI u % 16 := Int.tmod_eq_emod_of_nonneg hb0
      have q2 : (bodyI u).tdiv 16 = bodyI u / 16 := Int.tdiv_eq_ediv_of_nonneg hb0
      cases hi : isB u
      · have hk : hkI u = 0 := by simp [hkI, hi]
        have hs : hsI u = 0 := by simp [hsI, hi]
        rw [hk, hs]
        have hn : ¬ (hdE (bodyI u % 16) (bodyI u / 16) = 0 ∧ hdW (bodyI u % 16) (bodyI u / 16) = u) := fun h => by rw [isB_made.2 h] at hi; cases hi
        by_cases hE : hdE (bodyI u % 16) (bodyI u / 16) = 0
        · have hW : (hdW (bodyI u % 16) (bodyI u / 16) != u) = true := by simpa using fun h => hn ⟨hE, h⟩
          clear hk hs hn hb h7
          go_enter Try.func13, Try.ntmps13
          go_wp2_with (first | (go_at_call 15; refine (rtag_any u h0 h1 _).mono ?_; rintro e w' ⟨rfl, rfl⟩; rw [t7]) | (go_at_call 17; refine (rbody_any u h0 h1 _).mono ?_; rintro e w' ⟨rfl, rfl⟩) | (go_at_call 21; refine (rheader_any _ _ _).mono ?_; rintro e w' ⟨rfl, rfl⟩))
          refine bodyPost_ret (v := .tuple #[.int .i64 0, .int .i64 0, .bool false]) ?_ rfl ⟨rfl, rfl⟩
          simp [results, Try.results13, go_sem]
        · have hE' : (hdE (bodyI u % 16) (bodyI u / 16) != 0) = true := by simpa using hE
          clear hk hs hn hb h7
          go_enter Try.func13, Try.ntmps13
          go_wp2_with (first | (go_at_call 15; refine (rtag_any u h0 h1 _).mono ?_; rintro e w' ⟨rfl, rfl⟩; rw [t7]) | (go_at_call 17; refine (rbody_any u h0 h1 _).mono ?_; rintro e w' ⟨rfl, rfl⟩) | (go_at_call 21; refine (rheader_any _ _ _).mono ?_; rintro e w' ⟨rfl, rfl⟩))
          refine bodyPost_ret (v := .tuple #[.int .i64 0, .int .i64 0, .bool false]) ?_ rfl ⟨rfl, rfl⟩
          simp [results, Try.results13, go_sem]
      · have hk : hkI u = bodyI u % 16 := by simp [hkI, hi, hb]
        have hs : hsI u = bodyI u / 16 := by simp [hsI, hi, hb]; omega
        obtain ⟨hE, hW⟩ := isB_made.1 hi
        rw [hk, hs]
        clear hk hs hb h7 hi
        go_enter Try.func13, Try.ntmps13
        go_wp2_with (first | (go_at_call 15; refine (rtag_any u h0 h1 _).mono ?_; rintro e w' ⟨rfl, rfl⟩; rw [t7]) | (go_at_call 17; refine (rbody_any u h0 h1 _).mono ?_; rintro e w' ⟨rfl, rfl⟩) | (go_at_call 21; refine (rheader_any _ _ _).mono ?_; rintro e w' ⟨rfl, rfl⟩))
        refine bodyPost_ret (v := .tuple #[.int .i64 (bodyI u % 16), .int .i64 (bodyI u / 16), .bool true]) ?_ rfl ⟨rfl, rfl⟩
        simp [results, Try.results13, go_sem]
  · have t7 : (tagI u != 7) = true := by simpa [tagI] using h7
    have hi : isB u = false := by simp [isB, h7]
    have hk : hkI u = 0 := by simp [hkI, hi]
    have hs : hsI u = 0 := by simp [hsI, hi]
    rw [hk, hs, hi]
    clear hk hs hi
    go_enter Try.func13, Try.ntmps13
    go_wp2_with (first | (go_at_call 15; refine (rtag_any u h0 h1 _).mono ?_; rintro e w' ⟨rfl, rfl⟩))
    refine bodyPost_ret (v := .tuple #[.int .i64 0, .int .i64 0, .bool false]) ?_ rfl ⟨rfl, rfl⟩
    simp [results, Try.results13, go_sem]
end Go.Proofs.Ytjeenmllohaleaa
