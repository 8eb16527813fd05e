import Derived.Test.YtmijabhnbmmmfaaGreatG13
/- Contracts of words: Right, headers, and the document's. -/
namespace Go.Proofs.YtmijabhnbmmmfaaGreat
open Go.RowKit

theorem tagI_lo (u : Int) : 0 ≤ tagI u := by unfold tagI; omega
theorem joinI_hi {t b : Int} (t0 : 0 ≤ t) (t1 : t < 16) : 0 ≤ joinI t b ∧ joinI t b ≤ 18446744073709551615 := by unfold joinI; omega
def wRightB (u : Int) : Bool := (ofE (tagI u) (bodyI u) == 0) && (ofW (tagI u) (bodyI u) == u)

theorem right_any (u : Int) (h0 : 0 ≤ u) (h1 : u ≤ 18446744073709551615) (w : World) : Calls Tryz.prog 82 #[.int .u64 u] w fun e w' => e = .returned (.bool (wRightB u)) ∧ w' = w := by
  cases he : (ofE (tagI u) (bodyI u) == 0)
  · go_enter Tryz.func82, Tryz.ntmps82
    go_wp2_with (first | (go_at_call 81; refine (tag_any u h0 h1 _).mono ?_; rintro e w' ⟨rfl, rfl⟩) | (go_at_call 78; refine (body_any u h0 h1 _).mono ?_; rintro e w' ⟨rfl, rfl⟩) | (go_at_call 88; refine (of_any _ _ (tagI_lo u) _).mono ?_; rintro e w' ⟨rfl, rfl⟩))
    go_ret
    exact ⟨by simp [wRightB, he], rfl⟩
  · go_enter Tryz.func82, Tryz.ntmps82
    go_wp2_with (first | (go_at_call 81; refine (tag_any u h0 h1 _).mono ?_; rintro e w' ⟨rfl, rfl⟩) | (go_at_call 78; refine (body_any u h0 h1 _).mono ?_; rintro e w' ⟨rfl, rfl⟩) | (go_at_call 88; refine (of_any _ _ (tagI_lo u) _).mono ?_; rintro e w' ⟨rfl, rfl⟩))
    go_ret
    exact ⟨by simp [wRightB, he], rfl⟩

theorem rright_any (u : Int) (h0 : 0 ≤ u) (h1 : u ≤ 18446744073709551615) (w : World) : Calls Tryz.prog 68 #[.int .u64 u] w fun e w' => e = .returned (.bool (wRightB u)) ∧ w' = w := by
  cases he : (ofE (tagI u) (bodyI u) == 0)
  · go_enter Tryz.func68, Tryz.ntmps68
    go_wp2_with (first | (go_at_call 70; refine (rtag_any u h0 h1 _).mono ?_; rintro e w' ⟨rfl, rfl⟩) | (go_at_call 69; refine (rbody_any u h0 h1 _).mono ?_; rintro e w' ⟨rfl, rfl⟩) | (go_at_call 94; refine (rof_any _ _ (tagI_lo u) _).mono ?_; rintro e w' ⟨rfl, rfl⟩))
    go_ret
    exact ⟨by simp [wRightB, he], rfl⟩
  · go_enter Tryz.func68, Tryz.ntmps68
    go_wp2_with (first | (go_at_call 70; refine (rtag_any u h0 h1 _).mono ?_; rintro e w' ⟨rfl, rfl⟩) | (go_at_call 69; refine (rbody_any u h0 h1 _).mono ?_; rintro e w' ⟨rfl, rfl⟩) | (go_at_call 94; refine (rof_any _ _ (tagI_lo u) _).mono ?_; rintro e w' ⟨rfl, rfl⟩))
    go_ret
    exact ⟨by simp [wRightB, he], rfl⟩

/-- kinds that have a header; a header's word and error -/
def hdB (k : Int) : Bool := k == 2 || k == 4 || k == 5 || k == 7
def szB (s : Int) : Bool := decide (0 ≤ s ∧ s ≤ 65536)
def hdW (k s : Int) : Int := if hdB k && szB s then (s * 16 + k) * 16 + 7 else 0
def hdE (k s : Int) : Int := if hdB k then (if szB s then 0 else 12) else 1
theorem hdB_cases {k : Int} (h : hdB k = true) : k = 2 ∨ k = 4 ∨ k = 5 ∨ k = 7 := by simp [hdB] at h; omega
theorem hdB_not {k : Int} (h : hdB k = false) : (k == 2) = false ∧ (k == 4) = false ∧ (k == 5) = false ∧ (k == 7) = false := by simp [hdB] at h; simp; omega

theorem has_any (k : Int) (w : World) : Calls Tryz.prog 103 #[.int .i64 k] w fun e w' => e = .returned (.bool (hdB k)) ∧ w' = w := by
  cases hk : hdB k
  · obtain ⟨a, b, c, d⟩ := hdB_not hk
    go_enter Tryz.func103, Tryz.ntmps103
    go_wp2
    go_ret
    exact ⟨rfl, rfl⟩
  · rcases hdB_cases hk with rfl | rfl | rfl | rfl
    all_goals
      go_enter Tryz.func103, Tryz.ntmps103
      go_wp2
      go_ret
      exact ⟨rfl, rfl⟩

theorem header_any (k s : Int) (w : World) : Calls Tryz.prog 91 #[.int .i64 k, .int .i64 s] w fun e w' => e = .returned (.tuple #[.int .u64 (hdW k s), .int .i64 (hdE k s)]) ∧ w' = w := by
  cases hk : hdB k
  · go_enter Tryz.func91, Tryz.ntmps91
    go_wp2_with (go_at_call 103; refine (has_any k _).mono ?_; rintro e w' ⟨rfl, rfl⟩; rw [hk])
    refine bodyPost_ret (v := .tuple #[.int .u64 (hdW k s), .int .i64 (hdE k s)]) ?_ rfl ⟨rfl, rfl⟩
    simp [results, Tryz.results91, go_sem, hdW, hdE, hk]
  · by_cases hA : s < 0
    · have hz : szB s = false := by simp [szB]; omega
      go_enter Tryz.func91, Tryz.ntmps91
      go_wp2_with (go_at_call 103; refine (has_any k _).mono ?_; rintro e w' ⟨rfl, rfl⟩; rw [hk])
      refine bodyPost_ret (v := .tuple #[.int .u64 (hdW k s), .int .i64 (hdE k s)]) ?_ rfl ⟨rfl, rfl⟩
      simp [results, Tryz.results91, go_sem, hdW, hdE, hk, hz]
    · by_cases hB : s > 65536
      · have hz : szB s = false := by simp [szB]; omega
        go_enter Tryz.func91, Tryz.ntmps91
        go_wp2_with (go_at_call 103; refine (has_any k _).mono ?_; rintro e w' ⟨rfl, rfl⟩; rw [hk])
        refine bodyPost_ret (v := .tuple #[.int .u64 (hdW k s), .int .i64 (hdE k s)]) ?_ rfl ⟨rfl, rfl⟩
        simp [results, Tryz.results91, go_sem, hdW, hdE, hk, hz]
      · have hz : szB s = true := by simp [szB]; omega
        have kc := hdB_cases hk
        have o1 := i64_or16 s k (by omega) (by omega) (by omega) (by omega)
        have o2 : joinI 7 (s * 16 + k) = hdW k s := by simp [joinI, hdW, hk, hz]; omega
        go_enter Tryz.func91, Tryz.ntmps91
        go_wp2_with (first | (go_at_call 103; refine (has_any k _).mono ?_; rintro e w' ⟨rfl, rfl⟩; rw [hk]) | (go_at_call 101; refine (join_any 7 _ (by omega) (by omega) _).mono ?_; rintro e w' ⟨rfl, rfl⟩))
        refine bodyPost_ret (v := .tuple #[.int .u64 (hdW k s), .int .i64 (hdE k s)]) ?_ rfl ⟨rfl, rfl⟩
        simp [results, Tryz.results91, go_sem, hdE, hk, hz]

theorem rheader_any (k s : Int) (w : World) : Calls Tryz.prog 66 #[.int .i64 k, .int .i64 s] w fun e w' => e = .returned (.tuple #[.int .u64 (hdW k s), .int .i64 (hdE k s)]) ∧ w' = w := by
  cases hk : hdB k
  · obtain ⟨a, b, c, d⟩ := hdB_not hk
    have a' : (k != 2) = true := by simpa using a
    have b' : (k != 4) = true := by simpa using b
    have c' : (k != 5) = true := by simpa using c
    have d' : (k != 7) = true := by simpa using d
    go_enter Tryz.func66, Tryz.ntmps66
    go_wp2
    refine bodyPost_ret (v := .tuple #[.int .u64 (hdW k s), .int .i64 (hdE k s)]) ?_ rfl ⟨rfl, rfl⟩
    simp [results, Tryz.results66, go_sem, hdW, hdE, hk]
  · by_cases hA : s < 0
    · have hz : szB s = false := by simp [szB]; omega
      rcases hdB_cases hk with rfl | rfl | rfl | rfl
      all_goals
        go_enter Tryz.func66, Tryz.ntmps66
        go_wp2
        refine bodyPost_ret (v := .tuple #[.int .u64 (hdW _ s), .int .i64 (hdE _ s)]) ?_ rfl ⟨rfl, rfl⟩
        simp [results, Tryz.results66, go_sem, hdW, hdE, hk, hz]
    · by_cases hB : s > 65536
      · have hz : szB s = false := by simp [szB]; omega
        rcases hdB_cases hk with rfl | rfl | rfl | rfl
        all_goals
          go_enter Tryz.func66, Tryz.ntmps66
          go_wp2
          refine bodyPost_ret (v := .tuple #[.int .u64 (hdW _ s), .int .i64 (hdE _ s)]) ?_ rfl ⟨rfl, rfl⟩
          simp [results, Tryz.results66, go_sem, hdW, hdE, hk, hz]
      · have hz : szB s = true := by simp [szB]; omega
        have o2 : ofW 7 (16 * s + k) = hdW k s := by
          have kc := hdB_cases hk
          have hm : mayB 7 (16 * s + k) = true := by simp [mayB]; omega
          have ht : tagB 7 = true := by decide
          simp [ofW, joinI, hdW, hk, hz, hm, ht]; omega
        have o3 : ofE 7 (16 * s + k) = hdE k s := by
          have kc := hdB_cases hk
          have hm : mayB 7 (16 * s + k) = true := by simp [mayB]; omega
          have ht : tagB 7 = true := by decide
          simp [ofE, hdE, hk, hz, hm, ht]
        rcases hdB_cases hk with rfl | rfl | rfl | rfl
        all_goals
          go_enter Tryz.func66, Tryz.ntmps66
          go_wp2_with (go_at_call 94; refine (rof_any 7 _ (by omega) _).mono ?_; rintro e w' ⟨rfl, rfl⟩)
          refine bodyPost_ret (v := .tuple #[.int .u64 (hdW _ s), .int .i64 (hdE _ s)]) ?_ rfl ⟨rfl, rfl⟩
          simp [results, Tryz.results66, go_sem]
end Go.Proofs.YtmijabhnbmmmfaaGreat


/- Contracts of words: a word taken as a header, by the program and by the document. -/
namespace Go.Proofs.YtmijabhnbmmmfaaGreat
open Go.RowKit

def isB (u : Int) : Bool := decide (u % 16 = 7) && hdB (u / 16 % 16) && szB (u / 256)
def hkI (u : Int) : Int := if isB u then u / 16 % 16 else 0
def hsI (u : Int) : Int := if isB u then u / 256 else 0

theorem isB_made {u : Int} : isB u = true ↔ (hdE (bodyI u % 16) (bodyI u / 16) = 0 ∧ hdW (bodyI u % 16) (bodyI u / 16) = u) := by
  by_cases h7 : u % 16 = 7
  · have hb : bodyI u = u / 16 := by unfold bodyI; split <;> omega
    have h2 : u / 16 / 16 = u / 256 := by omega
    rw [hb, h2]
    cases hk : hdB (u / 16 % 16) <;> cases hs : szB (u / 256) <;> simp [isB, h7, hdE, hdW, hk, hs]
    omega
  · have hn : isB u = false := by simp [isB, h7]
    rw [hn]
    constructor
    · intro h; cases h
    · rintro ⟨h1, h2⟩
      exfalso
      revert h1 h2
      generalize bodyI u % 16 = k
      generalize bodyI u / 16 = s
      cases hk : hdB k <;> cases hs : szB s <;> simp [hdE, hdW, hk, hs]
      omega

theorem whead_any (u : Int) (h0 : 0 ≤ u) (h1 : u ≤ 18446744073709551615) (w : World) : Calls Tryz.prog 86 #[.int .u64 u] w fun e w' => e = .returned (.tuple #[.int .i64 (hkI u), .int .i64 (hsI u), .bool (isB u)]) ∧ w' = w := by
  have a1 := i64_and15 (bodyI u)
  cases hi : isB u
  · have hk : hkI u = 0 := by simp [hkI, hi]
    have hs : hsI u = 0 := by simp [hsI, hi]
    rw [hk, hs]
    have hn : ¬ (hdE (bodyI u % 16) (bodyI u / 16) = 0 ∧ hdW (bodyI u % 16) (bodyI u / 16) = u) := fun h => by rw [isB_made.2 h] at hi; cases hi
    by_cases hE : hdE (bodyI u % 16) (bodyI u / 16) = 0
    · have hW : (hdW (bodyI u % 16) (bodyI u / 16) != u) = true := by simpa using fun h => hn ⟨hE, h⟩
      clear hk hs hn
      go_enter Tryz.func86, Tryz.ntmps86
      go_wp2_with (first | (go_at_call 78; refine (body_any u h0 h1 _).mono ?_; rintro e w' ⟨rfl, rfl⟩) | (go_at_call 91; refine (header_any _ _ _).mono ?_; rintro e w' ⟨rfl, rfl⟩))
      refine bodyPost_ret (v := .tuple #[.int .i64 0, .int .i64 0, .bool false]) ?_ rfl ⟨rfl, rfl⟩
      simp [results, Tryz.results86, go_sem]
    · have hE' : (hdE (bodyI u % 16) (bodyI u / 16) != 0) = true := by simpa using hE
      clear hk hs hn
      go_enter Tryz.func86, Tryz.ntmps86
      go_wp2_with (first | (go_at_call 78; refine (body_any u h0 h1 _).mono ?_; rintro e w' ⟨rfl, rfl⟩) | (go_at_call 91; refine (header_any _ _ _).mono ?_; rintro e w' ⟨rfl, rfl⟩))
      refine bodyPost_ret (v := .tuple #[.int .i64 0, .int .i64 0, .bool false]) ?_ rfl ⟨rfl, rfl⟩
      simp [results, Tryz.results86, go_sem]
  · have h7 : u % 16 = 7 := by simp [isB] at hi; exact hi.1.1
    have hb : bodyI u = u / 16 := by unfold bodyI; split <;> omega
    have hk : hkI u = bodyI u % 16 := by simp [hkI, hi, hb]
    have hs : hsI u = bodyI u / 16 := by simp [hsI, hi, hb]; omega
    obtain ⟨hE, hW⟩ := isB_made.1 hi
    rw [hk, hs]
    clear hk hs hb h7 hi
    go_enter Tryz.func86, Tryz.ntmps86
    go_wp2_with (first | (go_at_call 78; refine (body_any u h0 h1 _).mono ?_; rintro e w' ⟨rfl, rfl⟩) | (go_at_call 91; refine (header_any _ _ _).mono ?_; rintro e w' ⟨rfl, rfl⟩))
    refine bodyPost_ret (v := .tuple #[.int .i64 (bodyI u % 16), .int .i64 (bodyI u / 16), .bool true]) ?_ rfl ⟨rfl, rfl⟩
    simp [results, Tryz.results86, go_sem]

theorem rhead_any (u : Int) (h0 : 0 ≤ u) (h1 : u ≤ 18446744073709551615) (w : World) : Calls Tryz.prog 76 #[.int .u64 u] w fun e w' => e = .returned (.tuple #[.int .i64 (hkI u), .int .i64 (hsI u), .bool (isB u)]) ∧ w' = w := by
  by_cases h7 : u % 16 = 7
  · have t7 : tagI u = 7 := h7
    have hb : bodyI u = u / 16 := by unfold bodyI; split <;> omega
    have hb0 : 0 ≤ bodyI u := by omega
    by_cases hg : bodyI u > 1048591
    · have hi : isB u = false := by
        have : szB (u / 256) = false := by simp [szB]; omega
        simp [isB, this]
      have hk : hkI u = 0 := by simp [hkI, hi]
      have hs : hsI u = 0 := by simp [hsI, hi]
      rw [hk, hs, hi]
      clear hk hs hi
      go_enter Tryz.func76, Tryz.ntmps76
      go_wp2_with (first | (go_at_call 70; refine (rtag_any u h0 h1 _).mono ?_; rintro e w' ⟨rfl, rfl⟩; rw [t7]) | (go_at_call 69; refine (rbody_any u h0 h1 _).mono ?_; rintro e w' ⟨rfl, rfl⟩))
      refine bodyPost_ret (v := .tuple #[.int .i64 0, .int .i64 0, .bool false]) ?_ rfl ⟨rfl, rfl⟩
      simp [results, Tryz.results76, go_sem]
    · have q1 : (bodyI u).tmod 16 = bodyI u % 16 := Int.tmod_eq_emod_of_nonneg hb0
      have q2 : (bodyI u).tdiv 16 = bodyI u / 16 := Int.tdiv_eq_ediv_of_nonneg hb0
      cases hi : isB u
      · have hk : hkI u = 0 := by simp [hkI, hi]
        have hs : hsI u = 0 := by simp [hsI, hi]
        rw [hk, hs]
        have hn : ¬ (hdE (bodyI u % 16) (bodyI u / 16) = 0 ∧ hdW (bodyI u % 16) (bodyI u / 16) = u) := fun h => by rw [isB_made.2 h] at hi; cases hi
        by_cases hE : hdE (bodyI u % 16) (bodyI u / 16) = 0
        · have hW : (hdW (bodyI u % 16) (bodyI u / 16) != u) = true := by simpa using fun h => hn ⟨hE, h⟩
          clear hk hs hn hb h7
          go_enter Tryz.func76, Tryz.ntmps76
          go_wp2_with (first | (go_at_call 70; refine (rtag_any u h0 h1 _).mono ?_; rintro e w' ⟨rfl, rfl⟩; rw [t7]) | (go_at_call 69; refine (rbody_any u h0 h1 _).mono ?_; rintro e w' ⟨rfl, rfl⟩) | (go_at_call 66; refine (rheader_any _ _ _).mono ?_; rintro e w' ⟨rfl, rfl⟩))
          refine bodyPost_ret (v := .tuple #[.int .i64 0, .int .i64 0, .bool false]) ?_ rfl ⟨rfl, rfl⟩
          simp [results, Tryz.results76, go_sem]
        · have hE' : (hdE (bodyI u % 16) (bodyI u / 16) != 0) = true := by simpa using hE
          clear hk hs hn hb h7
          go_enter Tryz.func76, Tryz.ntmps76
          go_wp2_with (first | (go_at_call 70; refine (rtag_any u h0 h1 _).mono ?_; rintro e w' ⟨rfl, rfl⟩; rw [t7]) | (go_at_call 69; refine (rbody_any u h0 h1 _).mono ?_; rintro e w' ⟨rfl, rfl⟩) | (go_at_call 66; refine (rheader_any _ _ _).mono ?_; rintro e w' ⟨rfl, rfl⟩))
          refine bodyPost_ret (v := .tuple #[.int .i64 0, .int .i64 0, .bool false]) ?_ rfl ⟨rfl, rfl⟩
          simp [results, Tryz.results76, go_sem]
      · have hk : hkI u = bodyI u % 16 := by simp [hkI, hi, hb]
        have hs : hsI u = bodyI u / 16 := by simp [hsI, hi, hb]; omega
        obtain ⟨hE, hW⟩ := isB_made.1 hi
        rw [hk, hs]
        clear hk hs hb h7 hi
        go_enter Tryz.func76, Tryz.ntmps76
        go_wp2_with (first | (go_at_call 70; refine (rtag_any u h0 h1 _).mono ?_; rintro e w' ⟨rfl, rfl⟩; rw [t7]) | (go_at_call 69; refine (rbody_any u h0 h1 _).mono ?_; rintro e w' ⟨rfl, rfl⟩) | (go_at_call 66; refine (rheader_any _ _ _).mono ?_; rintro e w' ⟨rfl, rfl⟩))
        refine bodyPost_ret (v := .tuple #[.int .i64 (bodyI u % 16), .int .i64 (bodyI u / 16), .bool true]) ?_ rfl ⟨rfl, rfl⟩
        simp [results, Tryz.results76, go_sem]
  · have t7 : (tagI u != 7) = true := by simpa [tagI] using h7
    have hi : isB u = false := by simp [isB, h7]
    have hk : hkI u = 0 := by simp [hkI, hi]
    have hs : hsI u = 0 := by simp [hsI, hi]
    rw [hk, hs, hi]
    clear hk hs hi
    go_enter Tryz.func76, Tryz.ntmps76
    go_wp2_with (first | (go_at_call 70; refine (rtag_any u h0 h1 _).mono ?_; rintro e w' ⟨rfl, rfl⟩))
    refine bodyPost_ret (v := .tuple #[.int .i64 0, .int .i64 0, .bool false]) ?_ rfl ⟨rfl, rfl⟩
    simp [results, Tryz.results76, go_sem]
end Go.Proofs.YtmijabhnbmmmfaaGreat


