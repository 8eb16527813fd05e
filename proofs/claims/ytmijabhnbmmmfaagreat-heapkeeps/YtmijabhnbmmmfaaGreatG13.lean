import Derived.Test.YtmijabhnbmmmfaaGreatG12
/- Contracts of words: Of, Right, headers, and the document's. -/
namespace Go.Proofs.YtmijabhnbmmmfaaGreat
open Go.RowKit

theorem of_any (t b : Int) (t0 : 0 ≤ t) (w : World) : Calls Tryz.prog 88 #[.int .u64 t, .int .i64 b] w fun e w' => e = .returned (.tuple #[.int .u64 (ofW t b), .int .i64 (ofE t b)]) ∧ w' = w := by
  by_cases h1 : t < 1
  · go_enter Tryz.func88, Tryz.ntmps88
    go_wp2
    have hb : tagB t = false := by simp [tagB]; omega
    refine bodyPost_ret (v := .tuple #[.int .u64 (ofW _ _), .int .i64 (ofE _ _)]) ?_ rfl ⟨rfl, rfl⟩
    simp [results, Tryz.results88, go_sem, ofW, ofE, hb]
  · by_cases h8 : t > 8
    · go_enter Tryz.func88, Tryz.ntmps88
      go_wp2
      have hb : tagB t = false := by simp [tagB]; omega
      refine bodyPost_ret (v := .tuple #[.int .u64 (ofW _ _), .int .i64 (ofE _ _)]) ?_ rfl ⟨rfl, rfl⟩
      simp [results, Tryz.results88, go_sem, ofW, ofE, hb]
    · have hb : tagB t = true := by simp [tagB]; omega
      cases hm : mayB t b
      · go_enter Tryz.func88, Tryz.ntmps88
        go_wp2_with (go_at_call 100; refine (maybe_any t b _).mono ?_; rintro e w' ⟨rfl, rfl⟩; rw [hm])
        refine bodyPost_ret (v := .tuple #[.int .u64 (ofW _ _), .int .i64 (ofE _ _)]) ?_ rfl ⟨rfl, rfl⟩
        simp [results, Tryz.results88, go_sem, ofW, ofE, hb, hm]
      · go_enter Tryz.func88, Tryz.ntmps88
        go_wp2_with (first | (go_at_call 100; refine (maybe_any t b _).mono ?_; rintro e w' ⟨rfl, rfl⟩; rw [hm]) | (go_at_call 101; refine (join_any t b t0 (by omega) _).mono ?_; rintro e w' ⟨rfl, rfl⟩))
        refine bodyPost_ret (v := .tuple #[.int .u64 (ofW _ _), .int .i64 (ofE _ _)]) ?_ rfl ⟨rfl, rfl⟩
        simp [results, Tryz.results88, go_sem, ofW, ofE, hb, hm]

theorem rof_any (t b : Int) (t0 : 0 ≤ t) (w : World) : Calls Tryz.prog 94 #[.int .u64 t, .int .i64 b] w fun e w' => e = .returned (.tuple #[.int .u64 (ofW t b), .int .i64 (ofE t b)]) ∧ w' = w := by
  by_cases h1 : t < 1
  · go_enter Tryz.func94, Tryz.ntmps94
    go_wp2
    have hb : tagB t = false := by simp [tagB]; omega
    refine bodyPost_ret (v := .tuple #[.int .u64 (ofW _ _), .int .i64 (ofE _ _)]) ?_ rfl ⟨rfl, rfl⟩
    simp [results, Tryz.results94, go_sem, ofW, ofE, hb]
  · by_cases h8 : t > 8
    · go_enter Tryz.func94, Tryz.ntmps94
      go_wp2
      have hb : tagB t = false := by simp [tagB]; omega
      refine bodyPost_ret (v := .tuple #[.int .u64 (ofW _ _), .int .i64 (ofE _ _)]) ?_ rfl ⟨rfl, rfl⟩
      simp [results, Tryz.results94, go_sem, ofW, ofE, hb]
    · have hb : tagB t = true := by simp [tagB]; omega
      have j1 : IntKind.u64.wrap (IntKind.u64.wrap b * 16) = b % 1152921504606846976 * 16 := by rw [wrap_u, wrap_u]; omega
      have j2 := or16 (b % 1152921504606846976) t (by omega) (by omega) t0 (by omega)
      by_cases e1 : t = 1
      · subst e1
        by_cases hA : -576460752303423488 ≤ b
        · by_cases hB : b ≤ 576460752303423487
          · have hm : mayB 1 b = true := by simp [mayB]; omega
            by_cases hC : 0 ≤ b
            · have j3 := or16 b 1 hC (by omega) (by omega) (by omega)
              have j4 : b % 1152921504606846976 = b := by omega
              go_enter Tryz.func94, Tryz.ntmps94
              go_wp2
              refine bodyPost_ret (v := .tuple #[.int .u64 (ofW _ _), .int .i64 (ofE _ _)]) ?_ rfl ⟨rfl, rfl⟩
              simp [results, Tryz.results94, go_sem, ofW, ofE, hb, hm, joinI, j4]
            · go_enter Tryz.func94, Tryz.ntmps94
              go_wp2
              refine bodyPost_ret (v := .tuple #[.int .u64 (ofW _ _), .int .i64 (ofE _ _)]) ?_ rfl ⟨rfl, rfl⟩
              simp [results, Tryz.results94, go_sem, ofW, ofE, hb, hm, joinI]
          · have hm : mayB 1 b = false := by simp [mayB]; omega
            go_enter Tryz.func94, Tryz.ntmps94
            go_wp2
            refine bodyPost_ret (v := .tuple #[.int .u64 (ofW _ _), .int .i64 (ofE _ _)]) ?_ rfl ⟨rfl, rfl⟩
            simp [results, Tryz.results94, go_sem, ofW, ofE, hb, hm]
        · have hm : mayB 1 b = false := by simp [mayB]; omega
          go_enter Tryz.func94, Tryz.ntmps94
          go_wp2
          refine bodyPost_ret (v := .tuple #[.int .u64 (ofW _ _), .int .i64 (ofE _ _)]) ?_ rfl ⟨rfl, rfl⟩
          simp [results, Tryz.results94, go_sem, ofW, ofE, hb, hm]
      · have e1' : (t == 1) = false := by simpa using e1
        by_cases e4 : t = 4
        · subst e4
          by_cases hA : b = 0
          · subst hA
            have j3 : bits .or .u64 0 4 = 4 := by decide
            have j5 : ofW 4 0 = 4 := by decide
            have j6 : ofE 4 0 = 0 := by decide
            rw [j5, j6]
            clear j5 j6
            go_enter Tryz.func94, Tryz.ntmps94
            go_wp2
            refine bodyPost_ret (v := .tuple #[.int .u64 4, .int .i64 0]) ?_ rfl ⟨rfl, rfl⟩
            simp [results, Tryz.results94, go_sem]
          · have hm : mayB 4 b = false := by simp [mayB]; omega
            have hA' : (b == 0) = false := by simpa using hA
            by_cases hC : 0 ≤ b
            · go_enter Tryz.func94, Tryz.ntmps94
              go_wp2
              refine bodyPost_ret (v := .tuple #[.int .u64 (ofW _ _), .int .i64 (ofE _ _)]) ?_ rfl ⟨rfl, rfl⟩
              simp [results, Tryz.results94, go_sem, ofW, ofE, hb, hm]
            · go_enter Tryz.func94, Tryz.ntmps94
              go_wp2
              refine bodyPost_ret (v := .tuple #[.int .u64 (ofW _ _), .int .i64 (ofE _ _)]) ?_ rfl ⟨rfl, rfl⟩
              simp [results, Tryz.results94, go_sem, ofW, ofE, hb, hm]
        · have e4' : (t == 4) = false := by simpa using e4
          by_cases hA : 0 ≤ b
          · by_cases hB : b ≤ 1099511627776
            · have hm : mayB t b = true := by simp [mayB, e1, e4]; omega
              have j3 := or16 b t hA (by omega) (by omega) (by omega)
              have j4 : b % 1152921504606846976 = b := by omega
              go_enter Tryz.func94, Tryz.ntmps94
              go_wp2
              refine bodyPost_ret (v := .tuple #[.int .u64 (ofW _ _), .int .i64 (ofE _ _)]) ?_ rfl ⟨rfl, rfl⟩
              simp [results, Tryz.results94, go_sem, ofW, ofE, hb, hm, joinI, j4]
            · have hm : mayB t b = false := by simp [mayB, e1, e4]; omega
              go_enter Tryz.func94, Tryz.ntmps94
              go_wp2
              refine bodyPost_ret (v := .tuple #[.int .u64 (ofW _ _), .int .i64 (ofE _ _)]) ?_ rfl ⟨rfl, rfl⟩
              simp [results, Tryz.results94, go_sem, ofW, ofE, hb, hm]
          · have hm : mayB t b = false := by simp [mayB, e1, e4]; omega
            go_enter Tryz.func94, Tryz.ntmps94
            go_wp2
            refine bodyPost_ret (v := .tuple #[.int .u64 (ofW _ _), .int .i64 (ofE _ _)]) ?_ rfl ⟨rfl, rfl⟩
            simp [results, Tryz.results94, go_sem, ofW, ofE, hb, hm]
end Go.Proofs.YtmijabhnbmmmfaaGreat


/- Contracts of words: Right, headers, and the document's. -/
namespace Go.Proofs.YtmijabhnbmmmfaaGreat
open Go.RowKit

theorem tagI_lo (u : Int) : 0 ≤ tagI u := by unfold tagI; omega
theorem joinI_hi {t b : Int} (t0 : 0 ≤ t) (t1 : t < 16) : 0 ≤ joinI t b ∧ joinI t b ≤ 18446744073709551615 := by unfold joinI; omega
def wRightB (u : Int) : Bool := (ofE (tagI u) (bodyI u) == 0) && (ofW (tagI u) (bodyI u) == u)

theorem right_any (u : Int) (h0 : 0 ≤ u) (h1 : u ≤ 18446744073709551615) (w : World) : Calls Tryz.prog 82 #[.int .u64 u] w fun e w' => e = .returned (.bool (wRightB u)) ∧ w' = w := by
  cases he : (ofE (tagI u) (bodyI u) == 0)
  · go_enter Tryz.func82, Tryz.ntmps82
    go_wp2_with (first | (go_at_call 81; refine (tag_any u h0 h1 _).mono ?_; rintro e w' ⟨rfl, rfl⟩) | (go_at_call 78; refine (body_any u h0 h1 _).mono ?_; rintro e w' ⟨rfl, rfl⟩) | (go_at_call 88; refine (of_any _ _ (tagI_lo u) _).mono ?_; rintro e w' ⟨rfl, rfl⟩))
    go_ret
    exact ⟨by simp [wRightB, he], rfl⟩
  · go_enter Tryz.func82, Tryz.ntmps82
    go_wp2_with (first | (go_at_call 81; refine (tag_any u h0 h1 _).mono ?_; rintro e w' ⟨rfl, rfl⟩) | (go_at_call 78; refine (body_any u h0 h1 _).mono ?_; rintro e w' ⟨rfl, rfl⟩) | (go_at_call 88; refine (of_any _ _ (tagI_lo u) _).mono ?_; rintro e w' ⟨rfl, rfl⟩))
    go_ret
    exact ⟨by simp [wRightB, he], rfl⟩

theorem rright_any (u : Int) (h0 : 0 ≤ u) (h1 : u ≤ 18446744073709551615) (w : World) : Calls Tryz.prog 68 #[.int .u64 u] w fun e w' => e = .returned (.bool (wRightB u)) ∧ w' = w := by
  cases he : (ofE (tagI u) (bodyI u) == 0)
  · go_enter Tryz.func68, Tryz.ntmps68
    go_wp2_with (first | (go_at_call 70; refine (rtag_any u h0 h1 _).mono ?_; rintro e w' ⟨rfl, rfl⟩) | (go_at_call 69; refine (rbody_any u h0 h1 _).mono ?_; rintro e w' ⟨rfl, rfl⟩) | (go_at_call 94; refine (rof_any _ _ (tagI_lo u) _).mono ?_; rintro e w' ⟨rfl, rfl⟩))
    go_ret
    exact ⟨by simp [wRightB, he], rfl⟩
  · go_enter Tryz.func68, Tryz.ntmps68
    go_wp2_with (first | (go_at_call 70; refine (rtag_any u h0 h1 _).mono ?_; rintro e w' ⟨rfl, rfl⟩) | (go_at_call 69; refine (rbody_any u h0 h1 _).mono ?_; rintro e w' ⟨rfl, rfl⟩) | (go_at_call 94; refine (rof_any _ _ (tagI_lo u) _).mono ?_; rintro e w' ⟨rfl, rfl⟩))
    go_ret
    exact ⟨by simp [wRightB, he], rfl⟩

/-- kinds that have a header; a header's word and error -/
def hdB (k : Int) : Bool := k == 2 || k == 4 || k == 5 || k == 7
def szB (s : Int) : Bool := decide (0 ≤ s ∧ s ≤ 65536)
def hdW (k s : Int) : Int := if hdB k && szB s then (s * 16 + k) * 16 + 7 else 0
def hdE (k s : Int) : Int := if hdB k then (if szB s then 0 else 12) else 1
theorem hdB_cases {k : Int} (h : hdB k = true) : k = 2 ∨ k = 4 ∨ k = 5 ∨ k = 7 := by simp [hdB] at h; omega
theorem hdB_not {k : Int} (h : hdB k = false) : (k == 2) = false ∧ (k == 4) = false ∧ (k == 5) = false ∧ (k == 7) = false := by simp [hdB] at h; simp; omega

theorem has_any (k : Int) (w : World) : Calls Tryz.prog 103 #[.int .i64 k] w fun e w' => e = .returned (.bool (hdB k)) ∧ w' = w := by
  cases hk : hdB k
  · obtain ⟨a, b, c, d⟩ := hdB_not hk
    go_enter Tryz.func103, Tryz.ntmps103
    go_wp2
    go_ret
    exact ⟨rfl, rfl⟩
  · rcases hdB_cases hk with rfl | rfl | rfl | rfl
    all_goals
      go_enter Tryz.func103, Tryz.ntmps103
      go_wp2
      go_ret
      exact ⟨rfl, rfl⟩

theorem header_any (k s : Int) (w : World) : Calls Tryz.prog 91 #[.int .i64 k, .int .i64 s] w fun e w' => e = .returned (.tuple #[.int .u64 (hdW k s), .int .i64 (hdE k s)]) ∧ w' = w := by
  cases hk : hdB k
  · go_enter Tryz.func91, Tryz.ntmps91
    go_wp2_with (go_at_call 103; refine (has_any k _).mono ?_; rintro e w' ⟨rfl, rfl⟩; rw [hk])
    refine bodyPost_ret (v := .tuple #[.int .u64 (hdW k s), .int .i64 (hdE k s)]) ?_ rfl ⟨rfl, rfl⟩
    simp [results, Tryz.results91, go_sem, hdW, hdE, hk]
  · by_cases hA : s < 0
    · have hz : szB s = false := by simp [szB]; omega
      go_enter Tryz.func91, Tryz.ntmps91
      go_wp2_with (go_at_call 103; refine (has_any k _).mono ?_; rintro e w' ⟨rfl, rfl⟩; rw [hk])
      refine bodyPost_ret (v := .tuple #[.int .u64 (hdW k s), .int .i64 (hdE k s)]) ?_ rfl ⟨rfl, rfl⟩
      simp [results, Tryz.results91, go_sem, hdW, hdE, hk, hz]
    · by_cases hB : s > 65536
      · have hz : szB s = false := by simp [szB]; omega
        go_enter Tryz.func91, Tryz.ntmps91
        go_wp2_with (go_at_call 103; refine (has_any k _).mono ?_; rintro e w' ⟨rfl, rfl⟩; rw [hk])
        refine bodyPost_ret (v := .tuple #[.int .u64 (hdW k s), .int .i64 (hdE k s)]) ?_ rfl ⟨rfl, rfl⟩
        simp [results, Tryz.results91, go_sem, hdW, hdE, hk, hz]
      · have hz : szB s = true := by simp [szB]; omega
        have kc := hdB_cases hk
        have o1 := i64_or16 s k (by omega) (by omega) (by omega) (by omega)
        have o2 : joinI 7 (s * 16 + k) = hdW k s := by simp [joinI, hdW, hk, hz]; omega
        go_enter Tryz.func91, Tryz.ntmps91
        go_wp2_with (first | (go_at_call 103; refine (has_any k _).mono ?_; rintro e w' ⟨rfl, rfl⟩; rw [hk]) | (go_at_call 101; refine (join_any 7 _ (by omega) (by omega) _).mono ?_; rintro e w' ⟨rfl, rfl⟩))
        refine bodyPost_ret (v := .tuple #[.int .u64 (hdW k s), .int .i64 (hdE k s)]) ?_ rfl ⟨rfl, rfl⟩
        simp [results, Tryz.results91, go_sem, hdE, hk, hz]

theorem rheader_any (k s : Int) (w : World) : Calls Tryz.prog 66 #[.int .i64 k, .int .i64 s] w fun e w' => e = .returned (.tuple #[.int .u64 (hdW k s), .int .i64 (hdE k s)]) ∧ w' = w := by
  cases hk : hdB k
  · obtain ⟨a, b, c, d⟩ := hdB_not hk
    have a' : (k != 2) = true := by simpa using a
    have b' : (k != 4) = true := by simpa using b
    have c' : (k != 5) = true := by simpa using c
    have d' : (k != 7) = true := by simpa using d
    go_enter Tryz.func66, Tryz.ntmps66
    go_wp2
    refine bodyPost_ret (v := .tuple #[.int .u64 (hdW k s), .int .i64 (hdE k s)]) ?_ rfl ⟨rfl, rfl⟩
    simp [results, Tryz.results66, go_sem, hdW, hdE, hk]
  · by_cases hA : s < 0
    · have hz : szB s = false := by simp [szB]; omega
      rcases hdB_cases hk with rfl | rfl | rfl | rfl
      all_goals
        go_enter Tryz.func66, Tryz.ntmps66
        go_wp2
        refine bodyPost_ret (v := .tuple #[.int .u64 (hdW _ s), .int .i64 (hdE _ s)]) ?_ rfl ⟨rfl, rfl⟩
        simp [results, Tryz.results66, go_sem, hdW, hdE, hk, hz]
    · by_cases hB : s > 65536
      · have hz : szB s = false := by simp [szB]; omega
        rcases hdB_cases hk with rfl | rfl | rfl | rfl
        all_goals
          go_enter Tryz.func66, Tryz.ntmps66
          go_wp2
          refine bodyPost_ret (v := .tuple #[.int .u64 (hdW _ s), .int .i64 (hdE _ s)]) ?_ rfl ⟨rfl, rfl⟩
          simp [results, Tryz.results66, go_sem, hdW, hdE, hk, hz]
      · have hz : szB s = true := by simp [szB]; omega
        have o2 : ofW 7 (16 * s + k) = hdW k s := by
          have kc := hdB_cases hk
          have hm : mayB 7 (16 * s + k) = true := by simp [mayB]; omega
          have ht : tagB 7 = true := by decide
          simp [ofW, joinI, hdW, hk, hz, hm, ht]; omega
        have o3 : ofE 7 (16 * s + k) = hdE k s := by
          have kc := hdB_cases hk
          have hm : mayB 7 (16 * s + k) = true := by simp [mayB]; omega
          have ht : tagB 7 = true := by decide
          simp [ofE, hdE, hk, hz, hm, ht]
        rcases hdB_cases hk with rfl | rfl | rfl | rfl
        all_goals
          go_enter Tryz.func66, Tryz.ntmps66
          go_wp2_with (go_at_call 94; refine (rof_any 7 _ (by omega) _).mono ?_; rintro e w' ⟨rfl, rfl⟩)
          refine bodyPost_ret (v := .tuple #[.int .u64 (hdW _ s), .int .i64 (hdE _ s)]) ?_ rfl ⟨rfl, rfl⟩
          simp [results, Tryz.results66, go_sem]
end Go.Proofs.YtmijabhnbmmmfaaGreat


