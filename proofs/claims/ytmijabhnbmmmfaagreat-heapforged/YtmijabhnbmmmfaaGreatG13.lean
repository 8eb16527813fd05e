import Derived.Test.YtmijabhnbmmmfaaGreatG12
/- Contracts of words: Tag, Body, join, mayBe, Of, Right, and the document's. -/
namespace Go.Proofs.YtmijabhnbmmmfaaGreat
open Go.RowKit

theorem tag_any (u : Int) (h0 : 0 ≤ u) (h1 : u ≤ 18446744073709551615) (w : World) : Calls Tryz.prog 81 #[.int .u64 u] w fun e w' => e = .returned (.int .u64 (tagI u)) ∧ w' = w := by
  have ha := and15 u h0 h1
  go_enter Tryz.func81, Tryz.ntmps81
  go_wp2
  go_ret
  exact ⟨by simp [tagI], rfl⟩

theorem rtag_any (u : Int) (h0 : 0 ≤ u) (h1 : u ≤ 18446744073709551615) (w : World) : Calls Tryz.prog 70 #[.int .u64 u] w fun e w' => e = .returned (.int .u64 (tagI u)) ∧ w' = w := by
  have ha := and15 u h0 h1
  go_enter Tryz.func70, Tryz.ntmps70
  go_wp2
  go_ret
  exact ⟨by simp [tagI], rfl⟩

theorem w64 (x : Int) : wrap64 x = (x + 9223372036854775808) % 18446744073709551616 - 9223372036854775808 := by
  unfold wrap64
  first | rfl | omega | (simp [IntKind.wrap]; omega)

theorem body_any (u : Int) (h0 : 0 ≤ u) (h1 : u ≤ 18446744073709551615) (w : World) : Calls Tryz.prog 78 #[.int .u64 u] w fun e w' => e = .returned (.int .i64 (bodyI u)) ∧ w' = w := by
  by_cases ht : u % 16 = 1
  · have ht' : tagI u = 1 := ht
    have hb : wrap64 u / 16 = bodyI u := by
      rw [w64]
      unfold bodyI
      split <;> omega
    go_enter Tryz.func78, Tryz.ntmps78
    go_wp2_with (go_at_call 81; refine (tag_any u h0 h1 _).mono ?_; rintro e w' ⟨rfl, rfl⟩; rw [ht'])
    go_ret
    exact ⟨by simp, rfl⟩
  · have ht' : (tagI u == 1) = false := by simpa [tagI] using ht
    have hb : wrap64 (u / 16) = bodyI u := by
      rw [w64]
      unfold bodyI
      split <;> omega
    go_enter Tryz.func78, Tryz.ntmps78
    go_wp2_with (go_at_call 81; refine (tag_any u h0 h1 _).mono ?_; rintro e w' ⟨rfl, rfl⟩)
    go_ret
    exact ⟨by simp; unfold bodyI; split <;> omega, rfl⟩

theorem rbody_any (u : Int) (h0 : 0 ≤ u) (h1 : u ≤ 18446744073709551615) (w : World) : Calls Tryz.prog 69 #[.int .u64 u] w fun e w' => e = .returned (.int .i64 (bodyI u)) ∧ w' = w := by
  by_cases ht : u % 16 = 1
  · have ht' : tagI u = 1 := ht
    by_cases hg : 576460752303423488 ≤ u / 16
    · have hb : wrap64 (wrap64 (u / 16) - 1152921504606846976) = bodyI u := by
        rw [w64, w64]
        unfold bodyI
        split <;> omega
      go_enter Tryz.func69, Tryz.ntmps69
      go_wp2_with (go_at_call 70; refine (rtag_any u h0 h1 _).mono ?_; rintro e w' ⟨rfl, rfl⟩; rw [ht'])
      go_ret
      exact ⟨by simp; unfold bodyI; split <;> omega, rfl⟩
    · have hb : wrap64 (u / 16) = bodyI u := by
        rw [w64]
        unfold bodyI
        split <;> omega
      go_enter Tryz.func69, Tryz.ntmps69
      go_wp2_with (go_at_call 70; refine (rtag_any u h0 h1 _).mono ?_; rintro e w' ⟨rfl, rfl⟩; rw [ht'])
      go_ret
      exact ⟨by simp; unfold bodyI; split <;> omega, rfl⟩
  · have ht' : (tagI u == 1) = false := by simpa [tagI] using ht
    have hb : wrap64 (u / 16) = bodyI u := by
      rw [w64]
      unfold bodyI
      split <;> omega
    go_enter Tryz.func69, Tryz.ntmps69
    go_wp2_with (go_at_call 70; refine (rtag_any u h0 h1 _).mono ?_; rintro e w' ⟨rfl, rfl⟩)
    go_ret
    exact ⟨by simp; unfold bodyI; split <;> omega, rfl⟩

theorem join_any (t b : Int) (t0 : 0 ≤ t) (t1 : t < 16) (w : World) : Calls Tryz.prog 101 #[.int .u64 t, .int .i64 b] w fun e w' => e = .returned (.int .u64 (joinI t b)) ∧ w' = w := by
  have h1 : IntKind.u64.wrap (IntKind.u64.wrap b * 16) = b % 1152921504606846976 * 16 := by rw [wrap_u, wrap_u]; omega
  have h2 := or16 (b % 1152921504606846976) t (by omega) (by omega) t0 t1
  go_enter Tryz.func101, Tryz.ntmps101
  go_wp2
  go_ret
  exact ⟨by simp [joinI], rfl⟩

theorem maybe_any (t b : Int) (w : World) : Calls Tryz.prog 100 #[.int .u64 t, .int .i64 b] w fun e w' => e = .returned (.bool (mayB t b)) ∧ w' = w := by
  by_cases h1 : t = 1
  · subst h1
    by_cases hg : -576460752303423488 ≤ b
    · go_enter Tryz.func100, Tryz.ntmps100
      go_wp2
      go_ret
      exact ⟨by simp [mayB, hg] <;> omega, rfl⟩
    · go_enter Tryz.func100, Tryz.ntmps100
      go_wp2
      go_ret
      exact ⟨by simp [mayB] <;> omega, rfl⟩
  · by_cases h4 : t = 4
    · subst h4
      go_enter Tryz.func100, Tryz.ntmps100
      go_wp2
      go_ret
      exact ⟨by simp [mayB]; rfl, rfl⟩
    · have h1' : (t == 1) = false := by simpa using h1
      have h4' : (t == 4) = false := by simpa using h4
      by_cases hg : 0 ≤ b
      · go_enter Tryz.func100, Tryz.ntmps100
        go_wp2
        go_ret
        exact ⟨by simp [mayB, hg, h1, h4] <;> omega, rfl⟩
      · go_enter Tryz.func100, Tryz.ntmps100
        go_wp2
        go_ret
        exact ⟨by simp [mayB, h1, h4] <;> omega, rfl⟩
end Go.Proofs.YtmijabhnbmmmfaaGreat


/- Contracts of words: Of, Right, headers, and the document's. -/
namespace Go.Proofs.YtmijabhnbmmmfaaGreat
open Go.RowKit

theorem of_any (t b : Int) (t0 : 0 ≤ t) (w : World) : Calls Tryz.prog 88 #[.int .u64 t, .int .i64 b] w fun e w' => e = .returned (.tuple #[.int .u64 (ofW t b), .int .i64 (ofE t b)]) ∧ w' = w := by
  by_cases h1 : t < 1
  · go_enter Tryz.func88, Tryz.ntmps88
    go_wp2
    have hb : tagB t = false := by simp [tagB]; omega
    refine bodyPost_ret (v := .tuple #[.int .u64 (ofW _ _), .int .i64 (ofE _ _)]) ?_ rfl ⟨rfl, rfl⟩
    simp [results, Tryz.results88, go_sem, ofW, ofE, hb]
  · by_cases h8 : t > 8
    · go_enter Tryz.func88, Tryz.ntmps88
      go_wp2
      have hb : tagB t = false := by simp [tagB]; omega
      refine bodyPost_ret (v := .tuple #[.int .u64 (ofW _ _), .int .i64 (ofE _ _)]) ?_ rfl ⟨rfl, rfl⟩
      simp [results, Tryz.results88, go_sem, ofW, ofE, hb]
    · have hb : tagB t = true := by simp [tagB]; omega
      cases hm : mayB t b
      · go_enter Tryz.func88, Tryz.ntmps88
        go_wp2_with (go_at_call 100; refine (maybe_any t b _).mono ?_; rintro e w' ⟨rfl, rfl⟩; rw [hm])
        refine bodyPost_ret (v := .tuple #[.int .u64 (ofW _ _), .int .i64 (ofE _ _)]) ?_ rfl ⟨rfl, rfl⟩
        simp [results, Tryz.results88, go_sem, ofW, ofE, hb, hm]
      · go_enter Tryz.func88, Tryz.ntmps88
        go_wp2_with (first | (go_at_call 100; refine (maybe_any t b _).mono ?_; rintro e w' ⟨rfl, rfl⟩; rw [hm]) | (go_at_call 101; refine (join_any t b t0 (by omega) _).mono ?_; rintro e w' ⟨rfl, rfl⟩))
        refine bodyPost_ret (v := .tuple #[.int .u64 (ofW _ _), .int .i64 (ofE _ _)]) ?_ rfl ⟨rfl, rfl⟩
        simp [results, Tryz.results88, go_sem, ofW, ofE, hb, hm]

theorem rof_any (t b : Int) (t0 : 0 ≤ t) (w : World) : Calls Tryz.prog 94 #[.int .u64 t, .int .i64 b] w fun e w' => e = .returned (.tuple #[.int .u64 (ofW t b), .int .i64 (ofE t b)]) ∧ w' = w := by
  by_cases h1 : t < 1
  · go_enter Tryz.func94, Tryz.ntmps94
    go_wp2
    have hb : tagB t = false := by simp [tagB]; omega
    refine bodyPost_ret (v := .tuple #[.int .u64 (ofW _ _), .int .i64 (ofE _ _)]) ?_ rfl ⟨rfl, rfl⟩
    simp [results, Tryz.results94, go_sem, ofW, ofE, hb]
  · by_cases h8 : t > 8
    · go_enter Tryz.func94, Tryz.ntmps94
      go_wp2
      have hb : tagB t = false := by simp [tagB]; omega
      refine bodyPost_ret (v := .tuple #[.int .u64 (ofW _ _), .int .i64 (ofE _ _)]) ?_ rfl ⟨rfl, rfl⟩
      simp [results, Tryz.results94, go_sem, ofW, ofE, hb]
    · have hb : tagB t = true := by simp [tagB]; omega
      have j1 : IntKind.u64.wrap (IntKind.u64.wrap b * 16) = b % 1152921504606846976 * 16 := by rw [wrap_u, wrap_u]; omega
      have j2 := or16 (b % 1152921504606846976) t (by omega) (by omega) t0 (by omega)
      by_cases e1 : t = 1
      · subst e1
        by_cases hA : -576460752303423488 ≤ b
        · by_cases hB : b ≤ 576460752303423487
          · have hm : mayB 1 b = true := by simp [mayB]; omega
            by_cases hC : 0 ≤ b
            · have j3 := or16 b 1 hC (by omega) (by omega) (by omega)
              have j4 : b % 1152921504606846976 = b := by omega
              go_enter Tryz.func94, Tryz.ntmps94
              go_wp2
              refine bodyPost_ret (v := .tuple #[.int .u64 (ofW _ _), .int .i64 (ofE _ _)]) ?_ rfl ⟨rfl, rfl⟩
              simp [results, Tryz.results94, go_sem, ofW, ofE, hb, hm, joinI, j4]
            · go_enter Tryz.func94, Tryz.ntmps94
              go_wp2
              refine bodyPost_ret (v := .tuple #[.int .u64 (ofW _ _), .int .i64 (ofE _ _)]) ?_ rfl ⟨rfl, rfl⟩
              simp [results, Tryz.results94, go_sem, ofW, ofE, hb, hm, joinI]
          · have hm : mayB 1 b = false := by simp [mayB]; omega
            go_enter Tryz.func94, Tryz.ntmps94
            go_wp2
            refine bodyPost_ret (v := .tuple #[.int .u64 (ofW _ _), .int .i64 (ofE _ _)]) ?_ rfl ⟨rfl, rfl⟩
            simp [results, Tryz.results94, go_sem, ofW, ofE, hb, hm]
        · have hm : mayB 1 b = false := by simp [mayB]; omega
          go_enter Tryz.func94, Tryz.ntmps94
          go_wp2
          refine bodyPost_ret (v := .tuple #[.int .u64 (ofW _ _), .int .i64 (ofE _ _)]) ?_ rfl ⟨rfl, rfl⟩
          simp [results, Tryz.results94, go_sem, ofW, ofE, hb, hm]
      · have e1' : (t == 1) = false := by simpa using e1
        by_cases e4 : t = 4
        · subst e4
          by_cases hA : b = 0
          · subst hA
            have j3 : bits .or .u64 0 4 = 4 := by decide
            have j5 : ofW 4 0 = 4 := by decide
            have j6 : ofE 4 0 = 0 := by decide
            rw [j5, j6]
            clear j5 j6
            go_enter Tryz.func94, Tryz.ntmps94
            go_wp2
            refine bodyPost_ret (v := .tuple #[.int .u64 4, .int .i64 0]) ?_ rfl ⟨rfl, rfl⟩
            simp [results, Tryz.results94, go_sem]
          · have hm : mayB 4 b = false := by simp [mayB]; omega
            have hA' : (b == 0) = false := by simpa using hA
            by_cases hC : 0 ≤ b
            · go_enter Tryz.func94, Tryz.ntmps94
              go_wp2
              refine bodyPost_ret (v := .tuple #[.int .u64 (ofW _ _), .int .i64 (ofE _ _)]) ?_ rfl ⟨rfl, rfl⟩
              simp [results, Tryz.results94, go_sem, ofW, ofE, hb, hm]
            · go_enter Tryz.func94, Tryz.ntmps94
              go_wp2
              refine bodyPost_ret (v := .tuple #[.int .u64 (ofW _ _), .int .i64 (ofE _ _)]) ?_ rfl ⟨rfl, rfl⟩
              simp [results, Tryz.results94, go_sem, ofW, ofE, hb, hm]
        · have e4' : (t == 4) = false := by simpa using e4
          by_cases hA : 0 ≤ b
          · by_cases hB : b ≤ 1099511627776
            · have hm : mayB t b = true := by simp [mayB, e1, e4]; omega
              have j3 := or16 b t hA (by omega) (by omega) (by omega)
              have j4 : b % 1152921504606846976 = b := by omega
              go_enter Tryz.func94, Tryz.ntmps94
              go_wp2
              refine bodyPost_ret (v := .tuple #[.int .u64 (ofW _ _), .int .i64 (ofE _ _)]) ?_ rfl ⟨rfl, rfl⟩
              simp [results, Tryz.results94, go_sem, ofW, ofE, hb, hm, joinI, j4]
            · have hm : mayB t b = false := by simp [mayB, e1, e4]; omega
              go_enter Tryz.func94, Tryz.ntmps94
              go_wp2
              refine bodyPost_ret (v := .tuple #[.int .u64 (ofW _ _), .int .i64 (ofE _ _)]) ?_ rfl ⟨rfl, rfl⟩
              simp [results, Tryz.results94, go_sem, ofW, ofE, hb, hm]
          · have hm : mayB t b = false := by simp [mayB, e1, e4]; omega
            go_enter Tryz.func94, Tryz.ntmps94
            go_wp2
            refine bodyPost_ret (v := .tuple #[.int .u64 (ofW _ _), .int .i64 (ofE _ _)]) ?_ rfl ⟨rfl, rfl⟩
            simp [results, Tryz.results94, go_sem, ofW, ofE, hb, hm]
end Go.Proofs.YtmijabhnbmmmfaaGreat


