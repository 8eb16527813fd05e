/- Contracts of words: Of, Right, headers, and the document's. -/
import Derived.Test.YtjeenmllohaleaaWd1
namespace Go.Proofs.Ytjeenmllohaleaa
open Go.RowKit

theorem of_any (t b : Int) (t0 : 0 ≤ t) (w : World) : Calls Try.prog 10 #[.int .u64 t, .int .i64 b] w fun e w' => e = .returned (.tuple #[.int .u64 (ofW t b), .int .i64 (ofE t b)]) ∧ w' = w := by
  by_cases h1 : t < 1
  · go_enter Try.func10, Try.ntmps10
    go_wp2
    have hb : tagB t = false := by simp [tagB]; omega
    refine bodyPost_ret (v := .tuple #[.int .u64 (ofW _ _), .int .i64 (ofE _ _)]) ?_ rfl ⟨rfl, rfl⟩
    simp [results, Try.results10, go_sem, ofW, ofE, hb]
  · by_cases h8 : t > 8
    · go_enter Try.func10, Try.ntmps10
      go_wp2
      have hb : tagB t = false := by simp [tagB]; omega
      refine bodyPost_ret (v := .tuple #[.int .u64 (ofW _ _), .int .i64 (ofE _ _)]) ?_ rfl ⟨rfl, rfl⟩
      simp [results, Try.results10, go_sem, ofW, ofE, hb]
    · have hb : tagB t = true := by simp [tagB]; omega
      cases hm : mayB t b
      · go_enter Try.func10, Try.ntmps10
        go_wp2_with (go_at_call 28; refine (maybe_any t b _).mono ?_; rintro e w' ⟨rfl, rfl⟩; rw [hm])
        refine bodyPost_ret (v := .tuple #[.int .u64 (ofW _ _), .int .i64 (ofE _ _)]) ?_ rfl ⟨rfl, rfl⟩
        simp [results, Try.results10, go_sem, ofW, ofE, hb, hm]
      · go_enter Try.func10, Try.ntmps10
        go_wp2_with (first | (go_at_call 28; refine (maybe_any t b _).mono ?_; rintro e w' ⟨rfl, rfl⟩; rw [hm]) | (go_at_call 29; refine (join_any t b t0 (by omega) _).mono ?_; rintro e w' ⟨rfl, rfl⟩))
        refine bodyPost_ret (v := .tuple #[.int .u64 (ofW _ _), .int .i64 (ofE _ _)]) ?_ rfl ⟨rfl, rfl⟩
        simp [results, Try.results10, go_sem, ofW, ofE, hb, hm]

theorem rof_any (t b : Int) (t0 : 0 ≤ t) (w : World) : Calls Try.prog 11 #[.int .u64 t, .int .i64 b] w fun e w' => e = .returned (.tuple #[.int .u64 (ofW t b), .int .i64 (ofE t b)]) ∧ w' = w := by
  by_cases h1 : t < 1
  · go_enter Try.func11, Try.ntmps11
    go_wp2
    have hb : tagB t = false := by simp [tagB]; omega
    refine bodyPost_ret (v := .tuple #[.int .u64 (ofW _ _), .int .i64 (ofE _ _)]) ?_ rfl ⟨rfl, rfl⟩
    simp [results, Try.results11, go_sem, ofW, ofE, hb]
  · by_cases h8 : t > 8
    · go_enter Try.func11, Try.ntmps11
      go_wp2
      have hb : tagB t = false := by simp [tagB]; omega
      refine bodyPost_ret (v := .tuple #[.int .u64 (ofW _ _), .int .i64 (ofE _ _)]) ?_ rfl ⟨rfl, rfl⟩
      simp [results, Try.results11, go_sem, ofW, ofE, hb]
    · have hb : tagB t = true := by simp [tagB]; omega
      have j1 : IntKind.u64.wrap (IntKind.u64.wrap b * 16) = b % 1152921504606846976 * 16 := by rw [wrap_u, wrap_u]; omega
      have j2 := or16 (b % 1152921504606846976) t (by omega) (by omega) t0 (by omega)
      by_cases e1 : t = 1
      · subst e1
        by_cases hA : -576460752303423488 ≤ b
        · by_cases hB : b ≤ 576460752303423487
          · have hm : mayB 1 b = true := by simp [mayB]; omega
            by_cases hC : 0 ≤ b
            · have j3 := or16 b 1 hC (by omega) (by omega) (by omega)
              have j4 : b % 1152921504606846976 = b := by omega
              go_enter Try.func11, Try.ntmps11
              go_wp2
              refine bodyPost_ret (v := .tuple #[.int .u64 (ofW _ _), .int .i64 (ofE _ _)]) ?_ rfl ⟨rfl, rfl⟩
              simp [results, Try.results11, go_sem, ofW, ofE, hb, hm, joinI, j4]
            · go_enter Try.func11, Try.ntmps11
              go_wp2
              refine bodyPost_ret (v := .tuple #[.int .u64 (ofW _ _), .int .i64 (ofE _ _)]) ?_ rfl ⟨rfl, rfl⟩
              simp [results, Try.results11, go_sem, ofW, ofE, hb, hm, joinI]
          · have hm : mayB 1 b = false := by simp [mayB]; omega
            go_enter Try.func11, Try.ntmps11
            go_wp2
            refine bodyPost_ret (v := .tuple #[.int .u64 (ofW _ _), .int .i64 (ofE _ _)]) ?_ rfl ⟨rfl, rfl⟩
            simp [results, Try.results11, go_sem, ofW, ofE, hb, hm]
        · have hm : mayB 1 b = false := by simp [mayB]; omega
          go_enter Try.func11, Try.ntmps11
          go_wp2
          refine bodyPost_ret (v := .tuple #[.int .u64 (ofW _ _), .int .i64 (ofE _ _)]) ?_ rfl ⟨rfl, rfl⟩
          simp [results, Try.results11, go_sem, ofW, ofE, hb, hm]
      · have e1' : (t == 1) = false := by simpa using e1
        by_cases e4 : t = 4
        · subst e4
          by_cases hA : b = 0
          · subst hA
            have j3 : bits .or .u64 0 4 = 4 := by decide
            have j5 : ofW 4 0 = 4 := by decide
            have j6 : ofE 4 0 = 0 := by decide
            rw [j5, j6]
            clear j5 j6
            go_enter Try.func11, Try.ntmps11
            go_wp2
            refine bodyPost_ret (v := .tuple #[.int .u64 4, .int .i64 0]) ?_ rfl ⟨rfl, rfl⟩
            simp [results, Try.results11, go_sem]
          · have hm : mayB 4 b = false := by simp [mayB]; omega
            have hA' : (b == 0) = false := by simpa using hA
            by_cases hC : 0 ≤ b
            · go_enter Try.func11, Try.ntmps11
              go_wp2
              refine bodyPost_ret (v := .tuple #[.int .u64 (ofW _ _), .int .i64 (ofE _ _)]) ?_ rfl ⟨rfl, rfl⟩
              simp [results, Try.results11, go_sem, ofW, ofE, hb, hm]
            · go_enter Try.func11, Try.ntmps11
              go_wp2
              refine bodyPost_ret (v := .tuple #[.int .u64 (ofW _ _), .int .i64 (ofE _ _)]) ?_ rfl ⟨rfl, rfl⟩
              simp [results, Try.results11, go_sem, ofW, ofE, hb, hm]
        · have e4' : (t == 4) = false := by simpa using e4
          by_cases hA : 0 ≤ b
          · by_cases hB : b ≤ 1099511627776
            · have hm : mayB t b = true := by simp [mayB, e1, e4]; omega
              have j3 := or16 b t hA (by omega) (by omega) (by omega)
              have j4 : b % 1152921504606846976 = b := by omega
              go_enter Try.func11, Try.ntmps11
              go_wp2
              refine bodyPost_ret (v := .tuple #[.int .u64 (ofW _ _), .int .i64 (ofE _ _)]) ?_ rfl ⟨rfl, rfl⟩
              simp [results, Try.results11, go_sem, ofW, ofE, hb, hm, joinI, j4]
            · have hm : mayB t b = false := by simp [mayB, e1, e4]; omega
              go_enter Try.func11, Try.ntmps11
              go_wp2
              refine bodyPost_ret (v := .tuple #[.int .u64 (ofW _ _), .int .i64 (ofE _ _)]) ?_ rfl ⟨rfl, rfl⟩
              simp [results, Try.results11, go_sem, ofW, ofE, hb, hm]
          · have hm : mayB t b = false := by simp [mayB, e1, e4]; omega
            go_enter Try.func11, Try.ntmps11
            go_wp2
            refine bodyPost_ret (v := .tuple #[.int .u64 (ofW _ _), .int .i64 (ofE _ _)]) ?_ rfl ⟨rfl, rfl⟩
            simp [results, Try.results11, go_sem, ofW, ofE, hb, hm]
end Go.Proofs.Ytjeenmllohaleaa
