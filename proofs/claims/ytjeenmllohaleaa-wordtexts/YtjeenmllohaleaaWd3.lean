/- Contracts of words: Right, headers, and the document's. -/
import Derived.Test.YtjeenmllohaleaaWd2
namespace Go.Proofs.Ytjeenmllohaleaa
open Go.RowKit

theorem tagI_lo (u : Int) : 0 ≤ tagI u := by unfold tagI; omega
theorem joinI_hi {t b : Int} (t0 : 0 ≤ t) (t1 : t < 16) : 0 ≤ joinI t b ∧ joinI t b ≤ 18446744073709551615 := by unfold joinI; omega
def rightB (u : Int) : Bool := (ofE (tagI u) (bodyI u) == 0) && (ofW (tagI u) (bodyI u) == u)

theorem right_any (u : Int) (h0 : 0 ≤ u) (h1 : u ≤ 18446744073709551615) (w : World) : Calls Try.prog 18 #[.int .u64 u] w fun e w' => e = .returned (.bool (rightB u)) ∧ w' = w := by
  cases he : (ofE (tagI u) (bodyI u) == 0)
  · go_enter Try.func18, Try.ntmps18
    go_wp2_with (first | (go_at_call 14; refine (tag_any u h0 h1 _).mono ?_; rintro e w' ⟨rfl, rfl⟩) | (go_at_call 16; refine (body_any u h0 h1 _).mono ?_; rintro e w' ⟨rfl, rfl⟩) | (go_at_call 10; refine (of_any _ _ (tagI_lo u) _).mono ?_; rintro e w' ⟨rfl, rfl⟩))
    go_ret
    exact ⟨by simp [rightB, he], rfl⟩
  · go_enter Try.func18, Try.ntmps18
    go_wp2_with (first | (go_at_call 14; refine (tag_any u h0 h1 _).mono ?_; rintro e w' ⟨rfl, rfl⟩) | (go_at_call 16; refine (body_any u h0 h1 _).mono ?_; rintro e w' ⟨rfl, rfl⟩) | (go_at_call 10; refine (of_any _ _ (tagI_lo u) _).mono ?_; rintro e w' ⟨rfl, rfl⟩))
    go_ret
    exact ⟨by simp [rightB, he], rfl⟩

theorem rright_any (u : Int) (h0 : 0 ≤ u) (h1 : u ≤ 18446744073709551615) (w : World) : Calls Try.prog 19 #[.int .u64 u] w fun e w' => e = .returned (.bool (rightB u)) ∧ w' = w := by
  cases he : (ofE (tagI u) (bodyI u) == 0)
  · go_enter Try.func19, Try.ntmps19
    go_wp2_with (first | (go_at_call 15; refine (rtag_any u h0 h1 _).mono ?_; rintro e w' ⟨rfl, rfl⟩) | (go_at_call 17; refine (rbody_any u h0 h1 _).mono ?_; rintro e w' ⟨rfl, rfl⟩) | (go_at_call 11; refine (rof_any _ _ (tagI_lo u) _).mono ?_; rintro e w' ⟨rfl, rfl⟩))
    go_ret
    exact ⟨by simp [rightB, he], rfl⟩
  · go_enter Try.func19, Try.ntmps19
    go_wp2_with (first | (go_at_call 15; refine (rtag_any u h0 h1 _).mono ?_; rintro e w' ⟨rfl, rfl⟩) | (go_at_call 17; refine (rbody_any u h0 h1 _).mono ?_; rintro e w' ⟨rfl, rfl⟩) | (go_at_call 11; refine (rof_any _ _ (tagI_lo u) _).mono ?_; rintro e w' ⟨rfl, rfl⟩))
    go_ret
    exact ⟨by simp [rightB, he], rfl⟩

/-- kinds that have a header; a header's word and error -/
def hdB (k : Int) : Bool := k == 2 || k == 4 || k == 5 || k == 7
def szB (s : Int) : Bool := decide (0 ≤ s ∧ s ≤ 65536)
def hdW (k s : Int) : Int := if hdB k && szB s then (s * 16 + k) * 16 + 7 else 0
def hdE (k s : Int) : Int := if hdB k then (if szB s then 0 else 12) else 1
theorem hdB_cases {k : Int} (h : hdB k = true) : k = 2 ∨ k = 4 ∨ k = 5 ∨ k = 7 := by simp [hdB] at h; omega
theorem hdB_not {k : Int} (h : hdB k = false) : (k == 2) = false ∧ (k == 4) = false ∧ (k == 5) = false ∧ (k == 7) = false := by simp [hdB] at h; simp; omega

theorem has_any (k : Int) (w : World) : Calls Try.prog 30 #[.int .i64 k] w fun e w' => e = .returned (.bool (hdB k)) ∧ w' = w := by
  cases hk : hdB k
  · obtain ⟨a, b, c, d⟩ := hdB_not hk
    go_enter Try.func30, Try.ntmps30
    go_wp2
    go_ret
    exact ⟨rfl, rfl⟩
  · rcases hdB_cases hk with rfl | rfl | rfl | rfl
    all_goals
      go_enter Try.func30, Try.ntmps30
      go_wp2
      go_ret
      exact ⟨rfl, rfl⟩

theorem header_any (k s : Int) (w : World) : Calls Try.prog 20 #[.int .i64 k, .int .i64 s] w fun e w' => e = .returned (.tuple #[.int .u64 (hdW k s), .int .i64 (hdE k s)]) ∧ w' = w := by
  cases hk : hdB k
  · go_enter Try.func20, Try.ntmps20
    go_wp2_with (go_at_call 30; refine (has_any k _).mono ?_; rintro e w' ⟨rfl, rfl⟩; rw [hk])
    refine bodyPost_ret (v := .tuple #[.int .u64 (hdW k s), .int .i64 (hdE k s)]) ?_ rfl ⟨rfl, rfl⟩
    simp [results, Try.results20, go_sem, hdW, hdE, hk]
  · by_cases hA : s < 0
    · have hz : szB s = false := by simp [szB]; omega
      go_enter Try.func20, Try.ntmps20
      go_wp2_with (go_at_call 30; refine (has_any k _).mono ?_; rintro e w' ⟨rfl, rfl⟩; rw [hk])
      refine bodyPost_ret (v := .tuple #[.int .u64 (hdW k s), .int .i64 (hdE k s)]) ?_ rfl ⟨rfl, rfl⟩
      simp [results, Try.results20, go_sem, hdW, hdE, hk, hz]
    · by_cases hB : s > 65536
      · have hz : szB s = false := by simp [szB]; omega
        go_enter Try.func20, Try.ntmps20
        go_wp2_with (go_at_call 30; refine (has_any k _).mono ?_; rintro e w' ⟨rfl, rfl⟩; rw [hk])
        refine bodyPost_ret (v := .tuple #[.int .u64 (hdW k s), .int .i64 (hdE k s)]) ?_ rfl ⟨rfl, rfl⟩
        simp [results, Try.results20, go_sem, hdW, hdE, hk, hz]
      · have hz : szB s = true := by simp [szB]; omega
        have kc := hdB_cases hk
        have o1 := i64_or16 s k (by omega) (by omega) (by omega) (by omega)
        have o2 : joinI 7 (s * 16 + k) = hdW k s := by simp [joinI, hdW, hk, hz]; omega
        go_enter Try.func20, Try.ntmps20
        go_wp2_with (first | (go_at_call 30; refine (has_any k _).mono ?_; rintro e w' ⟨rfl, rfl⟩; rw [hk]) | (go_at_call 29; refine (join_any 7 _ (by omega) (by omega) _).mono ?_; rintro e w' ⟨rfl, rfl⟩))
        refine bodyPost_ret (v := .tuple #[.int .u64 (hdW k s), .int .i64 (hdE k s)]) ?_ rfl ⟨rfl, rfl⟩
        simp [results, Try.results20, go_sem, hdE, hk, hz]

theorem rheader_any (k s : Int) (w : World) : Calls Try.prog 21 #[.int .i64 k, .int .i64 s] w fun e w' => e = .returned (.tuple #[.int .u64 (hdW k s), .int .i64 (hdE k s)]) ∧ w' = w := by
  cases hk : hdB k
  · obtain ⟨a, b, c, d⟩ := hdB_not hk
    have a' : (k != 2) = true := by simpa using a
    have b' : (k != 4) = true := by simpa using b
    have c' : (k != 5) = true := by simpa using c
    have d' : (k != 7) = true := by simpa using d
    go_enter Try.func21, Try.ntmps21
    go_wp2
    refine bodyPost_ret (v := .tuple #[.int .u64 (hdW k s), .int .i64 (hdE k s)]) ?_ rfl ⟨rfl, rfl⟩
    simp [results, Try.results21, go_sem, hdW, hdE, hk]
  · by_cases hA : s < 0
    · have hz : szB s = false := by simp [szB]; omega
      rcases hdB_cases hk with rfl | rfl | rfl | rfl
      all_goals
        go_enter Try.func21, Try.ntmps21
        go_wp2
        refine bodyPost_ret (v := .tuple #[.int .u64 (hdW _ s), .int .i64 (hdE _ s)]) ?_ rfl ⟨rfl, rfl⟩
        simp [results, Try.results21, go_sem, hdW, hdE, hk, hz]
    · by_cases hB : s > 65536
      · have hz : szB s = false := by simp [szB]; omega
        rcases hdB_cases hk with rfl | rfl | rfl | rfl
        all_goals
          go_enter Try.func21, Try.ntmps21
          go_wp2
          refine bodyPost_ret (v := .tuple #[.int .u64 (hdW _ s), .int .i64 (hdE _ s)]) ?_ rfl ⟨rfl, rfl⟩
          simp [results, Try.results21, go_sem, hdW, hdE, hk, hz]
      · have hz : szB s = true := by simp [szB]; omega
        have o2 : ofW 7 (16 * s + k) = hdW k s := by
          have kc := hdB_cases hk
          have hm : mayB 7 (16 * s + k) = true := by simp [mayB]; omega
          have ht : tagB 7 = true := by decide
          simp [ofW, joinI, hdW, hk, hz, hm, ht]; omega
        have o3 : ofE 7 (16 * s + k) = hdE k s := by
          have kc := hdB_cases hk
          have hm : mayB 7 (16 * s + k) = true := by simp [mayB]; omega
          have ht : tagB 7 = true := by decide
          simp [ofE, hdE, hk, hz, hm, ht]
        rcases hdB_cases hk with rfl | rfl | rfl | rfl
        all_goals
          go_enter Try.func21, Try.ntmps21
          go_wp2_with (go_at_call 11; refine (rof_any 7 _ (by omega) _).mono ?_; rintro e w' ⟨rfl, rfl⟩)
          refine bodyPost_ret (v := .tuple #[.int .u64 (hdW _ s), .int .i64 (hdE _ s)]) ?_ rfl ⟨rfl, rfl⟩
          simp [results, Try.results21, go_sem]
end Go.Proofs.Ytjeenmllohaleaa
