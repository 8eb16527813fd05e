/- Contracts of words: Tag, Body, join, mayBe, Of, Right, and the document's. -/
import Derived.Test.YtjeenmllohaleaaWd0
namespace Go.Proofs.Ytjeenmllohaleaa
open Go.RowKit

theorem tag_any (u : Int) (h0 : 0 ≤ u) (h1 : u ≤ 18446744073709551615) (w : World) : Calls Try.prog 14 #[.int .u64 u] w fun e w' => e = .returned (.int .u64 (tagI u)) ∧ w' = w := by
  have ha := and15 u h0 h1
  go_enter Try.func14, Try.ntmps14
  go_wp2
  go_ret
  exact ⟨by simp [tagI], rfl⟩

theorem rtag_any (u : Int) (h0 : 0 ≤ u) (h1 : u ≤ 18446744073709551615) (w : World) : Calls Try.prog 15 #[.int .u64 u] w fun e w' => e = .returned (.int .u64 (tagI u)) ∧ w' = w := by
  have ha := and15 u h0 h1
  go_enter Try.func15, Try.ntmps15
  go_wp2
  go_ret
  exact ⟨by simp [tagI], rfl⟩

theorem w64 (x : Int) : wrap64 x = (x + 9223372036854775808) % 18446744073709551616 - 9223372036854775808 := by
  unfold wrap64
  first | rfl | omega | (simp [IntKind.wrap]; omega)

theorem body_any (u : Int) (h0 : 0 ≤ u) (h1 : u ≤ 18446744073709551615) (w : World) : Calls Try.prog 16 #[.int .u64 u] w fun e w' => e = .returned (.int .i64 (bodyI u)) ∧ w' = w := by
  by_cases ht : u % 16 = 1
  · have ht' : tagI u = 1 := ht
    have hb : wrap64 u / 16 = bodyI u := by
      rw [w64]
      unfold bodyI
      split <;> omega
    go_enter Try.func16, Try.ntmps16
    go_wp2_with (go_at_call 14; refine (tag_any u h0 h1 _).mono ?_; rintro e w' ⟨rfl, rfl⟩; rw [ht'])
    go_ret
    exact ⟨by simp, rfl⟩
  · have ht' : (tagI u == 1) = false := by simpa [tagI] using ht
    have hb : wrap64 (u / 16) = bodyI u := by
      rw [w64]
      unfold bodyI
      split <;> omega
    go_enter Try.func16, Try.ntmps16
    go_wp2_with (go_at_call 14; refine (tag_any u h0 h1 _).mono ?_; rintro e w' ⟨rfl, rfl⟩)
    go_ret
    exact ⟨by simp; unfold bodyI; split <;> omega, rfl⟩

theorem rbody_any (u : Int) (h0 : 0 ≤ u) (h1 : u ≤ 18446744073709551615) (w : World) : Calls Try.prog 17 #[.int .u64 u] w fun e w' => e = .returned (.int .i64 (bodyI u)) ∧ w' = w := by
  by_cases ht : u % 16 = 1
  · have ht' : tagI u = 1 := ht
    by_cases hg : 576460752303423488 ≤ u / 16
    · have hb : wrap64 (wrap64 (u / 16) - 1152921504606846976) = bodyI u := by
        rw [w64, w64]
        unfold bodyI
        split <;> omega
      go_enter Try.func17, Try.ntmps17
      go_wp2_with (go_at_call 15; refine (rtag_any u h0 h1 _).mono ?_; rintro e w' ⟨rfl, rfl⟩; rw [ht'])
      go_ret
      exact ⟨by simp; unfold bodyI; split <;> omega, rfl⟩
    · have hb : wrap64 (u / 16) = bodyI u := by
        rw [w64]
        unfold bodyI
        split <;> omega
      go_enter Try.func17, Try.ntmps17
      go_wp2_with (go_at_call 15; refine (rtag_any u h0 h1 _).mono ?_; rintro e w' ⟨rfl, rfl⟩; rw [ht'])
      go_ret
      exact ⟨by simp; unfold bodyI; split <;> omega, rfl⟩
  · have ht' : (tagI u == 1) = false := by simpa [tagI] using ht
    have hb : wrap64 (u / 16) = bodyI u := by
      rw [w64]
      unfold bodyI
      split <;> omega
    go_enter Try.func17, Try.ntmps17
    go_wp2_with (go_at_call 15; refine (rtag_any u h0 h1 _).mono ?_; rintro e w' ⟨rfl, rfl⟩)
    go_ret
    exact ⟨by simp; unfold bodyI; split <;> omega, rfl⟩

theorem join_any (t b : Int) (t0 : 0 ≤ t) (t1 : t < 16) (w : World) : Calls Try.prog 29 #[.int .u64 t, .int .i64 b] w fun e w' => e = .returned (.int .u64 (joinI t b)) ∧ w' = w := by
  have h1 : IntKind.u64.wrap (IntKind.u64.wrap b * 16) = b % 1152921504606846976 * 16 := by rw [wrap_u, wrap_u]; omega
  have h2 := or16 (b % 1152921504606846976) t (by omega) (by omega) t0 t1
  go_enter Try.func29, Try.ntmps29
  go_wp2
  go_ret
  exact ⟨by simp [joinI], rfl⟩

theorem maybe_any (t b : Int) (w : World) : Calls Try.prog 28 #[.int .u64 t, .int .i64 b] w fun e w' => e = .returned (.bool (mayB t b)) ∧ w' = w := by
  by_cases h1 : t = 1
  · subst h1
    by_cases hg : -576460752303423488 ≤ b
    · go_enter Try.func28, Try.ntmps28
      go_wp2
      go_ret
      exact ⟨by simp [mayB, hg] <;> omega, rfl⟩
    · go_enter Try.func28, Try.ntmps28
      go_wp2
      go_ret
      exact ⟨by simp [mayB] <;> omega, rfl⟩
  · by_cases h4 : t = 4
    · subst h4
      go_enter Try.func28, Try.ntmps28
      go_wp2
      go_ret
      exact ⟨by simp [mayB]; rfl, rfl⟩
    · have h1' : (t == 1) = false := by simpa using h1
      have h4' : (t == 4) = false := by simpa using h4
      by_cases hg : 0 ≤ b
      · go_enter Try.func28, Try.ntmps28
        go_wp2
        go_ret
        exact ⟨by simp [mayB, hg, h1, h4] <;> omega, rfl⟩
      · go_enter Try.func28, Try.ntmps28
        go_wp2
        go_ret
        exact ⟨by simp [mayB, h1, h4] <;> omega, rfl⟩
end Go.Proofs.Ytjeenmllohaleaa
