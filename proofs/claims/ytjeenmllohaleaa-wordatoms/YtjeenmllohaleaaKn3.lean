/- The chapter's examples, as the statements ask for them: known() is true. -/
import Derived.Test.YtjeenmllohaleaaAt4
namespace Go.Proofs.Ytjeenmllohaleaa
open Go.RowKit Go.Maps Go.WideMaps

theorem k_of1 : ofW 1 (-1) = 18446744073709551601 := by decide
theorem k_of2 : ofE 1 (-1) = 0 := by decide
theorem k_h1 : hdW 7 3 = 887 := by decide
theorem k_h2 : hdE 7 3 = 0 := by decide
theorem k_p1 : hkI 887 = 7 := by decide
theorem k_p2 : hsI 887 = 3 := by decide
theorem k_p3 : isB 887 = true := by decide
theorem k_b : bodyI 18446744073709551601 = -1 := by decide
theorem k_e : longB ⟨#[97]⟩ = false := by decide
theorem k_e' : longB ⟨#[98]⟩ = false := by decide
theorem k_in : inL [⟨#[97]⟩] ⟨#[98]⟩ = false := by
  simp [inL, eqT, ByteArray.toList_eq]
theorem k_n1 : numN [] ⟨#[97]⟩ = 0 := by simp [numN, k_e, pos]
theorem k_s1 : stepL [] ⟨#[97]⟩ = [⟨#[97]⟩] := by simp [stepL, k_e, inL]
theorem k_n2 : numN [⟨#[97]⟩] ⟨#[98]⟩ = 1 := by simp [numN, k_e', pos_none k_in]
theorem k_e1 : numE ⟨#[97]⟩ = 0 := by simp [numE, k_e]
theorem k_e2 : numE ⟨#[98]⟩ = 0 := by simp [numE, k_e']

theorem num_a {w : World} {b : Nat} {F : List Nat} (h : Tab w b [] F) : Calls Try.prog 23 #[.pointer (some ⟨b, 0, none⟩), .string ⟨#[97]⟩] w fun e w' => e = .returned (.tuple #[.int .i64 0, .int .i64 0]) ∧ ∃ F', Tab w' b [⟨#[97]⟩] F' ∧ (∀ k, k ∈ F' → k ∈ F ∨ w.heap.size ≤ k) ∧ Kept F w w' := by
  have := number_any (s := ⟨#[97]⟩) h (by simp)
  rw [k_n1, k_s1, k_e1] at this
  exact this
theorem num_b {w : World} {b : Nat} {F : List Nat} (h : Tab w b [⟨#[97]⟩] F) : Calls Try.prog 23 #[.pointer (some ⟨b, 0, none⟩), .string ⟨#[98]⟩] w fun e w' => e = .returned (.tuple #[.int .i64 1, .int .i64 0]) ∧ Kept F w w' := by
  have := number_any (s := ⟨#[98]⟩) h (by simp)
  rw [k_n2, k_e2] at this
  refine this.mono ?_
  rintro e w' ⟨rfl, _, _, _, hk⟩
  exact ⟨rfl, hk⟩

set_option maxHeartbeats 1000000 in
theorem known_any (w : World) : Calls Try.prog 9 #[] w fun e w' => e = .returned (.bool true) ∧ Below w.heap.size w w' := by
  go_enter Try.func9, Try.ntmps9
  go_wp2_with (first
    | (go_at_call 10; refine (of_any 1 (-1) (by omega) _).mono ?_; rw [k_of1, k_of2]; rintro e w' ⟨rfl, rfl⟩)
    | (go_at_call 20; refine (header_any 7 3 _).mono ?_; rw [k_h1, k_h2]; rintro e w' ⟨rfl, rfl⟩)
    | (go_at_call 12; refine (whead_any 887 (by omega) (by omega) _).mono ?_; rw [k_p1, k_p2, k_p3]; rintro e w' ⟨rfl, rfl⟩)
    | (go_at_call 16; refine (body_any 18446744073709551601 (by omega) (by omega) _).mono ?_; rw [k_b]; rintro e w' ⟨rfl, rfl⟩)
    | (go_at_call 22; refine (new_any _).mono ?_; rintro e w1 ⟨rfl, hb1, hz1, ht1⟩)
    | (go_at_call 23; first
        | (with_reducible refine (num_a ht1).mono ?_; rintro e w2 ⟨rfl, F2, ht2, hF2, hk2⟩)
        | (with_reducible refine (num_b ht2).mono ?_; rintro e w3 ⟨rfl, hk3⟩)))
  go_ret
  refine ⟨rfl, hk3.below (hk2.below hb1 (Nat.le_refl _) (fun k hk => by simp at hk; omega)) (Nat.le_refl _) (fun k hk => ?_)⟩
  rcases hF2 k hk with h | h
  · simp at h; omega
  · omega
end Go.Proofs.Ytjeenmllohaleaa
