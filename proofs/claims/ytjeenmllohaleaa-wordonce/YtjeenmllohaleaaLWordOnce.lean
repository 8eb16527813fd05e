/- The statement WordOnce walked: words are known by their tags and bodies; words of whole numbers are in order. -/
import Derived.Test.YtjeenmllohaleaaKn3
namespace Go.Proofs.Ytjeenmllohaleaa
open Go.RowKit

theorem one_of (u v : Int) (h0 : 0 ≤ u) (h1 : u ≤ 18446744073709551615) (k0 : 0 ≤ v) (k1 : v ≤ 18446744073709551615) (ht : tagI u = tagI v) (hb : bodyI u = bodyI v) : u = v := by
  unfold tagI at ht
  unfold bodyI at hb
  split at hb <;> split at hb <;> omega

theorem parts_of (u v : Int) (h0 : 0 ≤ u) (h1 : u ≤ 18446744073709551615) (k0 : 0 ≤ v) (k1 : v ≤ 18446744073709551615) :
    ((u == v) = true ∧ (tagI u == tagI v) = true ∧ (bodyI u == bodyI v) = true) ∨ ((u == v) = false ∧ (tagI u == tagI v) = false) ∨ ((u == v) = false ∧ (tagI u == tagI v) = true ∧ (bodyI u == bodyI v) = false) := by
  by_cases e : u = v
  · subst e; left; simp
  · right
    have e' : (u == v) = false := by simpa using e
    by_cases ht : tagI u = tagI v
    · right
      refine ⟨e', by simpa using ht, ?_⟩
      have : ¬ bodyI u = bodyI v := fun hb => e (one_of u v h0 h1 k0 k1 ht hb)
      simpa using this
    · left
      exact ⟨e', by simpa using ht⟩

theorem right_of (u : Int) : ((ofE (tagI u) (bodyI u) == 0) = false ∧ rightB u = false) ∨ ((ofE (tagI u) (bodyI u) == 0) = true ∧ (ofW (tagI u) (bodyI u) == u) = false ∧ rightB u = false) ∨ ((ofE (tagI u) (bodyI u) == 0) = true ∧ (ofW (tagI u) (bodyI u) == u) = true ∧ rightB u = true) := by
  cases h1 : (ofE (tagI u) (bodyI u) == 0) <;> cases h2 : (ofW (tagI u) (bodyI u) == u) <;> simp [rightB, h1, h2]

theorem whole_of (a : Int) : (∃ E, ofE 1 a = E ∧ (E != 0) = true) ∨ (∃ P, ofE 1 a = 0 ∧ ofW 1 a = P ∧ 0 ≤ P ∧ P ≤ 18446744073709551615 ∧ wrap64 P / 16 = a ∧ bodyI P = a ∧ tagI P = 1 ∧ rightB P = true) := by
  cases hm : mayB 1 a
  · left; exact ⟨_, rfl, by simp [ofE, tagB, hm]⟩
  · right
    have hr : -576460752303423488 ≤ a ∧ a ≤ 576460752303423487 := by simpa [mayB] using hm
    have hj : ofW 1 a = joinI 1 a := by simp [ofW, tagB, hm]
    have he : ofE 1 a = 0 := by simp [ofE, tagB, hm]
    have ht : tagI (joinI 1 a) = 1 := by unfold tagI joinI; omega
    have hb : bodyI (joinI 1 a) = a := by unfold bodyI joinI; split <;> omega
    refine ⟨joinI 1 a, he, hj, (joinI_hi (by omega) (by omega)).1, (joinI_hi (by omega) (by omega)).2, ?_, hb, ht, ?_⟩
    · unfold wrap64 joinI; omega
    · unfold rightB; rw [ht, hb, hj, he]; simp

theorem cases_of (u v : Int) (h0 : 0 ≤ u) (h1 : u ≤ 18446744073709551615) (k0 : 0 ≤ v) (k1 : v ≤ 18446744073709551615) :
    ((ofE (tagI u) (bodyI u) == 0) = false ∧ rightB u = false) ∨ ((ofE (tagI u) (bodyI u) == 0) = true ∧ (ofW (tagI u) (bodyI u) == u) = false ∧ rightB u = false) ∨
    ((ofE (tagI u) (bodyI u) == 0) = true ∧ (ofW (tagI u) (bodyI u) == u) = true ∧ rightB u = true ∧ rightB v = false) ∨
    ((ofE (tagI u) (bodyI u) == 0) = true ∧ (ofW (tagI u) (bodyI u) == u) = true ∧ rightB u = true ∧ rightB v = true ∧ (u == v) = true ∧ (tagI u == tagI v) = true ∧ (bodyI u == bodyI v) = true) ∨
    ((ofE (tagI u) (bodyI u) == 0) = true ∧ (ofW (tagI u) (bodyI u) == u) = true ∧ rightB u = true ∧ rightB v = true ∧ (u == v) = false ∧ (tagI u == tagI v) = false) ∨
    ((ofE (tagI u) (bodyI u) == 0) = true ∧ (ofW (tagI u) (bodyI u) == u) = true ∧ rightB u = true ∧ rightB v = true ∧ (u == v) = false ∧ (tagI u == tagI v) = true ∧ (bodyI u == bodyI v) = false) := by
  rcases right_of u with h | h | ⟨x1, x2, x3⟩
  · exact .inl h
  · exact .inr (.inl h)
  · cases hv : rightB v
    · exact .inr (.inr (.inl ⟨x1, x2, x3, rfl⟩))
    · rcases parts_of u v h0 h1 k0 k1 with h | h | h
      · exact .inr (.inr (.inr (.inl ⟨x1, x2, x3, rfl, h⟩)))
      · exact .inr (.inr (.inr (.inr (.inl ⟨x1, x2, x3, rfl, h⟩))))
      · exact .inr (.inr (.inr (.inr (.inr ⟨x1, x2, x3, rfl, h⟩))))

set_option maxHeartbeats 4000000 in
theorem once_a (u v a b : Int) (h0 : 0 ≤ u) (h1 : u ≤ 18446744073709551615) (k0 : 0 ≤ v) (k1 : v ≤ 18446744073709551615) (A E B G : Int) (hE : (E != 0) = true) (cA : ∀ w, Calls Try.prog 10 #[.int .u64 1, .int .i64 a] w fun e w' => e = .returned (.tuple #[.int .u64 A, .int .i64 E]) ∧ w' = w) (cB : ∀ w, Calls Try.prog 10 #[.int .u64 1, .int .i64 b] w fun e w' => e = .returned (.tuple #[.int .u64 B, .int .i64 G]) ∧ w' = w) (w : World) :
    Calls Try.prog 7 #[.int .u64 u, .int .u64 v, .int .i64 a, .int .i64 b] w fun e w' => e = .returned (.bool true) ∧ Below w.heap.size w w' := by
  have cU := fun w => of_any (tagI u) (bodyI u) (tagI_lo u) w
  rcases cases_of u v h0 h1 k0 k1 with ⟨x1, x2⟩ | ⟨x1, x2, x3⟩ | ⟨x1, x2, x3, x4⟩ | ⟨x1, x2, x3, x4, x5, x6, x7⟩ | ⟨x1, x2, x3, x4, x5, x6⟩ | ⟨x1, x2, x3, x4, x5, x6, x7⟩
  all_goals
    go_enter Try.func7, Try.ntmps7
    go_wp2_with (first
      | (go_at_call 9; refine (known_any _).mono ?_; rintro e w1 ⟨rfl, hb⟩)
      | (go_at_call 10; first | (with_reducible refine (cU _).mono ?_; rintro e w' ⟨rfl, rfl⟩) | (with_reducible refine (cA _).mono ?_; rintro e w' ⟨rfl, rfl⟩) | (with_reducible refine (cB _).mono ?_; rintro e w' ⟨rfl, rfl⟩))
      | (go_at_call 14; first | (with_reducible refine (tag_any u h0 h1 _).mono ?_; rintro e w' ⟨rfl, rfl⟩) | (with_reducible refine (tag_any v k0 k1 _).mono ?_; rintro e w' ⟨rfl, rfl⟩))
      | (go_at_call 16; first | (with_reducible refine (body_any u h0 h1 _).mono ?_; rintro e w' ⟨rfl, rfl⟩) | (with_reducible refine (body_any v k0 k1 _).mono ?_; rintro e w' ⟨rfl, rfl⟩))
      | (go_at_call 18; first | (with_reducible refine (right_any u h0 h1 _).mono ?_; rintro e w' ⟨rfl, rfl⟩) | (with_reducible refine (right_any v k0 k1 _).mono ?_; rintro e w' ⟨rfl, rfl⟩)))
    go_ret
    exact ⟨rfl, hb⟩

set_option maxHeartbeats 4000000 in
theorem once_b (u v a b : Int) (h0 : 0 ≤ u) (h1 : u ≤ 18446744073709551615) (k0 : 0 ≤ v) (k1 : v ≤ 18446744073709551615) (A B G : Int) (hG : (G != 0) = true) (cA : ∀ w, Calls Try.prog 10 #[.int .u64 1, .int .i64 a] w fun e w' => e = .returned (.tuple #[.int .u64 A, .int .i64 0]) ∧ w' = w) (cB : ∀ w, Calls Try.prog 10 #[.int .u64 1, .int .i64 b] w fun e w' => e = .returned (.tuple #[.int .u64 B, .int .i64 G]) ∧ w' = w) (w : World) :
    Calls Try.prog 7 #[.int .u64 u, .int .u64 v, .int .i64 a, .int .i64 b] w fun e w' => e = .returned (.bool true) ∧ Below w.heap.size w w' := by
  have cU := fun w => of_any (tagI u) (bodyI u) (tagI_lo u) w
  rcases cases_of u v h0 h1 k0 k1 with ⟨x1, x2⟩ | ⟨x1, x2, x3⟩ | ⟨x1, x2, x3, x4⟩ | ⟨x1, x2, x3, x4, x5, x6, x7⟩ | ⟨x1, x2, x3, x4, x5, x6⟩ | ⟨x1, x2, x3, x4, x5, x6, x7⟩
  all_goals
    go_enter Try.func7, Try.ntmps7
    go_wp2_with (first
      | (go_at_call 9; refine (known_any _).mono ?_; rintro e w1 ⟨rfl, hb⟩)
      | (go_at_call 10; first | (with_reducible refine (cU _).mono ?_; rintro e w' ⟨rfl, rfl⟩) | (with_reducible refine (cA _).mono ?_; rintro e w' ⟨rfl, rfl⟩) | (with_reducible refine (cB _).mono ?_; rintro e w' ⟨rfl, rfl⟩))
      | (go_at_call 14; first | (with_reducible refine (tag_any u h0 h1 _).mono ?_; rintro e w' ⟨rfl, rfl⟩) | (with_reducible refine (tag_any v k0 k1 _).mono ?_; rintro e w' ⟨rfl, rfl⟩))
      | (go_at_call 16; first | (with_reducible refine (body_any u h0 h1 _).mono ?_; rintro e w' ⟨rfl, rfl⟩) | (with_reducible refine (body_any v k0 k1 _).mono ?_; rintro e w' ⟨rfl, rfl⟩))
      | (go_at_call 18; first | (with_reducible refine (right_any u h0 h1 _).mono ?_; rintro e w' ⟨rfl, rfl⟩) | (with_reducible refine (right_any v k0 k1 _).mono ?_; rintro e w' ⟨rfl, rfl⟩)))
    go_ret
    exact ⟨rfl, hb⟩

set_option maxHeartbeats 4000000 in
theorem once_ab (u v a b : Int) (h0 : 0 ≤ u) (h1 : u ≤ 18446744073709551615) (k0 : 0 ≤ v) (k1 : v ≤ 18446744073709551615) (P : Int) (p0 : 0 ≤ P) (p1 : P ≤ 18446744073709551615) (p2 : wrap64 P / 16 = a) (p3 : bodyI P = a) (p4 : tagI P = 1) (p5 : rightB P = true) (Q : Int) (q2 : wrap64 Q / 16 = b) (cA : ∀ w, Calls Try.prog 10 #[.int .u64 1, .int .i64 a] w fun e w' => e = .returned (.tuple #[.int .u64 P, .int .i64 0]) ∧ w' = w) (cB : ∀ w, Calls Try.prog 10 #[.int .u64 1, .int .i64 b] w fun e w' => e = .returned (.tuple #[.int .u64 Q, .int .i64 0]) ∧ w' = w) (w : World) :
    Calls Try.prog 7 #[.int .u64 u, .int .u64 v, .int .i64 a, .int .i64 b] w fun e w' => e = .returned (.bool true) ∧ Below w.heap.size w w' := by
  have cU := fun w => of_any (tagI u) (bodyI u) (tagI_lo u) w
  rcases cases_of u v h0 h1 k0 k1 with ⟨x1, x2⟩ | ⟨x1, x2, x3⟩ | ⟨x1, x2, x3, x4⟩ | ⟨x1, x2, x3, x4, x5, x6, x7⟩ | ⟨x1, x2, x3, x4, x5, x6⟩ | ⟨x1, x2, x3, x4, x5, x6, x7⟩
  all_goals
    go_enter Try.func7, Try.ntmps7
    go_wp2_with (first
      | (go_at_call 9; refine (known_any _).mono ?_; rintro e w1 ⟨rfl, hb⟩)
      | (go_at_call 10; first | (with_reducible refine (cU _).mono ?_; rintro e w' ⟨rfl, rfl⟩) | (with_reducible refine (cA _).mono ?_; rintro e w' ⟨rfl, rfl⟩) | (with_reducible refine (cB _).mono ?_; rintro e w' ⟨rfl, rfl⟩))
      | (go_at_call 14; first | (with_reducible refine (tag_any u h0 h1 _).mono ?_; rintro e w' ⟨rfl, rfl⟩) | (with_reducible refine (tag_any v k0 k1 _).mono ?_; rintro e w' ⟨rfl, rfl⟩) | (with_reducible refine (tag_any P p0 p1 _).mono ?_; rw [p4]; rintro e w' ⟨rfl, rfl⟩))
      | (go_at_call 16; first | (with_reducible refine (body_any u h0 h1 _).mono ?_; rintro e w' ⟨rfl, rfl⟩) | (with_reducible refine (body_any v k0 k1 _).mono ?_; rintro e w' ⟨rfl, rfl⟩) | (with_reducible refine (body_any P p0 p1 _).mono ?_; rw [p3]; rintro e w' ⟨rfl, rfl⟩))
      | (go_at_call 18; first | (with_reducible refine (right_any u h0 h1 _).mono ?_; rintro e w' ⟨rfl, rfl⟩) | (with_reducible refine (right_any v k0 k1 _).mono ?_; rintro e w' ⟨rfl, rfl⟩) | (with_reducible refine (right_any P p0 p1 _).mono ?_; rw [p5]; rintro e w' ⟨rfl, rfl⟩)))
    go_ret
    exact ⟨rfl, hb⟩

theorem wordOnce_any (u v a b : Int) (h0 : 0 ≤ u) (h1 : u ≤ 18446744073709551615) (k0 : 0 ≤ v) (k1 : v ≤ 18446744073709551615) (w : World) :
    Calls Try.prog 7 #[.int .u64 u, .int .u64 v, .int .i64 a, .int .i64 b] w fun e w' => e = .returned (.bool true) ∧ Below w.heap.size w w' := by
  have cA := fun w => of_any 1 a (by omega) w
  have cB := fun w => of_any 1 b (by omega) w
  rcases whole_of a with ⟨E, hE, hE'⟩ | ⟨P, hE, hP, p0, p1, p2, p3, p4, p5⟩
  · rw [hE] at cA
    exact once_a u v a b h0 h1 k0 k1 _ E _ _ hE' cA cB w
  · rw [hE, hP] at cA
    rcases whole_of b with ⟨G, hG, hG'⟩ | ⟨Q, hG, hQ, q0, q1, q2, q3, q4, q5⟩
    · rw [hG] at cB
      exact once_b u v a b h0 h1 k0 k1 _ _ G hG' cA cB w
    · rw [hG, hQ] at cB
      exact once_ab u v a b h0 h1 k0 k1 P p0 p1 p2 p3 p4 p5 Q q2 cA cB w
end Go.Proofs.Ytjeenmllohaleaa
