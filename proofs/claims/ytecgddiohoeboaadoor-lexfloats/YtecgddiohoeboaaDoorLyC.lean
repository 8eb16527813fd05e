/- The reference's token, whole; LexTokens. -/
import Derived.Test.YtecgddiohoeboaaDoorLyA
import Derived.Test.YtecgddiohoeboaaDoorLyB
import Derived.Test.YtecgddiohoeboaaDoorLy9
namespace Go.Proofs.YtecgddiohoeboaaDoor
open Go.RowKit Go.Lib
attribute [local go_sem] store_float f64bits
attribute [local go_sem ↓] Go.wp_at_zero Go.wp_at_succ

set_option maxHeartbeats 1000000 in
theorem rtok_quote (s : ByteArray) (p : Nat) (hp : p < s.size) (hs : s.size ≤ 65536) (hq : bt s p = 39 ∨ bt s p = 34) (w : World) : Calls Tryd.prog 23 #[.string s, .int .i64 (p : Int)] w fun e w' => e = .returned (rV (quoteV s p) p (quoteE s p)) ∧ Below w.heap.size w w' := by
  have cQ := rquoted_any s p hp hq hs (wbox w)
  have i0 : (0 : Int) ≤ (p : Int) := by omega
  have i1 : (p : Int) < (s.size : Int) := by omega
  unfold quoteV quoteE
  rcases hq with hq | hq
  · have cD := rdigit_any 39
    rw [show pDigit 39 = false from rfl] at cD
    have hb : ∀ h, (s[p]'h).toNat = 39 := fun h => by rw [at_byte, hq]
    rw [hq] at cQ ⊢
    clear hq
    cases ho : quotN s 39 (s.size + 1) (p + 1) [] with
    | none =>
      rw [ho] at cQ
      show Calls _ _ _ _ fun e w' => e = .returned (rV (badV 23) p _) ∧ _
      rw [rV_bad 23 (by decide)]
      replace cQ : Calls Tryd.prog 47 #[.string s, .int .i64 (p : Int)] (wbox w) fun e w' => e = .returned (.tuple #[.string ⟨#[]⟩, .int .i64 0, .bool false]) ∧ Below (wbox w).heap.size (wbox w) w' := cQ
      go_enter Tryd.func23, Tryd.ntmps23
      go_wp2_with (first | (go_at_call 44; refine (cD _).mono ?_; rintro e w' ⟨rfl, hw'⟩; obtain rfl := hw'.symm) | (go_at_call 47; refine cQ.mono ?_; rintro e w1 ⟨rfl, hb1⟩; have HB1 := hidb hb1; obtain ⟨z0, z1, z2, z3, z4, y0, y1, y2, y3, y4, _⟩ := (wbox_box w).keep hb1))
      exact bodyPost_ret (v := .tuple #[.agg #[.int .i64 (0), .string (⟨#[]⟩), .int .i64 (0), .float .f64 (0), .int .i64 (0)], .int .i64 0, .int .i64 23]) (by simp [results, Tryd.results23, go_sem, z0, z1, z2, z3, z4]) rfl ⟨rfl, below_set5 ((wbox_below w).trans (HB1.out.mono (wbox_below w).size)) (Nat.le_refl _) _ _ _ _ _⟩
    | some x =>
      obtain ⟨l, E⟩ := x
      rw [ho] at cQ
      obtain ⟨X, hX⟩ : ∃ X, (⟨l.toArray⟩ : ByteArray) = X := ⟨_, rfl⟩
      replace cQ : Calls Tryd.prog 47 #[.string s, .int .i64 (p : Int)] (wbox w) fun e w' => e = .returned (.tuple #[.string X, .int .i64 (E : Int), .bool true]) ∧ Below (wbox w).heap.size (wbox w) w' := by rw [← hX]; exact cQ
      clear ho
      show Calls _ _ _ _ fun e w' => e = .returned (rV (atomV ⟨l.toArray⟩) p E) ∧ _
      rw [hX]
      clear hX
      unfold atomV
      by_cases h64 : 64 < X.size
      · have i6 : (64 : Int) < (X.size : Int) := by omega
        rw [if_pos h64, rV_bad 23 (by decide)]
        go_enter Tryd.func23, Tryd.ntmps23
        go_wp2_with (first | (go_at_call 44; refine (cD _).mono ?_; rintro e w' ⟨rfl, hw'⟩; obtain rfl := hw'.symm) | (go_at_call 47; refine cQ.mono ?_; rintro e w1 ⟨rfl, hb1⟩; have HB1 := hidb hb1; obtain ⟨z0, z1, z2, z3, z4, y0, y1, y2, y3, y4, _⟩ := (wbox_box w).keep hb1))
        exact bodyPost_ret (v := .tuple #[.agg #[.int .i64 (0), .string (⟨#[]⟩), .int .i64 (0), .float .f64 (0), .int .i64 (0)], .int .i64 0, .int .i64 23]) (by simp [results, Tryd.results23, go_sem, z0, z1, z2, z3, z4]) rfl ⟨rfl, below_set5 ((wbox_below w).trans (HB1.out.mono (wbox_below w).size)) (Nat.le_refl _) _ _ _ _ _⟩
      · have i6 : ¬ (64 : Int) < (X.size : Int) := by omega
        rw [if_neg h64, rV_tk]
        go_enter Tryd.func23, Tryd.ntmps23
        go_wp2_with (first | (go_at_call 44; refine (cD _).mono ?_; rintro e w' ⟨rfl, hw'⟩; obtain rfl := hw'.symm) | (go_at_call 47; refine cQ.mono ?_; rintro e w1 ⟨rfl, hb1⟩; have HB1 := hidb hb1; obtain ⟨z0, z1, z2, z3, z4, y0, y1, y2, y3, y4, _⟩ := (wbox_box w).keep hb1))
        exact bodyPost_ret (v := .tuple #[.agg #[.int .i64 (1), .string (X), .int .i64 (0), .float .f64 (0), .int .i64 ((p : Int))], .int .i64 (E : Int), .int .i64 0]) (by simp [results, Tryd.results23, go_sem, z0, z1, z2, z3, z4]) rfl ⟨rfl, below_set5 ((wbox_below w).trans (HB1.out.mono (wbox_below w).size)) (Nat.le_refl _) _ _ _ _ _⟩
  · have cD := rdigit_any 34
    rw [show pDigit 34 = false from rfl] at cD
    have hb : ∀ h, (s[p]'h).toNat = 34 := fun h => by rw [at_byte, hq]
    rw [hq] at cQ ⊢
    clear hq
    cases ho : quotN s 34 (s.size + 1) (p + 1) [] with
    | none =>
      rw [ho] at cQ
      show Calls _ _ _ _ fun e w' => e = .returned (rV (badV 23) p _) ∧ _
      rw [rV_bad 23 (by decide)]
      replace cQ : Calls Tryd.prog 47 #[.string s, .int .i64 (p : Int)] (wbox w) fun e w' => e = .returned (.tuple #[.string ⟨#[]⟩, .int .i64 0, .bool false]) ∧ Below (wbox w).heap.size (wbox w) w' := cQ
      go_enter Tryd.func23, Tryd.ntmps23
      go_wp2_with (first | (go_at_call 44; refine (cD _).mono ?_; rintro e w' ⟨rfl, hw'⟩; obtain rfl := hw'.symm) | (go_at_call 47; refine cQ.mono ?_; rintro e w1 ⟨rfl, hb1⟩; have HB1 := hidb hb1; obtain ⟨z0, z1, z2, z3, z4, y0, y1, y2, y3, y4, _⟩ := (wbox_box w).keep hb1))
      exact bodyPost_ret (v := .tuple #[.agg #[.int .i64 (0), .string (⟨#[]⟩), .int .i64 (0), .float .f64 (0), .int .i64 (0)], .int .i64 0, .int .i64 23]) (by simp [results, Tryd.results23, go_sem, z0, z1, z2, z3, z4]) rfl ⟨rfl, below_set5 ((wbox_below w).trans (HB1.out.mono (wbox_below w).size)) (Nat.le_refl _) _ _ _ _ _⟩
    | some x =>
      obtain ⟨l, E⟩ := x
      rw [ho] at cQ
      obtain ⟨X, hX⟩ : ∃ X, (⟨l.toArray⟩ : ByteArray) = X := ⟨_, rfl⟩
      replace cQ : Calls Tryd.prog 47 #[.string s, .int .i64 (p : Int)] (wbox w) fun e w' => e = .returned (.tuple #[.string X, .int .i64 (E : Int), .bool true]) ∧ Below (wbox w).heap.size (wbox w) w' := by rw [← hX]; exact cQ
      clear ho
      show Calls _ _ _ _ fun e w' => e = .returned (rV (.tuple #[.agg #[.int .i64 (5), .string (⟨l.toArray⟩), .int .i64 (0), .float .f64 (0), .int .i64 (0)], .int .i64 0]) p E) ∧ _
      rw [hX, rV_tk]
      clear hX
      go_enter Tryd.func23, Tryd.ntmps23
      go_wp2_with (first | (go_at_call 44; refine (cD _).mono ?_; rintro e w' ⟨rfl, hw'⟩; obtain rfl := hw'.symm) | (go_at_call 47; refine cQ.mono ?_; rintro e w1 ⟨rfl, hb1⟩; have HB1 := hidb hb1; obtain ⟨z0, z1, z2, z3, z4, y0, y1, y2, y3, y4, _⟩ := (wbox_box w).keep hb1))
      exact bodyPost_ret (v := .tuple #[.agg #[.int .i64 (5), .string (X), .int .i64 (0), .float .f64 (0), .int .i64 ((p : Int))], .int .i64 (E : Int), .int .i64 0]) (by simp [results, Tryd.results23, go_sem, z0, z1, z2, z3, z4]) rfl ⟨rfl, below_set5 ((wbox_below w).trans (HB1.out.mono (wbox_below w).size)) (Nat.le_refl _) _ _ _ _ _⟩

theorem rTok_all (s : ByteArray) (hs : s.size ≤ 65536) : RTok s := by
  intro p W hp
  unfold tokV tokE
  by_cases h1 : pSmall (bt s p) = true
  · rw [if_pos h1, if_pos h1]; exact rtok_word s p hp hs h1 W
  rw [if_neg h1, if_neg h1]
  by_cases h2 : pCapital (bt s p) = true ∨ bt s p = 95
  · rw [if_pos h2, if_pos h2]; exact rtok_var s p hp hs h1 h2 W
  rw [if_neg h2, if_neg h2]
  by_cases h3 : pDigit (bt s p) = true
  · rw [if_pos h3, if_pos h3]; exact rtok_num s p hp hs h3 W
  rw [if_neg h3, if_neg h3]
  by_cases h4 : bt s p = 35
  · rw [if_pos h4, if_pos h4]; exact rtok_bits s p hp hs h4 W
  rw [if_neg h4, if_neg h4]
  by_cases h5 : bt s p = 39 ∨ bt s p = 34
  · rw [if_pos h5, if_pos h5]; exact rtok_quote s p hp hs h5 W
  rw [if_neg h5, if_neg h5]
  exact rtok_sign s p hp hs h1 h2 h3 h4 h5 W

theorem LexTokens_walk (s : ByteArray) (w : World) (hT : LexTab w) : Calls Tryd.prog 3 #[.string s] w fun e w' => e = .returned (.bool true) ∧ Below w.heap.size w w' := LexTokens_of s (rTok_all s) w hT
end Go.Proofs.YtecgddiohoeboaaDoor
