import Derived.Test.YtecgddiohoeboaaDoorG13
import Derived.Test.YtecgddiohoeboaaDoorG26
import Derived.Test.YtecgddiohoeboaaDoorLyB
/- LexTokens, given the reference's token. -/
namespace Go.Proofs.YtecgddiohoeboaaDoor
open Go.RowKit Go.Lib
attribute [local go_sem] store_float f64bits
attribute [local go_sem ↓] Go.wp_at_zero Go.wp_at_succ

theorem toks_len (s : ByteArray) : ∀ k p done l, p ≤ s.size → done.length ≤ p → toks s k p done = .inl l → 0 < l.length ∧ l.length ≤ s.size + 1 := by
  intro k
  induction k with
  | zero => intro p done l _ _ h; cases h
  | succ k ih =>
    intro p done l hp hd h
    have h1 := goes_ge pBlank s p
    have h2 := goes_le pBlank s p hp
    simp only [toks] at h
    split at h
    · rename_i hlt
      split at h
      · rename_i h37
        have h3 := goes_ge pLine s (goes pBlank s p)
        exact ih _ _ _ (goes_le pLine s _ h2) (by omega) h
      · split at h
        · rename_i her
          have hok : okV (tokV s (goes pBlank s p)) = true := by
            obtain ⟨tk, x, tn, tf, er, hV⟩ := tokV_tk s (goes pBlank s p)
            rw [hV] at her ⊢
            rw [okV_tk]
            have : er = 0 := her
            rw [this]; rfl
          have h4 := tokE_in s _ hlt hok
          exact ih _ _ _ h4.2 (by rw [List.length_append]; simp; omega) h
        · cases h
    · cases h
      rw [List.length_append]
      simp
      omega

set_option maxHeartbeats 1000000 in
set_option maxRecDepth 100000 in
theorem LexTokens_of (s : ByteArray) (hTok : s.size ≤ 65536 → RTok s) (w : World) (hT : LexTab w) : Calls Tryd.prog 3 #[.string s] w fun e w' => e = .returned (.bool true) ∧ Below w.heap.size w w' := by
  have cK := known_any w hT
  by_cases hl : 16384 < s.size
  · have h1 : (16384 : Int) < (s.size : Int) := by omega
    go_enter Tryd.func3, Tryd.ntmps3
    go_wp2_with (first
      | (go_at_call 9; refine cK.mono ?_; rintro e w1 ⟨rfl, hb1⟩))
    go_ret
    exact ⟨rfl, hb1⟩
  · have h1 : ¬ (16384 : Int) < (s.size : Int) := by omega
    have cA := fun W h => Tokens_any s W h
    have cB := fun W => rTokens_of s (hTok (by omega)) W
    have hlen := toks_len s (s.size + 1) 0 []
    have hall : allT s = toks s (s.size + 1) 0 [] := by unfold allT; rw [if_neg (by omega)]
    rw [← hall] at hlen
    obtain ⟨R, hR⟩ : ∃ R, allT s = R := ⟨_, rfl⟩
    rw [hR] at cA cB hlen
    clear hall hR hTok
    go_enter Tryd.func3, Tryd.ntmps3
    go_wp2_with (first
      | (go_at_call 9; refine cK.mono ?_; rintro e w1 ⟨rfl, hb1⟩; have HB1 := hidb hb1))
    refine (cA _ (hT.but (But.of_below (S := fun _ => False) HB1.out) (fun _ e => e.elim))).mono ?_
    rintro e w2 ⟨hTP, hb2⟩
    have HB2 := hidb (HB1.out.trans (hb2.mono HB1.out.size))
    rcases hTP with ⟨l, V, rfl, rfl, how⟩ | ⟨er, p, rfl, rfl⟩
    · obtain ⟨hl1, hl2⟩ := hlen l (Nat.zero_le _) (Nat.le_refl _) rfl
      obtain ⟨g, cap, rfl, hg, hcap, hce⟩ := own_cell how hl1
      clear hce hg hcap
      go_wp2_with fail
      refine (cB _).mono ?_
      rintro e w3 ⟨hTP3, hb3⟩
      rcases hTP3 with ⟨l3, V3, hl3, rfl, how3⟩ | ⟨er, p, hl3, _⟩
      case inr => cases hl3
      obtain rfl : l = l3 := Sum.inl.inj hl3
      obtain ⟨g3, cap3, rfl, hg3, hcap3, hce3⟩ := own_cell how3 hl1
      clear hce3 hg3 hcap3
      have OA := own_but (own_but (own_but (own_base how (Nat.zero_le _)) (But.of_below (S := fun _ => False) (below_new w2 (Obj.cells #[Value.int IntKind.i64 0, Value.int IntKind.i64 0] 26))) (fun _ _ h => h)) (But.of_below (S := fun _ => False) hb3) (fun _ _ h => h)) (But.of_below (S := fun _ => False) (below_new w3 (Obj.cells #[Value.int IntKind.i64 0, Value.int IntKind.i64 0] 26))) (fun _ _ h => h)
      have OB := own_but (own_base how3 (Nat.zero_le _)) (But.of_below (S := fun _ => False) (below_new w3 (Obj.cells #[Value.int IntKind.i64 0, Value.int IntKind.i64 0] 26))) (fun _ _ h => h)
      have cS := same_rows _ _ l 0 hl1 (by omega) _ OA OB
      obtain ⟨q0, q1, qf0, qf1, qlt⟩ := ((Duo.new w2 26 (.int .i64 0) (.int .i64 0)).keep hb3).keep (below_new w3 (Obj.cells #[Value.int IntKind.i64 0, Value.int IntKind.i64 0] 26))
      have HB3 := hidb (((HB2.out.alloc HB2.out.size (Obj.cells #[Value.int IntKind.i64 0, Value.int IntKind.i64 0] 26)).trans (hb3.mono (by have := HB2.out.size; simp; omega))))
      have hz3 := hb3.size
      clear OA OB how how3 hb3 hb2
      go_wp2_with (first
        | (go_at_call 12; refine cS.mono ?_; rintro e w4 ⟨rfl, hb4⟩))
      go_ret
      refine ⟨rfl, (HB3.out.alloc HB3.out.size _).trans (hb4.mono ?_)⟩
      have := HB3.out.size
      simp
      omega
    · go_wp2_with fail
      refine (cB _).mono ?_
      rintro e w3 ⟨hTP3, hb3⟩
      rcases hTP3 with ⟨l3, V3, hl3, _⟩ | ⟨er3, p3, hl3, rfl⟩
      case inl => cases hl3
      obtain ⟨rfl, rfl⟩ : er = er3 ∧ p = p3 := by have := Sum.inr.inj hl3; exact ⟨congrArg Prod.fst this, congrArg Prod.snd this⟩
      obtain ⟨q0, q1, qf0, qf1, qlt⟩ := ((Duo.new w2 26 (.int .i64 er) (.int .i64 (p : Int))).keep hb3).keep (below_new w3 (Obj.cells #[Value.int IntKind.i64 er, Value.int IntKind.i64 (p : Int)] 26))
      have HB3 := hidb (((HB2.out.alloc HB2.out.size (Obj.cells #[Value.int IntKind.i64 er, Value.int IntKind.i64 (p : Int)] 26)).trans (hb3.mono (by have := HB2.out.size; simp; omega))))
      clear hb3 hb2
      have k1 : (er == er) = true := by simp
      have k2 : ((p : Int) == (p : Int)) = true := by simp
      go_wp2_with (first
        | (go_at_call 12; refine (same_nil _).mono ?_; rintro e w4 ⟨rfl, hb4⟩))
      go_ret
      refine ⟨rfl, (HB3.out.alloc HB3.out.size _).trans (hb4.mono ?_)⟩
      have := HB3.out.size
      simp
      omega
end Go.Proofs.YtecgddiohoeboaaDoor


/- The reference's token, whole; LexTokens. -/
namespace Go.Proofs.YtecgddiohoeboaaDoor
open Go.RowKit Go.Lib
attribute [local go_sem] store_float f64bits
attribute [local go_sem ↓] Go.wp_at_zero Go.wp_at_succ

set_option maxHeartbeats 1000000 in
theorem rtok_quote (s : ByteArray) (p : Nat) (hp : p < s.size) (hs : s.size ≤ 65536) (hq : bt s p = 39 ∨ bt s p = 34) (w : World) : Calls Tryd.prog 23 #[.string s, .int .i64 (p : Int)] w fun e w' => e = .returned (rV (quoteV s p) p (quoteE s p)) ∧ Below w.heap.size w w' := by
  have cQ := rquoted_any s p hp hq hs (wbox w)
  have i0 : (0 : Int) ≤ (p : Int) := by omega
  have i1 : (p : Int) < (s.size : Int) := by omega
  unfold quoteV quoteE
  rcases hq with hq | hq
  · have cD := rdigit_any 39
    rw [show pDigit 39 = false from rfl] at cD
    have hb : ∀ h, (s[p]'h).toNat = 39 := fun h => by rw [at_byte, hq]
    rw [hq] at cQ ⊢
    clear hq
    cases ho : quotN s 39 (s.size + 1) (p + 1) [] with
    | none =>
      rw [ho] at cQ
      show Calls _ _ _ _ fun e w' => e = .returned (rV (badV 23) p _) ∧ _
      rw [rV_bad 23 (by decide)]
      replace cQ : Calls Tryd.prog 47 #[.string s, .int .i64 (p : Int)] (wbox w) fun e w' => e = .returned (.tuple #[.string ⟨#[]⟩, .int .i64 0, .bool false]) ∧ Below (wbox w).heap.size (wbox w) w' := cQ
      go_enter Tryd.func23, Tryd.ntmps23
      go_wp2_with (first | (go_at_call 44; refine (cD _).mono ?_; rintro e w' ⟨rfl, hw'⟩; obtain rfl := hw'.symm) | (go_at_call 47; refine cQ.mono ?_; rintro e w1 ⟨rfl, hb1⟩; have HB1 := hidb hb1; obtain ⟨z0, z1, z2, z3, z4, y0, y1, y2, y3, y4, _⟩ := (wbox_box w).keep hb1))
      exact bodyPost_ret (v := .tuple #[.agg #[.int .i64 (0), .string (⟨#[]⟩), .int .i64 (0), .float .f64 (0), .int .i64 (0)], .int .i64 0, .int .i64 23]) (by simp [results, Tryd.results23, go_sem, z0, z1, z2, z3, z4]) rfl ⟨rfl, below_set5 ((wbox_below w).trans (HB1.out.mono (wbox_below w).size)) (Nat.le_refl _) _ _ _ _ _⟩
    | some x =>
      obtain ⟨l, E⟩ := x
      rw [ho] at cQ
      obtain ⟨X, hX⟩ : ∃ X, (⟨l.toArray⟩ : ByteArray) = X := ⟨_, rfl⟩
      replace cQ : Calls Tryd.prog 47 #[.string s, .int .i64 (p : Int)] (wbox w) fun e w' => e = .returned (.tuple #[.string X, .int .i64 (E : Int), .bool true]) ∧ Below (wbox w).heap.size (wbox w) w' := by rw [← hX]; exact cQ
      clear ho
      show Calls _ _ _ _ fun e w' => e = .returned (rV (atomV ⟨l.toArray⟩) p E) ∧ _
      rw [hX]
      clear hX
      unfold atomV
      by_cases h64 : 64 < X.size
      · have i6 : (64 : Int) < (X.size : Int) := by omega
        rw [if_pos h64, rV_bad 23 (by decide)]
        go_enter Tryd.func23, Tryd.ntmps23
        go_wp2_with (first | (go_at_call 44; refine (cD _).mono ?_; rintro e w' ⟨rfl, hw'⟩; obtain rfl := hw'.symm) | (go_at_call 47; refine cQ.mono ?_; rintro e w1 ⟨rfl, hb1⟩; have HB1 := hidb hb1; obtain ⟨z0, z1, z2, z3, z4, y0, y1, y2, y3, y4, _⟩ := (wbox_box w).keep hb1))
        exact bodyPost_ret (v := .tuple #[.agg #[.int .i64 (0), .string (⟨#[]⟩), .int .i64 (0), .float .f64 (0), .int .i64 (0)], .int .i64 0, .int .i64 23]) (by simp [results, Tryd.results23, go_sem, z0, z1, z2, z3, z4]) rfl ⟨rfl, below_set5 ((wbox_below w).trans (HB1.out.mono (wbox_below w).size)) (Nat.le_refl _) _ _ _ _ _⟩
      · have i6 : ¬ (64 : Int) < (X.size : Int) := by omega
        rw [if_neg h64, rV_tk]
        go_enter Tryd.func23, Tryd.ntmps23
        go_wp2_with (first | (go_at_call 44; refine (cD _).mono ?_; rintro e w' ⟨rfl, hw'⟩; obtain rfl := hw'.symm) | (go_at_call 47; refine cQ.mono ?_; rintro e w1 ⟨rfl, hb1⟩; have HB1 := hidb hb1; obtain ⟨z0, z1, z2, z3, z4, y0, y1, y2, y3, y4, _⟩ := (wbox_box w).keep hb1))
        exact bodyPost_ret (v := .tuple #[.agg #[.int .i64 (1), .string (X), .int .i64 (0), .float .f64 (0), .int .i64 ((p : Int))], .int .i64 (E : Int), .int .i64 0]) (by simp [results, Tryd.results23, go_sem, z0, z1, z2, z3, z4]) rfl ⟨rfl, below_set5 ((wbox_below w).trans (HB1.out.mono (wbox_below w).size)) (Nat.le_refl _) _ _ _ _ _⟩
  · have cD := rdigit_any 34
    rw [show pDigit 34 = false from rfl] at cD
    have hb : ∀ h, (s[p]'h).toNat = 34 := fun h => by rw [at_byte, hq]
    rw [hq] at cQ ⊢
    clear hq
    cases ho : quotN s 34 (s.size + 1) (p + 1) [] with
    | none =>
      rw [ho] at cQ
      show Calls _ _ _ _ fun e w' => e = .returned (rV (badV 23) p _) ∧ _
      rw [rV_bad 23 (by decide)]
      replace cQ : Calls Tryd.prog 47 #[.string s, .int .i64 (p : Int)] (wbox w) fun e w' => e = .returned (.tuple #[.string ⟨#[]⟩, .int .i64 0, .bool false]) ∧ Below (wbox w).heap.size (wbox w) w' := cQ
      go_enter Tryd.func23, Tryd.ntmps23
      go_wp2_with (first | (go_at_call 44; refine (cD _).mono ?_; rintro e w' ⟨rfl, hw'⟩; obtain rfl := hw'.symm) | (go_at_call 47; refine cQ.mono ?_; rintro e w1 ⟨rfl, hb1⟩; have HB1 := hidb hb1; obtain ⟨z0, z1, z2, z3, z4, y0, y1, y2, y3, y4, _⟩ := (wbox_box w).keep hb1))
      exact bodyPost_ret (v := .tuple #[.agg #[.int .i64 (0), .string (⟨#[]⟩), .int .i64 (0), .float .f64 (0), .int .i64 (0)], .int .i64 0, .int .i64 23]) (by simp [results, Tryd.results23, go_sem, z0, z1, z2, z3, z4]) rfl ⟨rfl, below_set5 ((wbox_below w).trans (HB1.out.mono (wbox_below w).size)) (Nat.le_refl _) _ _ _ _ _⟩
    | some x =>
      obtain ⟨l, E⟩ := x
      rw [ho] at cQ
      obtain ⟨X, hX⟩ : ∃ X, (⟨l.toArray⟩ : ByteArray) = X := ⟨_, rfl⟩
      replace cQ : Calls Tryd.prog 47 #[.string s, .int .i64 (p : Int)] (wbox w) fun e w' => e = .returned (.tuple #[.string X, .int .i64 (E : Int), .bool true]) ∧ Below (wbox w).heap.size (wbox w) w' := by rw [← hX]; exact cQ
      clear ho
      show Calls _ _ _ _ fun e w' => e = .returned (rV (.tuple #[.agg #[.int .i64 (5), .string (⟨l.toArray⟩), .int .i64 (0), .float .f64 (0), .int .i64 (0)], .int .i64 0]) p E) ∧ _
      rw [hX, rV_tk]
      clear hX
      go_enter Tryd.func23, Tryd.ntmps23
      go_wp2_with (first | (go_at_call 44; refine (cD _).mono ?_; rintro e w' ⟨rfl, hw'⟩; obtain rfl := hw'.symm) | (go_at_call 47; refine cQ.mono ?_; rintro e w1 ⟨rfl, hb1⟩; have HB1 := hidb hb1; obtain ⟨z0, z1, z2, z3, z4, y0, y1, y2, y3, y4, _⟩ := (wbox_box w).keep hb1))
      exact bodyPost_ret (v := .tuple #[.agg #[.int .i64 (5), .string (X), .int .i64 (0), .float .f64 (0), .int .i64 ((p : Int))], .int .i64 (E : Int), .int .i64 0]) (by simp [results, Tryd.results23, go_sem, z0, z1, z2, z3, z4]) rfl ⟨rfl, below_set5 ((wbox_below w).trans (HB1.out.mono (wbox_below w).size)) (Nat.le_refl _) _ _ _ _ _⟩

theorem rTok_all (s : ByteArray) (hs : s.size ≤ 65536) : RTok s := by
  intro p W hp
  unfold tokV tokE
  by_cases h1 : pSmall (bt s p) = true
  · rw [if_pos h1, if_pos h1]; exact rtok_word s p hp hs h1 W
  rw [if_neg h1, if_neg h1]
  by_cases h2 : pCapital (bt s p) = true ∨ bt s p = 95
  · rw [if_pos h2, if_pos h2]; exact rtok_var s p hp hs h1 h2 W
  rw [if_neg h2, if_neg h2]
  by_cases h3 : pDigit (bt s p) = true
  · rw [if_pos h3, if_pos h3]; exact rtok_num s p hp hs h3 W
  rw [if_neg h3, if_neg h3]
  by_cases h4 : bt s p = 35
  · rw [if_pos h4, if_pos h4]; exact rtok_bits s p hp hs h4 W
  rw [if_neg h4, if_neg h4]
  by_cases h5 : bt s p = 39 ∨ bt s p = 34
  · rw [if_pos h5, if_pos h5]; exact rtok_quote s p hp hs h5 W
  rw [if_neg h5, if_neg h5]
  exact rtok_sign s p hp hs h1 h2 h3 h4 h5 W

theorem LexTokens_walk (s : ByteArray) (w : World) (hT : LexTab w) : Calls Tryd.prog 3 #[.string s] w fun e w' => e = .returned (.bool true) ∧ Below w.heap.size w w' := LexTokens_of s (rTok_all s) w hT
end Go.Proofs.YtecgddiohoeboaaDoor


