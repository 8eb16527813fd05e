import Derived.Test.YtecgddiohoeboaaDoorLy4
import Derived.Test.YtecgddiohoeboaaDoorLy4b
import Derived.Test.YtecgddiohoeboaaDoorLy5
import Derived.Test.YtecgddiohoeboaaDoorLy5b
/- The reference's number. -/
namespace Go.Proofs.YtecgddiohoeboaaDoor
open Go.RowKit Go.Lib

theorem rV_whole_bad (X : ByteArray) (i E : Nat) (h : 18 < X.size ∨ (¬ 18 < X.size ∧ 576460752303423487 < wor X X.size)) : rV (wholeV X) i E = .tuple #[.agg #[.int .i64 (0), .string (⟨#[]⟩), .int .i64 (0), .float .f64 (0), .int .i64 (0)], .int .i64 0, .int .i64 22] := by
  unfold wholeV
  rcases h with h | ⟨h1, h2⟩
  · rw [if_pos h, rV_bad 22 (by decide)]
  · rw [if_neg h1, if_pos h2, rV_bad 22 (by decide)]
theorem rV_whole_ok (X : ByteArray) (i E : Nat) (h1 : ¬ 18 < X.size) (h2 : ¬ 576460752303423487 < wor X X.size) : rV (wholeV X) i E = .tuple #[.agg #[.int .i64 (3), .string (⟨#[]⟩), .int .i64 ((wor X X.size : Nat)), .float .f64 (0), .int .i64 ((i : Int))], .int .i64 (E : Int), .int .i64 0] := by
  unfold wholeV
  rw [if_neg h1, if_neg h2, rV_tk]

theorem rwholes (s X : ByteArray) (i E : Nat) (hiE : i < E) (hE : E ≤ s.size) (hs : s.size ≤ 65536) (hX : s.extract i E = X) (hXs : X.size = E - i) (hgo : ∀ p, i ≤ p → p < E → pDigit (bt s p) = true) (hz : ¬ (1 < X.size ∧ bt X 0 = 48)) (hD : Digs X)
    (hr : s.size ≤ E ∨ (E < s.size ∧ pDigit (bt s E) = false ∧ (s.size ≤ E + 1 ∨ (¬ s.size ≤ E + 1 ∧ (bt s E ≠ 46 ∨ (bt s E = 46 ∧ pDigit (bt s (E + 1)) = false)))))) (w : World) :
    Calls Tryd.prog 45 #[.string s, .int .i64 (i : Int)] w fun e w' => e = .returned (rV (wholeV X) i E) ∧ Below w.heap.size w w' := by
  have hsmall : ¬ 1 < X.size → ¬ 576460752303423487 < wor X X.size := fun h => by
    have h1 := wor_lt X hD X.size (Nat.le_refl _)
    have h2 : 10 ^ X.size ≤ 10 ^ 1 := Nat.pow_le_pow_right (by omega) (by omega)
    omega
  rcases hr with hr | ⟨hr1, hr2, hr3 | ⟨hr3, hr4 | ⟨hr4, hr5⟩⟩⟩
  · by_cases hz1 : 1 < X.size
    · have hz2 : bt X 0 ≠ 48 := fun e => hz ⟨hz1, e⟩
      by_cases ho : 18 < X.size
      · rw [rV_whole_bad X i E (.inl ho)]; exact rni_e1c1 s X i E (bt X 0) hiE hE hs hX hXs hgo rfl hr hz2 (by omega) ho w
      · by_cases hm : 576460752303423487 < wor X X.size
        · rw [rV_whole_bad X i E (.inr ⟨ho, hm⟩)]; exact rni_e1c2 s X i E (bt X 0) (wor X X.size) hiE hE hs hX hXs hgo rfl hr hz2 (by omega) hD ho rfl hm w
        · rw [rV_whole_ok X i E ho hm]; exact rni_e1c3 s X i E (bt X 0) (wor X X.size) hiE hE hs hX hXs hgo rfl hr hz2 (by omega) hD ho rfl hm w
    · rw [rV_whole_ok X i E (by omega) (hsmall hz1)]; exact rni_e1l3 s X i E (bt X 0) (wor X X.size) hiE hE hs hX hXs hgo rfl hr hz1 (by omega) hD rfl (hsmall hz1) w
  · by_cases hz1 : 1 < X.size
    · have hz2 : bt X 0 ≠ 48 := fun e => hz ⟨hz1, e⟩
      by_cases ho : 18 < X.size
      · rw [rV_whole_bad X i E (.inl ho)]; exact rni_n1c1 s X i E (bt X 0) hiE hE hs hX hXs hgo rfl hr1 hr2 hz2 hr3 ho w
      · by_cases hm : 576460752303423487 < wor X X.size
        · rw [rV_whole_bad X i E (.inr ⟨ho, hm⟩)]; exact rni_n1c2 s X i E (bt X 0) (wor X X.size) hiE hE hs hX hXs hgo rfl hr1 hr2 hz2 hr3 hD ho rfl hm w
        · rw [rV_whole_ok X i E ho hm]; exact rni_n1c3 s X i E (bt X 0) (wor X X.size) hiE hE hs hX hXs hgo rfl hr1 hr2 hz2 hr3 hD ho rfl hm w
    · rw [rV_whole_ok X i E (by omega) (hsmall hz1)]; exact rni_n1l3 s X i E (bt X 0) (wor X X.size) hiE hE hs hX hXs hgo rfl hr1 hr2 hz1 hr3 hD rfl (hsmall hz1) w
  · by_cases hz1 : 1 < X.size
    · have hz2 : bt X 0 ≠ 48 := fun e => hz ⟨hz1, e⟩
      by_cases ho : 18 < X.size
      · rw [rV_whole_bad X i E (.inl ho)]; exact rni_n2c1 s X i E (bt X 0) hiE hE hs hX hXs hgo rfl hr1 hr2 hz2 hr3 hr4 ho w
      · by_cases hm : 576460752303423487 < wor X X.size
        · rw [rV_whole_bad X i E (.inr ⟨ho, hm⟩)]; exact rni_n2c2 s X i E (bt X 0) (wor X X.size) hiE hE hs hX hXs hgo rfl hr1 hr2 hz2 hr3 hr4 hD ho rfl hm w
        · rw [rV_whole_ok X i E ho hm]; exact rni_n2c3 s X i E (bt X 0) (wor X X.size) hiE hE hs hX hXs hgo rfl hr1 hr2 hz2 hr3 hr4 hD ho rfl hm w
    · rw [rV_whole_ok X i E (by omega) (hsmall hz1)]; exact rni_n2l3 s X i E (bt X 0) (wor X X.size) hiE hE hs hX hXs hgo rfl hr1 hr2 hz1 hr3 hr4 hD rfl (hsmall hz1) w
  · by_cases hz1 : 1 < X.size
    · have hz2 : bt X 0 ≠ 48 := fun e => hz ⟨hz1, e⟩
      by_cases ho : 18 < X.size
      · rw [rV_whole_bad X i E (.inl ho)]; exact rni_n3c1 s X i E (bt X 0) hiE hE hs hX hXs hgo rfl hr1 hr2 hz2 hr3 hr4 hr5 ho w
      · by_cases hm : 576460752303423487 < wor X X.size
        · rw [rV_whole_bad X i E (.inr ⟨ho, hm⟩)]; exact rni_n3c2 s X i E (bt X 0) (wor X X.size) hiE hE hs hX hXs hgo rfl hr1 hr2 hz2 hr3 hr4 hr5 hD ho rfl hm w
        · rw [rV_whole_ok X i E ho hm]; exact rni_n3c3 s X i E (bt X 0) (wor X X.size) hiE hE hs hX hXs hgo rfl hr1 hr2 hz2 hr3 hr4 hr5 hD ho rfl hm w
    · rw [rV_whole_ok X i E (by omega) (hsmall hz1)]; exact rni_n3l3 s X i E (bt X 0) (wor X X.size) hiE hE hs hX hXs hgo rfl hr1 hr2 hz1 hr3 hr4 hr5 hD rfl (hsmall hz1) w

theorem rV_float_bad (X P : ByteArray) (i F : Nat) (h : 15 < X.size + P.size) : rV (floatV X P) i F = .tuple #[.agg #[.int .i64 (0), .string (⟨#[]⟩), .int .i64 (0), .float .f64 (0), .int .i64 (0)], .int .i64 0, .int .i64 22] := by
  unfold floatV
  rw [if_pos (by rw [ByteArray.size_append]; exact h), rV_bad 22 (by decide)]
theorem rV_float_ok (X P : ByteArray) (i F : Nat) (h : ¬ 15 < X.size + P.size) : rV (floatV X P) i F = .tuple #[.agg #[.int .i64 (4), .string (⟨#[]⟩), .int .i64 (0), .float .f64 (fq (wor (X ++ P) (X ++ P).size) P.size), .int .i64 ((i : Int))], .int .i64 (F : Int), .int .i64 0] := by
  unfold floatV
  rw [if_neg (by rw [ByteArray.size_append]; exact h), rV_tk]

theorem rfloats (s X P : ByteArray) (i E F : Nat) (hiE : i < E) (hE : E + 1 < s.size) (hs : s.size ≤ 65536) (hX : s.extract i E = X) (hXs : X.size + i = E) (hP : s.extract (E + 1) F = P) (hPs : P.size + (E + 1) = F) (hgo : ∀ p, i ≤ p → p < E → pDigit (bt s p) = true) (hgo2 : ∀ p, E + 1 ≤ p → p < F → pDigit (bt s p) = true) (hEF : E + 1 < F) (hFs : F ≤ s.size) (h46 : bt s E = 46)
    (hz : ¬ (1 < X.size ∧ bt X 0 = 48)) (hD : Digs (X ++ P)) (hnd : F < s.size → pDigit (bt s F) = false) (w : World) :
    Calls Tryd.prog 45 #[.string s, .int .i64 (i : Int)] w fun e w' => e = .returned (rV (floatV X P) i F) ∧ Below w.heap.size w w' := by
  by_cases ho : 15 < X.size + P.size
  · rw [rV_float_bad X P i F ho]
    by_cases hz1 : 1 < X.size
    · have hz2 : bt X 0 ≠ 48 := fun e => hz ⟨hz1, e⟩
      by_cases hF : F < s.size
      · exact rnf_cn1 s X P i E F (bt X 0) hiE hE hs hX hXs hP hPs hgo hgo2 hEF hFs h46 rfl hz1 hz2 ⟨hF, hnd hF⟩ ho w
      · exact rnf_ce1 s X P i E F (bt X 0) hiE hE hs hX hXs hP hPs hgo hgo2 hEF hFs h46 rfl hz1 hz2 (by omega) ho w
    · by_cases hF : F < s.size
      · exact rnf_ln1 s X P i E F (bt X 0) hiE hE hs hX hXs hP hPs hgo hgo2 hEF hFs h46 rfl hz1 ⟨hF, hnd hF⟩ ho w
      · exact rnf_le1 s X P i E F (bt X 0) hiE hE hs hX hXs hP hPs hgo hgo2 hEF hFs h46 rfl hz1 (by omega) ho w
  · rw [rV_float_ok X P i F ho]
    by_cases hz1 : 1 < X.size
    · have hz2 : bt X 0 ≠ 48 := fun e => hz ⟨hz1, e⟩
      by_cases hF : F < s.size
      · exact rnf_cn2 s X P i E F (bt X 0) _ _ hiE hE hs hX hXs hP hPs hgo hgo2 hEF hFs h46 rfl hz1 hz2 ⟨hF, hnd hF⟩ hD ho rfl rfl w
      · exact rnf_ce2 s X P i E F (bt X 0) _ _ hiE hE hs hX hXs hP hPs hgo hgo2 hEF hFs h46 rfl hz1 hz2 (by omega) hD ho rfl rfl w
    · by_cases hF : F < s.size
      · exact rnf_ln2 s X P i E F (bt X 0) _ _ hiE hE hs hX hXs hP hPs hgo hgo2 hEF hFs h46 rfl hz1 ⟨hF, hnd hF⟩ hD ho rfl rfl w
      · exact rnf_le2 s X P i E F (bt X 0) _ _ hiE hE hs hX hXs hP hPs hgo hgo2 hEF hFs h46 rfl hz1 (by omega) hD ho rfl rfl w

theorem rnumber_any (s : ByteArray) (i : Nat) (hi : i < s.size) (hd : pDigit (bt s i) = true) (hs : s.size ≤ 65536) (w : World) : Calls Tryd.prog 45 #[.string s, .int .i64 (i : Int)] w fun e w' => e = .returned (rV (numV s i) i (fracEnd s (goes pDigit s i))) ∧ Below w.heap.size w w' := by
  have hge : i + 1 ≤ goes pDigit s i := by rw [goes_on hi hd]; exact goes_ge _ _ _
  have hle := goes_le pDigit s i (by omega)
  have hgo := fun p h1 h2 => goes_all pDigit s i p h1 h2
  have hnd := goes_not pDigit s i
  have hDX := digs_part s i (by omega)
  have hDP := digs_frac s (goes pDigit s i)
  have hXs : (s.extract i (goes pDigit s i)).size = goes pDigit s i - i := by rw [size_ext]; omega
  unfold numV
  obtain ⟨E, hE⟩ : ∃ E, goes pDigit s i = E := ⟨_, rfl⟩
  rw [hE] at hge hle hnd hDX hDP hXs ⊢
  simp only [hE] at hgo
  by_cases hA : 1 < (s.extract i E).size ∧ bt (s.extract i E) 0 = 48
  · rw [if_pos hA, rV_bad 22 (by decide)]
    by_cases hl : E < s.size
    · exact rnz_n s _ i E _ (by omega) hle hs rfl hXs hgo rfl hl (hnd hl) hA.1 hA.2 w
    · exact rnz_e s _ i E _ (by omega) hle hs rfl hXs hgo rfl (by omega) hA.1 hA.2 w
  · rw [if_neg hA]
    cases hf : fracOk s E
    · have hP0 : fracS s E = ⟨#[]⟩ := by unfold fracS; rw [hf]; rfl
      have hF : fracEnd s E = E := by unfold fracEnd; rw [hf]; rfl
      rw [hP0, hF, if_pos (show (⟨#[]⟩ : ByteArray).size = 0 from rfl)]
      refine rwholes s _ i E (by omega) hle hs rfl hXs hgo hA hDX ?_ w
      by_cases hl : E < s.size
      · right
        refine ⟨hl, hnd hl, ?_⟩
        by_cases h1 : s.size ≤ E + 1
        · exact .inl h1
        · refine .inr ⟨h1, ?_⟩
          by_cases h2 : bt s E = 46
          · refine .inr ⟨h2, ?_⟩
            have h3 : E + 1 < s.size := by omega
            simpa [fracOk, hl, h2, h3] using hf
          · exact .inl h2
      · left; omega
    · have hP1 : fracS s E = s.extract (E + 1) (goes pDigit s (E + 1)) := by unfold fracS; rw [hf]; rfl
      have hF1 : fracEnd s E = goes pDigit s (E + 1) := by unfold fracEnd; rw [hf]; rfl
      simp [fracOk] at hf
      obtain ⟨⟨⟨f1, f2⟩, f3⟩, f4⟩ := hf
      have hge2 : E + 2 ≤ goes pDigit s (E + 1) := by rw [goes_on f3 f4]; exact goes_ge _ _ _
      have hle2 := goes_le pDigit s (E + 1) (by omega)
      have hPs : (s.extract (E + 1) (goes pDigit s (E + 1))).size = goes pDigit s (E + 1) - (E + 1) := by rw [size_ext]; omega
      rw [hP1] at hDP ⊢
      rw [hF1, if_neg (by omega)]
      exact rfloats s _ _ i E _ (by omega) f3 hs rfl (by omega) rfl (by omega) hgo (fun p h1 h2 => goes_all pDigit s (E + 1) p h1 h2) (by omega) hle2 f2 hA (digs_append _ _ hDX hDP) (goes_not pDigit s (E + 1)) w
end Go.Proofs.YtecgddiohoeboaaDoor


