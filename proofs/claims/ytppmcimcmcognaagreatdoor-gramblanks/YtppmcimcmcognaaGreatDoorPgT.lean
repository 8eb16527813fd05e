import Derived.Test.YtppmcimcmcognaaGreatDoorG21
/- worded, bracketed, primary. -/
namespace Go.Proofs.YtppmcimcmcognaaGreatDoor
open Go.RowKit Go.Lib
attribute [local go_sem] store_float f64bits
attribute [local go_sem ↓] Go.wp_at_zero Go.wp_at_succ
attribute [local go_sem] nd_p tk_k tk_x tk_n tk_f tk_p
variable {B g b o : Nat} {e : PM Nat}

set_option maxHeartbeats 2000000 in
set_option maxRecDepth 100000 in
theorem pWorded (hE : EC B g b o e) {P : Nat → Prop} {w : World} {V : Value} {s : PS} (h : At B g b o P w V s) (hk : (Gm.hd s).k ≠ 8) :
    Calls Tryz.prog 159 #[.pointer (some ⟨g, 0, none⟩)] w fun r w' => Rz B g b o P w V (Gm.worded e s) iv r w' := by
  have H : Hid (St B g b o P w V w V s) := hidb h
  obtain ⟨R, hR⟩ : ∃ R, Gm.worded e s = R := ⟨_, rfl⟩
  rw [hR]
  have HR := hidb hR.symm
  clear hR
  have HK := hidb hk
  clear hk
  have HE := hidb hE
  clear h hE
  obtain ⟨t0, ht⟩ : ∃ t, Gm.hd s = t := ⟨_, rfl⟩
  have q0 := strs t0.x [98, 101, 103, 105, 110]
  have q1 := strs t0.x [99, 97, 115, 101]
  have q2 := strs t0.x [102, 117, 110]
  have q3 := strs t0.x [116, 114, 121]
  have q4 := strs t0.x [114, 101, 99, 101, 105, 118, 101]
  have HR := hidb (HR.out.trans (Gm.bind_here ht))
  have T0 := hidb ht
  clear ht
  obtain ⟨b0, hb0⟩ : ∃ c, decide (t0.x = ⟨[98, 101, 103, 105, 110].toArray⟩) = c := ⟨_, rfl⟩
  rw [hb0] at q0
  have HB0 := hidb hb0
  clear hb0
  obtain ⟨b1, hb1⟩ : ∃ c, decide (t0.x = ⟨[99, 97, 115, 101].toArray⟩) = c := ⟨_, rfl⟩
  rw [hb1] at q1
  have HB1 := hidb hb1
  clear hb1
  obtain ⟨b2, hb2⟩ : ∃ c, decide (t0.x = ⟨[102, 117, 110].toArray⟩) = c := ⟨_, rfl⟩
  rw [hb2] at q2
  have HB2 := hidb hb2
  clear hb2
  obtain ⟨b3, hb3⟩ : ∃ c, decide (t0.x = ⟨[116, 114, 121].toArray⟩) = c := ⟨_, rfl⟩
  rw [hb3] at q3
  have HB3 := hidb hb3
  clear hb3
  obtain ⟨b4, hb4⟩ : ∃ c, decide (t0.x = ⟨[114, 101, 99, 101, 105, 118, 101].toArray⟩) = c := ⟨_, rfl⟩
  rw [hb4] at q4
  have HB4 := hidb hb4
  clear hb4
  cases b0 with
  | true =>
    have HR := hidb (HR.out.trans (Gm.ite_t (of_decide_eq_true HB0.out)))
    go_enter Tryz.func159, Tryz.ntmps159
    go_wp2_with (first
      | (go_at_call 46; refine (sHere H.out.at).mono ?_; rintro r1 w1 ⟨t, hq, rfl, hs, hb⟩; obtain rfl : t0 = t := T0.out.symm.trans hq; have H := hidb (H.out.below hb); clear hs hb hq)
      | (go_at_call 163; refine (pBegin HE.out H.out.at HK.out).mono ?_; rintro r1 w1 (⟨er, q, hq, rfl, hbu⟩ | ⟨z, s1, V1, hq, rfl, hs⟩) <;> first | (have HL := hidb hs; have H := hidb (H.out.trans hs); (first | (with_reducible have HR := hidb (HR.out.trans hq)) | have HR := hidb (HR.out.trans (Gm.bind_ok hq)));  clear hs hq) | ((first | (with_reducible have HR := hidb (HR.out.trans hq)) | have HR := hidb (HR.out.trans (Gm.bind_err hq))); have HBU := hidb (but_then H.out.but H.out.own hbu); clear hq hbu)))
    all_goals first
      | exact ⟨rfl, .inl ⟨_, _, HR.out, rfl, HBU.out⟩⟩
      | exact bodyPost_ret (v := iv z) (by simp [results, Tryz.results159, go_sem]) rfl (.inr ⟨_, _, _, HR.out, rfl, H.out⟩)
  | false =>
    have HR := hidb (HR.out.trans (Gm.ite_f (of_decide_eq_false HB0.out)))
    cases b1 with
    | true =>
      have HR := hidb (HR.out.trans (Gm.ite_t (of_decide_eq_true HB1.out)))
      go_enter Tryz.func159, Tryz.ntmps159
      go_wp2_with (first
        | (go_at_call 46; refine (sHere H.out.at).mono ?_; rintro r1 w1 ⟨t, hq, rfl, hs, hb⟩; obtain rfl : t0 = t := T0.out.symm.trans hq; have H := hidb (H.out.below hb); clear hs hb hq)
        | (go_at_call 164; refine (pChoice HE.out H.out.at HK.out).mono ?_; rintro r1 w1 (⟨er, q, hq, rfl, hbu⟩ | ⟨z, s1, V1, hq, rfl, hs⟩) <;> first | (have HL := hidb hs; have H := hidb (H.out.trans hs); (first | (with_reducible have HR := hidb (HR.out.trans hq)) | have HR := hidb (HR.out.trans (Gm.bind_ok hq)));  clear hs hq) | ((first | (with_reducible have HR := hidb (HR.out.trans hq)) | have HR := hidb (HR.out.trans (Gm.bind_err hq))); have HBU := hidb (but_then H.out.but H.out.own hbu); clear hq hbu)))
      all_goals first
        | exact ⟨rfl, .inl ⟨_, _, HR.out, rfl, HBU.out⟩⟩
        | exact bodyPost_ret (v := iv z) (by simp [results, Tryz.results159, go_sem]) rfl (.inr ⟨_, _, _, HR.out, rfl, H.out⟩)
    | false =>
      have HR := hidb (HR.out.trans (Gm.ite_f (of_decide_eq_false HB1.out)))
      cases b2 with
      | true =>
        have HR := hidb (HR.out.trans (Gm.ite_t (of_decide_eq_true HB2.out)))
        go_enter Tryz.func159, Tryz.ntmps159
        go_wp2_with (first
          | (go_at_call 46; refine (sHere H.out.at).mono ?_; rintro r1 w1 ⟨t, hq, rfl, hs, hb⟩; obtain rfl : t0 = t := T0.out.symm.trans hq; have H := hidb (H.out.below hb); clear hs hb hq)
          | (go_at_call 165; refine (pFun HE.out H.out.at HK.out).mono ?_; rintro r1 w1 (⟨er, q, hq, rfl, hbu⟩ | ⟨z, s1, V1, hq, rfl, hs⟩) <;> first | (have HL := hidb hs; have H := hidb (H.out.trans hs); (first | (with_reducible have HR := hidb (HR.out.trans hq)) | have HR := hidb (HR.out.trans (Gm.bind_ok hq)));  clear hs hq) | ((first | (with_reducible have HR := hidb (HR.out.trans hq)) | have HR := hidb (HR.out.trans (Gm.bind_err hq))); have HBU := hidb (but_then H.out.but H.out.own hbu); clear hq hbu)))
        all_goals first
          | exact ⟨rfl, .inl ⟨_, _, HR.out, rfl, HBU.out⟩⟩
          | exact bodyPost_ret (v := iv z) (by simp [results, Tryz.results159, go_sem]) rfl (.inr ⟨_, _, _, HR.out, rfl, H.out⟩)
      | false =>
        have HR := hidb (HR.out.trans (Gm.ite_f (of_decide_eq_false HB2.out)))
        cases b3 with
        | true =>
          have HR := hidb (HR.out.trans (Gm.ite_t (of_decide_eq_true HB3.out)))
          go_enter Tryz.func159, Tryz.ntmps159
          go_wp2_with (first
            | (go_at_call 46; refine (sHere H.out.at).mono ?_; rintro r1 w1 ⟨t, hq, rfl, hs, hb⟩; obtain rfl : t0 = t := T0.out.symm.trans hq; have H := hidb (H.out.below hb); clear hs hb hq)
            | (go_at_call 166; refine (pTry HE.out H.out.at HK.out).mono ?_; rintro r1 w1 (⟨er, q, hq, rfl, hbu⟩ | ⟨z, s1, V1, hq, rfl, hs⟩) <;> first | (have HL := hidb hs; have H := hidb (H.out.trans hs); (first | (with_reducible have HR := hidb (HR.out.trans hq)) | have HR := hidb (HR.out.trans (Gm.bind_ok hq)));  clear hs hq) | ((first | (with_reducible have HR := hidb (HR.out.trans hq)) | have HR := hidb (HR.out.trans (Gm.bind_err hq))); have HBU := hidb (but_then H.out.but H.out.own hbu); clear hq hbu)))
          all_goals first
            | exact ⟨rfl, .inl ⟨_, _, HR.out, rfl, HBU.out⟩⟩
            | exact bodyPost_ret (v := iv z) (by simp [results, Tryz.results159, go_sem]) rfl (.inr ⟨_, _, _, HR.out, rfl, H.out⟩)
        | false =>
          have HR := hidb (HR.out.trans (Gm.ite_f (of_decide_eq_false HB3.out)))
          cases b4 with
          | true =>
            have HR := hidb (HR.out.trans (Gm.ite_t (of_decide_eq_true HB4.out)))
            go_enter Tryz.func159, Tryz.ntmps159
            go_wp2_with (first
              | (go_at_call 46; refine (sHere H.out.at).mono ?_; rintro r1 w1 ⟨t, hq, rfl, hs, hb⟩; obtain rfl : t0 = t := T0.out.symm.trans hq; have H := hidb (H.out.below hb); clear hs hb hq)
              | (go_at_call 167; refine (pReceive HE.out H.out.at HK.out).mono ?_; rintro r1 w1 (⟨er, q, hq, rfl, hbu⟩ | ⟨z, s1, V1, hq, rfl, hs⟩) <;> first | (have HL := hidb hs; have H := hidb (H.out.trans hs); (first | (with_reducible have HR := hidb (HR.out.trans hq)) | have HR := hidb (HR.out.trans (Gm.bind_ok hq)));  clear hs hq) | ((first | (with_reducible have HR := hidb (HR.out.trans hq)) | have HR := hidb (HR.out.trans (Gm.bind_err hq))); have HBU := hidb (but_then H.out.but H.out.own hbu); clear hq hbu)))
            all_goals first
              | exact ⟨rfl, .inl ⟨_, _, HR.out, rfl, HBU.out⟩⟩
              | exact bodyPost_ret (v := iv z) (by simp [results, Tryz.results159, go_sem]) rfl (.inr ⟨_, _, _, HR.out, rfl, H.out⟩)
          | false =>
            have HR := hidb (HR.out.trans (Gm.ite_f (of_decide_eq_false HB4.out)))
            go_enter Tryz.func159, Tryz.ntmps159
            go_wp2_with (first
              | (go_at_call 46; refine (sHere H.out.at).mono ?_; rintro r1 w1 ⟨t, hq, rfl, hs, hb⟩; obtain rfl : t0 = t := T0.out.symm.trans hq; have H := hidb (H.out.below hb); clear hs hb hq)
              | (go_at_call 49; refine (sGiveUp (α := Nat) 24 H.out.at).mono ?_; rintro r1 w1 ⟨q, hq, rfl, hbu⟩; have HBU := hidb (but_then H.out.but H.out.own hbu); have HR := hidb (HR.out.trans hq); clear hq hbu))
            all_goals first
              | exact ⟨rfl, .inl ⟨_, _, HR.out, rfl, HBU.out⟩⟩
              | exact bodyPost_ret (v := iv z) (by simp [results, Tryz.results159, go_sem]) rfl (.inr ⟨_, _, _, HR.out, rfl, H.out⟩)

set_option maxHeartbeats 2000000 in
set_option maxRecDepth 100000 in
theorem pBracketed (hE : EC B g b o e) {P : Nat → Prop} {w : World} {V : Value} {s : PS} (h : At B g b o P w V s) (hk : (Gm.hd s).k ≠ 8) :
    Calls Tryz.prog 158 #[.pointer (some ⟨g, 0, none⟩)] w fun r w' => Rz B g b o P w V (Gm.bracketed e s) iv r w' := by
  have H : Hid (St B g b o P w V w V s) := hidb h
  obtain ⟨R, hR⟩ : ∃ R, Gm.bracketed e s = R := ⟨_, rfl⟩
  rw [hR]
  have HR := hidb hR.symm
  clear hR
  have HK := hidb hk
  clear hk
  have HE := hidb hE
  clear h hE
  obtain ⟨t0, ht⟩ : ∃ t, Gm.hd s = t := ⟨_, rfl⟩
  have q0 := strs t0.x [40]
  have q1 := strs t0.x [123]
  have q2 := strs t0.x [91]
  have HR := hidb (HR.out.trans (Gm.bind_here ht))
  have T0 := hidb ht
  clear ht
  obtain ⟨b0, hb0⟩ : ∃ c, decide (t0.x = ⟨[40].toArray⟩) = c := ⟨_, rfl⟩
  rw [hb0] at q0
  have HB0 := hidb hb0
  clear hb0
  obtain ⟨b1, hb1⟩ : ∃ c, decide (t0.x = ⟨[123].toArray⟩) = c := ⟨_, rfl⟩
  rw [hb1] at q1
  have HB1 := hidb hb1
  clear hb1
  obtain ⟨b2, hb2⟩ : ∃ c, decide (t0.x = ⟨[91].toArray⟩) = c := ⟨_, rfl⟩
  rw [hb2] at q2
  have HB2 := hidb hb2
  clear hb2
  cases b0 with
  | true =>
    have HR := hidb (HR.out.trans (Gm.ite_t (of_decide_eq_true HB0.out)))
    go_enter Tryz.func158, Tryz.ntmps158
    go_wp2_with (first
      | (go_at_call 46; refine (sHere H.out.at).mono ?_; rintro r1 w1 ⟨t, hq, rfl, hs, hb⟩; obtain rfl : t0 = t := T0.out.symm.trans hq; have H := hidb (H.out.below hb); clear hs hb hq)
      | (go_at_call 50; refine (sNext H.out.at HK.out).mono ?_; rintro r1 w1 ⟨t1, s1, hq, rfl, hs⟩; have H := hidb (H.out.trans hs); have HR := hidb (HR.out.trans (Gm.bind_next hq)); have Tt1 := hidb hq.1; clear hs hq)
      | (go_at_call 121; refine (HE.out.run H.out.at).mono ?_; rintro r1 w1 (⟨er, q, hq, rfl, hbu⟩ | ⟨x, s1, V1, hq, rfl, hs⟩) <;> first | (have HL := hidb hs; have H := hidb (H.out.trans hs); (first | (with_reducible have HR := hidb (HR.out.trans hq)) | have HR := hidb (HR.out.trans (Gm.bind_ok hq)));  clear hs hq) | ((first | (with_reducible have HR := hidb (HR.out.trans hq)) | have HR := hidb (HR.out.trans (Gm.bind_err hq))); have HBU := hidb (but_then H.out.but H.out.own hbu); clear hq hbu))
      | (go_at_call 47; refine (sNeed _ H.out.at).mono ?_; rintro r1 w1 (⟨er, q, hq, rfl, hbu⟩ | ⟨s1, hq, rfl, hs⟩) <;> first | (have HL := hidb hs; have H := hidb (H.out.trans hs); (first | (with_reducible have HR := hidb (HR.out.trans hq)) | have HR := hidb (HR.out.trans (Gm.bind_ok hq)));  clear hs hq) | ((first | (with_reducible have HR := hidb (HR.out.trans hq)) | have HR := hidb (HR.out.trans (Gm.bind_err hq))); have HBU := hidb (but_then H.out.but H.out.own hbu); clear hq hbu)))
    all_goals first
      | exact ⟨rfl, .inl ⟨_, _, HR.out, rfl, HBU.out⟩⟩
      | exact bodyPost_ret (v := iv x) (by simp [results, Tryz.results158, go_sem]) rfl (.inr ⟨_, _, _, HR.out, rfl, H.out⟩)
  | false =>
    have HR := hidb (HR.out.trans (Gm.ite_f (of_decide_eq_false HB0.out)))
    cases b1 with
    | true =>
      have HR := hidb (HR.out.trans (Gm.ite_t (of_decide_eq_true HB1.out)))
      go_enter Tryz.func158, Tryz.ntmps158
      go_wp2_with (first
        | (go_at_call 46; refine (sHere H.out.at).mono ?_; rintro r1 w1 ⟨t, hq, rfl, hs, hb⟩; obtain rfl : t0 = t := T0.out.symm.trans hq; have H := hidb (H.out.below hb); clear hs hb hq)
        | (go_at_call 161; refine (pTuple HE.out H.out.at HK.out).mono ?_; rintro r1 w1 (⟨er, q, hq, rfl, hbu⟩ | ⟨z, s1, V1, hq, rfl, hs⟩) <;> first | (have HL := hidb hs; have H := hidb (H.out.trans hs); (first | (with_reducible have HR := hidb (HR.out.trans hq)) | have HR := hidb (HR.out.trans (Gm.bind_ok hq)));  clear hs hq) | ((first | (with_reducible have HR := hidb (HR.out.trans hq)) | have HR := hidb (HR.out.trans (Gm.bind_err hq))); have HBU := hidb (but_then H.out.but H.out.own hbu); clear hq hbu)))
      all_goals first
        | exact ⟨rfl, .inl ⟨_, _, HR.out, rfl, HBU.out⟩⟩
        | exact bodyPost_ret (v := iv z) (by simp [results, Tryz.results158, go_sem]) rfl (.inr ⟨_, _, _, HR.out, rfl, H.out⟩)
    | false =>
      have HR := hidb (HR.out.trans (Gm.ite_f (of_decide_eq_false HB1.out)))
      cases b2 with
      | true =>
        have HR := hidb (HR.out.trans (Gm.ite_t (of_decide_eq_true HB2.out)))
        go_enter Tryz.func158, Tryz.ntmps158
        go_wp2_with (first
          | (go_at_call 46; refine (sHere H.out.at).mono ?_; rintro r1 w1 ⟨t, hq, rfl, hs, hb⟩; obtain rfl : t0 = t := T0.out.symm.trans hq; have H := hidb (H.out.below hb); clear hs hb hq)
          | (go_at_call 162; refine (pList HE.out H.out.at HK.out).mono ?_; rintro r1 w1 (⟨er, q, hq, rfl, hbu⟩ | ⟨z, s1, V1, hq, rfl, hs⟩) <;> first | (have HL := hidb hs; have H := hidb (H.out.trans hs); (first | (with_reducible have HR := hidb (HR.out.trans hq)) | have HR := hidb (HR.out.trans (Gm.bind_ok hq)));  clear hs hq) | ((first | (with_reducible have HR := hidb (HR.out.trans hq)) | have HR := hidb (HR.out.trans (Gm.bind_err hq))); have HBU := hidb (but_then H.out.but H.out.own hbu); clear hq hbu)))
        all_goals first
          | exact ⟨rfl, .inl ⟨_, _, HR.out, rfl, HBU.out⟩⟩
          | exact bodyPost_ret (v := iv z) (by simp [results, Tryz.results158, go_sem]) rfl (.inr ⟨_, _, _, HR.out, rfl, H.out⟩)
      | false =>
        have HR := hidb (HR.out.trans (Gm.ite_f (of_decide_eq_false HB2.out)))
        go_enter Tryz.func158, Tryz.ntmps158
        go_wp2_with (first
          | (go_at_call 46; refine (sHere H.out.at).mono ?_; rintro r1 w1 ⟨t, hq, rfl, hs, hb⟩; obtain rfl : t0 = t := T0.out.symm.trans hq; have H := hidb (H.out.below hb); clear hs hb hq)
          | (go_at_call 49; refine (sGiveUp (α := Nat) 24 H.out.at).mono ?_; rintro r1 w1 ⟨q, hq, rfl, hbu⟩; have HBU := hidb (but_then H.out.but H.out.own hbu); have HR := hidb (HR.out.trans hq); clear hq hbu))
        all_goals first
          | exact ⟨rfl, .inl ⟨_, _, HR.out, rfl, HBU.out⟩⟩
          | exact bodyPost_ret (v := iv z) (by simp [results, Tryz.results158, go_sem]) rfl (.inr ⟨_, _, _, HR.out, rfl, H.out⟩)

set_option maxHeartbeats 2000000 in
set_option maxRecDepth 100000 in
theorem pPrimary (hE : EC B g b o e) {P : Nat → Prop} {w : World} {V : Value} {s : PS} (h : At B g b o P w V s) :
    Calls Tryz.prog 153 #[.pointer (some ⟨g, 0, none⟩)] w fun r w' => Rz B g b o P w V (Gm.primary e s) iv r w' := by
  have H : Hid (St B g b o P w V w V s) := hidb h
  obtain ⟨R, hR⟩ : ∃ R, Gm.primary e s = R := ⟨_, rfl⟩
  rw [hR]
  have HR := hidb hR.symm
  clear hR
  have HE := hidb hE
  clear h hE
  obtain ⟨t0, ht⟩ : ∃ t, Gm.hd s = t := ⟨_, rfl⟩
  obtain ⟨tk, tx, tn, tf, tp⟩ := t0
  replace HR := hidb (HR.out.trans (Gm.bind_here ht))
  have TK := hidb ht
  clear ht
  by_cases h1 : tk = 1
  · subst h1
    replace HR := hidb (HR.out.trans (Gm.ite_t (by simp)))
    go_enter Tryz.func153, Tryz.ntmps153
    go_wp2_with (first
      | (go_at_call 46; refine (sHere H.out.at).mono ?_; rintro r1 w1 ⟨t, hq, rfl, hs, hb⟩; obtain rfl : t = ⟨1, tx, tn, tf, tp⟩ := hq.symm.trans TK.out; have H := hidb (H.out.below hb); clear hs hb hq)
      | (go_at_call 157; refine (pLeaf H.out.at (hk_of TK.out (by simp))).mono ?_; rintro r1 w1 (⟨er, q, hq, rfl, hbu⟩ | ⟨z, s1, V1, hq, rfl, hs⟩) <;> first | (have HL := hidb hs; have H := hidb (H.out.trans hs); (first | (with_reducible have HR := hidb (HR.out.trans hq)) | have HR := hidb (HR.out.trans (Gm.bind_ok hq)));  clear hs hq) | ((first | (with_reducible have HR := hidb (HR.out.trans hq)) | have HR := hidb (HR.out.trans (Gm.bind_err hq))); have HBU := hidb (but_then H.out.but H.out.own hbu); clear hq hbu)))
    all_goals first
      | exact ⟨rfl, .inl ⟨_, _, HR.out, rfl, HBU.out⟩⟩
      | exact bodyPost_ret (v := iv z) (by simp [results, Tryz.results153, go_sem]) rfl (.inr ⟨_, _, _, HR.out, rfl, H.out⟩)
  by_cases h2 : tk = 2
  · subst h2
    replace HR := hidb (HR.out.trans (Gm.ite_t (by simp)))
    go_enter Tryz.func153, Tryz.ntmps153
    go_wp2_with (first
      | (go_at_call 46; refine (sHere H.out.at).mono ?_; rintro r1 w1 ⟨t, hq, rfl, hs, hb⟩; obtain rfl : t = ⟨2, tx, tn, tf, tp⟩ := hq.symm.trans TK.out; have H := hidb (H.out.below hb); clear hs hb hq)
      | (go_at_call 157; refine (pLeaf H.out.at (hk_of TK.out (by simp))).mono ?_; rintro r1 w1 (⟨er, q, hq, rfl, hbu⟩ | ⟨z, s1, V1, hq, rfl, hs⟩) <;> first | (have HL := hidb hs; have H := hidb (H.out.trans hs); (first | (with_reducible have HR := hidb (HR.out.trans hq)) | have HR := hidb (HR.out.trans (Gm.bind_ok hq)));  clear hs hq) | ((first | (with_reducible have HR := hidb (HR.out.trans hq)) | have HR := hidb (HR.out.trans (Gm.bind_err hq))); have HBU := hidb (but_then H.out.but H.out.own hbu); clear hq hbu)))
    all_goals first
      | exact ⟨rfl, .inl ⟨_, _, HR.out, rfl, HBU.out⟩⟩
      | exact bodyPost_ret (v := iv z) (by simp [results, Tryz.results153, go_sem]) rfl (.inr ⟨_, _, _, HR.out, rfl, H.out⟩)
  by_cases h3 : tk = 3
  · subst h3
    replace HR := hidb (HR.out.trans (Gm.ite_t (by simp)))
    go_enter Tryz.func153, Tryz.ntmps153
    go_wp2_with (first
      | (go_at_call 46; refine (sHere H.out.at).mono ?_; rintro r1 w1 ⟨t, hq, rfl, hs, hb⟩; obtain rfl : t = ⟨3, tx, tn, tf, tp⟩ := hq.symm.trans TK.out; have H := hidb (H.out.below hb); clear hs hb hq)
      | (go_at_call 157; refine (pLeaf H.out.at (hk_of TK.out (by simp))).mono ?_; rintro r1 w1 (⟨er, q, hq, rfl, hbu⟩ | ⟨z, s1, V1, hq, rfl, hs⟩) <;> first | (have HL := hidb hs; have H := hidb (H.out.trans hs); (first | (with_reducible have HR := hidb (HR.out.trans hq)) | have HR := hidb (HR.out.trans (Gm.bind_ok hq)));  clear hs hq) | ((first | (with_reducible have HR := hidb (HR.out.trans hq)) | have HR := hidb (HR.out.trans (Gm.bind_err hq))); have HBU := hidb (but_then H.out.but H.out.own hbu); clear hq hbu)))
    all_goals first
      | exact ⟨rfl, .inl ⟨_, _, HR.out, rfl, HBU.out⟩⟩
      | exact bodyPost_ret (v := iv z) (by simp [results, Tryz.results153, go_sem]) rfl (.inr ⟨_, _, _, HR.out, rfl, H.out⟩)
  by_cases h4 : tk = 4
  · subst h4
    replace HR := hidb (HR.out.trans (Gm.ite_t (by simp)))
    go_enter Tryz.func153, Tryz.ntmps153
    go_wp2_with (first
      | (go_at_call 46; refine (sHere H.out.at).mono ?_; rintro r1 w1 ⟨t, hq, rfl, hs, hb⟩; obtain rfl : t = ⟨4, tx, tn, tf, tp⟩ := hq.symm.trans TK.out; have H := hidb (H.out.below hb); clear hs hb hq)
      | (go_at_call 157; refine (pLeaf H.out.at (hk_of TK.out (by simp))).mono ?_; rintro r1 w1 (⟨er, q, hq, rfl, hbu⟩ | ⟨z, s1, V1, hq, rfl, hs⟩) <;> first | (have HL := hidb hs; have H := hidb (H.out.trans hs); (first | (with_reducible have HR := hidb (HR.out.trans hq)) | have HR := hidb (HR.out.trans (Gm.bind_ok hq)));  clear hs hq) | ((first | (with_reducible have HR := hidb (HR.out.trans hq)) | have HR := hidb (HR.out.trans (Gm.bind_err hq))); have HBU := hidb (but_then H.out.but H.out.own hbu); clear hq hbu)))
    all_goals first
      | exact ⟨rfl, .inl ⟨_, _, HR.out, rfl, HBU.out⟩⟩
      | exact bodyPost_ret (v := iv z) (by simp [results, Tryz.results153, go_sem]) rfl (.inr ⟨_, _, _, HR.out, rfl, H.out⟩)
  by_cases h5 : tk = 5
  · subst h5
    replace HR := hidb (HR.out.trans (Gm.ite_t (by simp)))
    go_enter Tryz.func153, Tryz.ntmps153
    go_wp2_with (first
      | (go_at_call 46; refine (sHere H.out.at).mono ?_; rintro r1 w1 ⟨t, hq, rfl, hs, hb⟩; obtain rfl : t = ⟨5, tx, tn, tf, tp⟩ := hq.symm.trans TK.out; have H := hidb (H.out.below hb); clear hs hb hq)
      | (go_at_call 157; refine (pLeaf H.out.at (hk_of TK.out (by simp))).mono ?_; rintro r1 w1 (⟨er, q, hq, rfl, hbu⟩ | ⟨z, s1, V1, hq, rfl, hs⟩) <;> first | (have HL := hidb hs; have H := hidb (H.out.trans hs); (first | (with_reducible have HR := hidb (HR.out.trans hq)) | have HR := hidb (HR.out.trans (Gm.bind_ok hq)));  clear hs hq) | ((first | (with_reducible have HR := hidb (HR.out.trans hq)) | have HR := hidb (HR.out.trans (Gm.bind_err hq))); have HBU := hidb (but_then H.out.but H.out.own hbu); clear hq hbu)))
    all_goals first
      | exact ⟨rfl, .inl ⟨_, _, HR.out, rfl, HBU.out⟩⟩
      | exact bodyPost_ret (v := iv z) (by simp [results, Tryz.results153, go_sem]) rfl (.inr ⟨_, _, _, HR.out, rfl, H.out⟩)
  replace HR := hidb (HR.out.trans (Gm.ite_f (by simp [h1, h2, h3, h4, h5])))
  by_cases h6 : tk = 6
  · subst h6
    replace HR := hidb (HR.out.trans (Gm.ite_t (by simp)))
    go_enter Tryz.func153, Tryz.ntmps153
    go_wp2_with (first
      | (go_at_call 46; refine (sHere H.out.at).mono ?_; rintro r1 w1 ⟨t, hq, rfl, hs, hb⟩; obtain rfl : t = ⟨6, tx, tn, tf, tp⟩ := hq.symm.trans TK.out; have H := hidb (H.out.below hb); clear hs hb hq)
      | (go_at_call 158; refine (pBracketed HE.out H.out.at (hk_of TK.out (by simp))).mono ?_; rintro r1 w1 (⟨er, q, hq, rfl, hbu⟩ | ⟨z, s1, V1, hq, rfl, hs⟩) <;> first | (have HL := hidb hs; have H := hidb (H.out.trans hs); (first | (with_reducible have HR := hidb (HR.out.trans hq)) | have HR := hidb (HR.out.trans (Gm.bind_ok hq)));  clear hs hq) | ((first | (with_reducible have HR := hidb (HR.out.trans hq)) | have HR := hidb (HR.out.trans (Gm.bind_err hq))); have HBU := hidb (but_then H.out.but H.out.own hbu); clear hq hbu)))
    all_goals first
      | exact ⟨rfl, .inl ⟨_, _, HR.out, rfl, HBU.out⟩⟩
      | exact bodyPost_ret (v := iv z) (by simp [results, Tryz.results153, go_sem]) rfl (.inr ⟨_, _, _, HR.out, rfl, H.out⟩)
  replace HR := hidb (HR.out.trans (Gm.ite_f h6))
  by_cases h7 : tk = 7
  · subst h7
    replace HR := hidb (HR.out.trans (Gm.ite_t (by simp)))
    go_enter Tryz.func153, Tryz.ntmps153
    go_wp2_with (first
      | (go_at_call 46; refine (sHere H.out.at).mono ?_; rintro r1 w1 ⟨t, hq, rfl, hs, hb⟩; obtain rfl : t = ⟨7, tx, tn, tf, tp⟩ := hq.symm.trans TK.out; have H := hidb (H.out.below hb); clear hs hb hq)
      | (go_at_call 159; refine (pWorded HE.out H.out.at (hk_of TK.out (by simp))).mono ?_; rintro r1 w1 (⟨er, q, hq, rfl, hbu⟩ | ⟨z, s1, V1, hq, rfl, hs⟩) <;> first | (have HL := hidb hs; have H := hidb (H.out.trans hs); (first | (with_reducible have HR := hidb (HR.out.trans hq)) | have HR := hidb (HR.out.trans (Gm.bind_ok hq)));  clear hs hq) | ((first | (with_reducible have HR := hidb (HR.out.trans hq)) | have HR := hidb (HR.out.trans (Gm.bind_err hq))); have HBU := hidb (but_then H.out.but H.out.own hbu); clear hq hbu)))
    all_goals first
      | exact ⟨rfl, .inl ⟨_, _, HR.out, rfl, HBU.out⟩⟩
      | exact bodyPost_ret (v := iv z) (by simp [results, Tryz.results153, go_sem]) rfl (.inr ⟨_, _, _, HR.out, rfl, H.out⟩)
  replace HR := hidb (HR.out.trans (Gm.ite_f h7))
  go_enter Tryz.func153, Tryz.ntmps153
  go_wp2_with (first
    | (go_at_call 46; refine (sHere H.out.at).mono ?_; rintro r1 w1 ⟨t, hq, rfl, hs, hb⟩; obtain rfl : t = ⟨tk, tx, tn, tf, tp⟩ := hq.symm.trans TK.out; have H := hidb (H.out.below hb); clear hs hb hq)
    | (go_at_call 49; refine (sGiveUp (α := Nat) 24 H.out.at).mono ?_; rintro r1 w1 ⟨q, hq, rfl, hbu⟩; have HBU := hidb (but_then H.out.but H.out.own hbu); have HR := hidb (HR.out.trans hq); clear hq hbu))
  all_goals first
    | exact ⟨rfl, .inl ⟨_, _, HR.out, rfl, HBU.out⟩⟩
    | exact bodyPost_ret (v := iv z) (by simp [results, Tryz.results153, go_sem]) rfl (.inr ⟨_, _, _, HR.out, rfl, H.out⟩)

end Go.Proofs.YtppmcimcmcognaaGreatDoor


