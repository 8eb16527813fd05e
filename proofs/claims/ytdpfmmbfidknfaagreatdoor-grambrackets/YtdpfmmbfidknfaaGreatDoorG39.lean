import Derived.Test.YtdpfmmbfidknfaaGreatDoorG38
import Derived.Laws.AppendOwnNone
/- worded, bracketed, primary. -/
namespace Go.Proofs.YtdpfmmbfidknfaaGreatDoor
open Go.RowKit Go.Lib
attribute [local go_sem] store_float f64bits
attribute [local go_sem ↓] Go.wp_at_zero Go.wp_at_succ
attribute [local go_sem] nd_p tk_k tk_x tk_n tk_f tk_p
variable {B g b o : Nat} {e : PM Nat}

set_option maxHeartbeats 2000000 in
set_option maxRecDepth 100000 in
theorem pWorded (hE : EC B g b o e) {P : Nat → Prop} {w : World} {V : Value} {s : PS} (h : At B g b o P w V s) (hk : (Gm.hd s).k ≠ 8) :
    Calls Tryz.prog 102 #[.pointer (some ⟨g, 0, none⟩)] w fun r w' => Rz B g b o P w V (Gm.worded e s) iv r w' := by
  have H : Hid (St B g b o P w V w V s) := hidb h
  obtain ⟨R, hR⟩ : ∃ R, Gm.worded e s = R := ⟨_, rfl⟩
  rw [hR]
  have HR := hidb hR.symm
  clear hR
  have HK := hidb hk
  clear hk
  have HE := hidb hE
  clear h hE
  obtain ⟨t0, ht⟩ : ∃ t, Gm.hd s = t := ⟨_, rfl⟩
  have q0 := strs t0.x [98, 101, 103, 105, 110]
  have q1 := strs t0.x [99, 97, 115, 101]
  have q2 := strs t0.x [102, 117, 110]
  have q3 := strs t0.x [116, 114, 121]
  have q4 := strs t0.x [114, 101, 99, 101, 105, 118, 101]
  have HR := hidb (HR.out.trans (Gm.bind_here ht))
  have T0 := hidb ht
  clear ht
  obtain ⟨b0, hb0⟩ : ∃ c, decide (t0.x = ⟨[98, 101, 103, 105, 110].toArray⟩) = c := ⟨_, rfl⟩
  rw [hb0] at q0
  have HB0 := hidb hb0
  clear hb0
  obtain ⟨b1, hb1⟩ : ∃ c, decide (t0.x = ⟨[99, 97, 115, 101].toArray⟩) = c := ⟨_, rfl⟩
  rw [hb1] at q1
  have HB1 := hidb hb1
  clear hb1
  obtain ⟨b2, hb2⟩ : ∃ c, decide (t0.x = ⟨[102, 117, 110].toArray⟩) = c := ⟨_, rfl⟩
  rw [hb2] at q2
  have HB2 := hidb hb2
  clear hb2
  obtain ⟨b3, hb3⟩ : ∃ c, decide (t0.x = ⟨[116, 114, 121].toArray⟩) = c := ⟨_, rfl⟩
  rw [hb3] at q3
  have HB3 := hidb hb3
  clear hb3
  obtain ⟨b4, hb4⟩ : ∃ c, decide (t0.x = ⟨[114, 101, 99, 101, 105, 118, 101].toArray⟩) = c := ⟨_, rfl⟩
  rw [hb4] at q4
  have HB4 := hidb hb4
  clear hb4
  cases b0 with
  | true =>
    have HR := hidb (HR.out.trans (Gm.ite_t (of_decide_eq_true HB0.out)))
    go_enter Tryz.func102, Tryz.ntmps102
    go_wp2_with (first
      | (go_at_call 32; refine (sHere H.out.at).mono ?_; rintro r1 w1 ⟨t, hq, rfl, hs, hb⟩; obtain rfl : t0 = t := T0.out.symm.trans hq; have H := hidb (H.out.below hb); clear hs hb hq)
      | (go_at_call 106; refine (pBegin HE.out H.out.at HK.out).mono ?_; rintro r1 w1 (⟨er, q, hq, rfl, hbu⟩ | ⟨z, s1, V1, hq, rfl, hs⟩) <;> first | (have HL := hidb hs; have H := hidb (H.out.trans hs); (first | (with_reducible have HR := hidb (HR.out.trans hq)) | have HR := hidb (HR.out.trans (Gm.bind_ok hq)));  clear hs hq) | ((first | (with_reducible have HR := hidb (HR.out.trans hq)) | have HR := hidb (HR.out.trans (Gm.bind_err hq))); have HBU := hidb (but_then H.out.but H.out.own hbu); clear hq hbu)))
    all_goals first
      | exact ⟨rfl, .inl ⟨_, _, HR.out, rfl, HBU.out⟩⟩
      | exact bodyPost_ret (v := iv z) (by simp [results, Tryz.results102, go_sem]) rfl (.inr ⟨_, _, _, HR.out, rfl, H.out⟩)
  | false =>
    have HR := hidb (HR.out.trans (Gm.ite_f (of_decide_eq_false HB0.out)))
    cases b1 with
    | true =>
      have HR := hidb (HR.out.trans (Gm.ite_t (of_decide_eq_true HB1.out)))
      go_enter Tryz.func102, Tryz.ntmps102
      go_wp2_with (first
        | (go_at_call 32; refine (sHere H.out.at).mono ?_; rintro r1 w1 ⟨t, hq, rfl, hs, hb⟩; obtain rfl : t0 = t := T0.out.symm.trans hq; have H := hidb (H.out.below hb); clear hs hb hq)
        | (go_at_call 107; refine (pChoice HE.out H.out.at HK.out).mono ?_; rintro r1 w1 (⟨er, q, hq, rfl, hbu⟩ | ⟨z, s1, V1, hq, rfl, hs⟩) <;> first | (have HL := hidb hs; have H := hidb (H.out.trans hs); (first | (with_reducible have HR := hidb (HR.out.trans hq)) | have HR := hidb (HR.out.trans (Gm.bind_ok hq)));  clear hs hq) | ((first | (with_reducible have HR := hidb (HR.out.trans hq)) | have HR := hidb (HR.out.trans (Gm.bind_err hq))); have HBU := hidb (but_then H.out.but H.out.own hbu); clear hq hbu)))
      all_goals first
        | exact ⟨rfl, .inl ⟨_, _, HR.out, rfl, HBU.out⟩⟩
        | exact bodyPost_ret (v := iv z) (by simp [results, Tryz.results102, go_sem]) rfl (.inr ⟨_, _, _, HR.out, rfl, H.out⟩)
    | false =>
      have HR := hidb (HR.out.trans (Gm.ite_f (of_decide_eq_false HB1.out)))
      cases b2 with
      | true =>
        have HR := hidb (HR.out.trans (Gm.ite_t (of_decide_eq_true HB2.out)))
        go_enter Tryz.func102, Tryz.ntmps102
        go_wp2_with (first
          | (go_at_call 32; refine (sHere H.out.at).mono ?_; rintro r1 w1 ⟨t, hq, rfl, hs, hb⟩; obtain rfl : t0 = t := T0.out.symm.trans hq; have H := hidb (H.out.below hb); clear hs hb hq)
          | (go_at_call 108; refine (pFun HE.out H.out.at HK.out).mono ?_; rintro r1 w1 (⟨er, q, hq, rfl, hbu⟩ | ⟨z, s1, V1, hq, rfl, hs⟩) <;> first | (have HL := hidb hs; have H := hidb (H.out.trans hs); (first | (with_reducible have HR := hidb (HR.out.trans hq)) | have HR := hidb (HR.out.trans (Gm.bind_ok hq)));  clear hs hq) | ((first | (with_reducible have HR := hidb (HR.out.trans hq)) | have HR := hidb (HR.out.trans (Gm.bind_err hq))); have HBU := hidb (but_then H.out.but H.out.own hbu); clear hq hbu)))
        all_goals first
          | exact ⟨rfl, .inl ⟨_, _, HR.out, rfl, HBU.out⟩⟩
          | exact bodyPost_ret (v := iv z) (by simp [results, Tryz.results102, go_sem]) rfl (.inr ⟨_, _, _, HR.out, rfl, H.out⟩)
      | false =>
        have HR := hidb (HR.out.trans (Gm.ite_f (of_decide_eq_false HB2.out)))
        cases b3 with
        | true =>
          have HR := hidb (HR.out.trans (Gm.ite_t (of_decide_eq_true HB3.out)))
          go_enter Tryz.func102, Tryz.ntmps102
          go_wp2_with (first
            | (go_at_call 32; refine (sHere H.out.at).mono ?_; rintro r1 w1 ⟨t, hq, rfl, hs, hb⟩; obtain rfl : t0 = t := T0.out.symm.trans hq; have H := hidb (H.out.below hb); clear hs hb hq)
            | (go_at_call 109; refine (pTry HE.out H.out.at HK.out).mono ?_; rintro r1 w1 (⟨er, q, hq, rfl, hbu⟩ | ⟨z, s1, V1, hq, rfl, hs⟩) <;> first | (have HL := hidb hs; have H := hidb (H.out.trans hs); (first | (with_reducible have HR := hidb (HR.out.trans hq)) | have HR := hidb (HR.out.trans (Gm.bind_ok hq)));  clear hs hq) | ((first | (with_reducible have HR := hidb (HR.out.trans hq)) | have HR := hidb (HR.out.trans (Gm.bind_err hq))); have HBU := hidb (but_then H.out.but H.out.own hbu); clear hq hbu)))
          all_goals first
            | exact ⟨rfl, .inl ⟨_, _, HR.out, rfl, HBU.out⟩⟩
            | exact bodyPost_ret (v := iv z) (by simp [results, Tryz.results102, go_sem]) rfl (.inr ⟨_, _, _, HR.out, rfl, H.out⟩)
        | false =>
          have HR := hidb (HR.out.trans (Gm.ite_f (of_decide_eq_false HB3.out)))
          cases b4 with
          | true =>
            have HR := hidb (HR.out.trans (Gm.ite_t (of_decide_eq_true HB4.out)))
            go_enter Tryz.func102, Tryz.ntmps102
            go_wp2_with (first
              | (go_at_call 32; refine (sHere H.out.at).mono ?_; rintro r1 w1 ⟨t, hq, rfl, hs, hb⟩; obtain rfl : t0 = t := T0.out.symm.trans hq; have H := hidb (H.out.below hb); clear hs hb hq)
              | (go_at_call 110; refine (pReceive HE.out H.out.at HK.out).mono ?_; rintro r1 w1 (⟨er, q, hq, rfl, hbu⟩ | ⟨z, s1, V1, hq, rfl, hs⟩) <;> first | (have HL := hidb hs; have H := hidb (H.out.trans hs); (first | (with_reducible have HR := hidb (HR.out.trans hq)) | have HR := hidb (HR.out.trans (Gm.bind_ok hq)));  clear hs hq) | ((first | (with_reducible have HR := hidb (HR.out.trans hq)) | have HR := hidb (HR.out.trans (Gm.bind_err hq))); have HBU := hidb (but_then H.out.but H.out.own hbu); clear hq hbu)))
            all_goals first
              | exact ⟨rfl, .inl ⟨_, _, HR.out, rfl, HBU.out⟩⟩
              | exact bodyPost_ret (v := iv z) (by simp [results, Tryz.results102, go_sem]) rfl (.inr ⟨_, _, _, HR.out, rfl, H.out⟩)
          | false =>
            have HR := hidb (HR.out.trans (Gm.ite_f (of_decide_eq_false HB4.out)))
            go_enter Tryz.func102, Tryz.ntmps102
            go_wp2_with (first
              | (go_at_call 32; refine (sHere H.out.at).mono ?_; rintro r1 w1 ⟨t, hq, rfl, hs, hb⟩; obtain rfl : t0 = t := T0.out.symm.trans hq; have H := hidb (H.out.below hb); clear hs hb hq)
              | (go_at_call 35; refine (sGiveUp (α := Nat) 24 H.out.at).mono ?_; rintro r1 w1 ⟨q, hq, rfl, hbu⟩; have HBU := hidb (but_then H.out.but H.out.own hbu); have HR := hidb (HR.out.trans hq); clear hq hbu))
            all_goals first
              | exact ⟨rfl, .inl ⟨_, _, HR.out, rfl, HBU.out⟩⟩
              | exact bodyPost_ret (v := iv z) (by simp [results, Tryz.results102, go_sem]) rfl (.inr ⟨_, _, _, HR.out, rfl, H.out⟩)

set_option maxHeartbeats 2000000 in
set_option maxRecDepth 100000 in
theorem pBracketed (hE : EC B g b o e) {P : Nat → Prop} {w : World} {V : Value} {s : PS} (h : At B g b o P w V s) (hk : (Gm.hd s).k ≠ 8) :
    Calls Tryz.prog 101 #[.pointer (some ⟨g, 0, none⟩)] w fun r w' => Rz B g b o P w V (Gm.bracketed e s) iv r w' := by
  have H : Hid (St B g b o P w V w V s) := hidb h
  obtain ⟨R, hR⟩ : ∃ R, Gm.bracketed e s = R := ⟨_, rfl⟩
  rw [hR]
  have HR := hidb hR.symm
  clear hR
  have HK := hidb hk
  clear hk
  have HE := hidb hE
  clear h hE
  obtain ⟨t0, ht⟩ : ∃ t, Gm.hd s = t := ⟨_, rfl⟩
  have q0 := strs t0.x [40]
  have q1 := strs t0.x [123]
  have q2 := strs t0.x [91]
  have HR := hidb (HR.out.trans (Gm.bind_here ht))
  have T0 := hidb ht
  clear ht
  obtain ⟨b0, hb0⟩ : ∃ c, decide (t0.x = ⟨[40].toArray⟩) = c := ⟨_, rfl⟩
  rw [hb0] at q0
  have HB0 := hidb hb0
  clear hb0
  obtain ⟨b1, hb1⟩ : ∃ c, decide (t0.x = ⟨[123].toArray⟩) = c := ⟨_, rfl⟩
  rw [hb1] at q1
  have HB1 := hidb hb1
  clear hb1
  obtain ⟨b2, hb2⟩ : ∃ c, decide (t0.x = ⟨[91].toArray⟩) = c := ⟨_, rfl⟩
  rw [hb2] at q2
  have HB2 := hidb hb2
  clear hb2
  cases b0 with
  | true =>
    have HR := hidb (HR.out.trans (Gm.ite_t (of_decide_eq_true HB0.out)))
    go_enter Tryz.func101, Tryz.ntmps101
    go_wp2_with (first
      | (go_at_call 32; refine (sHere H.out.at).mono ?_; rintro r1 w1 ⟨t, hq, rfl, hs, hb⟩; obtain rfl : t0 = t := T0.out.symm.trans hq; have H := hidb (H.out.below hb); clear hs hb hq)
      | (go_at_call 36; refine (sNext H.out.at HK.out).mono ?_; rintro r1 w1 ⟨t1, s1, hq, rfl, hs⟩; have H := hidb (H.out.trans hs); have HR := hidb (HR.out.trans (Gm.bind_next hq)); have Tt1 := hidb hq.1; clear hs hq)
      | (go_at_call 84; refine (HE.out.run H.out.at).mono ?_; rintro r1 w1 (⟨er, q, hq, rfl, hbu⟩ | ⟨x, s1, V1, hq, rfl, hs⟩) <;> first | (have HL := hidb hs; have H := hidb (H.out.trans hs); (first | (with_reducible have HR := hidb (HR.out.trans hq)) | have HR := hidb (HR.out.trans (Gm.bind_ok hq)));  clear hs hq) | ((first | (with_reducible have HR := hidb (HR.out.trans hq)) | have HR := hidb (HR.out.trans (Gm.bind_err hq))); have HBU := hidb (but_then H.out.but H.out.own hbu); clear hq hbu))
      | (go_at_call 33; refine (sNeed _ H.out.at).mono ?_; rintro r1 w1 (⟨er, q, hq, rfl, hbu⟩ | ⟨s1, hq, rfl, hs⟩) <;> first | (have HL := hidb hs; have H := hidb (H.out.trans hs); (first | (with_reducible have HR := hidb (HR.out.trans hq)) | have HR := hidb (HR.out.trans (Gm.bind_ok hq)));  clear hs hq) | ((first | (with_reducible have HR := hidb (HR.out.trans hq)) | have HR := hidb (HR.out.trans (Gm.bind_err hq))); have HBU := hidb (but_then H.out.but H.out.own hbu); clear hq hbu)))
    all_goals first
      | exact ⟨rfl, .inl ⟨_, _, HR.out, rfl, HBU.out⟩⟩
      | exact bodyPost_ret (v := iv x) (by simp [results, Tryz.results101, go_sem]) rfl (.inr ⟨_, _, _, HR.out, rfl, H.out⟩)
  | false =>
    have HR := hidb (HR.out.trans (Gm.ite_f (of_decide_eq_false HB0.out)))
    cases b1 with
    | true =>
      have HR := hidb (HR.out.trans (Gm.ite_t (of_decide_eq_true HB1.out)))
      go_enter Tryz.func101, Tryz.ntmps101
      go_wp2_with (first
        | (go_at_call 32; refine (sHere H.out.at).mono ?_; rintro r1 w1 ⟨t, hq, rfl, hs, hb⟩; obtain rfl : t0 = t := T0.out.symm.trans hq; have H := hidb (H.out.below hb); clear hs hb hq)
        | (go_at_call 104; refine (pTuple HE.out H.out.at HK.out).mono ?_; rintro r1 w1 (⟨er, q, hq, rfl, hbu⟩ | ⟨z, s1, V1, hq, rfl, hs⟩) <;> first | (have HL := hidb hs; have H := hidb (H.out.trans hs); (first | (with_reducible have HR := hidb (HR.out.trans hq)) | have HR := hidb (HR.out.trans (Gm.bind_ok hq)));  clear hs hq) | ((first | (with_reducible have HR := hidb (HR.out.trans hq)) | have HR := hidb (HR.out.trans (Gm.bind_err hq))); have HBU := hidb (but_then H.out.but H.out.own hbu); clear hq hbu)))
      all_goals first
        | exact ⟨rfl, .inl ⟨_, _, HR.out, rfl, HBU.out⟩⟩
        | exact bodyPost_ret (v := iv z) (by simp [results, Tryz.results101, go_sem]) rfl (.inr ⟨_, _, _, HR.out, rfl, H.out⟩)
    | false =>
      have HR := hidb (HR.out.trans (Gm.ite_f (of_decide_eq_false HB1.out)))
      cases b2 with
      | true =>
        have HR := hidb (HR.out.trans (Gm.ite_t (of_decide_eq_true HB2.out)))
        go_enter Tryz.func101, Tryz.ntmps101
        go_wp2_with (first
          | (go_at_call 32; refine (sHere H.out.at).mono ?_; rintro r1 w1 ⟨t, hq, rfl, hs, hb⟩; obtain rfl : t0 = t := T0.out.symm.trans hq; have H := hidb (H.out.below hb); clear hs hb hq)
          | (go_at_call 105; refine (pList HE.out H.out.at HK.out).mono ?_; rintro r1 w1 (⟨er, q, hq, rfl, hbu⟩ | ⟨z, s1, V1, hq, rfl, hs⟩) <;> first | (have HL := hidb hs; have H := hidb (H.out.trans hs); (first | (with_reducible have HR := hidb (HR.out.trans hq)) | have HR := hidb (HR.out.trans (Gm.bind_ok hq)));  clear hs hq) | ((first | (with_reducible have HR := hidb (HR.out.trans hq)) | have HR := hidb (HR.out.trans (Gm.bind_err hq))); have HBU := hidb (but_then H.out.but H.out.own hbu); clear hq hbu)))
        all_goals first
          | exact ⟨rfl, .inl ⟨_, _, HR.out, rfl, HBU.out⟩⟩
          | exact bodyPost_ret (v := iv z) (by simp [results, Tryz.results101, go_sem]) rfl (.inr ⟨_, _, _, HR.out, rfl, H.out⟩)
      | false =>
        have HR := hidb (HR.out.trans (Gm.ite_f (of_decide_eq_false HB2.out)))
        go_enter Tryz.func101, Tryz.ntmps101
        go_wp2_with (first
          | (go_at_call 32; refine (sHere H.out.at).mono ?_; rintro r1 w1 ⟨t, hq, rfl, hs, hb⟩; obtain rfl : t0 = t := T0.out.symm.trans hq; have H := hidb (H.out.below hb); clear hs hb hq)
          | (go_at_call 35; refine (sGiveUp (α := Nat) 24 H.out.at).mono ?_; rintro r1 w1 ⟨q, hq, rfl, hbu⟩; have HBU := hidb (but_then H.out.but H.out.own hbu); have HR := hidb (HR.out.trans hq); clear hq hbu))
        all_goals first
          | exact ⟨rfl, .inl ⟨_, _, HR.out, rfl, HBU.out⟩⟩
          | exact bodyPost_ret (v := iv z) (by simp [results, Tryz.results101, go_sem]) rfl (.inr ⟨_, _, _, HR.out, rfl, H.out⟩)

set_option maxHeartbeats 2000000 in
set_option maxRecDepth 100000 in
theorem pPrimary (hE : EC B g b o e) {P : Nat → Prop} {w : World} {V : Value} {s : PS} (h : At B g b o P w V s) :
    Calls Tryz.prog 99 #[.pointer (some ⟨g, 0, none⟩)] w fun r w' => Rz B g b o P w V (Gm.primary e s) iv r w' := by
  have H : Hid (St B g b o P w V w V s) := hidb h
  obtain ⟨R, hR⟩ : ∃ R, Gm.primary e s = R := ⟨_, rfl⟩
  rw [hR]
  have HR := hidb hR.symm
  clear hR
  have HE := hidb hE
  clear h hE
  obtain ⟨t0, ht⟩ : ∃ t, Gm.hd s = t := ⟨_, rfl⟩
  obtain ⟨tk, tx, tn, tf, tp⟩ := t0
  replace HR := hidb (HR.out.trans (Gm.bind_here ht))
  have TK := hidb ht
  clear ht
  by_cases h1 : tk = 1
  · subst h1
    replace HR := hidb (HR.out.trans (Gm.ite_t (by simp)))
    go_enter Tryz.func99, Tryz.ntmps99
    go_wp2_with (first
      | (go_at_call 32; refine (sHere H.out.at).mono ?_; rintro r1 w1 ⟨t, hq, rfl, hs, hb⟩; obtain rfl : t = ⟨1, tx, tn, tf, tp⟩ := hq.symm.trans TK.out; have H := hidb (H.out.below hb); clear hs hb hq)
      | (go_at_call 100; refine (pLeaf H.out.at (hk_of TK.out (by simp))).mono ?_; rintro r1 w1 (⟨er, q, hq, rfl, hbu⟩ | ⟨z, s1, V1, hq, rfl, hs⟩) <;> first | (have HL := hidb hs; have H := hidb (H.out.trans hs); (first | (with_reducible have HR := hidb (HR.out.trans hq)) | have HR := hidb (HR.out.trans (Gm.bind_ok hq)));  clear hs hq) | ((first | (with_reducible have HR := hidb (HR.out.trans hq)) | have HR := hidb (HR.out.trans (Gm.bind_err hq))); have HBU := hidb (but_then H.out.but H.out.own hbu); clear hq hbu)))
    all_goals first
      | exact ⟨rfl, .inl ⟨_, _, HR.out, rfl, HBU.out⟩⟩
      | exact bodyPost_ret (v := iv z) (by simp [results, Tryz.results99, go_sem]) rfl (.inr ⟨_, _, _, HR.out, rfl, H.out⟩)
  by_cases h2 : tk = 2
  · subst h2
    replace HR := hidb (HR.out.trans (Gm.ite_t (by simp)))
    go_enter Tryz.func99, Tryz.ntmps99
    go_wp2_with (first
      | (go_at_call 32; refine (sHere H.out.at).mono ?_; rintro r1 w1 ⟨t, hq, rfl, hs, hb⟩; obtain rfl : t = ⟨2, tx, tn, tf, tp⟩ := hq.symm.trans TK.out; have H := hidb (H.out.below hb); clear hs hb hq)
      | (go_at_call 100; refine (pLeaf H.out.at (hk_of TK.out (by simp))).mono ?_; rintro r1 w1 (⟨er, q, hq, rfl, hbu⟩ | ⟨z, s1, V1, hq, rfl, hs⟩) <;> first | (have HL := hidb hs; have H := hidb (H.out.trans hs); (first | (with_reducible have HR := hidb (HR.out.trans hq)) | have HR := hidb (HR.out.trans (Gm.bind_ok hq)));  clear hs hq) | ((first | (with_reducible have HR := hidb (HR.out.trans hq)) | have HR := hidb (HR.out.trans (Gm.bind_err hq))); have HBU := hidb (but_then H.out.but H.out.own hbu); clear hq hbu)))
    all_goals first
      | exact ⟨rfl, .inl ⟨_, _, HR.out, rfl, HBU.out⟩⟩
      | exact bodyPost_ret (v := iv z) (by simp [results, Tryz.results99, go_sem]) rfl (.inr ⟨_, _, _, HR.out, rfl, H.out⟩)
  by_cases h3 : tk = 3
  · subst h3
    replace HR := hidb (HR.out.trans (Gm.ite_t (by simp)))
    go_enter Tryz.func99, Tryz.ntmps99
    go_wp2_with (first
      | (go_at_call 32; refine (sHere H.out.at).mono ?_; rintro r1 w1 ⟨t, hq, rfl, hs, hb⟩; obtain rfl : t = ⟨3, tx, tn, tf, tp⟩ := hq.symm.trans TK.out; have H := hidb (H.out.below hb); clear hs hb hq)
      | (go_at_call 100; refine (pLeaf H.out.at (hk_of TK.out (by simp))).mono ?_; rintro r1 w1 (⟨er, q, hq, rfl, hbu⟩ | ⟨z, s1, V1, hq, rfl, hs⟩) <;> first | (have HL := hidb hs; have H := hidb (H.out.trans hs); (first | (with_reducible have HR := hidb (HR.out.trans hq)) | have HR := hidb (HR.out.trans (Gm.bind_ok hq)));  clear hs hq) | ((first | (with_reducible have HR := hidb (HR.out.trans hq)) | have HR := hidb (HR.out.trans (Gm.bind_err hq))); have HBU := hidb (but_then H.out.but H.out.own hbu); clear hq hbu)))
    all_goals first
      | exact ⟨rfl, .inl ⟨_, _, HR.out, rfl, HBU.out⟩⟩
      | exact bodyPost_ret (v := iv z) (by simp [results, Tryz.results99, go_sem]) rfl (.inr ⟨_, _, _, HR.out, rfl, H.out⟩)
  by_cases h4 : tk = 4
  · subst h4
    replace HR := hidb (HR.out.trans (Gm.ite_t (by simp)))
    go_enter Tryz.func99, Tryz.ntmps99
    go_wp2_with (first
      | (go_at_call 32; refine (sHere H.out.at).mono ?_; rintro r1 w1 ⟨t, hq, rfl, hs, hb⟩; obtain rfl : t = ⟨4, tx, tn, tf, tp⟩ := hq.symm.trans TK.out; have H := hidb (H.out.below hb); clear hs hb hq)
      | (go_at_call 100; refine (pLeaf H.out.at (hk_of TK.out (by simp))).mono ?_; rintro r1 w1 (⟨er, q, hq, rfl, hbu⟩ | ⟨z, s1, V1, hq, rfl, hs⟩) <;> first | (have HL := hidb hs; have H := hidb (H.out.trans hs); (first | (with_reducible have HR := hidb (HR.out.trans hq)) | have HR := hidb (HR.out.trans (Gm.bind_ok hq)));  clear hs hq) | ((first | (with_reducible have HR := hidb (HR.out.trans hq)) | have HR := hidb (HR.out.trans (Gm.bind_err hq))); have HBU := hidb (but_then H.out.but H.out.own hbu); clear hq hbu)))
    all_goals first
      | exact ⟨rfl, .inl ⟨_, _, HR.out, rfl, HBU.out⟩⟩
      | exact bodyPost_ret (v := iv z) (by simp [results, Tryz.results99, go_sem]) rfl (.inr ⟨_, _, _, HR.out, rfl, H.out⟩)
  by_cases h5 : tk = 5
  · subst h5
    replace HR := hidb (HR.out.trans (Gm.ite_t (by simp)))
    go_enter Tryz.func99, Tryz.ntmps99
    go_wp2_with (first
      | (go_at_call 32; refine (sHere H.out.at).mono ?_; rintro r1 w1 ⟨t, hq, rfl, hs, hb⟩; obtain rfl : t = ⟨5, tx, tn, tf, tp⟩ := hq.symm.trans TK.out; have H := hidb (H.out.below hb); clear hs hb hq)
      | (go_at_call 100; refine (pLeaf H.out.at (hk_of TK.out (by simp))).mono ?_; rintro r1 w1 (⟨er, q, hq, rfl, hbu⟩ | ⟨z, s1, V1, hq, rfl, hs⟩) <;> first | (have HL := hidb hs; have H := hidb (H.out.trans hs); (first | (with_reducible have HR := hidb (HR.out.trans hq)) | have HR := hidb (HR.out.trans (Gm.bind_ok hq)));  clear hs hq) | ((first | (with_reducible have HR := hidb (HR.out.trans hq)) | have HR := hidb (HR.out.trans (Gm.bind_err hq))); have HBU := hidb (but_then H.out.but H.out.own hbu); clear hq hbu)))
    all_goals first
      | exact ⟨rfl, .inl ⟨_, _, HR.out, rfl, HBU.out⟩⟩
      | exact bodyPost_ret (v := iv z) (by simp [results, Tryz.results99, go_sem]) rfl (.inr ⟨_, _, _, HR.out, rfl, H.out⟩)
  replace HR := hidb (HR.out.trans (Gm.ite_f (by simp [h1, h2, h3, h4, h5])))
  by_cases h6 : tk = 6
  · subst h6
    replace HR := hidb (HR.out.trans (Gm.ite_t (by simp)))
    go_enter Tryz.func99, Tryz.ntmps99
    go_wp2_with (first
      | (go_at_call 32; refine (sHere H.out.at).mono ?_; rintro r1 w1 ⟨t, hq, rfl, hs, hb⟩; obtain rfl : t = ⟨6, tx, tn, tf, tp⟩ := hq.symm.trans TK.out; have H := hidb (H.out.below hb); clear hs hb hq)
      | (go_at_call 101; refine (pBracketed HE.out H.out.at (hk_of TK.out (by simp))).mono ?_; rintro r1 w1 (⟨er, q, hq, rfl, hbu⟩ | ⟨z, s1, V1, hq, rfl, hs⟩) <;> first | (have HL := hidb hs; have H := hidb (H.out.trans hs); (first | (with_reducible have HR := hidb (HR.out.trans hq)) | have HR := hidb (HR.out.trans (Gm.bind_ok hq)));  clear hs hq) | ((first | (with_reducible have HR := hidb (HR.out.trans hq)) | have HR := hidb (HR.out.trans (Gm.bind_err hq))); have HBU := hidb (but_then H.out.but H.out.own hbu); clear hq hbu)))
    all_goals first
      | exact ⟨rfl, .inl ⟨_, _, HR.out, rfl, HBU.out⟩⟩
      | exact bodyPost_ret (v := iv z) (by simp [results, Tryz.results99, go_sem]) rfl (.inr ⟨_, _, _, HR.out, rfl, H.out⟩)
  replace HR := hidb (HR.out.trans (Gm.ite_f h6))
  by_cases h7 : tk = 7
  · subst h7
    replace HR := hidb (HR.out.trans (Gm.ite_t (by simp)))
    go_enter Tryz.func99, Tryz.ntmps99
    go_wp2_with (first
      | (go_at_call 32; refine (sHere H.out.at).mono ?_; rintro r1 w1 ⟨t, hq, rfl, hs, hb⟩; obtain rfl : t = ⟨7, tx, tn, tf, tp⟩ := hq.symm.trans TK.out; have H := hidb (H.out.below hb); clear hs hb hq)
      | (go_at_call 102; refine (pWorded HE.out H.out.at (hk_of TK.out (by simp))).mono ?_; rintro r1 w1 (⟨er, q, hq, rfl, hbu⟩ | ⟨z, s1, V1, hq, rfl, hs⟩) <;> first | (have HL := hidb hs; have H := hidb (H.out.trans hs); (first | (with_reducible have HR := hidb (HR.out.trans hq)) | have HR := hidb (HR.out.trans (Gm.bind_ok hq)));  clear hs hq) | ((first | (with_reducible have HR := hidb (HR.out.trans hq)) | have HR := hidb (HR.out.trans (Gm.bind_err hq))); have HBU := hidb (but_then H.out.but H.out.own hbu); clear hq hbu)))
    all_goals first
      | exact ⟨rfl, .inl ⟨_, _, HR.out, rfl, HBU.out⟩⟩
      | exact bodyPost_ret (v := iv z) (by simp [results, Tryz.results99, go_sem]) rfl (.inr ⟨_, _, _, HR.out, rfl, H.out⟩)
  replace HR := hidb (HR.out.trans (Gm.ite_f h7))
  go_enter Tryz.func99, Tryz.ntmps99
  go_wp2_with (first
    | (go_at_call 32; refine (sHere H.out.at).mono ?_; rintro r1 w1 ⟨t, hq, rfl, hs, hb⟩; obtain rfl : t = ⟨tk, tx, tn, tf, tp⟩ := hq.symm.trans TK.out; have H := hidb (H.out.below hb); clear hs hb hq)
    | (go_at_call 35; refine (sGiveUp (α := Nat) 24 H.out.at).mono ?_; rintro r1 w1 ⟨q, hq, rfl, hbu⟩; have HBU := hidb (but_then H.out.but H.out.own hbu); have HR := hidb (HR.out.trans hq); clear hq hbu))
  all_goals first
    | exact ⟨rfl, .inl ⟨_, _, HR.out, rfl, HBU.out⟩⟩
    | exact bodyPost_ret (v := iv z) (by simp [results, Tryz.results99, go_sem]) rfl (.inr ⟨_, _, _, HR.out, rfl, H.out⟩)

end Go.Proofs.YtdpfmmbfidknfaaGreatDoor


/- called, call. -/
namespace Go.Proofs.YtdpfmmbfidknfaaGreatDoor
open Go.RowKit Go.Lib
attribute [local go_sem] store_float f64bits
attribute [local go_sem ↓] Go.wp_at_zero Go.wp_at_succ
attribute [local go_sem] nd_p tk_k tk_x tk_n tk_f tk_p
variable {B g b o : Nat} {e : PM Nat}

theorem args_lt (he : Gm.All e) {s s' : PS} {l : List Nat} (hn : Ne s) (h : Gm.args e s = .ok (l, s')) : s'.ts.length < s.ts.length := by
  unfold Gm.args at h
  rw [Gm.bind_at] at h
  cases hm : Gm.need ⟨#[40]⟩ s with
  | error er => simp [hm] at h
  | ok q =>
    obtain ⟨u, s1⟩ := q
    simp only [hm] at h
    obtain ⟨h1, h2⟩ := Gm.all_need _ s hn u s1 hm
    have hc : s1 = Gm.cut s := by
      simp only [Gm.need] at hm
      split at hm
      · cases hm; rfl
      · cases hm
    obtain ⟨r, hr⟩ := Gm.ne_hd hn
    have hlt : s1.ts.length < s.ts.length := by subst hc; simp [Gm.cut, hr]
    have h3 := (Gm.all_bind (Gm.all_take _) (fun _ => Gm.all_ite (Gm.all_pure _) (Gm.all_bind (Gm.all_exprs he _) fun _ => Gm.all_bind (Gm.all_need _) fun _ => Gm.all_pure _)) s1 h2 l s' h).1.len
    omega

theorem called_t {s : PS} {t : Tk} (h : Gm.hd s = t) (hk : t.k = 1) (hm : Gm.isM (Gm.hd2 s) ⟨#[40]⟩ = true) : Gm.called e s = (Gm.next >>= fun _ => Gm.args e >>= fun l => Gm.lay ⟨11, t.x, 0, 0, l, t.p⟩) s := by
  subst h
  exact Gm.ite_t ⟨hk, hm⟩
theorem called_f {s : PS} {t : Tk} (h : Gm.hd s = t) (hk : ¬ (t.k = 1 ∧ Gm.isM (Gm.hd2 s) ⟨#[40]⟩ = true)) : Gm.called e s = Gm.primary e s := by
  subst h
  exact Gm.ite_f hk

set_option maxHeartbeats 2000000 in
set_option maxRecDepth 100000 in
theorem pCalled (hE : EC B g b o e) {P : Nat → Prop} {w : World} {V : Value} {s : PS} (h : At B g b o P w V s) :
    Calls Tryz.prog 97 #[.pointer (some ⟨g, 0, none⟩)] w fun r w' => Rz B g b o P w V (Gm.called e s) iv r w' := by
  have H : Hid (St B g b o P w V w V s) := hidb h
  obtain ⟨R, hR⟩ : ∃ R, Gm.called e s = R := ⟨_, rfl⟩
  rw [hR]
  have HR := hidb hR.symm
  clear hR
  have HP := hidb h.plt
  have HE := hidb hE
  clear h hE
  obtain ⟨t0, ht⟩ : ∃ t, Gm.hd s = t := ⟨_, rfl⟩
  obtain ⟨tk, tx, tn, tf, tp⟩ := t0
  have TK := hidb ht
  clear ht
  by_cases h1 : tk = 1
  · subst h1
    go_enter Tryz.func97, Tryz.ntmps97
    go_wp2_with (first
      | (go_at_call 32; refine (sHere H.out.at).mono ?_; rintro r1 w1 ⟨t, hq, rfl, hs, hb⟩; obtain rfl : t = ⟨1, tx, tn, tf, tp⟩ := hq.symm.trans TK.out; have H := hidb (H.out.below hb); clear hs hb hq)
      | (go_at_call 98; refine (sAhead _ H.out.at (hk_of TK.out (by simp))).mono ?_; rintro r1 w2 ⟨⟨hq, rfl⟩ | ⟨hq, rfl⟩, hb⟩ <;> first | (have HR := hidb (HR.out.trans (called_t TK.out rfl hq)); have H := hidb (H.out.below hb); clear hb hq) | (have HR := hidb (HR.out.trans (called_f TK.out (by simp [hq]))); have H := hidb (H.out.below hb); clear hb hq))
      | (go_at_call 99; refine (pPrimary HE.out H.out.at).mono ?_; rintro r1 w1 (⟨er, q, hq, rfl, hbu⟩ | ⟨z, s1, V1, hq, rfl, hs⟩) <;> first | (have HL := hidb hs; have H := hidb (H.out.trans hs); (first | (with_reducible have HR := hidb (HR.out.trans hq)) | have HR := hidb (HR.out.trans (Gm.bind_ok hq)));  clear hs hq) | ((first | (with_reducible have HR := hidb (HR.out.trans hq)) | have HR := hidb (HR.out.trans (Gm.bind_err hq))); have HBU := hidb (but_then H.out.but H.out.own hbu); clear hq hbu))
      | (go_at_call 36; refine (sNext H.out.at (hk_of TK.out (by simp))).mono ?_; rintro r1 wn ⟨t, s1, hq, rfl, hs⟩; obtain rfl : t = ⟨1, tx, tn, tf, tp⟩ := hq.1.symm.trans TK.out; have H := hidb (H.out.trans hs); have HR := hidb (HR.out.trans (Gm.bind_next hq)); have HG := hidb H.out.glt; have HF := hidb H.out.at.fresh; have BX := hidb (Box.new wn 59 (.int .i64 1) (.string tx) (.int .i64 tn) (.float .f64 tf) (.int .i64 (tp : Int))); have H := hidb (H.out.below (below_new wn (.cells #[.int .i64 1, .string tx, .int .i64 tn, .float .f64 tf, .int .i64 (tp : Int)] 59))); clear hs hq)
      | (go_at_call 71; refine (pArgs HE.out H.out.at).mono ?_; rintro r1 w1 (⟨er, q, hq, rfl, hbu⟩ | ⟨l, s1, V1, v, hq, rfl, hs, hs2, hi, hlen⟩) <;> first | (obtain ⟨d0, d1, d2, d3, d4, -⟩ := box_beside hs BX.out (by have := HG.out; omega) HF.out; obtain ⟨la, lc, rfl⟩ := hi.sl; have HI := hidb (hi.rebase H.out.but.size); have H := hidb (H.out.trans hs2); (first | (with_reducible have HR := hidb (HR.out.trans hq)) | have HR := hidb (HR.out.trans (Gm.bind_ok hq))); clear hs hs2 hi hq hlen) | ((first | (with_reducible have HR := hidb (HR.out.trans hq)) | have HR := hidb (HR.out.trans (Gm.bind_err hq))); have HBU := hidb (but_then H.out.but H.out.own hbu); clear hq hbu))
      | (go_at_call 39; refine (sLayR HR.out H.out.drop.at (HI.out.lr HP.out)).mono ?_; rintro r1 w1 (⟨er, q, hq, rfl, hbu⟩ | ⟨z, s1, V1, hq, rfl, hs⟩) <;> first | (have H := hidb (H.out.drop.trans hs); have HR := hidb hq; clear hs hq) | (have HR := hidb hq; have HBU := hidb (but_then H.out.but H.out.own hbu); clear hq hbu)))
    all_goals first
      | exact ⟨rfl, .inl ⟨_, _, HR.out, rfl, HBU.out⟩⟩
      | exact bodyPost_ret (v := iv z) (by simp [results, Tryz.results97, go_sem]) rfl (.inr ⟨_, _, _, HR.out, rfl, H.out⟩)
  have HR := hidb (HR.out.trans (called_f TK.out (by simp [h1])))
  go_enter Tryz.func97, Tryz.ntmps97
  go_wp2_with (first
    | (go_at_call 32; refine (sHere H.out.at).mono ?_; rintro r1 w1 ⟨t, hq, rfl, hs, hb⟩; obtain rfl : t = ⟨tk, tx, tn, tf, tp⟩ := hq.symm.trans TK.out; have H := hidb (H.out.below hb); clear hs hb hq)
    | (go_at_call 99; refine (pPrimary HE.out H.out.at).mono ?_; rintro r1 w1 (⟨er, q, hq, rfl, hbu⟩ | ⟨z, s1, V1, hq, rfl, hs⟩) <;> first | (have HL := hidb hs; have H := hidb (H.out.trans hs); (first | (with_reducible have HR := hidb (HR.out.trans hq)) | have HR := hidb (HR.out.trans (Gm.bind_ok hq)));  clear hs hq) | ((first | (with_reducible have HR := hidb (HR.out.trans hq)) | have HR := hidb (HR.out.trans (Gm.bind_err hq))); have HBU := hidb (but_then H.out.but H.out.own hbu); clear hq hbu)))
  all_goals first
    | exact ⟨rfl, .inl ⟨_, _, HR.out, rfl, HBU.out⟩⟩
    | exact bodyPost_ret (v := iv z) (by simp [results, Tryz.results97, go_sem]) rfl (.inr ⟨_, _, _, HR.out, rfl, H.out⟩)

set_option maxHeartbeats 2000000 in
set_option maxRecDepth 100000 in
theorem pCall (hE : EC B g b o e) {P : Nat → Prop} {w : World} {V : Value} {s : PS} (h : At B g b o P w V s) :
    Calls Tryz.prog 96 #[.pointer (some ⟨g, 0, none⟩)] w fun r w' => Rz B g b o P w V (Gm.call e s) iv r w' := by
  have H : Hid (St B g b o P w V w V s) := hidb h
  obtain ⟨R, hR⟩ : ∃ R, Gm.call e s = R := ⟨_, rfl⟩
  rw [hR]
  have HR := hidb hR.symm
  clear hR
  have HP := hidb h.plt
  have HE := hidb hE
  clear h hE
  go_enter Tryz.func96, Tryz.ntmps96
  go_wp2_with (first
    | (go_at_call 32; refine (sHere H.out.at).mono ?_; rintro r1 w1 ⟨t, hq, rfl, hs, hb⟩; have H := hidb (H.out.below hb); have HR := hidb (HR.out.trans (Gm.bind_here hq)); have Tt := hidb hq; clear hs hb hq)
    | (go_at_call 97; refine (pCalled HE.out H.out.at).mono ?_; rintro r1 w1 (⟨er, q, hq, rfl, hbu⟩ | ⟨x1, s1, V1, hq, rfl, hs⟩) <;> first | (have HL := hidb hs; have H := hidb (H.out.trans hs); (first | (with_reducible have HR := hidb (HR.out.trans hq)) | have HR := hidb (HR.out.trans (Gm.bind_ok hq)));  clear hs hq) | ((first | (with_reducible have HR := hidb (HR.out.trans hq)) | have HR := hidb (HR.out.trans (Gm.bind_err hq))); have HBU := hidb (but_then H.out.but H.out.own hbu); clear hq hbu)))
  · exact ⟨rfl, .inl ⟨_, _, HR.out, rfl, HBU.out⟩⟩
  have HR := hidb (HR.out.trans (Gm.bind_left rfl))
  go_loopg [4] s1.ts.length (fun gf s5 wx => ∃ (x : Nat) (sx : PS) (Vx : Value) (k : Nat), s5 = iv x ∧ St B g b o P w V wx Vx sx ∧ R = Gm.applied e t.p k x sx ∧ sx.ts.length ≤ k ∧ k ≤ gf)
  case atStart => exact ⟨x1, s1, V1, _, rfl, H.out, HR.out, Nat.le_refl _, Nat.le_refl _⟩
  case round =>
    obtain ⟨x, sx, Vx, k, hs5, hst, hmore, hk, hkg⟩ := hrel
    subst hs5
    have hpos : 0 < sx.ts.length := by obtain ⟨r, hr⟩ := Gm.ne_hd hst.ne; rw [hr]; simp
    obtain ⟨k', rfl⟩ : ∃ k', k = k' + 1 := ⟨k - 1, by omega⟩
    obtain ⟨g', rfl⟩ : ∃ g', gk = g' + 1 := ⟨gk - 1, by omega⟩
    have H := hidb hst
    have HR := hidb hmore
    clear hst hmore
    obtain ⟨i0, hi0, hz0, hz1, hz2⟩ := info_parts (P := Tryz.prog) (e := IT) (z := .int .i64 0) (size := 1) (bytes := 8) (by kernel_rfl)
    go_wp2_with (first
      | (go_at_call 69; refine (sIsU _ H.out.at).mono ?_; rintro r1 w1 ⟨u, hu, ⟨hq, rfl⟩ | ⟨hq, rfl⟩, hb⟩ <;> first | (have HR := hidb ((HR.out.trans (Gm.bind_here hu)).trans (Gm.ite_t hq)); have H := hidb (H.out.below hb); clear hb hq hu) | (have HR := hidb ((HR.out.trans (Gm.bind_here hu)).trans (Gm.ite_f (by simp [hq]))); have H := hidb (H.out.below hb); clear hb hq hu))
      | (go_at_call 71; refine (pArgs HE.out (IR.lit H.out #[iv x] [x] rfl (by simp)).2.at).mono ?_; rintro r1 w2 (⟨er, q, hq, rfl, hbu⟩ | ⟨l, s1, V1, v, hq, rfl, hs, hs2, hi, hlen⟩) <;> first | (have HF := hidb (args_lt HE.out.all H.out.ne hq); have HI := hidb ((IR.lit H.out #[iv x] [x] rfl (by simp)).1.step hs); have H := hidb ((IR.lit H.out #[iv x] [x] rfl (by simp)).2.trans hs); have HR := hidb (HR.out.trans (Gm.bind_ok hq)); have HN := hidb hlen; have HA := hidb hi.own; (rcases hi.own.2 with ⟨hv0, hn0⟩ | ⟨qa, ca, cur, hv0, -⟩) <;> first | (obtain rfl := List.length_eq_zero_iff.1 hn0; subst hv0; clear hs hs2 hi hq hlen hn0) | (subst hv0; clear hs hs2 hi hq hlen)) | (have HR := hidb (HR.out.trans (Gm.bind_err hq)); have HBU := hidb (but_then (IR.lit H.out #[iv x] [x] rfl (by simp)).2.but (IR.lit H.out #[iv x] [x] rfl (by simp)).2.own hbu); clear hq hbu))
      | (at_builtin; refine wpList_append_own_none rfl _ _ 32 rfl w.heap.size IT i0 1 Tryz.underlying32 hi0 _ _ _ rfl HI.out.own rfl ?_)
      | (at_builtin; refine wpList_append_own_at _ rfl _ _ 32 rfl w.heap.size IT i0 (.int .i64 0) 1 8 Tryz.underlying32 hi0 hz0 hz1 hz2 rfl (by decide) _ _ _ rfl HI.out.own ⟨qa, 0, none⟩ l.length ca (l.map iv) rfl ?e50 ?e51 ?e52 ?e53 ?e54 ?e55 ?_)
      | (go_at_call 39; refine (sLay ⟨12, ⟨#[]⟩, 0, 0, _, t.p⟩ _ H.out.drop.at (HI.out.lr HP.out)).mono ?_; rintro r1 w2 (⟨er, q, hq, rfl, hbu⟩ | ⟨z, s1, V1, hq, rfl, hs⟩) <;> first | (have HO := hidb (Gm.all_lay _ _ H.out.ne _ _ hq).1; have H := hidb (H.out.drop.trans hs); have HR := hidb (HR.out.trans (Gm.bind_ok hq)); clear hs hq) | (have HR := hidb (HR.out.trans (Gm.bind_err hq)); have HBU := hidb (but_then H.out.but H.out.own hbu); clear hq hbu)))
    case e50 => simp
    case e51 => intro j u hj; exact HA.out.cells rfl j u hj
    case e52 => intro u hu; simp at hu; obtain ⟨y, _, rfl⟩ := hu; rfl
    case e53 => have := HN.out; unfold maxLen; simp; omega
    case e54 => have := HN.out; simp; omega
    case e55 => exact H.out.but.size
    · exact ⟨rfl, .inl ⟨_, _, HR.out, rfl, HBU.out⟩⟩
    · exact ⟨rfl, .inl ⟨_, _, HR.out, rfl, HBU.out⟩⟩
    · go_roundg g'
      case measure => omega
      case rel => exact ⟨z, _, _, k', rfl, H.out, HR.out, by have h1 := HF.out; have h3 := HO.out.len; omega, by omega⟩
    · intro v' w3 hown hgrow hnil hat
      obtain ⟨j1, j2⟩ := IR.grown (l' := x :: l) H.out HI.out (Below.refl _ _) hgrow (fun k hk => by rcases hat with h | h <;> rw [h] at hk; (exact .inl hk); (cases hk; exact .inr (Nat.le_refl _))) (by rw [List.length_cons, Nat.add_comm]; exact hown)
      obtain ⟨a', c', hv'⟩ := j1.sl
      subst hv'
      have HI := hidb j1
      have H := hidb j2
      clear j1 j2 hown hgrow hnil hat
      go_wp2_with (go_at_call 39; refine (sLay ⟨12, ⟨#[]⟩, 0, 0, _, t.p⟩ _ H.out.drop.at (HI.out.lr HP.out)).mono ?_; rintro r1 w2 (⟨er, q, hq, rfl, hbu⟩ | ⟨z, s1, V1, hq, rfl, hs⟩) <;> first | (have HO := hidb (Gm.all_lay _ _ H.out.ne _ _ hq).1; have H := hidb (H.out.drop.trans hs); have HR := hidb (HR.out.trans (Gm.bind_ok hq)); clear hs hq) | (have HR := hidb (HR.out.trans (Gm.bind_err hq)); have HBU := hidb (but_then H.out.but H.out.own hbu); clear hq hbu))
      · exact ⟨rfl, .inl ⟨_, _, HR.out, rfl, HBU.out⟩⟩
      · go_roundg g'
        case measure => omega
        case rel => exact ⟨z, _, _, k', rfl, H.out, HR.out, by have h1 := HF.out; have h3 := HO.out.len; omega, by omega⟩
    · exact bodyPost_ret (v := iv x) (by simp [results, Tryz.results96, go_sem]) rfl (.inr ⟨_, _, _, HR.out, rfl, H.out⟩)

end Go.Proofs.YtdpfmmbfidknfaaGreatDoor


