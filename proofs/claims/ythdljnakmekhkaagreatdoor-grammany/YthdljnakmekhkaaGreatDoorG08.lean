import Derived.Test.YthdljnakmekhkaaGreatDoorG07
import Derived.Deep.RegionHeld2
/- add, mul, opened. -/
namespace Go.Proofs.YthdljnakmekhkaaGreatDoor
open Go.RowKit Go.Lib
attribute [local go_sem] store_float f64bits
attribute [local go_sem ↓] Go.wp_at_zero Go.wp_at_succ
attribute [local go_sem] nd_p tk_k tk_x tk_n tk_f tk_p
variable {B g b o : Nat} {e : PM Nat}

set_option maxHeartbeats 2000000 in
set_option maxRecDepth 100000 in
theorem pAdd (hF : FC B g b o 140 (Gm.mul e)) {P : Nat → Prop} {w : World} {V : Value} {s : PS} (h : At B g b o P w V s) :
    Calls Tryz.prog 138 #[.pointer (some ⟨g, 0, none⟩)] w fun r w' => Rz B g b o P w V (Gm.add e s) iv r w' := by
  have H : Hid (St B g b o P w V w V s) := hidb h
  obtain ⟨R, hR⟩ : ∃ R, Gm.add e s = R := ⟨_, rfl⟩
  rw [hR]
  have HR := hidb hR.symm
  clear hR
  clear h
  go_enter Tryz.func138, Tryz.ntmps138
  go_wp2_with (first
    | (go_at_call 46; refine (sHere H.out.at).mono ?_; rintro r1 w1 ⟨t, hq, rfl, hs, hb⟩; have H := hidb (H.out.below hb); have HR := hidb (HR.out.trans (Gm.bind_here hq)); have Tt := hidb hq; clear hs hb hq)
    | (go_at_call 140; refine (hF.run H.out.at).mono ?_; rintro r1 w1 (⟨er, q, hq, rfl, hbu⟩ | ⟨x1, s1, V1, hq, rfl, hs⟩) <;> first | (have HL := hidb hs; have H := hidb (H.out.trans hs); (first | (with_reducible have HR := hidb (HR.out.trans hq)) | have HR := hidb (HR.out.trans (Gm.bind_ok hq)));  clear hs hq) | ((first | (with_reducible have HR := hidb (HR.out.trans hq)) | have HR := hidb (HR.out.trans (Gm.bind_err hq))); have HBU := hidb (but_then H.out.but H.out.own hbu); clear hq hbu)))
  · exact ⟨rfl, .inl ⟨_, _, HR.out, rfl, HBU.out⟩⟩
  have HR := hidb (HR.out.trans (Gm.bind_left rfl))
  go_loopg [4] s1.ts.length (fun gf s5 wx => ∃ (x : Nat) (sx : PS) (Vx : Value) (k : Nat), s5 = iv x ∧ St B g b o P w V wx Vx sx ∧ R = Gm.leftward (Gm.mul e) Gm.isAdd t.p k x sx ∧ sx.ts.length ≤ k ∧ k ≤ gf)
  case atStart => exact ⟨x1, s1, V1, _, rfl, H.out, HR.out, Nat.le_refl _, Nat.le_refl _⟩
  case round =>
    obtain ⟨x, sx, Vx, k, hs5, hst, hmore, hk, hkg⟩ := hrel
    subst hs5
    have hpos : 0 < sx.ts.length := by obtain ⟨r, hr⟩ := Gm.ne_hd hst.ne; rw [hr]; simp
    obtain ⟨k', rfl⟩ : ∃ k', k = k' + 1 := ⟨k - 1, by omega⟩
    obtain ⟨g', rfl⟩ : ∃ g', gk = g' + 1 := ⟨gk - 1, by omega⟩
    obtain ⟨u, hu⟩ : ∃ u, Gm.hd sx = u := ⟨_, rfl⟩
    have H := hidb hst
    have HR := hidb (hmore.trans (Gm.bind_here hu))
    have Tu := hidb hu
    have HQ : Hid True := hidb trivial
    clear hst hmore hu
    go_wp2_with (first
      | (go_at_call 101; refine (sIsU _ H.out.at).mono ?_; rintro r1 w1 ⟨u2, hu, ⟨hq, rfl⟩ | ⟨hq, rfl⟩, hb⟩ <;> (obtain rfl : u = u2 := Tu.out.symm.trans hu; have HQ := hidb (And.intro HQ.out hq); have H := hidb (H.out.below hb); clear hb hq hu))
      | (go_at_call 50; have hsg : Gm.isAdd u = true := (by simp [Gm.isAdd, HQ.out]); refine (sNext H.out.at (hk_of Tu.out (Gm.isAdd_k u hsg))).mono ?_; rintro r1 w1 ⟨t2, s1, hq, rfl, hs⟩; obtain rfl : u = t2 := Tu.out.symm.trans hq.1; have HC := hidb hq.2; have HR := hidb ((HR.out.trans (Gm.ite_t hsg)).trans (Gm.bind_next hq)); have H := hidb (H.out.trans hs); clear hs hq hsg)
      | (go_at_call 140; refine (hF.run H.out.at).mono ?_; rintro r1 w1 (⟨er, q, hq, rfl, hbu⟩ | ⟨y2, s1, V1, hq, rfl, hs⟩) <;> first | (have HF := hidb (hF.all _ H.out.ne _ _ hq).1; have H := hidb (H.out.trans hs); have HR := hidb (HR.out.trans (Gm.bind_ok hq)); clear hs hq) | (have HR := hidb (HR.out.trans (Gm.bind_err hq)); have HBU := hidb (but_then H.out.but H.out.own hbu); clear hq hbu))
      | (go_at_call 128; refine (sOp t.p u.x [x, y2] _ (H.out.below (below_new _ _)).at (LR.lit H.out.at _ _ rfl (by simp))).mono ?_; rintro r1 w1 (⟨er, q, hq, rfl, hbu⟩ | ⟨z, s1, V1, hq, rfl, hs⟩) <;> first | (have HO := hidb (Gm.all_op _ _ _ _ H.out.ne _ _ hq).1; have H := hidb ((H.out.below (below_new _ _)).trans hs); have HR := hidb (HR.out.trans (Gm.bind_ok hq)); clear hs hq) | (have HR := hidb (HR.out.trans (Gm.bind_err hq)); have HBU := hidb (but_then (H.out.below (below_new _ _)).but H.out.own hbu); clear hq hbu)))
    all_goals first
      | exact ⟨rfl, .inl ⟨_, _, HR.out, rfl, HBU.out⟩⟩
      | (go_roundg g'; (case measure => omega); (case rel => exact ⟨z, _, _, k', rfl, H.out, HR.out, (by have h1 := HC.out; have h2 := HF.out.len; have h3 := HO.out.len; subst h1; simp [Gm.cut] at h2; omega), (by omega)⟩))
      | exact bodyPost_ret (v := iv x) (by simp [results, Tryz.results138, go_sem]) rfl (.inr ⟨_, _, _, HR.out.trans (Gm.ite_f (by simp [Gm.isAdd, HQ.out])), rfl, H.out⟩)

set_option maxHeartbeats 2000000 in
set_option maxRecDepth 100000 in
theorem pMul (hF : FC B g b o 142 (Gm.unary e)) {P : Nat → Prop} {w : World} {V : Value} {s : PS} (h : At B g b o P w V s) :
    Calls Tryz.prog 140 #[.pointer (some ⟨g, 0, none⟩)] w fun r w' => Rz B g b o P w V (Gm.mul e s) iv r w' := by
  have H : Hid (St B g b o P w V w V s) := hidb h
  obtain ⟨R, hR⟩ : ∃ R, Gm.mul e s = R := ⟨_, rfl⟩
  rw [hR]
  have HR := hidb hR.symm
  clear hR
  clear h
  go_enter Tryz.func140, Tryz.ntmps140
  go_wp2_with (first
    | (go_at_call 46; refine (sHere H.out.at).mono ?_; rintro r1 w1 ⟨t, hq, rfl, hs, hb⟩; have H := hidb (H.out.below hb); have HR := hidb (HR.out.trans (Gm.bind_here hq)); have Tt := hidb hq; clear hs hb hq)
    | (go_at_call 142; refine (hF.run H.out.at).mono ?_; rintro r1 w1 (⟨er, q, hq, rfl, hbu⟩ | ⟨x1, s1, V1, hq, rfl, hs⟩) <;> first | (have HL := hidb hs; have H := hidb (H.out.trans hs); (first | (with_reducible have HR := hidb (HR.out.trans hq)) | have HR := hidb (HR.out.trans (Gm.bind_ok hq)));  clear hs hq) | ((first | (with_reducible have HR := hidb (HR.out.trans hq)) | have HR := hidb (HR.out.trans (Gm.bind_err hq))); have HBU := hidb (but_then H.out.but H.out.own hbu); clear hq hbu)))
  · exact ⟨rfl, .inl ⟨_, _, HR.out, rfl, HBU.out⟩⟩
  have HR := hidb (HR.out.trans (Gm.bind_left rfl))
  go_loopg [4] s1.ts.length (fun gf s5 wx => ∃ (x : Nat) (sx : PS) (Vx : Value) (k : Nat), s5 = iv x ∧ St B g b o P w V wx Vx sx ∧ R = Gm.leftward (Gm.unary e) Gm.isMul t.p k x sx ∧ sx.ts.length ≤ k ∧ k ≤ gf)
  case atStart => exact ⟨x1, s1, V1, _, rfl, H.out, HR.out, Nat.le_refl _, Nat.le_refl _⟩
  case round =>
    obtain ⟨x, sx, Vx, k, hs5, hst, hmore, hk, hkg⟩ := hrel
    subst hs5
    have hpos : 0 < sx.ts.length := by obtain ⟨r, hr⟩ := Gm.ne_hd hst.ne; rw [hr]; simp
    obtain ⟨k', rfl⟩ : ∃ k', k = k' + 1 := ⟨k - 1, by omega⟩
    obtain ⟨g', rfl⟩ : ∃ g', gk = g' + 1 := ⟨gk - 1, by omega⟩
    obtain ⟨u, hu⟩ : ∃ u, Gm.hd sx = u := ⟨_, rfl⟩
    have H := hidb hst
    have HR := hidb (hmore.trans (Gm.bind_here hu))
    have Tu := hidb hu
    have HQ : Hid True := hidb trivial
    clear hst hmore hu
    go_wp2_with (first
      | (go_at_call 101; refine (sIsU _ H.out.at).mono ?_; rintro r1 w1 ⟨u2, hu, ⟨hq, rfl⟩ | ⟨hq, rfl⟩, hb⟩ <;> (obtain rfl : u = u2 := Tu.out.symm.trans hu; have HQ := hidb (And.intro HQ.out hq); have H := hidb (H.out.below hb); clear hb hq hu))
      | (go_at_call 50; have hsg : Gm.isMul u = true := (by simp [Gm.isMul, HQ.out]); refine (sNext H.out.at (hk_of Tu.out (Gm.isMul_k u hsg))).mono ?_; rintro r1 w1 ⟨t2, s1, hq, rfl, hs⟩; obtain rfl : u = t2 := Tu.out.symm.trans hq.1; have HC := hidb hq.2; have HR := hidb ((HR.out.trans (Gm.ite_t hsg)).trans (Gm.bind_next hq)); have H := hidb (H.out.trans hs); clear hs hq hsg)
      | (go_at_call 142; refine (hF.run H.out.at).mono ?_; rintro r1 w1 (⟨er, q, hq, rfl, hbu⟩ | ⟨y2, s1, V1, hq, rfl, hs⟩) <;> first | (have HF := hidb (hF.all _ H.out.ne _ _ hq).1; have H := hidb (H.out.trans hs); have HR := hidb (HR.out.trans (Gm.bind_ok hq)); clear hs hq) | (have HR := hidb (HR.out.trans (Gm.bind_err hq)); have HBU := hidb (but_then H.out.but H.out.own hbu); clear hq hbu))
      | (go_at_call 128; refine (sOp t.p u.x [x, y2] _ (H.out.below (below_new _ _)).at (LR.lit H.out.at _ _ rfl (by simp))).mono ?_; rintro r1 w1 (⟨er, q, hq, rfl, hbu⟩ | ⟨z, s1, V1, hq, rfl, hs⟩) <;> first | (have HO := hidb (Gm.all_op _ _ _ _ H.out.ne _ _ hq).1; have H := hidb ((H.out.below (below_new _ _)).trans hs); have HR := hidb (HR.out.trans (Gm.bind_ok hq)); clear hs hq) | (have HR := hidb (HR.out.trans (Gm.bind_err hq)); have HBU := hidb (but_then (H.out.below (below_new _ _)).but H.out.own hbu); clear hq hbu)))
    all_goals first
      | exact ⟨rfl, .inl ⟨_, _, HR.out, rfl, HBU.out⟩⟩
      | (go_roundg g'; (case measure => omega); (case rel => exact ⟨z, _, _, k', rfl, H.out, HR.out, (by have h1 := HC.out; have h2 := HF.out.len; have h3 := HO.out.len; subst h1; simp [Gm.cut] at h2; omega), (by omega)⟩))
      | exact bodyPost_ret (v := iv x) (by simp [results, Tryz.results140, go_sem]) rfl (.inr ⟨_, _, _, HR.out.trans (Gm.ite_f (by simp [Gm.isMul, HQ.out])), rfl, H.out⟩)

set_option maxHeartbeats 2000000 in
set_option maxRecDepth 100000 in
theorem pOpened (hE : EC B g b o e) (hF : FC B g b o 131 (Gm.andalso e)) {P : Nat → Prop} {w : World} {V : Value} {s : PS} (h : At B g b o P w V s) :
    Calls Tryz.prog 124 #[.pointer (some ⟨g, 0, none⟩)] w fun r w' => Rz B g b o P w V (Gm.opened e s) iv r w' := by
  have H : Hid (St B g b o P w V w V s) := hidb h
  obtain ⟨R, hR⟩ : ∃ R, Gm.opened e s = R := ⟨_, rfl⟩
  rw [hR]
  have HR := hidb hR.symm
  clear hR
  have HE := hidb hE
  clear h hE
  go_enter Tryz.func124, Tryz.ntmps124
  go_wp2_with (first
    | (go_at_call 46; refine (sHere H.out.at).mono ?_; rintro r1 w1 ⟨t, hq, rfl, hs, hb⟩; have H := hidb (H.out.below hb); have HR := hidb (HR.out.trans (Gm.bind_here hq)); have Tt := hidb hq; clear hs hb hq)
    | (go_at_call 76; refine (sTake _ H.out.at).mono ?_; rintro r1 w1 (⟨s1, hq, rfl, hs⟩ | ⟨hq, rfl, hs⟩) <;> first | (have HR := hidb (HR.out.trans (Gm.bind_t hq.1)); have HT := hidb hq.2; have HL := hidb hs; have H := hidb (H.out.trans hs);  clear hs hq) | (have HR := hidb (HR.out.trans (Gm.bind_f hq)); have HL := hidb hs; have H := hidb (H.out.trans hs);  clear hs hq))
    | (go_at_call 121; refine (HE.out.run H.out.at).mono ?_; rintro r1 w1 (⟨er, q, hq, rfl, hbu⟩ | ⟨y, s1, V1, hq, rfl, hs⟩) <;> first | (have HL := hidb hs; have H := hidb (H.out.trans hs); (first | (with_reducible have HR := hidb (HR.out.trans hq)) | have HR := hidb (HR.out.trans (Gm.bind_ok hq)));  clear hs hq) | ((first | (with_reducible have HR := hidb (HR.out.trans hq)) | have HR := hidb (HR.out.trans (Gm.bind_err hq))); have HBU := hidb (but_then H.out.but H.out.own hbu); clear hq hbu))
    | (go_at_call 127; refine (pOrelse hF H.out.at).mono ?_; rintro r1 w1 (⟨er, q, hq, rfl, hbu⟩ | ⟨x, s1, V1, hq, rfl, hs⟩) <;> first | (have HL := hidb hs; have H := hidb (H.out.trans hs); (first | (with_reducible have HR := hidb (HR.out.trans hq)) | have HR := hidb (HR.out.trans (Gm.bind_ok hq)));  clear hs hq) | ((first | (with_reducible have HR := hidb (HR.out.trans hq)) | have HR := hidb (HR.out.trans (Gm.bind_err hq))); have HBU := hidb (but_then H.out.but H.out.own hbu); clear hq hbu))
    | (go_at_call 53; refine (sLayR HR.out (H.out.below (below_new _ _)).at (LR.lit H.out.at _ _ rfl (by simp))).mono ?_; rintro r1 w1 (⟨er, q, hq, rfl, hbu⟩ | ⟨z, s1, V1, hq, rfl, hs⟩) <;> first | (have H := hidb ((H.out.below (below_new _ _)).trans hs); have HR := hidb hq; clear hs hq) | (have HR := hidb hq; have HBU := hidb (but_then (H.out.below (below_new _ _)).but H.out.own hbu); clear hq hbu))
    | (go_at_call 128; refine (sOpR HR.out (H.out.below (below_new _ _)).at (LR.lit H.out.at _ _ rfl (by simp))).mono ?_; rintro r1 w1 (⟨er, q, hq, rfl, hbu⟩ | ⟨z, s1, V1, hq, rfl, hs⟩) <;> first | (have H := hidb ((H.out.below (below_new _ _)).trans hs); have HR := hidb hq; clear hs hq) | (have HR := hidb hq; have HBU := hidb (but_then (H.out.below (below_new _ _)).but H.out.own hbu); clear hq hbu)))

  · exact ⟨rfl, .inl ⟨_, _, HR.out, rfl, HBU.out⟩⟩
  · exact ⟨rfl, .inl ⟨_, _, HR.out, rfl, HBU.out⟩⟩
  · exact bodyPost_ret (v := iv z) (by simp [results, Tryz.results124, go_sem]) rfl (.inr ⟨_, _, _, HR.out, rfl, H.out⟩)
  · exact ⟨rfl, .inl ⟨_, _, HR.out, rfl, HBU.out⟩⟩
  · exact ⟨rfl, .inl ⟨_, _, HR.out, rfl, HBU.out⟩⟩
  · exact ⟨rfl, .inl ⟨_, _, HR.out, rfl, HBU.out⟩⟩
  · exact bodyPost_ret (v := iv z) (by simp [results, Tryz.results124, go_sem]) rfl (.inr ⟨_, _, _, HR.out, rfl, H.out⟩)
  · exact ⟨rfl, .inl ⟨_, _, HR.out, rfl, HBU.out⟩⟩
  · exact ⟨rfl, .inl ⟨_, _, HR.out, rfl, HBU.out⟩⟩
  · exact bodyPost_ret (v := iv z) (by simp [results, Tryz.results124, go_sem]) rfl (.inr ⟨_, _, _, HR.out, rfl, H.out⟩)
  · exact bodyPost_ret (v := iv x) (by simp [results, Tryz.results124, go_sem]) rfl (.inr ⟨_, _, _, HR.out, rfl, H.out⟩)
end Go.Proofs.YthdljnakmekhkaaGreatDoor


/- arguments, tail, clauses. -/
namespace Go.Proofs.YthdljnakmekhkaaGreatDoor
open Go.RowKit Go.Lib
attribute [local go_sem] store_float f64bits
attribute [local go_sem ↓] Go.wp_at_zero Go.wp_at_succ
attribute [local go_sem] nd_p tk_k tk_x tk_n tk_f tk_p
variable {B g b o : Nat} {e : PM Nat}

set_option maxHeartbeats 2000000 in
set_option maxRecDepth 100000 in
theorem pArgs (hE : EC B g b o e) {P : Nat → Prop} {w : World} {V : Value} {s : PS} (h : At B g b o P w V s) :
    Calls Tryz.prog 103 #[.pointer (some ⟨g, 0, none⟩)] w fun r w' => RzL B g b o P w V (Gm.args e s) r w' := by
  have H : Hid (St B g b o P w V w V s) := hidb h
  obtain ⟨R, hR⟩ : ∃ R, Gm.args e s = R := ⟨_, rfl⟩
  rw [hR]
  have HR := hidb hR.symm
  clear hR
  have HE := hidb hE
  clear h hE
  go_enter Tryz.func103, Tryz.ntmps103
  go_wp2_with (first
    | (go_at_call 47; refine (sNeed _ H.out.at).mono ?_; rintro r1 w1 (⟨er, q, hq, rfl, hbu⟩ | ⟨s1, hq, rfl, hs⟩) <;> first | (have HI := hidb (HI.out.step hs); have H := hidb (H.out.trans hs); (first | (with_reducible have HR := hidb (HR.out.trans hq)) | have HR := hidb (HR.out.trans (Gm.bind_ok hq))); clear hs hq) | (have H := hidb (H.out.trans hs); (first | (with_reducible have HR := hidb (HR.out.trans hq)) | have HR := hidb (HR.out.trans (Gm.bind_ok hq))); clear hs hq) | ((first | (with_reducible have HR := hidb (HR.out.trans hq)) | have HR := hidb (HR.out.trans (Gm.bind_err hq))); have HBU := hidb (but_then H.out.but H.out.own hbu); clear hq hbu))
    | (go_at_call 76; refine (sTake _ H.out.at).mono ?_; rintro r1 w1 (⟨s1, hq, rfl, hs⟩ | ⟨hq, rfl, hs⟩) <;> first | (have HR := hidb (HR.out.trans (Gm.bind_t hq.1)); have HT := hidb hq.2; have HL := hidb hs; have H := hidb (H.out.trans hs);  clear hs hq) | (have HR := hidb (HR.out.trans (Gm.bind_f hq)); have HL := hidb hs; have H := hidb (H.out.trans hs);  clear hs hq))
    | (go_at_call 116; refine (pExprs HE.out 16 H.out.at).mono ?_; rintro r1 w1 (⟨er, q, hq, rfl, hbu⟩ | ⟨l, s1, V1, v, hq, rfl, hs, hs2, hi, hlen⟩) <;> first | (obtain ⟨la, lc, rfl⟩ := hi.sl; have HI := hidb (hi.rebase H.out.but.size); have HN := hidb hlen; have H := hidb (H.out.trans hs2); (first | (with_reducible have HR := hidb (HR.out.trans hq)) | have HR := hidb (HR.out.trans (Gm.bind_ok hq))); clear hs hs2 hi hq hlen) | ((first | (with_reducible have HR := hidb (HR.out.trans hq)) | have HR := hidb (HR.out.trans (Gm.bind_err hq))); have HBU := hidb (but_then H.out.but H.out.own hbu); clear hq hbu)))
  · exact ⟨rfl, .inl ⟨_, _, HR.out, rfl, HBU.out⟩⟩
  · exact bodyPost_ret (v := .slice none 0 0) (by simp [results, Tryz.results103, go_sem]) rfl (.inr ⟨_, _, _, _, HR.out, rfl, H.out, H.out.less (fun _ hk => hk.elim id (fun he => by simp [Value.ownBlock] at he)), IR.none _ _ _ _ _, by simp⟩)
  · exact ⟨rfl, .inl ⟨_, _, HR.out, rfl, HBU.out⟩⟩
  · exact ⟨rfl, .inl ⟨_, _, HR.out, rfl, HBU.out⟩⟩
  · exact bodyPost_ret (v := .slice la l.length lc) (by simp [results, Tryz.results103, go_sem]) rfl (.inr ⟨_, _, _, _, HR.out, rfl, H.out.drop, H.out, HI.out, HN.out⟩)

theorem app_two (w : World) (a0 a1 : Value) (q : Nat) (hg : q = w.heap.size) (j : Nat) (u : Value) (hj : [a0, a1][j]? = some u) : (w.alloc (.cells #[a0, a1] IT)).cell? ((⟨q, 0, none⟩ : Addr).add j) = some u := by
  subst hg
  match j, hj with
  | 0, hj => simp at hj; subst hj; simp [Addr.add]
  | 1, hj => simp at hj; subst hj; simp [Addr.add]
  | (j + 2), hj => simp at hj

set_option maxHeartbeats 4000000 in
set_option maxRecDepth 100000 in
theorem pTail (hE : EC B g b o e) (p : Nat) (x : ByteArray) (l : List Nat) {P : Nat → Prop} {w0 w : World} {V0 V v : Value} {s : PS} (h : St B g b o (PV P v) w0 V0 w V s) (hi : IR w w0.heap.size g b V v l) (hl : l.length ≤ 100001) (hP : ∀ k, P k → k < w0.heap.size) :
    Calls Tryz.prog 102 #[.pointer (some ⟨g, 0, none⟩), .int .i64 (p : Int), .string x, v] w fun r w' => Rz B g b o P w0 V0 (Gm.tail e p x l s) iv r w' := by
  obtain ⟨i0, hi0, hz0, hz1, hz2⟩ := info_parts (P := Tryz.prog) (e := IT) (z := .int .i64 0) (size := 1) (bytes := 8) (by kernel_rfl)
  have H : Hid (St B g b o (PV P v) w0 V0 w V s) := hidb h
  have HI := hidb hi
  have HE := hidb hE
  have HP := hidb hP
  obtain ⟨la, lc, rfl⟩ := hi.sl
  obtain ⟨R, hR⟩ : ∃ R, Gm.tail e p x l s = R := ⟨_, rfl⟩
  rw [hR]
  have HR := hidb hR.symm
  have hc1 : l.length + 2 ≤ maxLen := by unfold maxLen; omega
  have hc2 : (l.length + 2) * 8 ≤ 140737488355328 := by omega
  have hw : IntKind.i64.wrap (((l.length + 2 : Nat) : Int) - 2) = (l.length : Int) := by rw [IntKind.wrap_i64]; omega
  clear hR h hE hi hP
  go_enter Tryz.func102, Tryz.ntmps102
  go_wp2_with (first
    | (go_at_call 114; refine (pGuard HE.out H.out.at).mono ?_; rintro r1 w1 (⟨er, q, hq, rfl, hbu⟩ | ⟨gd, s1, V1, hq, rfl, hs⟩) <;> first | (have HL := hidb hs; have H := hidb (H.out.trans hs); (first | (with_reducible have HR := hidb (HR.out.trans hq)) | have HR := hidb (HR.out.trans (Gm.bind_ok hq))); have HI := hidb (HI.out.step hs); clear hs hq) | ((first | (with_reducible have HR := hidb (HR.out.trans hq)) | have HR := hidb (HR.out.trans (Gm.bind_err hq))); have HBU := hidb (but_then H.out.but H.out.own hbu); clear hq hbu))
    | (go_at_call 47; refine (sNeed _ H.out.at).mono ?_; rintro r1 w1 (⟨er, q, hq, rfl, hbu⟩ | ⟨s1, hq, rfl, hs⟩) <;> first | (have HI := hidb (HI.out.step hs); have H := hidb (H.out.trans hs); (first | (with_reducible have HR := hidb (HR.out.trans hq)) | have HR := hidb (HR.out.trans (Gm.bind_ok hq))); clear hs hq) | (have H := hidb (H.out.trans hs); (first | (with_reducible have HR := hidb (HR.out.trans hq)) | have HR := hidb (HR.out.trans (Gm.bind_ok hq))); clear hs hq) | ((first | (with_reducible have HR := hidb (HR.out.trans hq)) | have HR := hidb (HR.out.trans (Gm.bind_err hq))); have HBU := hidb (but_then H.out.but H.out.own hbu); clear hq hbu))
    | (go_at_call 115; refine (pBody HE.out H.out.at).mono ?_; rintro r1 w1 (⟨er, q, hq, rfl, hbu⟩ | ⟨bd, s1, V1, hq, rfl, hs⟩) <;> first | (have HL := hidb hs; have H := hidb (H.out.trans hs); (first | (with_reducible have HR := hidb (HR.out.trans hq)) | have HR := hidb (HR.out.trans (Gm.bind_ok hq))); have HI := hidb (HI.out.step hs); clear hs hq) | ((first | (with_reducible have HR := hidb (HR.out.trans hq)) | have HR := hidb (HR.out.trans (Gm.bind_err hq))); have HBU := hidb (but_then H.out.but H.out.own hbu); clear hq hbu))
    | (at_builtin; refine wpList_append_own_at _ rfl _ _ 44 rfl w0.heap.size IT i0 (.int .i64 0) 1 8 Tryz.underlying44 hi0 hz0 hz1 hz2 rfl (by decide) _ _ _ rfl (HI.out.own.alloc _) ⟨w1.heap.size, 0, none⟩ 2 2 [iv gd, iv bd] rfl rfl ?e51 ?e52 ?e53 ?e54 ?e55 ?_))
  case e51 => intro q u hq; exact app_two _ _ _ _ rfl q u hq
  case e52 => intro u hu; simp at hu; rcases hu with rfl | rfl <;> rfl
  case e53 => exact hc1
  case e54 => exact hc2
  case e55 => have := H.out.but.size; simp; omega
  · exact ⟨rfl, .inl ⟨_, _, HR.out, rfl, HBU.out⟩⟩
  · exact ⟨rfl, .inl ⟨_, _, HR.out, rfl, HBU.out⟩⟩
  · exact ⟨rfl, .inl ⟨_, _, HR.out, rfl, HBU.out⟩⟩
  · intro v' w3 hown hgrow hnil hat
    obtain ⟨j1, j2⟩ := IR.app (xs := [gd, bd]) H.out HI.out hgrow hat hown
    obtain ⟨a', c', hv'⟩ := j1.sl
    rw [List.length_append] at hv'
    subst hv'
    have HI := hidb (j1.lr HP.out)
    have H := hidb j2.drop
    clear j1 j2 hown hgrow hnil hat
    go_wp2_with (go_at_call 53; refine (sLayR HR.out H.out.at HI.out).mono ?_; rintro r1 w1 (⟨er, q, hq, rfl, hbu⟩ | ⟨z, s1, V1, hq, rfl, hs⟩) <;> first | (have H := hidb (H.out.trans hs); have HR := hidb hq; clear hs hq) | (have HR := hidb hq; have HBU := hidb (but_then H.out.but H.out.own hbu); clear hq hbu))
    · exact ⟨rfl, .inl ⟨_, _, HR.out, rfl, HBU.out⟩⟩
    · exact bodyPost_ret (v := iv z) (by simp [results, Tryz.results102, go_sem]) rfl (.inr ⟨_, _, _, HR.out, rfl, H.out⟩)

end Go.Proofs.YthdljnakmekhkaaGreatDoor


/- clauses. -/
namespace Go.Proofs.YthdljnakmekhkaaGreatDoor
open Go.RowKit Go.Lib
attribute [local go_sem] store_float f64bits
attribute [local go_sem ↓] Go.wp_at_zero Go.wp_at_succ
attribute [local go_sem] nd_p tk_k tk_x tk_n tk_f tk_p
variable {B g b o : Nat} {e : PM Nat}

namespace Gm
variable {α β γ : Type} {s s' : PS}
theorem bind2_ok {m : PM α} {f : α → PM β} {h : β → PM γ} {a : α} (e : m s = .ok (a, s')) : ((m >>= f) >>= h) s = (f a >>= h) s' := by rw [bind_at, bind_at, e, bind_at]
theorem bind2_err {m : PM α} {f : α → PM β} {h : β → PM γ} {er : Int × Nat} (e : m s = .error er) : ((m >>= f) >>= h) s = .error er := by rw [bind_at, bind_at, e]
theorem moreC_succ (c : PM Nat) (k : Nat) (l : List Nat) : moreC c (k + 1) l = (take ⟨#[59]⟩ >>= fun b => if b then (c >>= fun x => moreC c k (l ++ [x])) else pure l) := rfl
theorem moreC_t {c : PM Nat} {k : Nat} {l : List Nat} {G : List Nat → PM γ} (e : take ⟨#[59]⟩ s = .ok (true, s')) : (moreC c (k + 1) l >>= G) s = ((c >>= fun x => moreC c k (l ++ [x])) >>= G) s' := by
  rw [moreC_succ]; exact bind2_ok e
theorem moreC_f {c : PM Nat} {k : Nat} {l : List Nat} {G : List Nat → PM γ} (e : take ⟨#[59]⟩ s = .ok (false, s')) : (moreC c (k + 1) l >>= G) s = G l s' := by
  rw [bind_at]; unfold moreC; rw [bind_at, e]; rfl
end Gm

set_option maxHeartbeats 4000000 in
set_option maxRecDepth 100000 in
theorem pClauses {f : Nat} {m : PM Nat} (hF : FC B g b o f m) {P : Nat → Prop} {w : World} {V : Value} {s : PS} (h : At B g b o P w V s) :
    Calls Tryz.prog 78 #[.pointer (some ⟨g, 0, none⟩), .func (.func f) #[.pointer (some ⟨g, 0, none⟩)] #[]] w fun r w' => Rz B g b o P w V (Gm.clauses m s) iv r w' := by
  obtain ⟨i0, hi0, hz0, hz1, hz2⟩ := info_parts (P := Tryz.prog) (e := IT) (z := .int .i64 0) (size := 1) (bytes := 8) (by kernel_rfl)
  have H : Hid (St B g b o P w V w V s) := hidb h
  have HP := hidb h.plt
  obtain ⟨R, hR⟩ : ∃ R, Gm.clauses m s = R := ⟨_, rfl⟩
  rw [hR]
  have HR := hidb hR.symm
  have eg := hF.enter
  clear hR h
  go_enter Tryz.func78, Tryz.ntmps78
  go_wp2_with (first
    | (go_at_call 46; refine (sHere H.out.at).mono ?_; rintro r1 w1 ⟨t, hq, rfl, hs, hb⟩; have H := hidb (H.out.below hb); have HR := hidb (HR.out.trans (Gm.bind_here hq)); have Tt := hidb hq; clear hs hb hq)
    | (refine (hF.run H.out.at).mono ?_; rintro r1 w1 (⟨er, q, hq, rfl, hbu⟩ | ⟨x0, s1, V1, hq, rfl, hs⟩) <;> first | (have HF := hidb (hF.all _ H.out.ne _ _ hq).1; have HL := hidb hs; have H := hidb (H.out.trans hs); (first | (with_reducible have HR := hidb (HR.out.trans hq)) | have HR := hidb (HR.out.trans (Gm.bind_ok hq))); clear hs hq) | ((first | (with_reducible have HR := hidb (HR.out.trans hq)) | have HR := hidb (HR.out.trans (Gm.bind_err hq))); have HBU := hidb (but_then H.out.but H.out.own hbu); clear hq hbu)))
  · exact ⟨rfl, .inl ⟨_, _, HR.out, rfl, HBU.out⟩⟩
  obtain ⟨j1, j2⟩ := IR.lit H.out #[iv x0] [x0] rfl (by simp)
  have HI := hidb j1
  have H := hidb j2
  have HR := hidb (HR.out.trans (Gm.bind_left rfl))
  have htl := j2.tl
  clear j1 j2
  go_loopg [6] s1.ts.length (fun gf s5 wx => ∃ (l : List Nat) (sx : PS) (Vx : Value) (a : Option Addr) (c k : Nat), s5 = .slice a l.length c ∧ St B g b o (PV P (.slice a l.length c)) w V wx Vx sx ∧ IR wx w.heap.size g b Vx (.slice a l.length c) l ∧ R = (Gm.moreC m k l >>= fun l => Gm.lay ⟨20, ⟨#[]⟩, 0, 0, l, t.p⟩) sx ∧ sx.ts.length ≤ k ∧ k ≤ gf ∧ l.length + sx.ts.length ≤ 100001)
  case atStart => exact ⟨[x0], s1, V1, _, _, _, rfl, H.out, HI.out, HR.out, Nat.le_refl _, Nat.le_refl _, by simp; omega⟩
  case round =>
    obtain ⟨l, sx, Vx, a, c, k, hs3, hst, hir, hmore, hk, hkg, hll⟩ := hrel
    subst hs3
    have hpos : 0 < sx.ts.length := by obtain ⟨r, hr⟩ := Gm.ne_hd hst.ne; rw [hr]; simp
    obtain ⟨k', rfl⟩ : ∃ k', k = k' + 1 := ⟨k - 1, by omega⟩
    obtain ⟨g', rfl⟩ : ∃ g', gk = g' + 1 := ⟨gk - 1, by omega⟩
    have H := hidb hst
    have HI := hidb hir
    have HR := hidb hmore
    have hc1 : l.length + 1 ≤ maxLen := by unfold maxLen; omega
    have hc2 : (l.length + 1) * 8 ≤ 140737488355328 := by omega
    clear hst hir hmore
    go_wp2_with (first
      | (go_at_call 76; refine (sTake _ H.out.at).mono ?_; rintro r1 w1 (⟨s1, hq, rfl, hs⟩ | ⟨hq, rfl, hs⟩) <;> first | (have HR := hidb (HR.out.trans (Gm.moreC_t hq.1)); have HT := hidb hq.2; have H := hidb (H.out.trans hs); have HI := hidb (HI.out.step hs); clear hs hq) | (have HR := hidb (HR.out.trans (Gm.moreC_f hq)); have H := hidb (H.out.trans hs).drop; have HI := hidb ((HI.out.step hs).lr HP.out); clear hs hq))
      | (go_at_call 53; refine (sLayR HR.out H.out.at HI.out).mono ?_; rintro r1 w1 (⟨er, q, hq, rfl, hbu⟩ | ⟨z, s1, V1, hq, rfl, hs⟩) <;> first | (have H := hidb (H.out.trans hs); have HR := hidb hq; clear hs hq) | (have HR := hidb hq; have HBU := hidb (but_then H.out.but H.out.own hbu); clear hq hbu))
      | (at_builtin; refine wpList_append_own_at _ rfl _ _ 44 rfl w.heap.size IT i0 (.int .i64 0) 1 8 Tryz.underlying44 hi0 hz0 hz1 hz2 rfl (by decide) _ _ _ rfl (HI.out.own.alloc _) ⟨w1.heap.size, 0, none⟩ 1 1 [iv x] rfl rfl ?e51 ?e52 ?e53 ?e54 ?e55 ?_)
      | (refine (hF.run H.out.at).mono ?_; rintro r1 w1 (⟨er, q, hq, rfl, hbu⟩ | ⟨x, s2, V2, hq, rfl, hs⟩) <;> first | (have HF := hidb (hF.all _ H.out.ne _ _ hq).1; have HI := hidb (HI.out.step hs); have H := hidb (H.out.trans hs); have HR := hidb (HR.out.trans (Gm.bind2_ok hq)); clear hs hq) | (have HR := hidb (HR.out.trans (Gm.bind2_err hq)); have HBU := hidb (but_then H.out.but H.out.own hbu); clear hq hbu)))
    case e51 => intro q u hq; exact app_ints _ _ _ rfl q u hq
    case e52 => intro u hu; cases List.mem_singleton.1 hu; rfl
    case e53 => exact hc1
    case e54 => exact hc2
    case e55 => have := H.out.but.size; simp; omega
    · exact ⟨rfl, .inl ⟨_, _, HR.out, rfl, HBU.out⟩⟩
    · intro v' w3 hown hgrow hnil hat
      obtain ⟨j1, j2⟩ := IR.app (xs := [x]) H.out HI.out hgrow hat hown
      obtain ⟨a', c', rfl⟩ := j1.sl
      have HI := hidb j1
      have H := hidb j2
      clear j1 j2 hown hgrow hnil hat
      go_wp2_with fail
      go_roundg g'
      case measure => omega
      case rel => exact ⟨l ++ [x], s2, V2, a', c', k', rfl, H.out, HI.out, HR.out, by have := HT.out; have := HF.out.len; omega, by omega, by have := HT.out; have := HF.out.len; simp; omega⟩
    · exact ⟨rfl, .inl ⟨_, _, HR.out, rfl, HBU.out⟩⟩
    · exact bodyPost_ret (v := iv z) (by simp [results, Tryz.results78, go_sem]) rfl (.inr ⟨_, _, _, HR.out, rfl, H.out⟩)

set_option maxHeartbeats 2000000 in
set_option maxRecDepth 100000 in
theorem pClausesBehind {f : Nat} {m : PM Nat} (hF : FC B g b o f m) (y : ByteArray) {P : Nat → Prop} {w : World} {V : Value} {s : PS} (h : At B g b o P w V s) :
    Calls Tryz.prog 171 #[.pointer (some ⟨g, 0, none⟩), .string y, .func (.func f) #[.pointer (some ⟨g, 0, none⟩)] #[]] w fun r w' => Rz B g b o P w V (Gm.clausesBehind y m s) iv r w' := by
  have H : Hid (St B g b o P w V w V s) := hidb h
  obtain ⟨R, hR⟩ : ∃ R, Gm.clausesBehind y m s = R := ⟨_, rfl⟩
  rw [hR]
  have HR := hidb hR.symm
  clear hR
  clear h
  go_enter Tryz.func171, Tryz.ntmps171
  go_wp2_with (first
    | (go_at_call 76; refine (sTake _ H.out.at).mono ?_; rintro r1 w1 (⟨s1, hq, rfl, hs⟩ | ⟨hq, rfl, hs⟩) <;> first | (have HR := hidb (HR.out.trans (Gm.bind_t hq.1)); have HT := hidb hq.2; have HL := hidb hs; have H := hidb (H.out.trans hs);  clear hs hq) | (have HR := hidb (HR.out.trans (Gm.bind_f hq)); have HL := hidb hs; have H := hidb (H.out.trans hs);  clear hs hq))
    | (go_at_call 78; refine (pClauses hF H.out.at).mono ?_; rintro r1 w1 (⟨er, q, hq, rfl, hbu⟩ | ⟨x, s1, V1, hq, rfl, hs⟩) <;> first | (have HL := hidb hs; have H := hidb (H.out.trans hs); (first | (with_reducible have HR := hidb (HR.out.trans hq)) | have HR := hidb (HR.out.trans (Gm.bind_ok hq)));  clear hs hq) | ((first | (with_reducible have HR := hidb (HR.out.trans hq)) | have HR := hidb (HR.out.trans (Gm.bind_err hq))); have HBU := hidb (but_then H.out.but H.out.own hbu); clear hq hbu))
    | (go_at_call 119; refine (sLayNone 20 H.out.at).mono ?_; rintro r1 w1 (⟨er, q, hq, rfl, hbu⟩ | ⟨x, s1, V1, hq, rfl, hs⟩) <;> first | (have HL := hidb hs; have H := hidb (H.out.trans hs); (first | (with_reducible have HR := hidb (HR.out.trans hq)) | have HR := hidb (HR.out.trans (Gm.bind_ok hq)));  clear hs hq) | ((first | (with_reducible have HR := hidb (HR.out.trans hq)) | have HR := hidb (HR.out.trans (Gm.bind_err hq))); have HBU := hidb (but_then H.out.but H.out.own hbu); clear hq hbu)))
  · exact ⟨rfl, .inl ⟨_, _, HR.out, rfl, HBU.out⟩⟩
  · exact bodyPost_ret (v := iv x) (by simp [results, Tryz.results171, go_sem]) rfl (.inr ⟨_, _, _, HR.out, rfl, H.out⟩)
  · exact ⟨rfl, .inl ⟨_, _, HR.out, rfl, HBU.out⟩⟩
  · exact bodyPost_ret (v := iv x) (by simp [results, Tryz.results171, go_sem]) rfl (.inr ⟨_, _, _, HR.out, rfl, H.out⟩)

set_option maxHeartbeats 2000000 in
set_option maxRecDepth 100000 in
theorem pClause (hE : EC B g b o e) {P : Nat → Prop} {w : World} {V : Value} {s : PS} (h : At B g b o P w V s) :
    Calls Tryz.prog 168 #[.pointer (some ⟨g, 0, none⟩)] w fun r w' => Rz B g b o P w V (Gm.clause e s) iv r w' := by
  have H : Hid (St B g b o P w V w V s) := hidb h
  obtain ⟨R, hR⟩ : ∃ R, Gm.clause e s = R := ⟨_, rfl⟩
  rw [hR]
  have HR := hidb hR.symm
  clear hR
  have HP := hidb h.plt
  have HE := hidb hE
  clear h hE
  go_enter Tryz.func168, Tryz.ntmps168
  go_wp2_with (first
    | (go_at_call 46; refine (sHere H.out.at).mono ?_; rintro r1 w1 ⟨t, hq, rfl, hs, hb⟩; have H := hidb (H.out.below hb); have HR := hidb (HR.out.trans (Gm.bind_here hq)); have Tt := hidb hq; clear hs hb hq)
    | (go_at_call 121; refine (HE.out.run H.out.at).mono ?_; rintro r1 w1 (⟨er, q, hq, rfl, hbu⟩ | ⟨x, s1, V1, hq, rfl, hs⟩) <;> first | (have HL := hidb hs; have H := hidb (H.out.trans hs); (first | (with_reducible have HR := hidb (HR.out.trans hq)) | have HR := hidb (HR.out.trans (Gm.bind_ok hq)));  clear hs hq) | ((first | (with_reducible have HR := hidb (HR.out.trans hq)) | have HR := hidb (HR.out.trans (Gm.bind_err hq))); have HBU := hidb (but_then H.out.but H.out.own hbu); clear hq hbu))
    | (go_at_call 102; refine (pTail HE.out t.p ⟨#[]⟩ [x] (IR.lit H.out #[iv x] [x] rfl (by simp)).2 (IR.lit H.out #[iv x] [x] rfl (by simp)).1 (by simp) HP.out).mono ?_; rintro r1 w1 (⟨er, q, hq, rfl, hbu⟩ | ⟨z, s1, V1, hq, rfl, hs⟩) <;> first | (have H := hidb hs; (first | (with_reducible have HR := hidb (HR.out.trans hq)) | have HR := hidb (HR.out.trans (Gm.bind_ok hq))); clear hs hq) | ((first | (with_reducible have HR := hidb (HR.out.trans hq)) | have HR := hidb (HR.out.trans (Gm.bind_err hq))); have HBU := hidb (hbu); clear hq hbu)))
  · exact ⟨rfl, .inl ⟨_, _, HR.out, rfl, HBU.out⟩⟩
  · exact ⟨rfl, .inl ⟨_, _, HR.out, rfl, HBU.out⟩⟩
  · exact bodyPost_ret (v := iv z) (by simp [results, Tryz.results168, go_sem]) rfl (.inr ⟨_, _, _, HR.out, rfl, H.out⟩)

set_option maxHeartbeats 2000000 in
set_option maxRecDepth 100000 in
theorem pGclause (hE : EC B g b o e) {P : Nat → Prop} {w : World} {V : Value} {s : PS} (h : At B g b o P w V s) :
    Calls Tryz.prog 170 #[.pointer (some ⟨g, 0, none⟩)] w fun r w' => Rz B g b o P w V (Gm.gclause e s) iv r w' := by
  have H : Hid (St B g b o P w V w V s) := hidb h
  obtain ⟨R, hR⟩ : ∃ R, Gm.gclause e s = R := ⟨_, rfl⟩
  rw [hR]
  have HR := hidb hR.symm
  clear hR
  have HP := hidb h.plt
  have HE := hidb hE
  clear h hE
  go_enter Tryz.func170, Tryz.ntmps170
  go_wp2_with (first
    | (go_at_call 46; refine (sHere H.out.at).mono ?_; rintro r1 w1 ⟨t, hq, rfl, hs, hb⟩; have H := hidb (H.out.below hb); have HR := hidb (HR.out.trans (Gm.bind_here hq)); have Tt := hidb hq; clear hs hb hq)
    | (go_at_call 103; refine (pArgs HE.out H.out.at).mono ?_; rintro r1 w1 (⟨er, q, hq, rfl, hbu⟩ | ⟨l, s1, V1, v, hq, rfl, hs, hs2, hi, hlen⟩) <;> first | (obtain ⟨la, lc, rfl⟩ := hi.sl; have HI := hidb (hi.rebase H.out.but.size); have HN := hidb hlen; have H := hidb (H.out.trans hs2); (first | (with_reducible have HR := hidb (HR.out.trans hq)) | have HR := hidb (HR.out.trans (Gm.bind_ok hq))); clear hs hs2 hi hq hlen) | ((first | (with_reducible have HR := hidb (HR.out.trans hq)) | have HR := hidb (HR.out.trans (Gm.bind_err hq))); have HBU := hidb (but_then H.out.but H.out.own hbu); clear hq hbu))
    | (go_at_call 102; refine (pTail HE.out t.p ⟨#[]⟩ l H.out HI.out HN.out HP.out).mono ?_; rintro r1 w1 (⟨er, q, hq, rfl, hbu⟩ | ⟨z, s1, V1, hq, rfl, hs⟩) <;> first | (have H := hidb hs; (first | (with_reducible have HR := hidb (HR.out.trans hq)) | have HR := hidb (HR.out.trans (Gm.bind_ok hq))); clear hs hq) | ((first | (with_reducible have HR := hidb (HR.out.trans hq)) | have HR := hidb (HR.out.trans (Gm.bind_err hq))); have HBU := hidb (hbu); clear hq hbu)))
  · exact ⟨rfl, .inl ⟨_, _, HR.out, rfl, HBU.out⟩⟩
  · exact ⟨rfl, .inl ⟨_, _, HR.out, rfl, HBU.out⟩⟩
  · exact bodyPost_ret (v := iv z) (by simp [results, Tryz.results170, go_sem]) rfl (.inr ⟨_, _, _, HR.out, rfl, H.out⟩)

end Go.Proofs.YthdljnakmekhkaaGreatDoor


/- Calls in a region whose order is drawn. -/
namespace Go.Proofs.YthdljnakmekhkaaGreatDoor
open Go.RowKit Go.Lib
attribute [local go_sem] store_float f64bits
attribute [local go_sem ↓] Go.wp_at_zero Go.wp_at_succ
variable {B g b : Nat} {e : PM Nat}

abbrev Ent (f : Nat) : Prop := ∀ args w, (callFunc f args).run Tryz.prog w = .ok (.enter f args) w

theorem ent_args : Ent 103 := by
  intro args w
  kernel_rfl
theorem run_call {f : Nat} (ent : Ent f) {o : Oper} {a : Act} {w : World} (xs : Array Operand) (ts : Array TypeId) (hop : o.op = Op.call { callee := .value (.func f), args := xs, argTypes := ts }) (vs : Array Value) (hx' : xs.toList.map a.eval = vs.toList) :
    (execOp a.eval o).run Tryz.prog w = .ok (.enter f vs) w := by
  have hx : xs.map a.eval = vs := by apply Array.ext'; simpa using hx'
  unfold execOp
  rw [hop]
  have hf : a.eval (.func f) = ({ tmps := #[], defers := [] } : Act).eval (.func f) := rfl
  have ent2 := ent vs w
  simp only [resolve, hx, hf]
  go_simp
theorem ent_tail : Ent 102 := by
  intro args w
  kernel_rfl
theorem ent_expr : Ent 121 := by
  intro args w
  kernel_rfl
theorem step_rzL {f oo : Nat} {vs : Array Value} {P : Nat → Prop} {V : Value} {r : Except (Int × Nat) (List Nat × PS)} {ops : Array Oper} {o : Oper} {a : Act} {w : World} {K : Act → World → Prop} {Q : Exit → Act → World → Prop} {E : Prop} (hg : o.guard = none) (hrun : (execOp a.eval o).run Tryz.prog w = .ok (.enter f vs) w)
    (hc : Calls Tryz.prog f vs w fun e w' => RzL B g b oo P w V r e w') (her : ∀ er p w', r = .error (er, p) → But (fun k => k = g ∨ V.ownBlock = some k) w w' → Q (.panic [{ v := .iface FT (.agg #[.int .i64 er, .int .i64 ((p : Nat) : Int)]), recovered := false }]) a w')
    (hok : ∀ l s' V' v w', r = .ok (l, s') → St B g b oo P w V w' V' s' → St B g b oo (PV P v) w V w' V' s' → IR w' w.heap.size g b V' v l → l.length ≤ 100001 → K (a.put o.dst v) w') :
    if Region.wanted o (yielded ops a.tmps) = true then Oper.wp Tryz.prog o a w K Q else E :=
  step_call hg hrun hc fun e w' hh => by
    rcases hh with ⟨er, p, hr, rfl, hbu⟩ | ⟨l, s', V', v, hr, rfl, h1, h2, h3, h4⟩
    · exact her er p w' hr hbu
    · exact hok l s' V' v w' hr h1 h2 h3 h4
theorem step_rz {f oo : Nat} {vs : Array Value} {P : Nat → Prop} {w0 : World} {V : Value} {r : Except (Int × Nat) (Nat × PS)} {ops : Array Oper} {o : Oper} {a : Act} {w : World} {K : Act → World → Prop} {Q : Exit → Act → World → Prop} {E : Prop} (hg : o.guard = none) (hrun : (execOp a.eval o).run Tryz.prog w = .ok (.enter f vs) w)
    (hc : Calls Tryz.prog f vs w fun e w' => Rz B g b oo P w0 V r iv e w') (her : ∀ er p w', r = .error (er, p) → But (fun k => k = g ∨ V.ownBlock = some k) w0 w' → Q (.panic [{ v := .iface FT (.agg #[.int .i64 er, .int .i64 ((p : Nat) : Int)]), recovered := false }]) a w')
    (hok : ∀ x s' V' w', r = .ok (x, s') → St B g b oo P w0 V w' V' s' → K (a.put o.dst (iv x)) w') :
    if Region.wanted o (yielded ops a.tmps) = true then Oper.wp Tryz.prog o a w K Q else E :=
  step_call hg hrun hc fun e w' hh => by
    rcases hh with ⟨er, p, hr, rfl, hbu⟩ | ⟨x, s', V', hr, rfl, h1⟩
    · exact her er p w' hr hbu
    · exact hok x s' V' w' hr h1
/-- A token's box beside the parser's memory. -/
theorem box_beside {oo : Nat} {P : Nat → Prop} {w w' : World} {V V' : Value} {s' : PS} {k : Nat} {v0 v1 v2 v3 v4 : Value} (h : St B g b oo P w V w' V' s') (hb : Box w k v0 v1 v2 v3 v4) (hg : k ≠ g) (hV : V.ownBlock ≠ some k) : Box w' k v0 v1 v2 v3 v4 :=
  hb.but h.but (fun e => e.elim hg hV)
end Go.Proofs.YthdljnakmekhkaaGreatDoor


/- fclause, class, cclause. -/
namespace Go.Proofs.YthdljnakmekhkaaGreatDoor
open Go.RowKit Go.Lib
attribute [local go_sem] store_float f64bits
attribute [local go_sem ↓] Go.wp_at_zero Go.wp_at_succ
attribute [local go_sem] nd_p tk_k tk_x tk_n tk_f tk_p
variable {B g b o : Nat} {e : PM Nat}

set_option maxHeartbeats 2000000 in
set_option maxRecDepth 100000 in
theorem pFclause (hE : EC B g b o e) {P : Nat → Prop} {w : World} {V : Value} {s : PS} (h : At B g b o P w V s) :
    Calls Tryz.prog 79 #[.pointer (some ⟨g, 0, none⟩)] w fun r w' => Rz B g b o P w V (Gm.fclause e s) iv r w' := by
  have H : Hid (St B g b o P w V w V s) := hidb h
  obtain ⟨R, hR⟩ : ∃ R, Gm.fclause e s = R := ⟨_, rfl⟩
  rw [hR]
  have HR := hidb hR.symm
  clear hR
  have HP := hidb h.plt
  have HE := hidb hE
  clear h hE
  go_enter Tryz.func79, Tryz.ntmps79
  go_wp2_with (first
    | (go_at_call 51; refine (sNeedK (k := 1) (by omega) H.out.at).mono ?_; rintro r1 w1 (⟨er, q, hq, rfl, hbu⟩ | ⟨t, s1, hq, rfl, hs⟩) <;> first | (have HL := hidb hs; have H := hidb (H.out.trans hs); (first | (with_reducible have HR := hidb (HR.out.trans hq)) | have HR := hidb (HR.out.trans (Gm.bind_ok hq)));  clear hs hq) | ((first | (with_reducible have HR := hidb (HR.out.trans hq)) | have HR := hidb (HR.out.trans (Gm.bind_err hq))); have HBU := hidb (but_then H.out.but H.out.own hbu); clear hq hbu)))
  · exact ⟨rfl, .inl ⟨_, _, HR.out, rfl, HBU.out⟩⟩
  have hX : ∀ ob : Obj, Below w1.heap.size w1 (w1.alloc ob).drew := fun ob => Below.drew (below_new w1 ob)
  have HX := hidb (H.out.below (hX (.cells #[.int .i64 t.k, .string t.x, .int .i64 t.n, .float .f64 t.f, .int .i64 (t.p : Int)] 41)))
  have BX := hidb ((Box.new w1 41 (.int .i64 t.k) (.string t.x) (.int .i64 t.n) (.float .f64 t.f) (.int .i64 (t.p : Int))).keep (Below.drew (Below.refl _ _)))
  have hg1 := H.out.glt
  have hv1 := H.out.at.fresh
  go_region_law (first
    | (refine step_rzL rfl (run_call ent_args #[.tmp 11] _ rfl #[.pointer (some ⟨g, 0, none⟩)] rfl) (pArgs HE.out HX.out.at) (fun er q w' hq hbu => ⟨rfl, .inl ⟨_, _, HR.out.trans (Gm.bind_err hq), rfl, but_then HX.out.but HX.out.own hbu⟩⟩) ?_; intro l s2 V2 v w2 hq hs hs2 hi hlen; obtain ⟨la, lc, rfl⟩ := hi.sl; have HI := hidb (hi.rebase HX.out.but.size); have HN := hidb hlen; have H2 := hidb (HX.out.trans hs2); have HR2 := hidb (HR.out.trans (Gm.bind_ok hq)); obtain ⟨d0, d1, d2, d3, d4, -⟩ := box_beside hs BX.out (by omega) hv1; clear hs hs2 hi hq hlen)
    | (refine step_rz rfl (run_call ent_tail #[.tmp 6, .tmp 8, .tmp 10, .tmp 12] _ rfl #[.pointer (some ⟨g, 0, none⟩), iv t.p, .string t.x, .slice la l.length lc] rfl) (pTail HE.out t.p t.x l H2.out HI.out HN.out HP.out) (fun er q w' hq hbu => ⟨rfl, .inl ⟨_, _, HR2.out.trans hq, rfl, hbu⟩⟩) ?_; intro z s3 V3 w3 hq hs; have H3 := hidb hs; have HR3 := hidb (HR2.out.trans hq); clear hs hq))
  all_goals (
    go_wp2_with fail
    exact bodyPost_ret (v := iv z) (by simp [results, Tryz.results79, go_sem]) rfl (.inr ⟨_, _, _, HR3.out, rfl, H3.out⟩))

set_option maxHeartbeats 2000000 in
set_option maxRecDepth 100000 in
theorem pLeaf {P : Nat → Prop} {w : World} {V : Value} {s : PS} (h : At B g b o P w V s) (hk : (Gm.hd s).k ≠ 8) :
    Calls Tryz.prog 157 #[.pointer (some ⟨g, 0, none⟩)] w fun r w' => Rz B g b o P w V (Gm.leaf s) iv r w' := by
  have H : Hid (St B g b o P w V w V s) := hidb h
  obtain ⟨R, hR⟩ : ∃ R, Gm.leaf s = R := ⟨_, rfl⟩
  rw [hR]
  have HR := hidb hR.symm
  clear hR
  have HK := hidb hk
  clear h hk
  go_enter Tryz.func157, Tryz.ntmps157
  go_wp2_with (first
    | (go_at_call 50; refine (sNext H.out.at HK.out).mono ?_; rintro r1 w1 ⟨t, s1, hq, rfl, hs⟩; have H := hidb (H.out.trans hs); have HR := hidb (HR.out.trans (Gm.bind_next hq)); have Tt := hidb hq.1; clear hs hq))
  have hX : ∀ ob : Obj, Below w1.heap.size w1 (w1.alloc ob).drew := fun ob => Below.drew (below_new w1 ob)
  have HX := hidb (H.out.below (hX (.cells #[.int .i64 t.k, .string t.x, .int .i64 t.n, .float .f64 t.f, .int .i64 (t.p : Int)] 41)))
  have hLK := pLeafKind_any t.k (w1.alloc (.cells #[.int .i64 t.k, .string t.x, .int .i64 t.n, .float .f64 t.f, .int .i64 (t.p : Int)] 41)).drew
  obtain ⟨lk, hlk⟩ : ∃ lk, Gm.leafKind t.k = lk := ⟨_, rfl⟩
  rw [hlk] at hLK
  have HR := hidb (HR.out.trans (by rw [hlk]) : R = Gm.lay ⟨lk, t.x, t.n, t.f, [], t.p⟩ s1)
  clear hlk
  have BX := hidb ((Box.new w1 41 (.int .i64 t.k) (.string t.x) (.int .i64 t.n) (.float .f64 t.f) (.int .i64 (t.p : Int))).keep (Below.drew (Below.refl _ _)))
  have hg1 := H.out.glt
  have hv1 := H.out.at.fresh
  obtain ⟨y0, y1, y2, y3, y4, -⟩ := BX.out
  go_region_held2 (fun w' => w'.cell? ⟨w1.heap.size, 0, none⟩ = some (.int .i64 t.k) ∧ w'.cell? ⟨w1.heap.size, 1, none⟩ = some (.string t.x) ∧ w'.cell? ⟨w1.heap.size, 2, none⟩ = some (.int .i64 t.n) ∧ w'.cell? ⟨w1.heap.size, 3, none⟩ = some (.float .f64 t.f) ∧ w'.cell? ⟨w1.heap.size, 4, none⟩ = some (.int .i64 (t.p : Int)))
    (first | with_reducible exact ⟨z0, z1, z2, z3, z4⟩ | with_reducible exact ⟨y0, y1, y2, y3, y4⟩ | go_keep)
    (first
      | (go_at_call 160; refine hLK.mono ?_; rintro r1 w2 ⟨rfl, rfl⟩)
      | (go_at_call 53; refine (sLayR HR.out HX.out.at (LR.none _ _ _ _)).mono ?_; rintro r1 w2 (⟨er, q, hq, rfl, hbu⟩ | ⟨z, s3, V3, hq, rfl, hs⟩) <;> first | (obtain ⟨z0, z1, z2, z3, z4, -⟩ := box_beside hs BX.out (by omega) hv1; have H3 := hidb (HX.out.trans hs); have HR3 := hidb hq; clear hs hq) | exact ⟨rfl, .inl ⟨_, _, hq, rfl, but_then HX.out.but HX.out.own hbu⟩⟩))
  all_goals (
    go_wp2_with fail
    exact bodyPost_ret (v := iv z) (by simp [results, Tryz.results157, go_sem]) rfl (.inr ⟨_, _, _, HR3.out, rfl, H3.out⟩))

theorem strs (x : ByteArray) (l : List UInt8) : (x.toList == l) = decide (x = ⟨l.toArray⟩) := by
  rw [ByteArray.toList_eq]
  by_cases h : x = ⟨l.toArray⟩
  · subst h; simp
  · have : x.data.toList ≠ l := fun e => h (by cases x; simp at e; simp [← e])
    simp [h, this]

set_option maxHeartbeats 2000000 in
theorem pIsClass_any (t : Tk) (w : World) : Calls Tryz.prog 176 #[t.val] w fun r w' => r = .returned (.bool (Gm.isClass t)) ∧ Below w.heap.size w w' := by
  obtain ⟨tk, tx, tn, tf, tp⟩ := t
  have q1 := strs tx [95]
  have q2 := strs tx [101, 114, 114, 111, 114]
  have q3 := strs tx [101, 120, 105, 116]
  have q4 := strs tx [116, 104, 114, 111, 119]
  obtain ⟨C, hC⟩ : ∃ C, Gm.isClass ⟨tk, tx, tn, tf, tp⟩ = C := ⟨_, rfl⟩
  rw [hC]
  simp only [Gm.isClass] at hC
  change (if tk = 2 then decide (tx = ⟨[95].toArray⟩) else decide (tx = ⟨[101, 114, 114, 111, 114].toArray⟩) || decide (tx = ⟨[101, 120, 105, 116].toArray⟩) || decide (tx = ⟨[116, 104, 114, 111, 119].toArray⟩)) = C at hC
  rw [← q1, ← q2, ← q3, ← q4] at hC
  clear q1 q2 q3 q4
  generalize e1 : (tx.toList == [95]) = b1 at hC
  generalize e2 : (tx.toList == [101, 114, 114, 111, 114]) = b2 at hC
  generalize e3 : (tx.toList == [101, 120, 105, 116]) = b3 at hC
  generalize e4 : (tx.toList == [116, 104, 114, 111, 119]) = b4 at hC
  have HC := hidb hC
  clear hC
  simp only [Tk.val]
  go_enter Tryz.func176, Tryz.ntmps176
  go_wp2_with fail
  · exact bodyPost_ret (v := .bool b1) (by simp [results, Tryz.results176, go_sem]) rfl ⟨by have := HC.out; simp_all, below_new _ _⟩
  · exact bodyPost_ret (v := .bool true) (by simp [results, Tryz.results176, go_sem]) rfl ⟨by have := HC.out; simp_all, below_new _ _⟩
  · exact bodyPost_ret (v := .bool true) (by simp [results, Tryz.results176, go_sem]) rfl ⟨by have := HC.out; simp_all, below_new _ _⟩
  · exact bodyPost_ret (v := .bool b4) (by simp [results, Tryz.results176, go_sem]) rfl ⟨by have := HC.out; simp_all, below_new _ _⟩
end Go.Proofs.YthdljnakmekhkaaGreatDoor


