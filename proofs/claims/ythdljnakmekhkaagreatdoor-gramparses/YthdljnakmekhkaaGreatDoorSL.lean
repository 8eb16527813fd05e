import Derived.Test.YthdljnakmekhkaaGreatDoorSH
namespace Go.Proofs.YthdljnakmekhkaaGreatDoor
namespace Rf
open Go.RowKit Go.Lib
attribute [local go_sem] store_float f64bits
attribute [local go_sem ↓] Go.wp_at_zero Go.wp_at_succ
attribute [local go_sem] nd_p tk_k tk_x tk_n tk_f tk_p
variable {B g b o : Nat} {e : PM Nat}
set_option maxHeartbeats 8000000 in
set_option maxRecDepth 100000 in
theorem pCaught1T (hE : EC B g b o e) {P : Nat → Prop} {w : World} {V : Value} {s : PS} (h : At B g b o P w V s) (hk : (Gm.hd s).k = 1) (hm : Gm.isM (Gm.hd2 s) ⟨#[58]⟩ = true) (hc : Gm.isClass (Gm.hd s) = true) (hx : ¬ (Gm.hd s).x = ⟨#[101, 114, 114, 111, 114]⟩ ∧ ¬ (Gm.hd s).x = ⟨#[101, 120, 105, 116]⟩ ∧ (Gm.hd s).x = ⟨#[116, 104, 114, 111, 119]⟩) :
    Calls Tryz.prog 156 #[.pointer (some ⟨g, 0, none⟩)] w fun r w' => Rz B g b o P w V (Gm.cclause e s) r w' := by
  have H : Hid (St B g b o P w V w V s) := hidb h
  obtain ⟨R, hR⟩ : ∃ R, Gm.cclause e s = R := ⟨_, rfl⟩
  rw [hR]
  have HR := hidb hR.symm
  have HP := hidb h.plt
  have HE := hidb hE
  clear hR h hE
  have htg := H.out.tg
  have HN : Hid (Tg (Gm.hd s)) := hidb htg
  clear htg
  go_enter Tryz.func156, Tryz.ntmps156
  go_wp2_with (go_at_call 26; refine (sNow H.out).mono ?_; rintro r1 w1 ⟨⟨tk, tx, tn, tf, tp⟩, hq, rfl, hb⟩; have TT := hidb hq; replace H := hidb (H.out.below hb); clear hb hq)
  have htg := HN.out
  rw [TT.out] at htg
  clear HN
  have hsz := H.out.glt
  replace HR := hidb (HR.out.trans (Gm.bind_here TT.out))
  have HX := hidb (Box.new w1 41 (.int .i64 tk) (.string tx) (.int .i64 tn) (.float .f64 tf) (.int .i64 (tp : Int)))
  replace H := hidb (H.out.hold (.cells #[.int .i64 tk, .string tx, .int .i64 tn, .float .f64 tf, .int .i64 (tp : Int)] 41))
  generalize (w1.alloc (.cells #[.int .i64 tk, .string tx, .int .i64 tn, .float .f64 tf, .int .i64 (tp : Int)] 41)) = W1 at H HX ⊢
  generalize w1.heap.size = xb at H HX ⊢
  clear hsz
  obtain ⟨x0, x1, x2, x3, x4, -, -, -, -, -, xl⟩ := HX.out
  rw [TT.out] at hk
  simp only at hk
  subst hk
  obtain ⟨TS, i, hq, hts, hg, he⟩ := H.out.pb
  have ht0 := hd_tok hq.ilt hts
  rw [TT.out] at ht0
  obtain ⟨u, hu⟩ := hq.nextTok he ht0 (by simp)
  have htk := hq.toks
  obtain ⟨k0, k1, -, -, -⟩ := tks_at htk (i + 1) u hu
  simp only [Nat.zero_add] at k0 k1
  have hlt := (List.getElem?_eq_some_iff.1 hu).1
  have hfw := hq.few
  have hbl := hq.lt
  have UU := hidb (hd2_tok hts hu)
  have htu := hg u (List.mem_of_getElem? hu)
  obtain ⟨⟨cap, h6⟩, -⟩ := hq
  obtain ⟨c0, c1, -, -, -, -, -, -, -, -, -, -, gl⟩ := h6
  generalize TS.length = N at c0 hlt hfw
  obtain ⟨uk, ux, un, uf, up⟩ := u
  obtain ⟨J, hJ⟩ : ∃ J, i + 1 = J := ⟨_, rfl⟩
  have v1 : IntKind.i64.wrap ((i : Int) + 1) = (J : Int) := by rw [IntKind.wrap_i64]; omega
  have j0 : (0 : Int) ≤ (J : Int) := by omega
  have j1 : (J : Int) < (N : Int) := by omega
  rw [hJ] at k0 k1
  simp only at k0 k1
  clear hJ hlt hfw htk hu hts hg he ht0
  rw [UU.out] at hm
  have HM := hidb hm
  have HN := hidb (htg.txt (by simp))
  rw [isM_sign htu rfl, Bool.and_eq_true, decide_eq_true_eq, decide_eq_true_eq] at hm
  have d2 : (uk == 6) = true := by simp at hm ⊢; exact hm.1
  have hux : ux = ⟨#[58]⟩ := hm.2
  subst hux
  have hu6 : uk = 6 := hm.1
  subst hu6
  rw [TT.out] at hc
  have HC := hidb hc
  rw [TT.out] at hx
  simp only at hx
  obtain rfl := hx.2.2
  clear hx hc
  clear hm htg htu
  go_big_quiet (fail)
  have hbd : Below W1.heap.size W1 (W1.drewN nq) := below_drewN (Below.refl _ _) nq
  replace H := hidb (H.out.below hbd)
  replace HX := hidb (HX.out.keep hbd)
  clear hbd x0 x1 x2 x3 x4 xl c0 c1 k0 k1
  generalize W1.drewN nq = W2 at H HX ⊢
  obtain ⟨x0, x1, x2, x3, x4, -, -, -, -, -, xl⟩ := HX.out
  go_wp2_with (first
    | (go_at_call 32; refine (sNode ⟨3, ⟨#[116, 104, 114, 111, 119]⟩, 0, 0, [], tp⟩ _ H.out.at (LR.none _ _ _ _)).mono ?_; rintro r1 w2 (⟨er, q, c, hq, rfl, hbd⟩ | ⟨c, s1, V1, hq, rfl, hs⟩) <;> first | (have HK8 := hidb (hk_of (hd_at (lay_ts hq) TT.out) (by simp)); have HK9 := hidb (hk_of (hd2_at (lay_ts hq) UU.out) (by simp)); replace HR := hidb (HR.out.trans (cls_ok TT.out UU.out (by simp) HM.out HC.out HN.out hq)); replace H := hidb (H.out.trans hs); clear hs hq) | (have HRE := hidb (HR.out.trans (cls_err TT.out UU.out (by simp) HM.out HC.out HN.out hq)); have HB : Hid (But (· = g) w2 w2) := hidb (But.refl _ _); replace H := hidb (H.out.bad hbd); clear hq hbd HR))
    | (go_at_call 29; refine (sNext H.out.at HK8.out).mono ?_; rintro r1 w2 ⟨rfl, hs⟩; replace H := hidb (H.out.trans hs); clear hs HK8)
    | (go_at_call 29; refine (sNext H.out.at HK9.out).mono ?_; rintro r1 w2 ⟨rfl, hs⟩; replace H := hidb (H.out.trans hs); clear hs HK9)
    | (go_at_call 104; refine (HE.out.run H.out.at).mono ?_; rintro r1 w2 (⟨er, q, x, hq, rfl, hbd⟩ | ⟨x, s2, V2, hq, rfl, hs⟩) <;> first | (replace H := hidb (H.out.trans hs); replace HR := hidb (HR.out.trans (Gm.bind_ok hq)); clear hs hq) | (have HRE := hidb (HR.out.trans (Gm.bind_err hq)); have HB : Hid (But (· = g) w2 w2) := hidb (But.refl _ _); replace H := hidb (H.out.bad hbd); clear hq hbd HR))
    | (go_at_call 63; refine (pClause HE.out _ [c, x] _ tp (IR.lit H.out #[iv c, iv x] [c, x] rfl (by simp)).2.at (IR.lit H.out #[iv c, iv x] [c, x] rfl (by simp)).1 (by simp)).mono ?_; rintro r1 w3 (⟨er, q, z, hq, rfl, hbd⟩ | ⟨z, s2, V2, hq, rfl, hs⟩) <;> first | (replace H := hidb ((IR.lit H.out #[iv c, iv x] [c, x] rfl (by simp)).2.trans hs).drop; replace HR := hidb (HR.out.trans hq); clear hs hq) | (have HRE := hidb (HR.out.trans hq); replace H := hidb ((IR.lit H.out #[iv c, iv x] [c, x] rfl (by simp)).2.bad hbd); clear hq hbd HR))
    | (go_at_call 32; refine (bNode _ _ _ _ _ _ H.out).mono ?_; rintro r1 w2 ⟨rfl, hd, hb⟩; replace HB := hidb (HB.out.trans hb); replace H := hidb hd; clear hb hd)
    | (go_at_call 29; refine (bNext H.out).mono ?_; rintro r1 w2 ⟨rfl, hb⟩; replace HB := hidb (HB.out.trans (But.of_below hb)); replace H := hidb (H.out.keep hb); clear hb)
    | (go_at_call 104; refine (bExpr H.out).mono ?_; rintro r1 w2 ⟨rfl, hd, hb⟩; replace HB := hidb (HB.out.trans hb); replace H := hidb hd; clear hb hd)
    | (go_at_call 63; refine (bClause _ [c, x] _ _ (lit_row w2 #[iv c, iv x] [c, x] rfl (by simp)) (lit_ng H.out 2 2) (H.out.keep (below_new _ _))).mono ?_; rintro r1 w3 ⟨rfl, hd, hb⟩; replace H := hidb hd; clear hb hd)
    | (go_at_call 63; refine (bClause _ [c, 0] _ _ (lit_row w2 #[iv c, iv 0] [c, 0] rfl (by simp)) (lit_ng H.out 2 2) (H.out.keep (below_new _ _))).mono ?_; rintro r1 w3 ⟨rfl, hd, hb⟩; replace H := hidb hd; clear hb hd)
    | (go_at_call 63; refine (bClause _ [0, 0] _ _ (lit_row w2 #[iv 0, iv 0] [0, 0] rfl (by simp)) (lit_ng H.out 2 2) (H.out.keep (below_new _ _))).mono ?_; rintro r1 w3 ⟨rfl, hd, hb⟩; replace H := hidb hd; clear hb hd))
  all_goals (
    go_ret
    first
      | exact .inr ⟨_, _, _, HR.out, rfl, H.out.drop⟩
      | exact .inl ⟨_, _, _, HRE.out, rfl, H.out⟩)
set_option maxHeartbeats 8000000 in
set_option maxRecDepth 100000 in
theorem pCaught1B (hE : EC B g b o e) {P : Nat → Prop} {w : World} {V : Value} {s : PS} (h : At B g b o P w V s) (hk : (Gm.hd s).k = 1) (hm : Gm.isM (Gm.hd2 s) ⟨#[58]⟩ = true) (hc : Gm.isClass (Gm.hd s) = false) (hx : ¬ (Gm.hd s).x = ⟨#[101, 114, 114, 111, 114]⟩ ∧ ¬ (Gm.hd s).x = ⟨#[101, 120, 105, 116]⟩ ∧ ¬ (Gm.hd s).x = ⟨#[116, 104, 114, 111, 119]⟩) :
    Calls Tryz.prog 156 #[.pointer (some ⟨g, 0, none⟩)] w fun r w' => Rz B g b o P w V (Gm.cclause e s) r w' := by
  have H : Hid (St B g b o P w V w V s) := hidb h
  obtain ⟨R, hR⟩ : ∃ R, Gm.cclause e s = R := ⟨_, rfl⟩
  rw [hR]
  have HR := hidb hR.symm
  have HP := hidb h.plt
  have HE := hidb hE
  clear hR h hE
  have htg := H.out.tg
  have HN : Hid (Tg (Gm.hd s)) := hidb htg
  clear htg
  go_enter Tryz.func156, Tryz.ntmps156
  go_wp2_with (go_at_call 26; refine (sNow H.out).mono ?_; rintro r1 w1 ⟨⟨tk, tx, tn, tf, tp⟩, hq, rfl, hb⟩; have TT := hidb hq; replace H := hidb (H.out.below hb); clear hb hq)
  have htg := HN.out
  rw [TT.out] at htg
  clear HN
  have hsz := H.out.glt
  replace HR := hidb (HR.out.trans (Gm.bind_here TT.out))
  have HX := hidb (Box.new w1 41 (.int .i64 tk) (.string tx) (.int .i64 tn) (.float .f64 tf) (.int .i64 (tp : Int)))
  replace H := hidb (H.out.hold (.cells #[.int .i64 tk, .string tx, .int .i64 tn, .float .f64 tf, .int .i64 (tp : Int)] 41))
  generalize (w1.alloc (.cells #[.int .i64 tk, .string tx, .int .i64 tn, .float .f64 tf, .int .i64 (tp : Int)] 41)) = W1 at H HX ⊢
  generalize w1.heap.size = xb at H HX ⊢
  clear hsz
  obtain ⟨x0, x1, x2, x3, x4, -, -, -, -, -, xl⟩ := HX.out
  rw [TT.out] at hk
  simp only at hk
  subst hk
  obtain ⟨TS, i, hq, hts, hg, he⟩ := H.out.pb
  have ht0 := hd_tok hq.ilt hts
  rw [TT.out] at ht0
  obtain ⟨u, hu⟩ := hq.nextTok he ht0 (by simp)
  have htk := hq.toks
  obtain ⟨k0, k1, -, -, -⟩ := tks_at htk (i + 1) u hu
  simp only [Nat.zero_add] at k0 k1
  have hlt := (List.getElem?_eq_some_iff.1 hu).1
  have hfw := hq.few
  have hbl := hq.lt
  have UU := hidb (hd2_tok hts hu)
  have htu := hg u (List.mem_of_getElem? hu)
  obtain ⟨⟨cap, h6⟩, -⟩ := hq
  obtain ⟨c0, c1, -, -, -, -, -, -, -, -, -, -, gl⟩ := h6
  generalize TS.length = N at c0 hlt hfw
  obtain ⟨uk, ux, un, uf, up⟩ := u
  obtain ⟨J, hJ⟩ : ∃ J, i + 1 = J := ⟨_, rfl⟩
  have v1 : IntKind.i64.wrap ((i : Int) + 1) = (J : Int) := by rw [IntKind.wrap_i64]; omega
  have j0 : (0 : Int) ≤ (J : Int) := by omega
  have j1 : (J : Int) < (N : Int) := by omega
  rw [hJ] at k0 k1
  simp only at k0 k1
  clear hJ hlt hfw htk hu hts hg he ht0
  rw [UU.out] at hm
  have HM := hidb hm
  have HN := hidb (htg.txt (by simp))
  rw [isM_sign htu rfl, Bool.and_eq_true, decide_eq_true_eq, decide_eq_true_eq] at hm
  have d2 : (uk == 6) = true := by simp at hm ⊢; exact hm.1
  have hux : ux = ⟨#[58]⟩ := hm.2
  subst hux
  have hu6 : uk = 6 := hm.1
  subst hu6
  rw [TT.out] at hc
  have HC := hidb hc
  rw [TT.out] at hx
  simp only at hx
  have d7 : (tx.toList == [101, 114, 114, 111, 114]) = false := lit_f hx.1
  have d8 : ¬ tx.toList = [101, 114, 114, 111, 114] := lit_F hx.1
  have d9 : (tx.toList == [101, 120, 105, 116]) = false := lit_f hx.2.1
  have d10 : ¬ tx.toList = [101, 120, 105, 116] := lit_F hx.2.1
  have d11 : (tx.toList == [116, 104, 114, 111, 119]) = false := lit_f hx.2.2
  have d12 : ¬ tx.toList = [116, 104, 114, 111, 119] := lit_F hx.2.2
  clear hx hc
  have HRE := hidb (HR.out.trans (cls_no TT.out UU.out (by simp) HM.out HC.out))
  clear HR
  clear hm htg htu
  go_big_quiet (fail)
  have hbd : Below W1.heap.size W1 (W1.drewN nq) := below_drewN (Below.refl _ _) nq
  replace H := hidb (H.out.below hbd)
  replace HX := hidb (HX.out.keep hbd)
  clear hbd x0 x1 x2 x3 x4 xl c0 c1 k0 k1
  generalize W1.drewN nq = W2 at H HX ⊢
  obtain ⟨x0, x1, x2, x3, x4, -, -, -, -, -, xl⟩ := HX.out
  go_wp2_with (first
    | (go_at_call 28; refine (sFail H.out.at tp (by decide)).mono ?_; rintro r1 w2 ⟨rfl, hbd⟩; replace HX := hidb (Box.but HX.out hbd.but (bx_no H.out)); obtain ⟨x0, x1, x2, x3, x4, -, -, -, -, -, xl⟩ := HX.out; have HB : Hid (But (· = g) w2 w2) := hidb (But.refl _ _); replace H := hidb (H.out.bad hbd); clear hbd)
    | (go_at_call 32; refine (bNode _ _ _ _ _ _ H.out).mono ?_; rintro r1 w2 ⟨rfl, hd, hb⟩; replace HB := hidb (HB.out.trans hb); replace H := hidb hd; clear hb hd)
    | (go_at_call 29; refine (bNext H.out).mono ?_; rintro r1 w2 ⟨rfl, hb⟩; replace HB := hidb (HB.out.trans (But.of_below hb)); replace H := hidb (H.out.keep hb); clear hb)
    | (go_at_call 104; refine (bExpr H.out).mono ?_; rintro r1 w2 ⟨rfl, hd, hb⟩; replace HB := hidb (HB.out.trans hb); replace H := hidb hd; clear hb hd)
    | (go_at_call 63; refine (bClause _ [c, x] _ _ (lit_row w2 #[iv c, iv x] [c, x] rfl (by simp)) (lit_ng H.out 2 2) (H.out.keep (below_new _ _))).mono ?_; rintro r1 w3 ⟨rfl, hd, hb⟩; replace H := hidb hd; clear hb hd)
    | (go_at_call 63; refine (bClause _ [c, 0] _ _ (lit_row w2 #[iv c, iv 0] [c, 0] rfl (by simp)) (lit_ng H.out 2 2) (H.out.keep (below_new _ _))).mono ?_; rintro r1 w3 ⟨rfl, hd, hb⟩; replace H := hidb hd; clear hb hd)
    | (go_at_call 63; refine (bClause _ [0, 0] _ _ (lit_row w2 #[iv 0, iv 0] [0, 0] rfl (by simp)) (lit_ng H.out 2 2) (H.out.keep (below_new _ _))).mono ?_; rintro r1 w3 ⟨rfl, hd, hb⟩; replace H := hidb hd; clear hb hd))
  all_goals (
    go_ret
    first
      | exact .inr ⟨_, _, _, HR.out, rfl, H.out.drop⟩
      | exact .inl ⟨_, _, _, HRE.out, rfl, H.out⟩)
end Rf
end Go.Proofs.YthdljnakmekhkaaGreatDoor
