import Derived.Test.YthdljnakmekhkaaGreatDoorG19
import Derived.Test.YthdljnakmekhkaaGreatDoorG11
import Derived.Test.YthdljnakmekhkaaGreatDoorG15
import Derived.Deep.RegionHeld2
/- The reference's parser: a clause of a catch, its class. -/
namespace Go.Proofs.YthdljnakmekhkaaGreatDoor
namespace Rf
open Go.RowKit Go.Lib
attribute [local go_sem] store_float f64bits
attribute [local go_sem ↓] Go.wp_at_zero Go.wp_at_succ
attribute [local go_sem] nd_p tk_k tk_x tk_n tk_f tk_p
variable {B g b o : Nat} {e : PM Nat}

set_option maxHeartbeats 8000000 in
set_option maxRecDepth 100000 in
theorem pCaught1T (hE : EC B g b o e) {P : Nat → Prop} {w : World} {V : Value} {s : PS} (h : At B g b o P w V s) (hk : (Gm.hd s).k = 1) (hm : Gm.isM (Gm.hd2 s) ⟨#[58]⟩ = true) (hc : Gm.isClass (Gm.hd s) = true) (hx : ¬ (Gm.hd s).x = ⟨#[101, 114, 114, 111, 114]⟩ ∧ ¬ (Gm.hd s).x = ⟨#[101, 120, 105, 116]⟩ ∧ (Gm.hd s).x = ⟨#[116, 104, 114, 111, 119]⟩) :
    Calls Tryz.prog 156 #[.pointer (some ⟨g, 0, none⟩)] w fun r w' => Rz B g b o P w V (Gm.cclause e s) r w' := by
  have H : Hid (St B g b o P w V w V s) := hidb h
  obtain ⟨R, hR⟩ : ∃ R, Gm.cclause e s = R := ⟨_, rfl⟩
  rw [hR]
  have HR := hidb hR.symm
  have HP := hidb h.plt
  have HE := hidb hE
  clear hR h hE
  have htg := H.out.tg
  have HN : Hid (Tg (Gm.hd s)) := hidb htg
  clear htg
  go_enter Tryz.func156, Tryz.ntmps156
  go_wp2_with (go_at_call 26; refine (sNow H.out).mono ?_; rintro r1 w1 ⟨⟨tk, tx, tn, tf, tp⟩, hq, rfl, hb⟩; have TT := hidb hq; replace H := hidb (H.out.below hb); clear hb hq)
  have htg := HN.out
  rw [TT.out] at htg
  clear HN
  have hsz := H.out.glt
  replace HR := hidb (HR.out.trans (Gm.bind_here TT.out))
  have HX := hidb (Box.new w1 41 (.int .i64 tk) (.string tx) (.int .i64 tn) (.float .f64 tf) (.int .i64 (tp : Int)))
  replace H := hidb (H.out.hold (.cells #[.int .i64 tk, .string tx, .int .i64 tn, .float .f64 tf, .int .i64 (tp : Int)] 41))
  generalize (w1.alloc (.cells #[.int .i64 tk, .string tx, .int .i64 tn, .float .f64 tf, .int .i64 (tp : Int)] 41)) = W1 at H HX ⊢
  generalize w1.heap.size = xb at H HX ⊢
  clear hsz
  obtain ⟨x0, x1, x2, x3, x4, -, -, -, -, -, xl⟩ := HX.out
  rw [TT.out] at hk
  simp only at hk
  subst hk
  obtain ⟨TS, i, hq, hts, hg, he⟩ := H.out.pb
  have ht0 := hd_tok hq.ilt hts
  rw [TT.out] at ht0
  obtain ⟨u, hu⟩ := hq.nextTok he ht0 (by simp)
  have htk := hq.toks
  obtain ⟨k0, k1, -, -, -⟩ := tks_at htk (i + 1) u hu
  simp only [Nat.zero_add] at k0 k1
  have hlt := (List.getElem?_eq_some_iff.1 hu).1
  have hfw := hq.few
  have hbl := hq.lt
  have UU := hidb (hd2_tok hts hu)
  have htu := hg u (List.mem_of_getElem? hu)
  obtain ⟨⟨cap, h6⟩, -⟩ := hq
  obtain ⟨c0, c1, -, -, -, -, -, -, -, -, -, -, gl⟩ := h6
  generalize TS.length = N at c0 hlt hfw
  obtain ⟨uk, ux, un, uf, up⟩ := u
  obtain ⟨J, hJ⟩ : ∃ J, i + 1 = J := ⟨_, rfl⟩
  have v1 : IntKind.i64.wrap ((i : Int) + 1) = (J : Int) := by rw [IntKind.wrap_i64]; omega
  have j0 : (0 : Int) ≤ (J : Int) := by omega
  have j1 : (J : Int) < (N : Int) := by omega
  rw [hJ] at k0 k1
  simp only at k0 k1
  clear hJ hlt hfw htk hu hts hg he ht0
  rw [UU.out] at hm
  have HM := hidb hm
  have HN := hidb (htg.txt (by simp))
  rw [isM_sign htu rfl, Bool.and_eq_true, decide_eq_true_eq, decide_eq_true_eq] at hm
  have d2 : (uk == 6) = true := by simp at hm ⊢; exact hm.1
  have hux : ux = ⟨#[58]⟩ := hm.2
  subst hux
  have hu6 : uk = 6 := hm.1
  subst hu6
  rw [TT.out] at hc
  have HC := hidb hc
  rw [TT.out] at hx
  simp only at hx
  obtain rfl := hx.2.2
  clear hx hc
  clear hm htg htu
  go_big_quiet (fail)
  have hbd : Below W1.heap.size W1 (W1.drewN nq) := below_drewN (Below.refl _ _) nq
  replace H := hidb (H.out.below hbd)
  replace HX := hidb (HX.out.keep hbd)
  clear hbd x0 x1 x2 x3 x4 xl c0 c1 k0 k1
  generalize W1.drewN nq = W2 at H HX ⊢
  obtain ⟨x0, x1, x2, x3, x4, -, -, -, -, -, xl⟩ := HX.out
  go_wp2_with (first
    | (go_at_call 32; refine (sNode ⟨3, ⟨#[116, 104, 114, 111, 119]⟩, 0, 0, [], tp⟩ _ H.out.at (LR.none _ _ _ _)).mono ?_; rintro r1 w2 (⟨er, q, c, hq, rfl, hbd⟩ | ⟨c, s1, V1, hq, rfl, hs⟩) <;> first | (have HK8 := hidb (hk_of (hd_at (lay_ts hq) TT.out) (by simp)); have HK9 := hidb (hk_of (hd2_at (lay_ts hq) UU.out) (by simp)); replace HR := hidb (HR.out.trans (cls_ok TT.out UU.out (by simp) HM.out HC.out HN.out hq)); replace H := hidb (H.out.trans hs); clear hs hq) | (have HRE := hidb (HR.out.trans (cls_err TT.out UU.out (by simp) HM.out HC.out HN.out hq)); have HB : Hid (But (· = g) w2 w2) := hidb (But.refl _ _); replace H := hidb (H.out.bad hbd); clear hq hbd HR))
    | (go_at_call 29; refine (sNext H.out.at HK8.out).mono ?_; rintro r1 w2 ⟨rfl, hs⟩; replace H := hidb (H.out.trans hs); clear hs HK8)
    | (go_at_call 29; refine (sNext H.out.at HK9.out).mono ?_; rintro r1 w2 ⟨rfl, hs⟩; replace H := hidb (H.out.trans hs); clear hs HK9)
    | (go_at_call 104; refine (HE.out.run H.out.at).mono ?_; rintro r1 w2 (⟨er, q, x, hq, rfl, hbd⟩ | ⟨x, s2, V2, hq, rfl, hs⟩) <;> first | (replace H := hidb (H.out.trans hs); replace HR := hidb (HR.out.trans (Gm.bind_ok hq)); clear hs hq) | (have HRE := hidb (HR.out.trans (Gm.bind_err hq)); have HB : Hid (But (· = g) w2 w2) := hidb (But.refl _ _); replace H := hidb (H.out.bad hbd); clear hq hbd HR))
    | (go_at_call 63; refine (pClause HE.out _ [c, x] _ tp (IR.lit H.out #[iv c, iv x] [c, x] rfl (by simp)).2.at (IR.lit H.out #[iv c, iv x] [c, x] rfl (by simp)).1 (by simp)).mono ?_; rintro r1 w3 (⟨er, q, z, hq, rfl, hbd⟩ | ⟨z, s2, V2, hq, rfl, hs⟩) <;> first | (replace H := hidb ((IR.lit H.out #[iv c, iv x] [c, x] rfl (by simp)).2.trans hs).drop; replace HR := hidb (HR.out.trans hq); clear hs hq) | (have HRE := hidb (HR.out.trans hq); replace H := hidb ((IR.lit H.out #[iv c, iv x] [c, x] rfl (by simp)).2.bad hbd); clear hq hbd HR))
    | (go_at_call 32; refine (bNode _ _ _ _ _ _ H.out).mono ?_; rintro r1 w2 ⟨rfl, hd, hb⟩; replace HB := hidb (HB.out.trans hb); replace H := hidb hd; clear hb hd)
    | (go_at_call 29; refine (bNext H.out).mono ?_; rintro r1 w2 ⟨rfl, hb⟩; replace HB := hidb (HB.out.trans (But.of_below hb)); replace H := hidb (H.out.keep hb); clear hb)
    | (go_at_call 104; refine (bExpr H.out).mono ?_; rintro r1 w2 ⟨rfl, hd, hb⟩; replace HB := hidb (HB.out.trans hb); replace H := hidb hd; clear hb hd)
    | (go_at_call 63; refine (bClause _ [c, x] _ _ (lit_row w2 #[iv c, iv x] [c, x] rfl (by simp)) (lit_ng H.out 2 2) (H.out.keep (below_new _ _))).mono ?_; rintro r1 w3 ⟨rfl, hd, hb⟩; replace H := hidb hd; clear hb hd)
    | (go_at_call 63; refine (bClause _ [c, 0] _ _ (lit_row w2 #[iv c, iv 0] [c, 0] rfl (by simp)) (lit_ng H.out 2 2) (H.out.keep (below_new _ _))).mono ?_; rintro r1 w3 ⟨rfl, hd, hb⟩; replace H := hidb hd; clear hb hd)
    | (go_at_call 63; refine (bClause _ [0, 0] _ _ (lit_row w2 #[iv 0, iv 0] [0, 0] rfl (by simp)) (lit_ng H.out 2 2) (H.out.keep (below_new _ _))).mono ?_; rintro r1 w3 ⟨rfl, hd, hb⟩; replace H := hidb hd; clear hb hd))
  all_goals (
    go_ret
    first
      | exact .inr ⟨_, _, _, HR.out, rfl, H.out.drop⟩
      | exact .inl ⟨_, _, _, HRE.out, rfl, H.out⟩)

set_option maxHeartbeats 8000000 in
set_option maxRecDepth 100000 in
theorem pCaught1B (hE : EC B g b o e) {P : Nat → Prop} {w : World} {V : Value} {s : PS} (h : At B g b o P w V s) (hk : (Gm.hd s).k = 1) (hm : Gm.isM (Gm.hd2 s) ⟨#[58]⟩ = true) (hc : Gm.isClass (Gm.hd s) = false) (hx : ¬ (Gm.hd s).x = ⟨#[101, 114, 114, 111, 114]⟩ ∧ ¬ (Gm.hd s).x = ⟨#[101, 120, 105, 116]⟩ ∧ ¬ (Gm.hd s).x = ⟨#[116, 104, 114, 111, 119]⟩) :
    Calls Tryz.prog 156 #[.pointer (some ⟨g, 0, none⟩)] w fun r w' => Rz B g b o P w V (Gm.cclause e s) r w' := by
  have H : Hid (St B g b o P w V w V s) := hidb h
  obtain ⟨R, hR⟩ : ∃ R, Gm.cclause e s = R := ⟨_, rfl⟩
  rw [hR]
  have HR := hidb hR.symm
  have HP := hidb h.plt
  have HE := hidb hE
  clear hR h hE
  have htg := H.out.tg
  have HN : Hid (Tg (Gm.hd s)) := hidb htg
  clear htg
  go_enter Tryz.func156, Tryz.ntmps156
  go_wp2_with (go_at_call 26; refine (sNow H.out).mono ?_; rintro r1 w1 ⟨⟨tk, tx, tn, tf, tp⟩, hq, rfl, hb⟩; have TT := hidb hq; replace H := hidb (H.out.below hb); clear hb hq)
  have htg := HN.out
  rw [TT.out] at htg
  clear HN
  have hsz := H.out.glt
  replace HR := hidb (HR.out.trans (Gm.bind_here TT.out))
  have HX := hidb (Box.new w1 41 (.int .i64 tk) (.string tx) (.int .i64 tn) (.float .f64 tf) (.int .i64 (tp : Int)))
  replace H := hidb (H.out.hold (.cells #[.int .i64 tk, .string tx, .int .i64 tn, .float .f64 tf, .int .i64 (tp : Int)] 41))
  generalize (w1.alloc (.cells #[.int .i64 tk, .string tx, .int .i64 tn, .float .f64 tf, .int .i64 (tp : Int)] 41)) = W1 at H HX ⊢
  generalize w1.heap.size = xb at H HX ⊢
  clear hsz
  obtain ⟨x0, x1, x2, x3, x4, -, -, -, -, -, xl⟩ := HX.out
  rw [TT.out] at hk
  simp only at hk
  subst hk
  obtain ⟨TS, i, hq, hts, hg, he⟩ := H.out.pb
  have ht0 := hd_tok hq.ilt hts
  rw [TT.out] at ht0
  obtain ⟨u, hu⟩ := hq.nextTok he ht0 (by simp)
  have htk := hq.toks
  obtain ⟨k0, k1, -, -, -⟩ := tks_at htk (i + 1) u hu
  simp only [Nat.zero_add] at k0 k1
  have hlt := (List.getElem?_eq_some_iff.1 hu).1
  have hfw := hq.few
  have hbl := hq.lt
  have UU := hidb (hd2_tok hts hu)
  have htu := hg u (List.mem_of_getElem? hu)
  obtain ⟨⟨cap, h6⟩, -⟩ := hq
  obtain ⟨c0, c1, -, -, -, -, -, -, -, -, -, -, gl⟩ := h6
  generalize TS.length = N at c0 hlt hfw
  obtain ⟨uk, ux, un, uf, up⟩ := u
  obtain ⟨J, hJ⟩ : ∃ J, i + 1 = J := ⟨_, rfl⟩
  have v1 : IntKind.i64.wrap ((i : Int) + 1) = (J : Int) := by rw [IntKind.wrap_i64]; omega
  have j0 : (0 : Int) ≤ (J : Int) := by omega
  have j1 : (J : Int) < (N : Int) := by omega
  rw [hJ] at k0 k1
  simp only at k0 k1
  clear hJ hlt hfw htk hu hts hg he ht0
  rw [UU.out] at hm
  have HM := hidb hm
  have HN := hidb (htg.txt (by simp))
  rw [isM_sign htu rfl, Bool.and_eq_true, decide_eq_true_eq, decide_eq_true_eq] at hm
  have d2 : (uk == 6) = true := by simp at hm ⊢; exact hm.1
  have hux : ux = ⟨#[58]⟩ := hm.2
  subst hux
  have hu6 : uk = 6 := hm.1
  subst hu6
  rw [TT.out] at hc
  have HC := hidb hc
  rw [TT.out] at hx
  simp only at hx
  have d7 : (tx.toList == [101, 114, 114, 111, 114]) = false := lit_f hx.1
  have d8 : ¬ tx.toList = [101, 114, 114, 111, 114] := lit_F hx.1
  have d9 : (tx.toList == [101, 120, 105, 116]) = false := lit_f hx.2.1
  have d10 : ¬ tx.toList = [101, 120, 105, 116] := lit_F hx.2.1
  have d11 : (tx.toList == [116, 104, 114, 111, 119]) = false := lit_f hx.2.2
  have d12 : ¬ tx.toList = [116, 104, 114, 111, 119] := lit_F hx.2.2
  clear hx hc
  have HRE := hidb (HR.out.trans (cls_no TT.out UU.out (by simp) HM.out HC.out))
  clear HR
  clear hm htg htu
  go_big_quiet (fail)
  have hbd : Below W1.heap.size W1 (W1.drewN nq) := below_drewN (Below.refl _ _) nq
  replace H := hidb (H.out.below hbd)
  replace HX := hidb (HX.out.keep hbd)
  clear hbd x0 x1 x2 x3 x4 xl c0 c1 k0 k1
  generalize W1.drewN nq = W2 at H HX ⊢
  obtain ⟨x0, x1, x2, x3, x4, -, -, -, -, -, xl⟩ := HX.out
  go_wp2_with (first
    | (go_at_call 28; refine (sFail H.out.at tp (by decide)).mono ?_; rintro r1 w2 ⟨rfl, hbd⟩; replace HX := hidb (Box.but HX.out hbd.but (bx_no H.out)); obtain ⟨x0, x1, x2, x3, x4, -, -, -, -, -, xl⟩ := HX.out; have HB : Hid (But (· = g) w2 w2) := hidb (But.refl _ _); replace H := hidb (H.out.bad hbd); clear hbd)
    | (go_at_call 32; refine (bNode _ _ _ _ _ _ H.out).mono ?_; rintro r1 w2 ⟨rfl, hd, hb⟩; replace HB := hidb (HB.out.trans hb); replace H := hidb hd; clear hb hd)
    | (go_at_call 29; refine (bNext H.out).mono ?_; rintro r1 w2 ⟨rfl, hb⟩; replace HB := hidb (HB.out.trans (But.of_below hb)); replace H := hidb (H.out.keep hb); clear hb)
    | (go_at_call 104; refine (bExpr H.out).mono ?_; rintro r1 w2 ⟨rfl, hd, hb⟩; replace HB := hidb (HB.out.trans hb); replace H := hidb hd; clear hb hd)
    | (go_at_call 63; refine (bClause _ [c, x] _ _ (lit_row w2 #[iv c, iv x] [c, x] rfl (by simp)) (lit_ng H.out 2 2) (H.out.keep (below_new _ _))).mono ?_; rintro r1 w3 ⟨rfl, hd, hb⟩; replace H := hidb hd; clear hb hd)
    | (go_at_call 63; refine (bClause _ [c, 0] _ _ (lit_row w2 #[iv c, iv 0] [c, 0] rfl (by simp)) (lit_ng H.out 2 2) (H.out.keep (below_new _ _))).mono ?_; rintro r1 w3 ⟨rfl, hd, hb⟩; replace H := hidb hd; clear hb hd)
    | (go_at_call 63; refine (bClause _ [0, 0] _ _ (lit_row w2 #[iv 0, iv 0] [0, 0] rfl (by simp)) (lit_ng H.out 2 2) (H.out.keep (below_new _ _))).mono ?_; rintro r1 w3 ⟨rfl, hd, hb⟩; replace H := hidb hd; clear hb hd))
  all_goals (
    go_ret
    first
      | exact .inr ⟨_, _, _, HR.out, rfl, H.out.drop⟩
      | exact .inl ⟨_, _, _, HRE.out, rfl, H.out⟩)

end Rf
end Go.Proofs.YthdljnakmekhkaaGreatDoor


/- The reference's parser: a clause of a catch; try, primary, call. -/
namespace Go.Proofs.YthdljnakmekhkaaGreatDoor
namespace Rf
open Go.RowKit Go.Lib
attribute [local go_sem] store_float f64bits
attribute [local go_sem ↓] Go.wp_at_zero Go.wp_at_succ
attribute [local go_sem] nd_p tk_k tk_x tk_n tk_f tk_p
variable {B g b o : Nat} {e : PM Nat}

theorem pCaught (hE : EC B g b o e) {P : Nat → Prop} {w : World} {V : Value} {s : PS} (h : At B g b o P w V s) :
    Calls Tryz.prog 156 #[.pointer (some ⟨g, 0, none⟩)] w fun r w' => Rz B g b o P w V (Gm.cclause e s) r w' := by
  by_cases h1 : (Gm.hd s).k = 1
  · cases hm : Gm.isM (Gm.hd2 s) ⟨#[58]⟩ with
    | false => exact pCaughtC1 hE h h1 hm
    | true =>
      have hI : Gm.isClass (Gm.hd s) = (decide ((Gm.hd s).x = ⟨#[101, 114, 114, 111, 114]⟩) || decide ((Gm.hd s).x = ⟨#[101, 120, 105, 116]⟩) || decide ((Gm.hd s).x = ⟨#[116, 104, 114, 111, 119]⟩)) := by unfold Gm.isClass; rw [if_neg (by omega)]
      by_cases hx1 : (Gm.hd s).x = ⟨#[101, 114, 114, 111, 114]⟩
      · exact pCaught1E hE h h1 hm (by rw [hI, hx1]; rfl) hx1
      by_cases hx2 : (Gm.hd s).x = ⟨#[101, 120, 105, 116]⟩
      · exact pCaught1X hE h h1 hm (by rw [hI, hx2]; rfl) ⟨hx1, hx2⟩
      by_cases hx3 : (Gm.hd s).x = ⟨#[116, 104, 114, 111, 119]⟩
      · exact pCaught1T hE h h1 hm (by rw [hI, hx3]; rfl) ⟨hx1, hx2, hx3⟩
      exact pCaught1B hE h h1 hm (by rw [hI]; simp [hx1, hx2, hx3]) ⟨hx1, hx2, hx3⟩
  by_cases h2 : (Gm.hd s).k = 2
  · cases hm : Gm.isM (Gm.hd2 s) ⟨#[58]⟩ with
    | false => exact pCaughtC2 hE h h2 hm
    | true =>
      have hI : Gm.isClass (Gm.hd s) = decide ((Gm.hd s).x = ⟨#[95]⟩) := by unfold Gm.isClass; rw [if_pos h2]
      by_cases hx1 : (Gm.hd s).x = ⟨#[95]⟩
      · exact pCaught2A hE h h2 hm (by rw [hI, hx1]; rfl) hx1
      exact pCaught2B hE h h2 hm (by rw [hI]; simp [hx1]) hx1
  exact pCaughtN hE h (fun h => h.elim h1 h2)
theorem pTry_all (hE : EC B g b o e) (q : Nat) {P : Nat → Prop} {w : World} {V : Value} {s : PS} (h : At B g b o P w V s) : Calls Tryz.prog 150 #[.pointer (some ⟨g, 0, none⟩), .int .i64 (q : Int)] w fun r w' => Rz B g b o P w V (tryP e q s) r w' := pTry hE (fun h => pCaught hE h) q h
theorem pPrimary_end (hE : EC B g b o e) {P : Nat → Prop} {w : World} {V : Value} {s : PS} (h : At B g b o P w V s) : Calls Tryz.prog 143 #[.pointer (some ⟨g, 0, none⟩)] w fun r w' => RzP B g b o P w V (Gm.called e s) r w' := pPrimary_all hE (fun q _ _ _ _ h => pTry_all hE q h) h
theorem pCall_end (hE : EC B g b o e) {P : Nat → Prop} {w : World} {V : Value} {s : PS} (h : At B g b o P w V s) : Calls Tryz.prog 141 #[.pointer (some ⟨g, 0, none⟩)] w fun r w' => Rz B g b o P w V (Gm.call e s) r w' := pCall hE (fun h => pPrimary_end hE h) h

end Rf
end Go.Proofs.YthdljnakmekhkaaGreatDoor


/- The reference's parser: unary. -/
namespace Go.Proofs.YthdljnakmekhkaaGreatDoor
namespace Rf
open Go.RowKit Go.Lib
attribute [local go_sem] store_float f64bits
attribute [local go_sem ↓] Go.wp_at_zero Go.wp_at_succ
attribute [local go_sem] nd_p tk_k tk_x tk_n tk_f tk_p
variable {B g b o : Nat} {e : PM Nat}

section
variable {C : Nat} {P : Nat → Prop} {w0 w w' : World} {V0 V V' v : Value} {s s' : PS} {l : List Tk} {er : Int} {p : Nat}
theorem tr_step (h : TR w C g b V v l) (h' : St B g b o P w V w' V' s') : TR w' C g b V' v l := by
  refine ⟨row_but h.own h'.but ?_, h.ng, h.nb, fun k hk => h'.beside (row_lt h.own k hk) (h.nv k hk)⟩
  rintro k hk (rfl | hS)
  · exact h.ng hk
  · exact h.nv k hk hS
theorem tr_grown (h : St B g b o (PV P v) w0 V0 w V s) (hi : TR w w0.heap.size g b V v l) {X : World} (hX : Below w.heap.size w X) {v' : Value} {l' : List Tk} (hG : X.grownBy w' v.ownBlock) (hA : ∀ k, v'.ownBlock = some k → v.ownBlock = some k ∨ X.heap.size ≤ k)
    (ho : w'.ownsRow w0.heap.size TT 5 v' l'.length (tkCells l')) : TR w' w0.heap.size g b V v' l' ∧ St B g b o (PV P v') w0 V0 w' V s := by
  have hXs := hX.size
  have hGs := hG.size
  have hw0 := h.but.size
  have hB3 : But (fun k => v.ownBlock = some k) w w' := (But.of_below hX).trans (grown_but hG)
  have hvg := hi.ng
  have hvb := hi.nb
  have hk' : ∀ k, v'.ownBlock = some k → k ≠ g ∧ k ≠ b ∧ V.ownBlock ≠ some k := by
    intro k hk
    rcases hA k hk with e | e
    · exact ⟨fun he => hi.ng (he ▸ e), fun he => hi.nb (he ▸ e), hi.nv k e⟩
    · exact ⟨by have := h.glt; omega, by have := h.blt; omega, fun he => by have := h.vlt k he; omega⟩
  refine ⟨⟨ho, fun he => (hk' g he).1 rfl, fun he => (hk' b he).2.1 rfl, fun k he => (hk' k he).2.2⟩, ?_⟩
  have hlo : ∀ k, v.ownBlock = some k → w0.heap.size ≤ k := fun k e => (hi.own.lt k e).1
  refine ⟨h.pb.but hB3 (fun e => hi.ng e) (fun e => hi.nb e), ?_, by have := h.le; omega, h.ne, h.op, ⟨hB3.os.trans h.but.os, hB3.tape.trans h.but.tape, hB3.output.trans h.but.output, by omega, fun k hk hs => ?_⟩, h.own, fun k hk => ?_, fun k hk => ?_, h.tl⟩
  · have h1 : NS X B g b (PV P v) V s.ns := h.ns.but (But.of_below (S := fun _ => False) hX) (fun _ _ h => h) (fun _ h => h.elim)
    obtain ⟨⟨vs, a1, a2, a3⟩, a4, a5, a6⟩ := h1
    refine ⟨⟨vs, a1, row_but a2 (grown_but hG) (fun k hV he => hi.nv k he hV), fun i n u hn hu => ?_⟩, a4, a5, a6⟩
    obtain ⟨c1, c2, c3⟩ := a3 i n u hn hu
    refine ⟨c1.but (grown_but hG) (fun k e he => (c3 k e).2 (.inr he)), c2, fun k e => ⟨(c3 k e).1, ?_⟩⟩
    rintro (hp | hp)
    · exact (c3 k e).2 (.inl hp)
    · rcases hA k hp with e2 | e2
      · exact (c3 k e).2 (.inr e2)
      · have := c1.lt k e; omega
  · refine (hB3.block k (by omega) (fun e => ?_)).trans (h.but.block k hk hs)
    have := hlo k e; omega
  · rcases hk with hp | hp
    · have := h.plt k (.inl hp); omega
    · exact row_lt ho k hp
  · rcases hk with hp | hp
    · exact h.npv k (.inl hp)
    · exact ⟨(hk' k hp).2.2, (hk' k hp).1⟩
/-- A row of tokens, in a fault. -/
structure TB (w : World) (C g : Nat) (v : Value) (l : List Tk) : Prop where
  own : w.ownsRow C TT 5 v l.length (tkCells l)
  ng : v.ownBlock ≠ some g
theorem tr_tb (h : TR w C g b V v l) (hb : Bd g b w V w' er p) : TB w' C g v l := ⟨row_but h.own hb.but (fun k hk he => he.elim (fun e => h.ng (e ▸ hk)) (fun e => h.nv k hk e)), h.ng⟩
theorem TB.but (h : TB w C g v l) (hb : But (· = g) w w') : TB w' C g v l := ⟨row_but h.own hb (fun k hk he => h.ng (by have he2 : k = g := he; exact he2 ▸ hk)), h.ng⟩
theorem TB.below (h : TB w C g v l) (hb : Below w.heap.size w w') : TB w' C g v l := ⟨row_but h.own (But.of_below (S := fun _ => False) hb) (fun _ _ h => h), h.ng⟩
end

set_option maxHeartbeats 4000000 in
set_option maxRecDepth 100000 in
theorem pUnary (hE : EC B g b o e) {P : Nat → Prop} {w : World} {V : Value} {s : PS} (h : At B g b o P w V s) :
    Calls Tryz.prog 139 #[.pointer (some ⟨g, 0, none⟩)] w fun r w' => Rz B g b o P w V (Gm.unary e s) r w' := by
  have H : Hid (St B g b o P w V w V s) := hidb h
  obtain ⟨R, hR⟩ : ∃ R, Gm.unary e s = R := ⟨_, rfl⟩
  rw [hR]
  have HR := hidb hR.symm
  clear hR
  have HS0 := hidb (h.less (Q := PV P (.slice none 0 0)) (fun _ hk => hk.elim id (fun he => by simp [Value.ownBlock] at he)))
  have htl := h.tl
  have HE := hidb hE
  clear h hE
  obtain ⟨i0, hi0, hz0, hz1, hz2⟩ := info_parts (P := Tryz.prog) (e := TT) (z := .agg #[.int .i64 0, .string ⟨#[]⟩, .int .i64 0, .float .f64 0, .int .i64 0]) (size := 5) (bytes := 48) (by kernel_rfl)
  go_enter Tryz.func139, Tryz.ntmps139
  go_wp2_with fail
  have HR := hidb (HR.out.trans (Gm.bind_left rfl))
  go_loopg [3] s.ts.length (fun gf s3 wx => ∃ (l : List Tk) (sx : PS) (a : Option Addr) (c k : Nat), s3 = .slice a l.length c ∧ St B g b o (PV P (.slice a l.length c)) w V wx V sx ∧ TR wx w.heap.size g b V (.slice a l.length c) l ∧ R = (Gm.signs k l >>= fun l => Gm.call e >>= fun x => Gm.layOps l x) sx ∧ sx.ts.length ≤ k ∧ k ≤ gf ∧ l.length + sx.ts.length ≤ 100001)
  case atStart => exact ⟨[], s, none, 0, _, rfl, HS0.out, TR.none _ _ _ _ _, HR.out, Nat.le_refl _, Nat.le_refl _, by simp; omega⟩
  case round =>
    obtain ⟨l, sx, a, c, k, hs3, hst, hir, hmore, hk, hkg, hll⟩ := hrel
    subst hs3
    have hpos := ne_pos hst.ne
    obtain ⟨k', rfl⟩ : ∃ k', k = k' + 1 := ⟨k - 1, by omega⟩
    obtain ⟨g', rfl⟩ : ∃ g', gk = g' + 1 := ⟨gk - 1, by omega⟩
    have hcl := cut_len hst.ne
    clear H HR HS0
    have H := hidb hst
    have HI := hidb hir
    have HR := hidb hmore
    have hc1 : l.length + 1 ≤ maxLen := by unfold maxLen; omega
    have hc2 : (l.length + 1) * 48 ≤ 140737488355328 := by omega
    clear hst hir hmore
    have hw : IntKind.i64.wrap (((l.length : Nat) : Int) - 1) = ((l.length : Nat) : Int) - 1 := by rw [IntKind.wrap_i64]; omega
    go_wp2_with (first
      | (go_at_call 64; refine (sSign (x := ⟨#[45]⟩) rfl H.out).mono ?_; rintro r1 w1 ⟨⟨hq, rfl⟩ | ⟨hq, rfl⟩, hb⟩ <;> first | (have HT : Hid (Gm.isM (Gm.hd sx) ⟨#[45]⟩ = true ∨ Gm.isM (Gm.hd sx) ⟨#[110, 111, 116]⟩ = true) := hidb (.inl hq); replace HI := hidb (HI.out.below hb); replace H := hidb (H.out.below hb); clear hb hq) | (have HF1 := hidb hq; replace HI := hidb (HI.out.below hb); replace H := hidb (H.out.below hb); clear hb hq))
      | (go_at_call 105; refine (sKept (x := ⟨#[110, 111, 116]⟩) rfl H.out).mono ?_; rintro r1 w1 ⟨⟨hq, rfl⟩ | ⟨hq, rfl⟩, hb⟩ <;> first | (have HT : Hid (Gm.isM (Gm.hd sx) ⟨#[45]⟩ = true ∨ Gm.isM (Gm.hd sx) ⟨#[110, 111, 116]⟩ = true) := hidb (.inr hq); replace HI := hidb (HI.out.below hb); replace H := hidb (H.out.below hb); clear hb hq) | (have HF2 : Hid (¬ (Gm.isM (Gm.hd sx) ⟨#[45]⟩ = true ∨ Gm.isM (Gm.hd sx) ⟨#[110, 111, 116]⟩ = true)) := hidb (by rw [HF1.out, hq]; decide); replace HI := hidb (HI.out.below hb); replace H := hidb (H.out.below hb); clear hb hq))
      | (go_at_call 26; refine (sNow H.out).mono ?_; rintro r1 w2 ⟨u, hq, rfl, hb⟩; have Tu := hidb hq; replace HI := hidb (HI.out.below hb); replace H := hidb (H.out.below hb); clear hb hq)
      | (at_builtin; refine wpList_append_own_at _ rfl _ _ 36 rfl w.heap.size TT i0 (.agg #[.int .i64 0, .string ⟨#[]⟩, .int .i64 0, .float .f64 0, .int .i64 0]) 5 48 Tryz.underlying36 hi0 hz0 hz1 hz2 rfl (by decide) _ _ _ rfl (HI.out.own.alloc _) ⟨w2.heap.size, 0, none⟩ 1 1 u.cells rfl rfl ?_ ?_ ?_ ?_ ?_ ?_)
      | (go_at_call 141; refine (pCall_end HE.out H.out.at).mono ?_; rintro r1 w2 (⟨er, q, x0, hq, rfl, hbd⟩ | ⟨x0, s1, V1, hq, rfl, hs⟩) <;> first | (replace HR := hidb ((HR.out.trans (signs_f rfl HF2.out)).trans (Gm.bind_ok hq)); replace HI := hidb (tr_step HI.out hs); replace H := hidb (H.out.trans hs); clear hs hq) | (have HRE := hidb ((HR.out.trans (signs_f rfl HF2.out)).trans (Gm.bind_err hq)); have HTB := hidb (tr_tb HI.out hbd); replace H := hidb (H.out.bad hbd); clear hq hbd HR HI)))
    all_goals first
      | (intro q u hq; exact app_tk _ _ _ rfl q u hq)
      | (intro y hy; simp only [Tk.cells, List.mem_cons, List.not_mem_nil, or_false] at hy; rcases hy with rfl | rfl | rfl | rfl | rfl <;> rfl)
      | exact hc1
      | exact hc2
      | (have := H.out.but.size; simp; omega)
      | skip
    · intro v' w3 hown hgrow hnil hat
      obtain ⟨j1, j2⟩ := tr_grown (l' := l ++ [u]) H.out HI.out (below_new _ _) hgrow (fun k hk => by rcases hat with h | h <;> rw [h] at hk; (exact .inl hk); (cases hk; right; simp)) (by rw [List.length_append, tkCells_snoc]; exact hown)
      obtain ⟨a', c', rfl⟩ := j1.sl
      replace HI := hidb j1
      replace H := hidb j2
      clear j1 j2 hown hgrow hnil hat
      go_wp2_with (first
        | (go_at_call 29; refine (sNext H.out.at (HT.out.elim Gm.isM_k Gm.isM_k)).mono ?_; rintro r1 w4 ⟨rfl, hs⟩; replace HR := hidb (HR.out.trans (signs_t Tu.out (Tu.out ▸ HT.out) rfl)); replace HI := hidb (tr_step HI.out hs); replace H := hidb (H.out.trans hs); clear hs))
      go_roundg g'
      (case measure => omega)
      (case rel => exact ⟨l ++ [u], _, a', c', k', (by simp), H.out, HI.out, HR.out, (by omega), (by omega), (by simp; omega)⟩)
    · intro v' w3 hown hgrow hnil hat
      obtain ⟨j1, j2⟩ := tr_grown (l' := l ++ [u]) H.out HI.out (below_new _ _) hgrow (fun k hk => by rcases hat with h | h <;> rw [h] at hk; (exact .inl hk); (cases hk; right; simp)) (by rw [List.length_append, tkCells_snoc]; exact hown)
      obtain ⟨a', c', rfl⟩ := j1.sl
      replace HI := hidb j1
      replace H := hidb j2
      clear j1 j2 hown hgrow hnil hat
      go_wp2_with (first
        | (go_at_call 29; refine (sNext H.out.at (HT.out.elim Gm.isM_k Gm.isM_k)).mono ?_; rintro r1 w4 ⟨rfl, hs⟩; replace HR := hidb (HR.out.trans (signs_t Tu.out (Tu.out ▸ HT.out) rfl)); replace HI := hidb (tr_step HI.out hs); replace H := hidb (H.out.trans hs); clear hs))
      go_roundg g'
      (case measure => omega)
      (case rel => exact ⟨l ++ [u], _, a', c', k', (by simp), H.out, HI.out, HR.out, (by omega), (by omega), (by simp; omega)⟩)
    · go_loopg [4, 5] l.length (fun gf s4 s5 wx => ∃ (i x : Nat) (j : Int), s4 = iv x ∧ s5 = .int .i64 j ∧ j + 1 = (i : Int) ∧ i ≤ l.length ∧ i ≤ gf ∧ Bd g b w V wx er q ∧ TB wx w.heap.size g (.slice a l.length c) l)
      case atStart => exact ⟨l.length, x0, _, rfl, rfl, by omega, Nat.le_refl _, Nat.le_refl _, H.out, HTB.out⟩
      case round =>
        obtain ⟨i, x, j, hs4, hs5, hj, hil, hig, hbd2, htb⟩ := hrel
        subst hs4
        subst hs5
        have hre := HRE.out
        clear H HTB HRE
        cases i with
        | zero =>
          obtain rfl : j = -1 := by omega
          have H := hidb hbd2
          have HRE := hidb hre
          clear hbd2 hre htb hj
          go_wp2_with fail
          go_ret
          exact .inl ⟨_, _, _, HRE.out, rfl, H.out⟩
        | succ m =>
          obtain rfl : j = (m : Int) := by omega
          obtain ⟨g2, rfl⟩ : ∃ g2, gk = g2 + 1 := ⟨gk - 1, by omega⟩
          obtain ⟨q1, hq⟩ : ∃ q, a = some ⟨q, 0, none⟩ := by
            rcases htb.own.2 with ⟨_, hn⟩ | ⟨q, cap, cur, hv, _⟩
            · omega
            · cases hv; exact ⟨q, rfl⟩
          subst hq
          obtain ⟨u2, hu2⟩ : ∃ u, l[m]? = some u := ⟨l[m], List.getElem?_eq_getElem (by omega)⟩
          have k1' : (tkCells l)[m * 5 + 1]? = some (.string u2.x) := tkCells_get l m u2 hu2 1 (by omega)
          have k4' : (tkCells l)[m * 5 + 4]? = some (.int .i64 (u2.p : Int)) := tkCells_get l m u2 hu2 4 (by omega)
          have k1 := (htb.own.cellAt (m * 5 + 1) (by omega)).trans k1'
          have k4 := (htb.own.cellAt (m * 5 + 4) (by omega)).trans k4'
          have hmw : IntKind.i64.wrap ((m : Int) - 1) = (m : Int) - 1 := by rw [IntKind.wrap_i64]; omega
          have hm0 : (0 : Int) ≤ (m : Int) := by omega
          have hm1 : (m : Int) < ((l.length : Nat) : Int) := by omega
          have HRE := hidb hre
          have H := hidb hbd2
          have HI := hidb htb
          clear hre hbd2 htb hj hu2
          go_wp2_with fail
          have HX := hidb (H.out.keep (Below.drew (Below.refl _ _)))
          have HIX := hidb (HI.out.below (Below.drew (Below.refl _ _)))
          go_region_held2 (fun w' => w'.cell? ⟨q1, m * 5 + 1, none⟩ = some (.string u2.x) ∧ w'.cell? ⟨q1, m * 5 + 4, none⟩ = some (.int .i64 (u2.p : Int)))
            (first | with_reducible exact ⟨z1, z4⟩ | go_keep)
            (first
              | (go_at_call 32; refine (bNode _ _ _ _ _ _ (HX.out.keep (below_new _ _))).mono ?_; rintro r1 w3 ⟨rfl, hd, hb⟩; have HI3 := hidb ((HIX.out.below (below_new _ _)).but hb); have z1 := (HI3.out.own.cellAt (m * 5 + 1) (by omega)).trans k1'; have z4 := (HI3.out.own.cellAt (m * 5 + 4) (by omega)).trans k4'; have H3 := hidb hd; clear hd hb))
          all_goals (
            go_wp2_with fail
            go_roundg g2
            (case measure => omega)
            (case rel => exact ⟨m, 0, (m : Int) - 1, rfl, rfl, (by omega), (by omega), (by omega), H3.out, HI3.out⟩))

    go_loopg [4, 5] l.length (fun gf s4 s5 wx => (∃ (i x : Nat) (j : Int) (sy : PS) (Vy : Value), s4 = iv x ∧ s5 = .int .i64 j ∧ j + 1 = (i : Int) ∧ i ≤ l.length ∧ i ≤ gf ∧ Gm.layOps (l.drop i) x0 s1 = .ok (x, sy) ∧ St B g b o (PV P (.slice a l.length c)) w V wx Vy sy ∧ TR wx w.heap.size g b Vy (.slice a l.length c) l) ∨ (∃ (i x : Nat) (j : Int) (er : Int) (q : Nat), s4 = iv x ∧ s5 = .int .i64 j ∧ j + 1 = (i : Int) ∧ i ≤ l.length ∧ i ≤ gf ∧ R = .error (er, q) ∧ Bd g b w V wx er q ∧ TB wx w.heap.size g (.slice a l.length c) l))
    case atStart => exact .inl ⟨l.length, x0, _, s1, V1, rfl, rfl, by omega, Nat.le_refl _, Nat.le_refl _, by simp [Gm.layOps]; rfl, H.out, HI.out⟩
    case round =>
      rcases hrel with ⟨i, x, j, sy, Vy, hs4, hs5, hj, hil, hig, hlo, hst2, htr⟩ | ⟨i, x, j, er, q0, hs4, hs5, hj, hil, hig, hre, hbd2, htb⟩
      · subst hs4
        subst hs5
        cases i with
        | zero =>
          obtain rfl : j = -1 := by omega
          have HO := hidb hlo
          have H := hidb hst2
          clear hlo hst2 htr hj
          go_wp2_with fail
          go_ret
          exact .inr ⟨_, _, _, HR.out.trans HO.out, rfl, H.out.drop⟩
        | succ m =>
          obtain rfl : j = (m : Int) := by omega
          obtain ⟨g2, rfl⟩ : ∃ g2, gk = g2 + 1 := ⟨gk - 1, by omega⟩
          obtain ⟨q, hq⟩ : ∃ q, a = some ⟨q, 0, none⟩ := by
            rcases htr.own.2 with ⟨_, hn⟩ | ⟨q, cap, cur, hv, _⟩
            · omega
            · cases hv; exact ⟨q, rfl⟩
          subst hq
          obtain ⟨u2, hu2⟩ : ∃ u, l[m]? = some u := ⟨l[m], List.getElem?_eq_getElem (by omega)⟩
          have k1' : (tkCells l)[m * 5 + 1]? = some (.string u2.x) := tkCells_get l m u2 hu2 1 (by omega)
          have k4' : (tkCells l)[m * 5 + 4]? = some (.int .i64 (u2.p : Int)) := tkCells_get l m u2 hu2 4 (by omega)
          have k1 := (htr.own.cellAt (m * 5 + 1) (by omega)).trans k1'
          have k4 := (htr.own.cellAt (m * 5 + 4) (by omega)).trans k4'
          have hd : l.drop m = u2 :: l.drop (m + 1) := by rw [List.drop_eq_getElem_cons (by omega)]; congr 1; exact (List.getElem?_eq_some_iff.1 hu2).2
          have hmw : IntKind.i64.wrap ((m : Int) - 1) = (m : Int) - 1 := by rw [IntKind.wrap_i64]; omega
          have hm0 : (0 : Int) ≤ (m : Int) := by omega
          have hm1 : (m : Int) < ((l.length : Nat) : Int) := by omega
          have HO := hidb hlo
          have HD := hidb hd
          clear H HI
          have H := hidb hst2
          have HI := hidb htr
          clear hlo hst2 htr hj hd hu2
          go_wp2_with fail
          have HX := hidb (H.out.below (Below.drew (Below.refl _ _)))
          have HIX := hidb (HI.out.below (Below.drew (Below.refl _ _)))
          go_region_held2 (fun w' => w'.cell? ⟨q, m * 5 + 1, none⟩ = some (.string u2.x) ∧ w'.cell? ⟨q, m * 5 + 4, none⟩ = some (.int .i64 (u2.p : Int)))
            (first | with_reducible exact ⟨z1, z4⟩ | go_keep)
            (first
              | (go_at_call 32; refine (sNode ⟨9, u2.x, 0, 0, [x], u2.p⟩ _ (IR.lit HX.out.at #[iv x] [x] rfl (by simp)).2.drop.at ((IR.lit HX.out.at #[iv x] [x] rfl (by simp)).1.lr HX.out.plt)).mono ?_; intro r1 w3 hrz; obtain ⟨z, rfl, hbu, hor⟩ := hrz.one; have HOR := hidb hor; have o1 := row_but (HIX.out.below (below_new _ (.cells #[iv x] IT))).own hbu (fun k hk he => he.elim (fun e => HIX.out.ng (e ▸ hk)) (fun e => HIX.out.nv k hk e)); have z1 := (o1.cellAt (m * 5 + 1) (by omega)).trans k1'; have z4 := (o1.cellAt (m * 5 + 4) (by omega)).trans k4'; clear hrz hbu hor o1))
          all_goals (
            go_wp2_with fail
            go_roundg g2
            (case measure => omega)
            (case rel =>
              rcases HOR.out with ⟨er, q2, hq, hbd⟩ | ⟨s3, V3, hq, hs⟩
              · exact .inr ⟨m, z, (m : Int) - 1, er, q2, rfl, rfl, (by omega), (by omega), (by omega), HR.out.trans (layOps_fell HD.out HO.out hq), HX.out.bad ((IR.lit HX.out.at #[iv x] [x] rfl (by simp)).2.drop.bad hbd), tr_tb (HIX.out.below (below_new _ _)) hbd⟩
              · exact .inl ⟨m, z, (m : Int) - 1, s3, V3, rfl, rfl, (by omega), (by omega), (by omega), layOps_step HD.out HO.out hq, HX.out.trans ((IR.lit HX.out.at #[iv x] [x] rfl (by simp)).2.drop.trans hs), tr_step (HIX.out.below (below_new _ _)) hs⟩))
      · subst hs4
        subst hs5
        clear HR H HI
        cases i with
        | zero =>
          obtain rfl : j = -1 := by omega
          have H := hidb hbd2
          have HRE := hidb hre
          clear hbd2 hre htb hj
          go_wp2_with fail
          go_ret
          exact .inl ⟨_, _, _, HRE.out, rfl, H.out⟩
        | succ m =>
          obtain rfl : j = (m : Int) := by omega
          obtain ⟨g2, rfl⟩ : ∃ g2, gk = g2 + 1 := ⟨gk - 1, by omega⟩
          obtain ⟨q, hq⟩ : ∃ q, a = some ⟨q, 0, none⟩ := by
            rcases htb.own.2 with ⟨_, hn⟩ | ⟨q, cap, cur, hv, _⟩
            · omega
            · cases hv; exact ⟨q, rfl⟩
          subst hq
          obtain ⟨u2, hu2⟩ : ∃ u, l[m]? = some u := ⟨l[m], List.getElem?_eq_getElem (by omega)⟩
          have k1' : (tkCells l)[m * 5 + 1]? = some (.string u2.x) := tkCells_get l m u2 hu2 1 (by omega)
          have k4' : (tkCells l)[m * 5 + 4]? = some (.int .i64 (u2.p : Int)) := tkCells_get l m u2 hu2 4 (by omega)
          have k1 := (htb.own.cellAt (m * 5 + 1) (by omega)).trans k1'
          have k4 := (htb.own.cellAt (m * 5 + 4) (by omega)).trans k4'
          have hmw : IntKind.i64.wrap ((m : Int) - 1) = (m : Int) - 1 := by rw [IntKind.wrap_i64]; omega
          have hm0 : (0 : Int) ≤ (m : Int) := by omega
          have hm1 : (m : Int) < ((l.length : Nat) : Int) := by omega
          have HRE := hidb hre
          have H := hidb hbd2
          have HI := hidb htb
          clear hre hbd2 htb hj hu2
          go_wp2_with fail
          have HX := hidb (H.out.keep (Below.drew (Below.refl _ _)))
          have HIX := hidb (HI.out.below (Below.drew (Below.refl _ _)))
          go_region_held2 (fun w' => w'.cell? ⟨q, m * 5 + 1, none⟩ = some (.string u2.x) ∧ w'.cell? ⟨q, m * 5 + 4, none⟩ = some (.int .i64 (u2.p : Int)))
            (first | with_reducible exact ⟨z1, z4⟩ | go_keep)
            (first
              | (go_at_call 32; refine (bNode _ _ _ _ _ _ (HX.out.keep (below_new _ _))).mono ?_; rintro r1 w3 ⟨rfl, hd, hb⟩; have HI3 := hidb ((HIX.out.below (below_new _ _)).but hb); have z1 := (HI3.out.own.cellAt (m * 5 + 1) (by omega)).trans k1'; have z4 := (HI3.out.own.cellAt (m * 5 + 4) (by omega)).trans k4'; have H3 := hidb hd; clear hd hb))
          all_goals (
            go_wp2_with fail
            go_roundg g2
            (case measure => omega)
            (case rel => exact .inr ⟨m, 0, (m : Int) - 1, er, q0, rfl, rfl, (by omega), (by omega), (by omega), HRE.out, H3.out, HI3.out⟩))

theorem pMul_end (hE : EC B g b o e) {P : Nat → Prop} {w : World} {V : Value} {s : PS} (h : At B g b o P w V s) : Calls Tryz.prog 137 #[.pointer (some ⟨g, 0, none⟩)] w fun r w' => Rz B g b o P w V (Gm.mul e s) r w' := pMul hE (fun h => pUnary hE h) h
theorem pAdd_end (hE : EC B g b o e) {P : Nat → Prop} {w : World} {V : Value} {s : PS} (h : At B g b o P w V s) : Calls Tryz.prog 134 #[.pointer (some ⟨g, 0, none⟩)] w fun r w' => Rz B g b o P w V (Gm.add e s) r w' := pAdd hE (fun h => pMul_end hE h) h

end Rf
end Go.Proofs.YthdljnakmekhkaaGreatDoor


/- The reference's parser: back. -/
namespace Go.Proofs.YthdljnakmekhkaaGreatDoor
namespace Rf
open Go.RowKit Go.Lib
attribute [local go_sem] store_float f64bits
attribute [local go_sem ↓] Go.wp_at_zero Go.wp_at_succ
attribute [local go_sem] nd_p tk_k tk_x tk_n tk_f tk_p
variable {B g b o : Nat} {e : PM Nat}

theorem own_some {w : World} {C e size n : Nat} {v : Value} {xs : List Value} (h : w.ownsRow C e size v n xs) (hn0 : 0 < n) : ∃ q c, v = .slice (some ⟨q, 0, none⟩) n c := by
  rcases h.2 with ⟨_, hn⟩ | ⟨q, cap, cur, hv, _⟩
  · omega
  · exact ⟨q, _, hv⟩
theorem own_iv {w : World} {C n q c : Nat} {l : List Nat} (h : w.ownsRow C IT 1 (.slice (some ⟨q, 0, none⟩) n c) n (l.map iv)) {m y : Nat} (hy : l[m]? = some y) (hm : m < n) : w.cell? ⟨q, m, none⟩ = some (iv y) := by
  rw [h.cellAt m (by omega)]
  simp [hy]
theorem n_of {w : World} {C M : Nat} {V v : Value} {l : List (Nat × Nat)} {f : Nat × Nat → Nat} (h : IR w C g b V v (l.map f)) (hM : l.length = M) : w.ownsRow C IT 1 v M ((l.map f).map iv) := by
  have := h.own
  rwa [List.length_map, hM] at this
theorem n_of2 {w : World} {C M : Nat} {v : Value} {l : List (Nat × Nat)} {f : Nat × Nat → Nat} (h : RB w C v (l.map f)) (hM : l.length = M) : w.ownsRow C IT 1 v M ((l.map f).map iv) := by
  have := h.1
  rwa [List.length_map, hM] at this

set_option maxHeartbeats 4000000 in
set_option maxRecDepth 100000 in
theorem bBack {w0 w : World} {V0 : Value} {er : Int} {p : Nat} (x : ByteArray) {C C' M : Nat} {vl va : Value} {l a : List Nat} (hl : RB w C vl l) (ha : RB w C' va a) (hlg : vl.ownBlock ≠ some g) (hag : va.ownBlock ≠ some g) (hM : l.length = M + 1) (hM2 : a.length = M + 1) (h : Bd g b w0 V0 w er p) :
    Calls Tryz.prog 126 #[.pointer (some ⟨g, 0, none⟩), vl, va, .string x] w fun r w' => (∃ n : Nat, r = .returned (iv n)) ∧ Bd g b w0 V0 w' er p ∧ But (· = g) w w' := by
  obtain ⟨N, hN⟩ : ∃ N, M + 1 = N := ⟨_, rfl⟩
  rw [hN] at hM hM2
  have hl1 := hl.1
  have ha1 := ha.1
  have hlb := hl.2
  rw [hM] at hl1 hlb
  rw [hM2] at ha1
  obtain ⟨q1, c1, rfl⟩ := own_some hl1 (by omega)
  obtain ⟨q2, c2, rfl⟩ := own_some ha1 (by omega)
  obtain ⟨y0, hy0⟩ : ∃ y, l[M]? = some y := ⟨l[M], List.getElem?_eq_getElem (by omega)⟩
  have k0 := own_iv hl1 hy0 (by omega)
  have H := hidb h
  have HB : Hid (But (· = g) w w) := hidb (But.refl _ _)
  have HL := hidb hl1
  have HA := hidb ha1
  have e1 : IntKind.i64.wrap ((N : Int) - 1) = (M : Int) := by rw [IntKind.wrap_i64]; omega
  have e2 : IntKind.i64.wrap ((N : Int) - 2) = (M : Int) - 1 := by rw [IntKind.wrap_i64]; omega
  have e3 : (0 : Int) ≤ (M : Int) := by omega
  have e4 : (M : Int) < (N : Int) := by omega
  clear hl ha h hl1 ha1
  go_enter Tryz.func126, Tryz.ntmps126
  go_wp2_with fail
  go_loopg [9, 10] M (fun gf s9 s10 wx => ∃ (i y : Nat) (j : Int), s9 = iv y ∧ s10 = .int .i64 j ∧ j + 1 = (i : Int) ∧ i ≤ M ∧ i ≤ gf ∧ Bd g b w0 V0 wx er p ∧ But (· = g) w wx ∧ wx.ownsRow C IT 1 (.slice (some ⟨q1, 0, none⟩) N c1) N (l.map iv) ∧ wx.ownsRow C' IT 1 (.slice (some ⟨q2, 0, none⟩) N c2) N (a.map iv))
  case atStart => exact ⟨M, y0, _, rfl, rfl, by omega, Nat.le_refl _, Nat.le_refl _, H.out, HB.out, HL.out, HA.out⟩
  case round =>
    obtain ⟨i, y, j, hs9, hs10, hj, hiM, hig, hbd, hbt, hr1, hr2⟩ := hrel
    subst hs9
    subst hs10
    clear H HB HL HA k0
    cases i with
    | zero =>
      obtain rfl : j = -1 := by omega
      have H := hidb hbd
      have HB := hidb hbt
      clear hbd hbt hr1 hr2 hj
      go_wp2_with fail
      go_ret
      exact ⟨⟨_, rfl⟩, H.out, HB.out⟩
    | succ m =>
      obtain rfl : j = (m : Int) := by omega
      obtain ⟨g2, rfl⟩ : ∃ g2, gk = g2 + 1 := ⟨gk - 1, by omega⟩
      obtain ⟨z1, hz1⟩ : ∃ z, l[m]? = some z := ⟨l[m], List.getElem?_eq_getElem (by omega)⟩
      obtain ⟨z2, hz2⟩ : ∃ z, a[m]? = some z := ⟨a[m], List.getElem?_eq_getElem (by omega)⟩
      have k1 := own_iv hr1 hz1 (by omega)
      have k2 := own_iv hr2 hz2 (by omega)
      have hmw : IntKind.i64.wrap ((m : Int) - 1) = (m : Int) - 1 := by rw [IntKind.wrap_i64]; omega
      have hm0 : (0 : Int) ≤ (m : Int) := by omega
      have hm1 : (m : Int) < (N : Int) := by omega
      have H := hidb hbd
      have HB := hidb hbt
      have HL := hidb hr1
      have HA := hidb hr2
      have HZ1 := hidb hz1
      have HZ2 := hidb hz2
      clear hbd hbt hr1 hr2 hj hz1 hz2
      go_wp2_with fail
      have HX := hidb (H.out.keep (Below.drew (Below.refl _ _)))
      have HBX := hidb (HB.out.trans (But.of_below (Below.drew (Below.refl _ _))))
      have HLX := hidb (row_but HL.out (But.of_below (S := fun _ => False) (Below.drew (Below.refl _ _))) (fun _ _ h => h))
      have HAX := hidb (row_but HA.out (But.of_below (S := fun _ => False) (Below.drew (Below.refl _ _))) (fun _ _ h => h))
      go_region_held2 (fun w' => w'.cell? ⟨q1, m, none⟩ = some (iv z1) ∧ w'.cell? ⟨q2, m, none⟩ = some (iv z2))
        (first | with_reducible exact ⟨y1, y2⟩ | go_keep)
        (first
          | (go_at_call 123; refine (bTwo _ _ _ _ HX.out).mono ?_; rintro r1 w3 ⟨rfl, hd, hb⟩; have HL3 := hidb (row_but HLX.out hb (fun k hk he => hlg (by have he2 : k = g := he; exact he2 ▸ hk))); have HA3 := hidb (row_but HAX.out hb (fun k hk he => hag (by have he2 : k = g := he; exact he2 ▸ hk))); have y1 := own_iv HL3.out HZ1.out (by omega); have y2 := own_iv HA3.out HZ2.out (by omega); have HB3 := hidb (HBX.out.trans hb); have H3 := hidb hd; clear hb hd))
      all_goals (
        go_wp2_with fail
        go_roundg g2
        (case measure => omega)
        (case rel => exact ⟨m, 0, (m : Int) - 1, rfl, rfl, by omega, by omega, by omega, H3.out, HB3.out, HL3.out, HA3.out⟩))

set_option maxHeartbeats 4000000 in
set_option maxRecDepth 100000 in
theorem pBack (x : ByteArray) {P : Nat → Prop} {w : World} {V : Value} {s : PS} (h : At B g b o P w V s) {C C' : Nat} {vl va : Value} (l : List (Nat × Nat)) (hl : IR w C g b V vl (l.map Prod.snd)) (ha : IR w C' g b V va (l.map Prod.fst)) (hne : l ≠ []) (hlb : l.length ≤ 100002) :
    Calls Tryz.prog 126 #[.pointer (some ⟨g, 0, none⟩), vl, va, .string x] w fun r w' => Rz B g b o P w V (layR x l s) r w' := by
  obtain ⟨M, hM⟩ : ∃ M, l.length = M + 1 := ⟨l.length - 1, by have := List.length_pos_iff.2 hne; omega⟩
  obtain ⟨N, hN⟩ : ∃ N, M + 1 = N := ⟨_, rfl⟩
  rw [hN] at hM
  have hl1 := hl.own
  have ha1 := ha.own
  rw [List.length_map, hM] at hl1 ha1
  obtain ⟨q1, c1, rfl⟩ := own_some hl1 (by omega)
  obtain ⟨q2, c2, rfl⟩ := own_some ha1 (by omega)
  obtain ⟨y0, hy0⟩ : ∃ y, l[M]? = some y := ⟨l[M], List.getElem?_eq_getElem (by omega)⟩
  have k0 := own_iv hl1 (y := y0.2) (by rw [List.getElem?_map, hy0]; rfl) (show M < N by omega)
  have hlast : layR x l = layB x (l.take M).reverse y0.2 := by
    have h1 : l = l.take M ++ [y0] := by
      have h3 : l.take (M + 1) = l.take M ++ [y0] := by rw [List.take_add_one, hy0]; rfl
      rwa [List.take_of_length_le (by omega)] at h3
    conv => lhs; rw [h1]
    exact layR_B _ _
  have H : Hid (St B g b o P w V w V s) := hidb h
  obtain ⟨R, hR⟩ : ∃ R, layR x l s = R := ⟨_, rfl⟩
  rw [hR]
  have HR := hidb (hR.symm.trans (congrFun hlast s))
  have HL := hidb hl
  have HA := hidb ha
  have e1 : IntKind.i64.wrap ((N : Int) - 1) = (M : Int) := by rw [IntKind.wrap_i64]; omega
  have e2 : IntKind.i64.wrap ((N : Int) - 2) = (M : Int) - 1 := by rw [IntKind.wrap_i64]; omega
  have e3 : (0 : Int) ≤ (M : Int) := by omega
  have e4 : (M : Int) < (N : Int) := by omega
  have HMM := hidb hM
  clear hl ha h hl1 ha1 hR hlast
  go_enter Tryz.func126, Tryz.ntmps126
  go_wp2_with fail
  go_loopg [9, 10] M (fun gf s9 s10 wx => (∃ (i y : Nat) (j : Int) (sy : PS) (Vy : Value), s9 = iv y ∧ s10 = .int .i64 j ∧ j + 1 = (i : Int) ∧ i ≤ M ∧ i ≤ gf ∧ R = layB x (l.take i).reverse y sy ∧ St B g b o P w V wx Vy sy ∧ IR wx C g b Vy (.slice (some ⟨q1, 0, none⟩) N c1) (l.map Prod.snd) ∧ IR wx C' g b Vy (.slice (some ⟨q2, 0, none⟩) N c2) (l.map Prod.fst)) ∨ (∃ (i y : Nat) (j er : Int) (p : Nat), s9 = iv y ∧ s10 = .int .i64 j ∧ j + 1 = (i : Int) ∧ i ≤ M ∧ i ≤ gf ∧ R = .error (er, p) ∧ Bd g b w V wx er p ∧ RB wx C (.slice (some ⟨q1, 0, none⟩) N c1) (l.map Prod.snd) ∧ RB wx C' (.slice (some ⟨q2, 0, none⟩) N c2) (l.map Prod.fst) ∧ q1 ≠ g ∧ q2 ≠ g))
  case atStart => exact .inl ⟨M, y0.2, _, s, V, rfl, rfl, by omega, Nat.le_refl _, Nat.le_refl _, HR.out, H.out, HL.out, HA.out⟩
  case round =>
    clear H HR HL HA k0
    rcases hrel with ⟨i, y, j, sy, Vy, hs9, hs10, hj, hiM, hig, hmore, hst, hr1, hr2⟩ | ⟨i, y, j, er, p, hs9, hs10, hj, hiM, hig, hre, hbd, hr1, hr2, hg1, hg2⟩
    · subst hs9
      subst hs10
      cases i with
      | zero =>
        obtain rfl : j = -1 := by omega
        have H := hidb hst
        have HR := hidb hmore
        clear hst hmore hr1 hr2 hj
        go_wp2_with fail
        go_ret
        exact .inr ⟨_, _, _, HR.out, rfl, H.out⟩
      | succ m =>
        obtain rfl : j = (m : Int) := by omega
        obtain ⟨g2, rfl⟩ : ∃ g2, gk = g2 + 1 := ⟨gk - 1, by omega⟩
        have hM := HMM.out
        obtain ⟨⟨z2, z1⟩, hz1⟩ : ∃ z, l[m]? = some z := ⟨l[m], List.getElem?_eq_getElem (by omega)⟩
        have o1 := hr1.own
        have o2 := hr2.own
        rw [List.length_map, hM] at o1 o2
        have k1 := own_iv o1 (y := z1) (by rw [List.getElem?_map, hz1]; rfl) (show m < N by omega)
        have k2 := own_iv o2 (y := z2) (by rw [List.getElem?_map, hz1]; rfl) (show m < N by omega)
        have htk : l.take (m + 1) = l.take m ++ [(z2, z1)] := by rw [List.take_add_one, hz1]; rfl
        have hmw : IntKind.i64.wrap ((m : Int) - 1) = (m : Int) - 1 := by rw [IntKind.wrap_i64]; omega
        have hm0 : (0 : Int) ≤ (m : Int) := by omega
        have hm1 : (m : Int) < (N : Int) := by omega
        have H := hidb hst
        have HL := hidb hr1
        have HA := hidb hr2
        rw [htk, List.reverse_append] at hmore
        have HR : Hid (R = (Gm.op z2 x [z1, y] >>= fun z => layB x (l.take m).reverse z) sy) := hidb hmore
        have hlm : (l.map Prod.snd).length ≤ 100002 := by rw [List.length_map]; exact hlb
        have hlm2 : (l.map Prod.fst).length ≤ 100002 := by rw [List.length_map]; exact hlb
        have HZ1 := hidb (show (l.map Prod.snd)[m]? = some z1 by rw [List.getElem?_map, hz1]; rfl)
        have HZ2 := hidb (show (l.map Prod.fst)[m]? = some z2 by rw [List.getElem?_map, hz1]; rfl)
        clear hst hr1 hr2 hj hz1 o1 o2 hmore htk hM
        go_wp2_with fail
        have HX := hidb (H.out.below (Below.drew (Below.refl _ _)))
        have HLX := hidb (HL.out.below (Below.drew (Below.refl _ _)))
        have HAX := hidb (HA.out.below (Below.drew (Below.refl _ _)))
        go_region_held2 (fun w' => w'.cell? ⟨q1, m, none⟩ = some (iv z1) ∧ w'.cell? ⟨q2, m, none⟩ = some (iv z2))
          (first | with_reducible exact ⟨y1, y2⟩ | go_keep)
          (first
            | (go_at_call 123; refine (pTwo _ z1 y z2 HX.out.at).mono ?_; intro r1 w3 hrz; obtain ⟨z, rfl, hbu, hor⟩ := hrz.one; have HOR := hidb hor; have o1 := row_but (n_of HLX.out HMM.out) hbu (fun k hk he => he.elim (fun e => HLX.out.ng (e ▸ hk)) (fun e => HLX.out.nv k hk e)); have o2 := row_but (n_of HAX.out HMM.out) hbu (fun k hk he => he.elim (fun e => HAX.out.ng (e ▸ hk)) (fun e => HAX.out.nv k hk e)); have y1 := own_iv o1 HZ1.out (by omega); have y2 := own_iv o2 HZ2.out (by omega); clear hrz hbu hor o1 o2))
        all_goals (
          go_wp2_with fail
          go_roundg g2
          (case measure => omega)
          (case rel =>
            rcases HOR.out with ⟨er, q, hq, hbd⟩ | ⟨s2, V2, hq, hs⟩
            · exact .inr ⟨m, z, (m : Int) - 1, er, q, rfl, rfl, (by omega), (by omega), (by omega), HR.out.trans (Gm.bind_err hq), HX.out.bad hbd, HLX.out.badrow hlm hbd, HAX.out.badrow hlm2 hbd, (fun he => HL.out.ng (by rw [he]; rfl)), (fun he => HA.out.ng (by rw [he]; rfl))⟩
            · exact .inl ⟨m, z, (m : Int) - 1, s2, V2, rfl, rfl, (by omega), (by omega), (by omega), HR.out.trans (Gm.bind_ok hq), HX.out.trans hs, HLX.out.step hs, HAX.out.step hs⟩))
    · subst hs9
      subst hs10
      cases i with
      | zero =>
        obtain rfl : j = -1 := by omega
        have H := hidb hbd
        have HRE := hidb hre
        clear hbd hre hr1 hr2 hj
        go_wp2_with fail
        go_ret
        exact .inl ⟨_, _, _, HRE.out, rfl, H.out⟩
      | succ m =>
        obtain rfl : j = (m : Int) := by omega
        obtain ⟨g2, rfl⟩ : ∃ g2, gk = g2 + 1 := ⟨gk - 1, by omega⟩
        have hM := HMM.out
        obtain ⟨⟨z2, z1⟩, hz1⟩ : ∃ z, l[m]? = some z := ⟨l[m], List.getElem?_eq_getElem (by omega)⟩
        have o1 := hr1.1
        have o2 := hr2.1
        rw [List.length_map, hM] at o1 o2
        have k1 := own_iv o1 (y := z1) (by rw [List.getElem?_map, hz1]; rfl) (show m < N by omega)
        have k2 := own_iv o2 (y := z2) (by rw [List.getElem?_map, hz1]; rfl) (show m < N by omega)
        have hmw : IntKind.i64.wrap ((m : Int) - 1) = (m : Int) - 1 := by rw [IntKind.wrap_i64]; omega
        have hm0 : (0 : Int) ≤ (m : Int) := by omega
        have hm1 : (m : Int) < (N : Int) := by omega
        have H := hidb hbd
        have HRE := hidb hre
        have HL := hidb hr1
        have HA := hidb hr2
        have HZ1 := hidb (show (l.map Prod.snd)[m]? = some z1 by rw [List.getElem?_map, hz1]; rfl)
        have HZ2 := hidb (show (l.map Prod.fst)[m]? = some z2 by rw [List.getElem?_map, hz1]; rfl)
        clear hbd hre hr1 hr2 hj hz1 o1 o2 hM
        go_wp2_with fail
        have HX := hidb (H.out.keep (Below.drew (Below.refl _ _)))
        have HLX := hidb (HL.out.but (But.of_below (S := fun _ => False) (Below.drew (Below.refl _ _))) (fun _ _ h => h))
        have HAX := hidb (HA.out.but (But.of_below (S := fun _ => False) (Below.drew (Below.refl _ _))) (fun _ _ h => h))
        go_region_held2 (fun w' => w'.cell? ⟨q1, m, none⟩ = some (iv z1) ∧ w'.cell? ⟨q2, m, none⟩ = some (iv z2))
          (first | with_reducible exact ⟨y1, y2⟩ | go_keep)
          (first
            | (go_at_call 123; refine (bTwo _ _ _ _ HX.out).mono ?_; rintro r1 w3 ⟨rfl, hd, hb⟩; have HL3 := hidb (HLX.out.but hb (fun k hk he => hg1 (by have he2 : k = g := he; simp [Value.ownBlock] at hk; omega))); have HA3 := hidb (HAX.out.but hb (fun k hk he => hg2 (by have he2 : k = g := he; simp [Value.ownBlock] at hk; omega))); have y1 := own_iv (n_of2 HL3.out HMM.out) HZ1.out (by omega); have y2 := own_iv (n_of2 HA3.out HMM.out) HZ2.out (by omega); have H3 := hidb hd; clear hb hd))
        all_goals (
          go_wp2_with fail
          go_roundg g2
          (case measure => omega)
          (case rel => exact .inr ⟨m, 0, (m : Int) - 1, er, p, rfl, rfl, (by omega), (by omega), (by omega), HRE.out, H3.out, HL3.out, HA3.out, hg1, hg2⟩))

end Rf
end Go.Proofs.YthdljnakmekhkaaGreatDoor


