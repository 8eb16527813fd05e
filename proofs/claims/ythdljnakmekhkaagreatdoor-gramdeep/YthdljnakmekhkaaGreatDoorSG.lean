import Derived.Test.YthdljnakmekhkaaGreatDoorG18
namespace Go.Proofs.YthdljnakmekhkaaGreatDoor
namespace Rf
open Go.RowKit Go.Lib
attribute [local go_sem] store_float f64bits
attribute [local go_sem ↓] Go.wp_at_zero Go.wp_at_succ
attribute [local go_sem] nd_p tk_k tk_x tk_n tk_f tk_p
variable {B g b o : Nat} {e : PM Nat}
theorem cb_t {α : Type} {s : PS} {x : ByteArray} {m : PM Nat} {K : Nat → PM α} (hm : Gm.isM (Gm.hd s) x = true) : (Gm.clausesBehind x m >>= K) s = (Gm.clauses m >>= K) (Gm.cut s) := by
  unfold Gm.clausesBehind
  rw [Gm.assoc, Gm.bind_ok (take_t hm)]
  rfl
theorem cb_f {α : Type} {s : PS} {x : ByteArray} {m : PM Nat} {K : Nat → PM α} (hm : Gm.isM (Gm.hd s) x = false) : (Gm.clausesBehind x m >>= K) s = (Gm.layNone 20 >>= K) s := by
  unfold Gm.clausesBehind
  rw [Gm.assoc, Gm.bind_ok (take_f hm)]
  rfl
theorem afterB_t {α : Type} {s : PS} {K : Int × Nat → PM α} (hm : Gm.isM (Gm.hd s) ⟨#[97, 102, 116, 101, 114]⟩ = true) : (Gm.afterB e >>= K) s = (Gm.body e >>= fun x => K (1, x)) (Gm.cut s) := by
  unfold Gm.afterB
  rw [Gm.assoc, Gm.bind_ok (take_t hm)]
  show ((Gm.body e >>= fun x => pure (1, x)) >>= K) (Gm.cut s) = _
  rw [Gm.assoc]
  rfl
theorem afterB_f {α : Type} {s : PS} {K : Int × Nat → PM α} (hm : Gm.isM (Gm.hd s) ⟨#[97, 102, 116, 101, 114]⟩ = false) : (Gm.afterB e >>= K) s = (Gm.layNone 19 >>= fun x => K (0, x)) s := by
  unfold Gm.afterB
  rw [Gm.assoc, Gm.bind_ok (take_f hm)]
  show ((Gm.layNone 19 >>= fun x => pure (0, x)) >>= K) s = _
  rw [Gm.assoc]
  rfl
set_option maxHeartbeats 8000000 in
set_option maxRecDepth 100000 in
theorem pTry (hE : EC B g b o e) (hC : ∀ {P : Nat → Prop} {w : World} {V : Value} {s : PS}, At B g b o P w V s → Calls Tryz.prog 156 #[.pointer (some ⟨g, 0, none⟩)] w fun r w' => Rz B g b o P w V (Gm.cclause e s) r w') (q : Nat) {P : Nat → Prop} {w : World} {V : Value} {s : PS} (h : At B g b o P w V s) :
    Calls Tryz.prog 150 #[.pointer (some ⟨g, 0, none⟩), .int .i64 (q : Int)] w fun r w' => Rz B g b o P w V (tryP e q s) r w' := by
  have H : Hid (St B g b o P w V w V s) := hidb h
  have HE := hidb hE
  have HP := hidb h.plt
  have HK := hidb (fun (P : Nat → Prop) (w : World) (V : Value) (s : PS) (h : At B g b o P w V s) => pClauses3 hE hC h)
  obtain ⟨R, hR⟩ : ∃ R, tryP e q s = R := ⟨_, rfl⟩
  rw [hR]
  have HR := hidb hR.symm
  have M0 : Hid True := hidb trivial
  have M1 : Hid True := hidb trivial
  have M2 : Hid True := hidb trivial
  have M3 : Hid True := hidb trivial
  clear hR h hE hC
  go_enter Tryz.func150, Tryz.ntmps150
  go_wp2_with (first
    | (go_at_call 107; clear M2; refine (pBody HE.out H.out.at).mono ?_; rintro r1 w1 (⟨er, q', bb, hq, rfl, hbd⟩ | ⟨bb, s1, V1, hq, rfl, hs⟩) <;> first | (replace H := hidb (H.out.trans hs); replace HR := hidb (HR.out.trans (Gm.bind_ok hq)); clear hs hq) | (have HRE := hidb (HR.out.trans (Gm.bind_err hq)); have HB : Hid (But (· = g) w1 w1) := hidb (But.refl _ _); replace H := hidb (H.out.bad hbd); clear hq hbd HR))
    | (go_at_call 105; clear M0; refine (sKept (x := ⟨#[111, 102]⟩) rfl H.out).mono ?_; rintro r1 w1 ⟨⟨hq, rfl⟩ | ⟨hq, rfl⟩, hb⟩ <;> first | (have HT : Hid (Gm.isM _ _ = true) := hidb hq; replace HR := hidb (HR.out.trans (cb_t hq)); replace H := hidb (H.out.below hb); clear hb hq) | (replace HR := hidb (HR.out.trans (cb_f hq)); replace H := hidb (H.out.below hb); clear hb hq))
    | (go_at_call 105; clear M1; refine (sKept (x := ⟨#[99, 97, 116, 99, 104]⟩) rfl H.out).mono ?_; rintro r1 w1 ⟨⟨hq, rfl⟩ | ⟨hq, rfl⟩, hb⟩ <;> first | (have HT : Hid (Gm.isM _ _ = true) := hidb hq; have HU := hidb hq; replace HR := hidb ((HR.out.trans (Gm.bind_here rfl)).trans (cb_t hq)); replace H := hidb (H.out.below hb); clear hb hq) | (have HN := hidb hq; replace HR := hidb ((HR.out.trans (Gm.bind_here rfl)).trans (cb_f hq)); replace H := hidb (H.out.below hb); clear hb hq))
    | (go_at_call 105; clear M3; refine (sKept (x := ⟨#[97, 102, 116, 101, 114]⟩) rfl H.out).mono ?_; rintro r1 w1 ⟨⟨hq, rfl⟩ | ⟨hq, rfl⟩, hb⟩ <;> first | (have HT : Hid (Gm.isM _ _ = true) := hidb hq; replace HR := hidb (((HR.out.trans (Gm.bind_here rfl)).trans (Gm.ite_t (.inr hq))).trans (afterB_t hq)); replace H := hidb (H.out.below hb); clear hb hq) | ((first | (have HU1 := HU.out; replace HR := hidb (((HR.out.trans (Gm.bind_here rfl)).trans (Gm.ite_t (.inl HU.out))).trans (afterB_f hq)); clear HU1) | (have HN1 := HN.out; replace HR := hidb ((HR.out.trans (Gm.bind_here rfl)).trans (Gm.ite_f (by rw [HN.out, hq]; decide))); clear HN1)); replace H := hidb (H.out.below hb); clear hb hq))
    | (go_at_call 29; refine (sNext H.out.at (Gm.isM_k HT.out)).mono ?_; rintro r1 w1 ⟨rfl, hs⟩; replace H := hidb (H.out.trans hs); clear hs HT)
    | (go_at_call 148; have M1c := M1; clear M1c; refine (pClauses1 HE.out H.out.at).mono ?_; rintro r1 w1 (⟨er, q', oo, hq, rfl, hbd⟩ | ⟨oo, s1, V1, hq, rfl, hs⟩) <;> first | (replace H := hidb (H.out.trans hs); replace HR := hidb (HR.out.trans (Gm.bind_ok hq)); clear hs hq) | (have HRE := hidb (HR.out.trans (Gm.bind_err hq)); have HB : Hid (But (· = g) w1 w1) := hidb (But.refl _ _); replace H := hidb (H.out.bad hbd); clear hq hbd HR))
    | (go_at_call 148; refine (HK.out _ _ _ _ H.out.at).mono ?_; rintro r1 w1 (⟨er, q', cc, hq, rfl, hbd⟩ | ⟨cc, s1, V1, hq, rfl, hs⟩) <;> first | (replace H := hidb (H.out.trans hs); replace HR := hidb (HR.out.trans (Gm.bind_ok hq)); clear hs hq) | (have HRE := hidb (HR.out.trans (Gm.bind_err hq)); have HB : Hid (But (· = g) w1 w1) := hidb (But.refl _ _); replace H := hidb (H.out.bad hbd); clear hq hbd HR))
    | (go_at_call 106; have M1c := M1; clear M1c; refine (pNone 20 H.out.at).mono ?_; rintro r1 w1 (⟨er, q', oo, hq, rfl, hbd⟩ | ⟨oo, s1, V1, hq, rfl, hs⟩) <;> first | (replace H := hidb (H.out.trans hs); replace HR := hidb (HR.out.trans (Gm.bind_ok hq)); clear hs hq) | (have HRE := hidb (HR.out.trans (Gm.bind_err hq)); have HB : Hid (But (· = g) w1 w1) := hidb (But.refl _ _); replace H := hidb (H.out.bad hbd); clear hq hbd HR))
    | (go_at_call 106; have M3c := M3; clear M3c; refine (pNone 20 H.out.at).mono ?_; rintro r1 w1 (⟨er, q', cc, hq, rfl, hbd⟩ | ⟨cc, s1, V1, hq, rfl, hs⟩) <;> first | (replace H := hidb (H.out.trans hs); replace HR := hidb (HR.out.trans (Gm.bind_ok hq)); clear hs hq) | (have HRE := hidb (HR.out.trans (Gm.bind_err hq)); have HB : Hid (But (· = g) w1 w1) := hidb (But.refl _ _); replace H := hidb (H.out.bad hbd); clear hq hbd HR))
    | (go_at_call 106; refine (pNone 19 H.out.at).mono ?_; rintro r1 w1 (⟨er, q', la, hq, rfl, hbd⟩ | ⟨la, s1, V1, hq, rfl, hs⟩) <;> first | (replace H := hidb (H.out.trans hs); replace HR := hidb (HR.out.trans (Gm.bind_ok hq)); clear hs hq) | (have HRE := hidb (HR.out.trans (Gm.bind_err hq)); have HB : Hid (But (· = g) w1 w1) := hidb (But.refl _ _); replace H := hidb (H.out.bad hbd); clear hq hbd HR))
    | (go_at_call 107; refine (pBody HE.out H.out.at).mono ?_; rintro r1 w1 (⟨er, q', la, hq, rfl, hbd⟩ | ⟨la, s1, V1, hq, rfl, hs⟩) <;> first | (replace H := hidb (H.out.trans hs); replace HR := hidb (HR.out.trans (Gm.bind_ok hq)); clear hs hq) | (have HRE := hidb (HR.out.trans (Gm.bind_err hq)); have HB : Hid (But (· = g) w1 w1) := hidb (But.refl _ _); replace H := hidb (H.out.bad hbd); clear hq hbd HR))
    | (go_at_call 26; refine (sNow H.out).mono ?_; rintro r1 w1 ⟨t, hq, rfl, hb⟩; have HRE := hidb (HR.out.trans (show Gm.giveUp 24 _ = .error (24, t.p) from by rw [← hq]; rfl)); replace H := hidb (H.out.below hb); clear hb hq HR)
    | (go_at_call 28; refine (sFail H.out.at t.p (by decide)).mono ?_; rintro r1 w1 ⟨rfl, hbd⟩; have HB : Hid (But (· = g) w1 w1) := hidb (But.refl _ _); replace H := hidb (H.out.bad hbd); clear hbd)
    | (go_at_call 27; refine (sWant (by first | exact .inl ⟨rfl, rfl⟩ | exact .inr ⟨rfl, rfl⟩) H.out.at).mono ?_; rintro r1 w1 (⟨er, q', hq, rfl, hbd⟩ | ⟨s1, hq, rfl, hs⟩) <;> first | (replace H := hidb (H.out.trans hs); replace HR := hidb (HR.out.trans (Gm.bind_ok hq)); clear hs hq) | (have HRE := hidb (HR.out.trans (Gm.bind_err hq)); have HB : Hid (But (· = g) w1 w1) := hidb (But.refl _ _); replace H := hidb (H.out.bad hbd); clear hq hbd HR))
    | (go_at_call 32; refine (sNodeR (n := ⟨16, ⟨#[]⟩, _, 0, [bb, oo, cc, la], q⟩) HR.out (IR.lit H.out #[iv bb, iv oo, iv cc, iv la] [bb, oo, cc, la] rfl (by simp)).2.drop.at ((IR.lit H.out #[iv bb, iv oo, iv cc, iv la] [bb, oo, cc, la] rfl (by simp)).1.lr HP.out)).mono ?_; rintro r1 w2 (⟨er, q2, z, hq, rfl, hbd⟩ | ⟨z, s2, V2, hq, rfl, hs⟩) <;> first | (replace H := hidb ((IR.lit H.out #[iv bb, iv oo, iv cc, iv la] [bb, oo, cc, la] rfl (by simp)).2.drop.trans hs); replace HR := hidb hq; clear hs hq) | (have HRE := hidb hq; have HB : Hid (But (· = g) w2 w2) := hidb (But.refl _ _); replace H := hidb ((IR.lit H.out #[iv bb, iv oo, iv cc, iv la] [bb, oo, cc, la] rfl (by simp)).2.drop.bad hbd); clear hq hbd HR))
    | (go_at_call 26; refine (bNow H.out).mono ?_; rintro r1 w1 ⟨⟨tk, tx, tn, tf, tp⟩, rfl, hb⟩; replace HB := hidb (HB.out.trans (But.of_below hb)); replace H := hidb (H.out.keep hb); clear hb)
    | (go_at_call 105; refine (bKept _ H.out).mono ?_; rintro r1 w1 ⟨rfl, hb⟩; replace HB := hidb (HB.out.trans (But.of_below hb)); replace H := hidb (H.out.keep hb); clear hb)
    | (go_at_call 29; refine (bNext H.out).mono ?_; rintro r1 w1 ⟨rfl, hb⟩; replace HB := hidb (HB.out.trans (But.of_below hb)); replace H := hidb (H.out.keep hb); clear hb)
    | (go_at_call 28; refine (bFail _ _ H.out).mono ?_; rintro r1 w1 ⟨rfl, hd, hb⟩; replace HB := hidb (HB.out.trans hb); replace H := hidb hd; clear hb hd)
    | (go_at_call 107; refine (bBody H.out).mono ?_; rintro r1 w1 ⟨rfl, hd, hb⟩; replace HB := hidb (HB.out.trans hb); replace H := hidb hd; clear hb hd)
    | (go_at_call 106; refine (bNone _ H.out).mono ?_; rintro r1 w1 ⟨rfl, hd, hb⟩; replace HB := hidb (HB.out.trans hb); replace H := hidb hd; clear hb hd)
    | (go_at_call 27; refine (bWant _ _ H.out).mono ?_; rintro r1 w1 ⟨rfl, hd, hb⟩; replace HB := hidb (HB.out.trans hb); replace H := hidb hd; clear hb hd)
    | (go_at_call 32; refine (bNode _ _ _ _ _ _ (H.out.keep (below_new _ _))).mono ?_; rintro r1 w1 ⟨rfl, hd, hb⟩; replace HB := hidb ((HB.out.trans (But.of_below (below_new _ _))).trans hb); replace H := hidb hd; clear hb hd))
  all_goals (
    go_ret
    first
      | exact .inr ⟨_, _, _, HR.out, rfl, H.out⟩
      | exact .inl ⟨_, _, _, HRE.out, rfl, H.out⟩)
end Rf
end Go.Proofs.YthdljnakmekhkaaGreatDoor
