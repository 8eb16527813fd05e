import Derived.Test.YthdljnakmekhkaaGreatDoorG15
/- The reference's parser: whole. -/
namespace Go.Proofs.YthdljnakmekhkaaGreatDoor
namespace Rf
open Go.RowKit Go.Lib
attribute [local go_sem] store_float f64bits
attribute [local go_sem ↓] Go.wp_at_zero Go.wp_at_succ
attribute [local go_sem] nd_p tk_k tk_x tk_n tk_f tk_p
variable {B g b o : Nat} {e : PM Nat}

theorem St.hold {P : Nat → Prop} {w0 w : World} {V0 V : Value} {s : PS} (h : St B g b o P w0 V0 w V s) (ob : Obj) : St B g b o (PV P (hv w.heap.size)) w0 V0 (w.alloc ob) V s := by
  have hb : Below w.heap.size w (w.alloc ob) := below_new _ _
  refine (h.below hb).more ?_ ((h.ns.newer (v := hv w.heap.size) (fun k hk => by simp [Value.ownBlock] at hk; omega)).but (But.of_below (S := fun _ => False) hb) (fun _ _ h => h) (fun _ h => h.elim))
  intro k hk
  simp [Value.ownBlock] at hk
  subst hk
  exact ⟨by simp, by have := h.glt; omega, h.at.fresh⟩
theorem bx_no {P : Nat → Prop} {w0 w : World} {V0 V : Value} {s : PS} {k : Nat} (h : St B g b o (PV P (hv k)) w0 V0 w V s) : ¬ (k = g ∨ V.ownBlock = some k) := by
  have := h.npv k (.inr rfl)
  rintro (e | e)
  · exact this.2 e
  · exact this.1 e

set_option maxHeartbeats 8000000 in
set_option maxRecDepth 100000 in
theorem pWhole (hE : EC B g b o e) (hU : ∀ {P : Nat → Prop} {w : World} {V : Value} {s : PS}, At B g b o P w V s → Calls Tryz.prog 122 #[.pointer (some ⟨g, 0, none⟩)] w fun r w' => Rz B g b o P w V (Gm.orelse e s) r w') {P : Nat → Prop} {w : World} {V : Value} {s : PS} (h : At B g b o P w V s) :
    Calls Tryz.prog 117 #[.pointer (some ⟨g, 0, none⟩)] w fun r w' => Rz B g b o P w V (Gm.opened e s) r w' := by
  have H : Hid (St B g b o P w V w V s) := hidb h
  have HE := hidb hE
  have HP := hidb h.plt
  obtain ⟨R, hR⟩ : ∃ R, Gm.opened e s = R := ⟨_, rfl⟩
  rw [hR]
  have HR := hidb hR.symm
  have HU := hidb (fun (P : Nat → Prop) (w : World) (V : Value) (s : PS) (h : At B g b o P w V s) => hU h)
  clear hR h hE hU
  cases hm : Gm.isM (Gm.hd s) ⟨#[99, 97, 116, 99, 104]⟩ with
  | true =>
    have HM := hidb hm
    clear hm
    go_enter Tryz.func117, Tryz.ntmps117
    go_wp2_with (first
      | (go_at_call 26; refine (sNow H.out).mono ?_; rintro r1 wn ⟨⟨tk, tx, tn, tf, tp⟩, hq, rfl, hb⟩; replace H := hidb (H.out.below hb); replace HR := hidb (HR.out.trans (Gm.bind_here hq)); have TT := hidb hq; have BX := hidb (Box.new wn 41 (.int .i64 tk) (.string tx) (.int .i64 tn) (.float .f64 tf) (.int .i64 (tp : Int))); replace H := hidb (H.out.hold (.cells #[.int .i64 tk, .string tx, .int .i64 tn, .float .f64 tf, .int .i64 (tp : Int)] 41)); obtain ⟨x0, x1, x2, x3, x4, -, -, -, -, -, xl⟩ := BX.out; clear hb hq)
      | (go_at_call 105; refine (sKept rfl H.out).mono ?_; rintro r1 w1 ⟨⟨hq, rfl⟩ | ⟨hq, rfl⟩, hb⟩ <;> first | (rw [HM.out] at hq; cases hq; done) | (replace BX := hidb (Box.but BX.out (But.of_below (S := fun _ => False) hb) (fun h => h)); obtain ⟨x0, x1, x2, x3, x4, -, -, -, -, -, xl⟩ := BX.out; replace H := hidb (H.out.below hb); clear hb hq))
      | (go_at_call 29; refine (sNextT H.out.at HM.out).mono ?_; rintro r1 w1 ⟨rfl, hs⟩; replace BX := hidb (Box.but BX.out hs.but (bx_no H.out)); obtain ⟨x0, x1, x2, x3, x4, -, -, -, -, -, xl⟩ := BX.out; replace H := hidb (H.out.trans hs); replace HR := hidb (HR.out.trans (Gm.bind_t (take_t HM.out))); clear hs)
      | (go_at_call 104; refine (HE.out.run H.out.at).mono ?_; rintro r1 w1 (⟨er, q, x, hq, rfl, hbd⟩ | ⟨x, s1, V1, hq, rfl, hs⟩) <;> first | (replace BX := hidb (Box.but BX.out hs.but (bx_no H.out)); obtain ⟨x0, x1, x2, x3, x4, -, -, -, -, -, xl⟩ := BX.out; replace H := hidb (H.out.trans hs); replace HR := hidb (HR.out.trans (Gm.bind_ok hq)); clear hs hq) | (have HRE := hidb (HR.out.trans (Gm.bind_err hq)); replace BX := hidb (Box.but BX.out hbd.but (bx_no H.out)); have HXG := hidb (fun e => (bx_no H.out) (.inl e) : wn.heap.size ≠ g); obtain ⟨x0, x1, x2, x3, x4, -, -, -, -, -, xl⟩ := BX.out; have HB : Hid (But (· = g) w1 w1) := hidb (But.refl _ _); replace H := hidb (H.out.bad hbd); clear hq hbd HR))
      | (go_at_call 32; refine (sNodeR (n := ⟨17, ⟨#[]⟩, 0, 0, [x], tp⟩) HR.out (IR.lit H.out.drop #[iv x] [x] rfl (by simp)).2.drop.at ((IR.lit H.out.drop #[iv x] [x] rfl (by simp)).1.lr HP.out)).mono ?_; rintro r1 w2 (⟨er, q, z, hq, rfl, hbd⟩ | ⟨z, s2, V2, hq, rfl, hs⟩) <;> first | (replace H := hidb ((IR.lit H.out.drop #[iv x] [x] rfl (by simp)).2.drop.trans hs); replace HR := hidb hq; clear hs hq) | (have HRE := hidb hq; have HB : Hid (But (· = g) w2 w2) := hidb (But.refl _ _); replace H := hidb ((IR.lit H.out.drop #[iv x] [x] rfl (by simp)).2.drop.bad hbd); clear hq hbd HR))
      | (go_at_call 32; refine (bNode _ _ _ _ _ _ (H.out.keep (below_new _ _))).mono ?_; rintro r1 w1 ⟨rfl, hd, hb⟩; replace HB := hidb ((HB.out.trans (But.of_below (below_new _ _))).trans hb); replace H := hidb hd; clear hb hd))
    all_goals (
      go_ret
      first
        | exact .inr ⟨_, _, _, HR.out, rfl, H.out⟩
        | exact .inl ⟨_, _, _, HRE.out, rfl, H.out⟩)
  | false =>
    have HM := hidb hm
    clear hm
    go_enter Tryz.func117, Tryz.ntmps117
    go_wp2_with (first
      | (go_at_call 26; refine (sNow H.out).mono ?_; rintro r1 wn ⟨⟨tk, tx, tn, tf, tp⟩, hq, rfl, hb⟩; replace H := hidb (H.out.below hb); replace HR := hidb (HR.out.trans (Gm.bind_here hq)); have TT := hidb hq; have BX := hidb (Box.new wn 41 (.int .i64 tk) (.string tx) (.int .i64 tn) (.float .f64 tf) (.int .i64 (tp : Int))); replace H := hidb (H.out.hold (.cells #[.int .i64 tk, .string tx, .int .i64 tn, .float .f64 tf, .int .i64 (tp : Int)] 41)); obtain ⟨x0, x1, x2, x3, x4, -, -, -, -, -, xl⟩ := BX.out; clear hb hq)
      | (go_at_call 105; refine (sKept rfl H.out).mono ?_; rintro r1 w1 ⟨⟨hq, rfl⟩ | ⟨hq, rfl⟩, hb⟩ <;> first | (rw [HM.out] at hq; cases hq; done) | (replace BX := hidb (Box.but BX.out (But.of_below (S := fun _ => False) hb) (fun h => h)); obtain ⟨x0, x1, x2, x3, x4, -, -, -, -, -, xl⟩ := BX.out; replace HR := hidb (HR.out.trans (Gm.bind_f (take_f hq))); replace H := hidb (H.out.below hb); clear hb hq))
      | (go_at_call 122; refine (HU.out _ _ _ _ H.out.at).mono ?_; rintro r1 w1 (⟨er, q, x, hq, rfl, hbd⟩ | ⟨x, s1, V1, hq, rfl, hs⟩) <;> first | (replace BX := hidb (Box.but BX.out hs.but (bx_no H.out)); obtain ⟨x0, x1, x2, x3, x4, -, -, -, -, -, xl⟩ := BX.out; replace H := hidb (H.out.trans hs); replace HR := hidb (HR.out.trans (Gm.bind_ok hq)); clear hs hq) | (have HRE := hidb (HR.out.trans (Gm.bind_err hq)); replace BX := hidb (Box.but BX.out hbd.but (bx_no H.out)); have HXG := hidb (fun e => (bx_no H.out) (.inl e) : wn.heap.size ≠ g); obtain ⟨x0, x1, x2, x3, x4, -, -, -, -, -, xl⟩ := BX.out; have HB : Hid (But (· = g) w1 w1) := hidb (But.refl _ _); replace H := hidb (H.out.bad hbd); clear hq hbd HR))
      | (go_at_call 64; refine (sSign rfl H.out).mono ?_; rintro r1 w1 ⟨⟨hq, rfl⟩ | ⟨hq, rfl⟩, hb⟩ <;> first | (have HT : Hid (Gm.isM _ _ = true) := hidb hq; replace BX := hidb (Box.but BX.out (But.of_below (S := fun _ => False) hb) (fun h => h)); obtain ⟨x0, x1, x2, x3, x4, -, -, -, -, -, xl⟩ := BX.out; replace HR := hidb (HR.out.trans (Gm.bind_t (take_t hq))); replace H := hidb (H.out.below hb); clear hb hq) | (replace BX := hidb (Box.but BX.out (But.of_below (S := fun _ => False) hb) (fun h => h)); obtain ⟨x0, x1, x2, x3, x4, -, -, -, -, -, xl⟩ := BX.out; replace HR := hidb (HR.out.trans (Gm.bind_f (take_f hq))); replace H := hidb (H.out.below hb); clear hb hq))
      | (go_at_call 29; refine (sNext H.out.at (Gm.isM_k HT.out)).mono ?_; rintro r1 w1 ⟨rfl, hs⟩; replace BX := hidb (Box.but BX.out hs.but (bx_no H.out)); obtain ⟨x0, x1, x2, x3, x4, -, -, -, -, -, xl⟩ := BX.out; replace H := hidb (H.out.trans hs); clear hs)
      | (go_at_call 104; refine (HE.out.run H.out.at).mono ?_; rintro r1 w1 (⟨er, q, y, hq, rfl, hbd⟩ | ⟨y, s1, V1, hq, rfl, hs⟩) <;> first | (replace BX := hidb (Box.but BX.out hs.but (bx_no H.out)); obtain ⟨x0, x1, x2, x3, x4, -, -, -, -, -, xl⟩ := BX.out; replace H := hidb (H.out.trans hs); replace HR := hidb (HR.out.trans (Gm.bind_ok hq)); clear hs hq) | (have HRE := hidb (HR.out.trans (Gm.bind_err hq)); replace BX := hidb (Box.but BX.out hbd.but (bx_no H.out)); have HXG := hidb (fun e => (bx_no H.out) (.inl e) : wn.heap.size ≠ g); obtain ⟨x0, x1, x2, x3, x4, -, -, -, -, -, xl⟩ := BX.out; have HB : Hid (But (· = g) w1 w1) := hidb (But.refl _ _); replace H := hidb (H.out.bad hbd); clear hq hbd HR))
      | (go_at_call 32; refine (sNodeR (n := ⟨10, ⟨#[]⟩, 0, 0, [x, y], tp⟩) HR.out (IR.lit H.out.drop #[iv x, iv y] [x, y] rfl (by simp)).2.drop.at ((IR.lit H.out.drop #[iv x, iv y] [x, y] rfl (by simp)).1.lr HP.out)).mono ?_; rintro r1 w2 (⟨er, q, z, hq, rfl, hbd⟩ | ⟨z, s2, V2, hq, rfl, hs⟩) <;> first | (replace H := hidb ((IR.lit H.out.drop #[iv x, iv y] [x, y] rfl (by simp)).2.drop.trans hs); replace HR := hidb hq; clear hs hq) | (have HRE := hidb hq; have HB : Hid (But (· = g) w2 w2) := hidb (But.refl _ _); replace H := hidb ((IR.lit H.out.drop #[iv x, iv y] [x, y] rfl (by simp)).2.drop.bad hbd); clear hq hbd HR))
      | (go_at_call 123; refine (pTwo _ x y tp H.out.drop.at).mono ?_; rintro r1 w2 (⟨er, q, z, hq, rfl, hbd⟩ | ⟨z, s2, V2, hq, rfl, hs⟩) <;> first | (replace H := hidb (H.out.drop.trans hs); replace HR := hidb (HR.out.trans hq); clear hs hq) | (have HRE := hidb (HR.out.trans hq); replace H := hidb (H.out.drop.bad hbd); clear hq hbd HR))
      | (go_at_call 64; refine (bSign _ H.out).mono ?_; rintro r1 w1 ⟨rfl, hb⟩; replace BX := hidb (Box.but BX.out (But.of_below (S := (· = g)) hb) (fun e => HXG.out e)); obtain ⟨x0, x1, x2, x3, x4, -, -, -, -, -, xl⟩ := BX.out; replace HB := hidb (HB.out.trans (But.of_below hb)); replace H := hidb (H.out.keep hb); clear hb)
      | (go_at_call 104; refine (bExpr H.out).mono ?_; rintro r1 w1 ⟨rfl, hd, hb⟩; replace BX := hidb (Box.but BX.out (hb) (fun e => HXG.out e)); obtain ⟨x0, x1, x2, x3, x4, -, -, -, -, -, xl⟩ := BX.out; replace HB := hidb (HB.out.trans hb); replace H := hidb hd; clear hb hd)
      | (go_at_call 32; refine (bNode _ _ _ _ _ _ (H.out.keep (below_new _ _))).mono ?_; rintro r1 w1 ⟨rfl, hd, hb⟩; replace HB := hidb ((HB.out.trans (But.of_below (below_new _ _))).trans hb); replace H := hidb hd; clear hb hd)
      | (go_at_call 123; refine (bTwo _ _ _ _ H.out).mono ?_; rintro r1 w1 ⟨rfl, hd, hb⟩; replace HB := hidb (HB.out.trans hb); replace H := hidb hd; clear hb hd))
    all_goals (
      go_ret
      first
        | exact .inr ⟨_, _, _, HR.out, rfl, H.out⟩
        | exact .inr ⟨_, _, _, HR.out, rfl, H.out.drop⟩
        | exact .inl ⟨_, _, _, HRE.out, rfl, H.out⟩)

end Rf
end Go.Proofs.YthdljnakmekhkaaGreatDoor


/- The reference's parser: list. -/
namespace Go.Proofs.YthdljnakmekhkaaGreatDoor
namespace Rf
open Go.RowKit Go.Lib
attribute [local go_sem] store_float f64bits
attribute [local go_sem ↓] Go.wp_at_zero Go.wp_at_succ
attribute [local go_sem] nd_p tk_k tk_x tk_n tk_f tk_p
variable {B g b o : Nat} {e : PM Nat}

def listP (e : PM Nat) (p : Nat) : PM Nat := do
  let u ← Gm.here
  if Gm.isM u ⟨#[93]⟩ then do
    Gm.need ⟨#[93]⟩
    Gm.lay ⟨7, ⟨#[]⟩, 0, 0, [], p⟩
  else do
    let l ← Gm.exprs e Gm.noBound
    let b ← Gm.take ⟨#[124]⟩
    if b then do
      let x ← e
      Gm.need ⟨#[93]⟩
      Gm.lay ⟨8, ⟨#[]⟩, 0, 0, l ++ [x], p⟩
    else do
      Gm.need ⟨#[93]⟩
      Gm.lay ⟨7, ⟨#[]⟩, 0, 0, l, p⟩
set_option maxHeartbeats 8000000 in
set_option maxRecDepth 100000 in
theorem pList (hE : EC B g b o e) (q : Nat) {P : Nat → Prop} {w : World} {V : Value} {s : PS} (h : At B g b o P w V s) :
    Calls Tryz.prog 146 #[.pointer (some ⟨g, 0, none⟩), .int .i64 (q : Int)] w fun r w' => Rz B g b o P w V (listP e q s) r w' := by
  obtain ⟨i0, hi0, hz0, hz1, hz2⟩ := info_parts (P := Tryz.prog) (e := IT) (z := .int .i64 0) (size := 1) (bytes := 8) (by kernel_rfl)
  have H : Hid (St B g b o P w V w V s) := hidb h
  have HE := hidb hE
  have HP := hidb h.plt
  have hgl := h.glt
  have hbl := h.blt
  obtain ⟨R, hR⟩ : ∃ R, listP e q s = R := ⟨_, rfl⟩
  rw [hR]
  have HR := hidb (hR.symm.trans (Gm.bind_here rfl))
  clear hR h hE
  cases hm : Gm.isM (Gm.hd s) ⟨#[93]⟩ with
  | true =>
    have HM := hidb hm
    replace HR := hidb ((HR.out.trans (Gm.ite_t hm)).trans (Gm.bind_ok (need_t hm)))
    clear hm
    go_enter Tryz.func146, Tryz.ntmps146
    go_wp2_with (first
      | (go_at_call 64; refine (sSign rfl H.out).mono ?_; rintro r1 w1 ⟨⟨hq, rfl⟩ | ⟨hq, rfl⟩, hb⟩ <;> first | (rw [HM.out] at hq; cases hq; done) | (replace H := hidb (H.out.below hb); clear hb hq))
      | (go_at_call 29; refine (sNextT H.out.at HM.out).mono ?_; rintro r1 w1 ⟨rfl, hs⟩; replace H := hidb (H.out.trans hs); clear hs)
      | (go_at_call 32; refine (sNodeR HR.out H.out.at (LR.none _ _ _ _)).mono ?_; rintro r1 w1 (⟨er, q, z, hq, rfl, hbd⟩ | ⟨z, s1, V1, hq, rfl, hs⟩) <;> first | (replace H := hidb (H.out.trans hs); replace HR := hidb hq; clear hs hq) | (have HRE := hidb hq; have HB : Hid (But (· = g) w1 w1) := hidb (But.refl _ _); replace H := hidb (H.out.bad hbd); clear hq hbd HR)))
    all_goals (
      go_ret
      first
        | exact .inr ⟨_, _, _, HR.out, rfl, H.out⟩
        | exact .inl ⟨_, _, _, HRE.out, rfl, H.out⟩)
  | false =>
    have HM := hidb hm
    replace HR := hidb (HR.out.trans (Gm.ite_f (by simp [hm])))
    have M0 : Hid True := hidb trivial
    clear hm
    go_enter Tryz.func146, Tryz.ntmps146
    go_wp2_with (first
      | (go_at_call 64; clear M0; refine (sSign rfl H.out).mono ?_; rintro r1 w1 ⟨⟨hq, rfl⟩ | ⟨hq, rfl⟩, hb⟩ <;> first | (rw [HM.out] at hq; cases hq; done) | (replace H := hidb (H.out.below hb); clear hb hq))
      | (go_at_call 86; refine (pExprsF HE.out H.out.at).mono ?_; rintro r1 w1 (⟨er, q, v, l, hq, rfl, hw, hng, hbd⟩ | ⟨l, s1, V1, v, hq, rfl, hs, hs2, hi, hlen⟩) <;> first | (obtain ⟨la, lc, rfl⟩ := hi.sl; have HI := hidb (hi.rebase H.out.but.size); have HN := hidb hlen; replace H := hidb (H.out.trans hs2); replace HR := hidb (HR.out.trans (Gm.bind_ok hq)); clear hs hs2 hi hq hlen) | (obtain ⟨la, lc, rfl⟩ := own_sl hw.1; have HRE := hidb (HR.out.trans (Gm.bind_err hq)); have HW := hidb (RB.base hw H.out.but.size); have HNG := hidb hng; have HB : Hid (But (· = g) w1 w1) := hidb (But.refl _ _); replace H := hidb (H.out.bad hbd); clear hq hbd hw hng HR))
      | (go_at_call 64; refine (sSign rfl H.out).mono ?_; rintro r1 w1 ⟨⟨hq, rfl⟩ | ⟨hq, rfl⟩, hb⟩ <;> first | (have HT : Hid (Gm.isM _ _ = true) := hidb hq; replace HR := hidb (HR.out.trans (Gm.bind_t (take_t hq))); replace HI := hidb (HI.out.below hb); replace H := hidb (H.out.below hb); clear hb hq) | (replace HR := hidb (HR.out.trans (Gm.bind_f (take_f hq))); replace HI := hidb (HI.out.below hb); replace H := hidb (H.out.below hb); clear hb hq))
      | (go_at_call 29; refine (sNext H.out.at (Gm.isM_k HT.out)).mono ?_; rintro r1 w1 ⟨rfl, hs⟩; replace HI := hidb (HI.out.step hs); replace H := hidb (H.out.trans hs); clear hs)
      | (go_at_call 27; refine (sWant (.inl ⟨rfl, rfl⟩) H.out.at).mono ?_; rintro r1 w1 (⟨er, q', hq, rfl, hbd⟩ | ⟨s1, hq, rfl, hs⟩) <;> first | (replace HI := hidb (HI.out.step hs); replace H := hidb (H.out.trans hs); replace HR := hidb (HR.out.trans (Gm.bind_ok hq)); clear hs hq) | (have HRE := hidb (HR.out.trans (Gm.bind_err hq)); have HB : Hid (But (· = g) w1 w1) := hidb (But.refl _ _); replace H := hidb (H.out.bad hbd); clear hq hbd HR))
      | (go_at_call 32; refine (sNodeR HR.out H.out.drop.at (HI.out.lr HP.out)).mono ?_; rintro r1 w1 (⟨er, q2, z, hq, rfl, hbd⟩ | ⟨z, s1, V1, hq, rfl, hs⟩) <;> first | (replace H := hidb (H.out.drop.trans hs); replace HR := hidb hq; clear hs hq) | (have HRE := hidb hq; have HB : Hid (But (· = g) w1 w1) := hidb (But.refl _ _); replace H := hidb (H.out.drop.bad hbd); clear hq hbd HR))
      | (go_at_call 104; refine (HE.out.run H.out.at).mono ?_; rintro r1 w1 (⟨er, q', x, hq, rfl, hbd⟩ | ⟨x, s1, V1, hq, rfl, hs⟩) <;> first | (replace HI := hidb (HI.out.step hs); replace H := hidb (H.out.trans hs); replace HR := hidb (HR.out.trans (Gm.bind_ok hq)); clear hs hq) | (have HRE := hidb (HR.out.trans (Gm.bind_err hq)); have HW := hidb (HI.out.badrow (by have := HN.out; omega) hbd); replace H := hidb (H.out.bad hbd); clear hq hbd HR))
      | (at_builtin; refine wpList_append_own_at _ rfl _ _ 44 rfl w.heap.size IT i0 (.int .i64 0) 1 8 Tryz.underlying44 hi0 hz0 hz1 hz2 rfl (by decide) _ _ _ rfl (HI.out.own.alloc _) ⟨w1.heap.size, 0, none⟩ 1 1 [iv x] rfl rfl ?_ ?_ ?_ ?_ ?_ ?_)
      | (at_builtin; refine wpList_append_own_at _ rfl _ _ 44 rfl w.heap.size IT i0 (.int .i64 0) 1 8 Tryz.underlying44 hi0 hz0 hz1 hz2 rfl (by decide) _ _ _ rfl (HW.out.1.alloc _) ⟨w1.heap.size, 0, none⟩ 1 1 [iv x] rfl rfl ?_ ?_ ?_ ?_ ?_ ?_)
      | (go_at_call 64; refine (bSign _ H.out).mono ?_; rintro r1 w1 ⟨rfl, hb⟩; replace HB := hidb (HB.out.trans (But.of_below hb)); replace H := hidb (H.out.keep hb); clear hb)
      | (go_at_call 27; refine (bWant _ _ H.out).mono ?_; rintro r1 w1 ⟨rfl, hd, hb⟩; replace HB := hidb (HB.out.trans hb); replace H := hidb hd; clear hb hd)
      | (go_at_call 32; refine (bNode _ _ _ _ _ _ H.out).mono ?_; rintro r1 w1 ⟨rfl, hd, hb⟩; replace HB := hidb (HB.out.trans hb); replace H := hidb hd; clear hb hd))
    all_goals first
      | (go_ret
         first
           | exact .inr ⟨_, _, _, HR.out, rfl, H.out⟩
           | exact .inl ⟨_, _, _, HRE.out, rfl, H.out⟩)
      | (intro q u hq; exact app_ints _ _ _ rfl q u hq)
      | (intro u hu; cases List.mem_singleton.1 hu; rfl)
      | (have := HN.out; unfold maxLen; omega)
      | (have := HN.out; omega)
      | (have := HW.out.2; unfold maxLen; omega)
      | (have := HW.out.2; omega)
      | (have := H.out.but.size; simp; omega)
      | skip
    · intro v' w3 hown hgrow hnil hat
      obtain ⟨j1, j2, j3⟩ := RB.app (xs := [x]) H.out hgl hbl HW.out hgrow hown (by have := HN.out; simp; omega)
      obtain ⟨a', c', rfl⟩ := own_sl j1.1
      replace H := hidb j2
      have HB : Hid (But (· = g) w3 w3) := hidb (But.refl _ _)
      clear j1 j2 j3 hown hgrow hnil hat
      go_wp2_with (first
        | (go_at_call 27; refine (bWant _ _ H.out).mono ?_; rintro r1 w1 ⟨rfl, hd, hb⟩; replace HB := hidb (HB.out.trans hb); replace H := hidb hd; clear hb hd)
        | (go_at_call 32; refine (bNode _ _ _ _ _ _ H.out).mono ?_; rintro r1 w1 ⟨rfl, hd, hb⟩; replace HB := hidb (HB.out.trans hb); replace H := hidb hd; clear hb hd))
      go_ret
      exact .inl ⟨_, _, _, HRE.out, rfl, H.out⟩
    · intro v' w3 hown hgrow hnil hat
      obtain ⟨j1, j2⟩ := IR.app (xs := [x]) H.out HI.out hgrow hat hown
      obtain ⟨a', c', rfl⟩ := own_sl hown
      replace HI := hidb j1
      replace H := hidb j2
      clear j1 j2 hown hgrow hnil hat
      go_wp2_with (first
        | (go_at_call 27; refine (sWant (.inl ⟨rfl, rfl⟩) H.out.at).mono ?_; rintro r1 w4 (⟨er, q', hq, rfl, hbd⟩ | ⟨s2, hq, rfl, hs⟩) <;> first | (replace HI := hidb (HI.out.step hs); replace H := hidb (H.out.trans hs); replace HR := hidb (HR.out.trans (Gm.bind_ok hq)); clear hs hq) | (have HRE := hidb (HR.out.trans (Gm.bind_err hq)); have HB : Hid (But (· = g) w4 w4) := hidb (But.refl _ _); replace H := hidb (H.out.bad hbd); clear hq hbd HR))
        | (go_at_call 32; refine (sNodeR HR.out H.out.drop.at (HI.out.lr HP.out)).mono ?_; rintro r1 w5 (⟨er, q2, z, hq, rfl, hbd⟩ | ⟨z, s1, V1, hq, rfl, hs⟩) <;> first | (replace H := hidb (H.out.drop.trans hs); replace HR := hidb hq; clear hs hq) | (have HRE := hidb hq; have HB : Hid (But (· = g) w5 w5) := hidb (But.refl _ _); replace H := hidb (H.out.drop.bad hbd); clear hq hbd HR))
        | (go_at_call 32; refine (bNode _ _ _ _ _ _ H.out).mono ?_; rintro r1 w1 ⟨rfl, hd, hb⟩; replace HB := hidb (HB.out.trans hb); replace H := hidb hd; clear hb hd))
      all_goals (
        go_ret
        first
          | exact .inr ⟨_, _, _, HR.out, rfl, H.out⟩
          | exact .inl ⟨_, _, _, HRE.out, rfl, H.out⟩)

end Rf
end Go.Proofs.YthdljnakmekhkaaGreatDoor


/- The reference's parser: fun. -/
namespace Go.Proofs.YthdljnakmekhkaaGreatDoor
namespace Rf
open Go.RowKit Go.Lib
attribute [local go_sem] store_float f64bits
attribute [local go_sem ↓] Go.wp_at_zero Go.wp_at_succ
attribute [local go_sem] nd_p tk_k tk_x tk_n tk_f tk_p
variable {B g b o : Nat} {e : PM Nat}

def fnP (e : PM Nat) (p : Nat) : PM Nat := do
  let u ← Gm.here
  if u.k = 1 then Gm.funName p else do
    let c ← Gm.clauses (Gm.gclause e)
    Gm.need ⟨#[101, 110, 100]⟩
    Gm.lay ⟨13, ⟨#[]⟩, 0, 0, [c], p⟩
set_option maxHeartbeats 8000000 in
set_option maxRecDepth 100000 in
theorem pFun (hE : EC B g b o e) (q : Nat) {P : Nat → Prop} {w : World} {V : Value} {s : PS} (h : At B g b o P w V s) :
    Calls Tryz.prog 149 #[.pointer (some ⟨g, 0, none⟩), .int .i64 (q : Int)] w fun r w' => Rz B g b o P w V (fnP e q s) r w' := by
  have H : Hid (St B g b o P w V w V s) := hidb h
  have HE := hidb hE
  have HP := hidb h.plt
  obtain ⟨R, hR⟩ : ∃ R, fnP e q s = R := ⟨_, rfl⟩
  rw [hR]
  have HR := hidb (hR.symm.trans (Gm.bind_here rfl))
  clear hR h hE
  by_cases hk : (Gm.hd s).k = 1
  · replace HR := hidb (HR.out.trans (Gm.ite_t hk))
    have h8 : (Gm.hd s).k ≠ 8 := by omega
    have HK := hidb hk
    clear hk
    obtain ⟨u, hu⟩ : ∃ u, Gm.hd s = u := ⟨_, rfl⟩
    obtain ⟨uk, ux, un, uf, up⟩ := u
    obtain rfl : uk = 1 := by have := HK.out; rw [hu] at this; exact this
    have HUU := hidb hu
    replace HR := hidb (HR.out.trans (Gm.bind_next ⟨hu, rfl⟩))
    clear hu
    go_enter Tryz.func149, Tryz.ntmps149
    go_wp2_with (first
      | (go_at_call 26; refine (sNow H.out).mono ?_; rintro r1 w1 ⟨t, hq, rfl, hb⟩; obtain rfl : t = ⟨1, ux, un, uf, up⟩ := hq.symm.trans HUU.out; replace H := hidb (H.out.below hb); clear hb hq)
      | (go_at_call 29; refine (sNext H.out.at h8).mono ?_; rintro r1 w1 ⟨rfl, hs⟩; replace H := hidb (H.out.trans hs); clear hs)
      | (go_at_call 27; refine (sWant (by first | exact .inl ⟨rfl, rfl⟩ | exact .inr ⟨rfl, rfl⟩) H.out.at).mono ?_; rintro r1 w1 (⟨er, q, hq, rfl, hbd⟩ | ⟨s1, hq, rfl, hs⟩) <;> first | (replace H := hidb (H.out.trans hs); replace HR := hidb (HR.out.trans (Gm.bind_ok hq)); clear hs hq) | (have HRE := hidb (HR.out.trans (Gm.bind_err hq)); have HB : Hid (But (· = g) w1 w1) := hidb (But.refl _ _); replace H := hidb (H.out.bad hbd); clear hq hbd HR))
      | (go_at_call 30; refine (sKind (by decide) H.out.at).mono ?_; rintro r1 wn (⟨er, q', ⟨tk, tx, tn, tf, tp⟩, hq, rfl, hbd⟩ | ⟨⟨tk, tx, tn, tf, tp⟩, s1, hq, rfl, hs⟩) <;> first | (replace H := hidb (H.out.trans hs); replace HR := hidb (HR.out.trans (Gm.bind_ok hq)); have BX := hidb (Box.new wn 41 (.int .i64 tk) (.string tx) (.int .i64 tn) (.float .f64 tf) (.int .i64 (tp : Int))); replace H := hidb (H.out.hold (.cells #[.int .i64 tk, .string tx, .int .i64 tn, .float .f64 tf, .int .i64 (tp : Int)] 41)); obtain ⟨x0, x1, x2, x3, x4, -, -, -, -, -, xl⟩ := BX.out; clear hs hq) | (have HRE := hidb (HR.out.trans (Gm.bind_err hq)); replace H := hidb (H.out.bad hbd); have HXG := hidb (by have := H.out.glt; omega : wn.heap.size ≠ g); have BX := hidb (Box.new wn 41 (.int .i64 tk) (.string tx) (.int .i64 tn) (.float .f64 tf) (.int .i64 (tp : Int))); replace H := hidb (H.out.keep (below_new wn (.cells #[.int .i64 tk, .string tx, .int .i64 tn, .float .f64 tf, .int .i64 (tp : Int)] 41))); have HB : Hid (But (· = g) (wn.alloc (.cells #[.int .i64 tk, .string tx, .int .i64 tn, .float .f64 tf, .int .i64 (tp : Int)] 41)) (wn.alloc (.cells #[.int .i64 tk, .string tx, .int .i64 tn, .float .f64 tf, .int .i64 (tp : Int)] 41))) := hidb (But.refl _ _); obtain ⟨x0, x1, x2, x3, x4, -, -, -, -, -, xl⟩ := BX.out; clear hq hbd HR))
      | (go_at_call 30; refine (bKind _ H.out).mono ?_; rintro r1 wn ⟨⟨tk, tx, tn, tf, tp⟩, rfl, hd, hb⟩; replace H := hidb hd; have HXG := hidb (by have := H.out.glt; omega : wn.heap.size ≠ g); have BX := hidb (Box.new wn 41 (.int .i64 tk) (.string tx) (.int .i64 tn) (.float .f64 tf) (.int .i64 (tp : Int))); replace H := hidb (H.out.keep (below_new wn (.cells #[.int .i64 tk, .string tx, .int .i64 tn, .float .f64 tf, .int .i64 (tp : Int)] 41))); have HB : Hid (But (· = g) (wn.alloc (.cells #[.int .i64 tk, .string tx, .int .i64 tn, .float .f64 tf, .int .i64 (tp : Int)] 41)) (wn.alloc (.cells #[.int .i64 tk, .string tx, .int .i64 tn, .float .f64 tf, .int .i64 (tp : Int)] 41))) := hidb (But.refl _ _); obtain ⟨x0, x1, x2, x3, x4, -, -, -, -, -, xl⟩ := BX.out; clear hb hd)
      | (go_at_call 28; refine (sFail H.out.at tp (by decide)).mono ?_; rintro r1 w1 ⟨rfl, hbd⟩; have HRE : Hid (R = .error (2, tp)) := hidb (HR.out.trans (Gm.ite_t (by first | assumption | omega))); replace BX := hidb (Box.but BX.out hbd.but (bx_no H.out)); have HXG := hidb (fun e => (bx_no H.out) (.inl e) : wn.heap.size ≠ g); obtain ⟨x0, x1, x2, x3, x4, -, -, -, -, -, xl⟩ := BX.out; have HB : Hid (But (· = g) w1 w1) := hidb (But.refl _ _); replace H := hidb (H.out.bad hbd); clear hbd HR)
      | (go_at_call 32; refine (sNodeR (n := ⟨14, ux, tn, 0, [], q⟩) (HR.out.trans (Gm.ite_f (by first | assumption | omega))) H.out.drop.at (LR.none _ _ _ _)).mono ?_; rintro r1 w2 (⟨er, q2, z, hq, rfl, hbd⟩ | ⟨z, s2, V2, hq, rfl, hs⟩) <;> first | (replace H := hidb (H.out.drop.trans hs); replace HR := hidb hq; clear hs hq) | (have HRE := hidb hq; replace H := hidb (H.out.drop.bad hbd); clear hq hbd HR))
      | (go_at_call 28; refine (bFail _ _ H.out).mono ?_; rintro r1 w1 ⟨rfl, hd, hb⟩; replace BX := hidb (Box.but BX.out (hb) (fun e => HXG.out e)); obtain ⟨x0, x1, x2, x3, x4, -, -, -, -, -, xl⟩ := BX.out; replace HB := hidb (HB.out.trans hb); replace H := hidb hd; clear hb hd)
      | (go_at_call 32; refine (bNode _ _ _ _ _ _ H.out).mono ?_; rintro r1 w1 ⟨rfl, hd, hb⟩; replace HB := hidb (HB.out.trans hb); replace H := hidb hd; clear hb hd)
      | (go_at_call 27; refine (bWant _ _ H.out).mono ?_; rintro r1 w1 ⟨rfl, hd, hb⟩; replace HB := hidb (HB.out.trans hb); replace H := hidb hd; clear hb hd))
    all_goals (
      go_ret
      first
        | exact .inr ⟨_, _, _, HR.out, rfl, H.out⟩
        | exact .inl ⟨_, _, _, HRE.out, rfl, H.out⟩)
  · replace HR := hidb (HR.out.trans (Gm.ite_f hk))
    obtain ⟨u, hu⟩ : ∃ u, Gm.hd s = u := ⟨_, rfl⟩
    obtain ⟨uk, ux, un, uf, up⟩ := u
    have k1 : (uk == 1) = false := by rw [hu] at hk; simpa using hk
    have HUU := hidb hu
    clear hu hk
    go_enter Tryz.func149, Tryz.ntmps149
    go_wp2_with (first
      | (go_at_call 26; refine (sNow H.out).mono ?_; rintro r1 w1 ⟨t, hq, rfl, hb⟩; obtain rfl : t = ⟨uk, ux, un, uf, up⟩ := hq.symm.trans HUU.out; replace H := hidb (H.out.below hb); clear hb hq)
      | (go_at_call 148; refine (pClauses2 HE.out H.out.at).mono ?_; rintro r1 w1 (⟨er, q, c, hq, rfl, hbd⟩ | ⟨c, s1, V1, hq, rfl, hs⟩) <;> first | (replace H := hidb (H.out.trans hs); replace HR := hidb (HR.out.trans (Gm.bind_ok hq)); clear hs hq) | (have HRE := hidb (HR.out.trans (Gm.bind_err hq)); have HB : Hid (But (· = g) w1 w1) := hidb (But.refl _ _); replace H := hidb (H.out.bad hbd); clear hq hbd HR))
      | (go_at_call 27; refine (sWant (by first | exact .inl ⟨rfl, rfl⟩ | exact .inr ⟨rfl, rfl⟩) H.out.at).mono ?_; rintro r1 w1 (⟨er, q, hq, rfl, hbd⟩ | ⟨s1, hq, rfl, hs⟩) <;> first | (replace H := hidb (H.out.trans hs); replace HR := hidb (HR.out.trans (Gm.bind_ok hq)); clear hs hq) | (have HRE := hidb (HR.out.trans (Gm.bind_err hq)); have HB : Hid (But (· = g) w1 w1) := hidb (But.refl _ _); replace H := hidb (H.out.bad hbd); clear hq hbd HR))
      | (go_at_call 32; refine (sNodeR (n := ⟨13, ⟨#[]⟩, 0, 0, [c], q⟩) HR.out (IR.lit H.out #[iv c] [c] rfl (by simp)).2.drop.at ((IR.lit H.out #[iv c] [c] rfl (by simp)).1.lr HP.out)).mono ?_; rintro r1 w2 (⟨er, q', z, hq, rfl, hbd⟩ | ⟨z, s2, V2, hq, rfl, hs⟩) <;> first | (replace H := hidb ((IR.lit H.out #[iv c] [c] rfl (by simp)).2.drop.trans hs); replace HR := hidb hq; clear hs hq) | (have HRE := hidb hq; replace H := hidb ((IR.lit H.out #[iv c] [c] rfl (by simp)).2.drop.bad hbd); clear hq hbd HR))
      | (go_at_call 27; refine (bWant _ _ H.out).mono ?_; rintro r1 w1 ⟨rfl, hd, hb⟩; replace HB := hidb (HB.out.trans hb); replace H := hidb hd; clear hb hd)
      | (go_at_call 32; refine (bNode _ _ _ _ _ _ (H.out.keep (below_new _ _))).mono ?_; rintro r1 w1 ⟨rfl, hd, hb⟩; replace HB := hidb ((HB.out.trans (But.of_below (below_new _ _))).trans hb); replace H := hidb hd; clear hb hd))
    all_goals (
      go_ret
      first
        | exact .inr ⟨_, _, _, HR.out, rfl, H.out⟩
        | exact .inl ⟨_, _, _, HRE.out, rfl, H.out⟩)

end Rf
end Go.Proofs.YthdljnakmekhkaaGreatDoor


/- The reference's parser: call. -/
namespace Go.Proofs.YthdljnakmekhkaaGreatDoor
namespace Rf
open Go.RowKit Go.Lib
attribute [local go_sem] store_float f64bits
attribute [local go_sem ↓] Go.wp_at_zero Go.wp_at_succ
attribute [local go_sem] nd_p tk_k tk_x tk_n tk_f tk_p
variable {B g b o : Nat} {e : PM Nat}

/-- What primary has told: a number, and whatever Boolean. -/
def RzP (B g b o : Nat) (P : Nat → Prop) (w : World) (V : Value) (r : Except (Int × Nat) (Nat × PS)) (e : Ending) (w' : World) : Prop :=
  (∃ er p n, ∃ t : Bool, r = .error (er, p) ∧ e = .returned (.tuple #[iv n, .bool t]) ∧ Bd g b w V w' er p) ∨ (∃ x s' V', ∃ t : Bool, r = .ok (x, s') ∧ e = .returned (.tuple #[iv x, .bool t]) ∧ St B g b o P w V w' V' s')

theorem maybe_len (he : Gm.All e) {s s' : PS} {l : List Nat} {x : ByteArray} {most : Nat} (hn : Ne s) (h : maybeP e x most s = .ok (l, s')) : s'.ts.length ≤ s.ts.length :=
  ((Gm.all_bind (Gm.all_take _) (fun _ => Gm.all_ite (Gm.all_pure _) (Gm.all_bind (Gm.all_exprs he _) fun _ => Gm.all_bind (Gm.all_need _) fun _ => Gm.all_pure _)) s hn l s' h).1).len

set_option maxHeartbeats 8000000 in
set_option maxRecDepth 100000 in
theorem pCall (hE : EC B g b o e) (hU : ∀ {P : Nat → Prop} {w : World} {V : Value} {s : PS}, At B g b o P w V s → Calls Tryz.prog 143 #[.pointer (some ⟨g, 0, none⟩)] w fun r w' => RzP B g b o P w V (Gm.called e s) r w') {P : Nat → Prop} {w : World} {V : Value} {s : PS} (h : At B g b o P w V s) :
    Calls Tryz.prog 141 #[.pointer (some ⟨g, 0, none⟩)] w fun r w' => Rz B g b o P w V (Gm.call e s) r w' := by
  have H : Hid (St B g b o P w V w V s) := hidb h
  have HE := hidb hE
  have HP := hidb h.plt
  obtain ⟨R, hR⟩ : ∃ R, Gm.call e s = R := ⟨_, rfl⟩
  rw [hR]
  have HR := hidb hR.symm
  have HU := hidb (fun (P : Nat → Prop) (w : World) (V : Value) (s : PS) (h : At B g b o P w V s) => hU h)
  have HGB := hidb (And.intro h.glt h.blt)
  clear hR h hE hU
  go_enter Tryz.func141, Tryz.ntmps141
  go_wp2_with (first
    | (go_at_call 26; refine (sNow H.out).mono ?_; rintro r1 w1 ⟨t, hq, rfl, hb⟩; replace H := hidb (H.out.below hb); replace HR := hidb (HR.out.trans (Gm.bind_here hq)); have Tt := hidb hq; clear hb hq)
    | (go_at_call 143; refine (HU.out _ _ _ _ H.out.at).mono ?_; rintro r1 w1 (⟨er, q, x0, b0, hq, rfl, hbd⟩ | ⟨x0, s1, V1, b0, hq, rfl, hs⟩) <;> first | (replace H := hidb (H.out.trans hs); replace HR := hidb (HR.out.trans (Gm.bind_ok hq)); clear hs hq) | (have HRE := hidb (HR.out.trans (Gm.bind_err hq)); have HB : Hid (But (· = g) w1 w1) := hidb (But.refl _ _); replace H := hidb (H.out.bad hbd); clear hq hbd HR)))
  · go_loopg [4] 0 (fun gf s4 wx => s4 = iv x0 ∧ wx = w1)
    case atStart => exact ⟨rfl, rfl⟩
    case round =>
      obtain ⟨rfl, hwx⟩ := hrel
      obtain rfl := hwx.symm
      go_wp2_with (first
        | (go_at_call 64; refine (bSign _ H.out).mono ?_; rintro r1 w1 ⟨rfl, hb⟩; replace HB := hidb (HB.out.trans (But.of_below hb)); replace H := hidb (H.out.keep hb); clear hb))
      go_ret
      exact .inl ⟨_, _, _, HRE.out, rfl, H.out⟩
  replace HR := hidb (HR.out.trans (Gm.bind_left rfl))
  go_loopg [4] s1.ts.length (fun gf s4 wx => (∃ (x : Nat) (sx : PS) (Vx : Value) (k : Nat), s4 = iv x ∧ St B g b o P w V wx Vx sx ∧ R = Gm.applied e t.p k x sx ∧ sx.ts.length ≤ k ∧ k ≤ gf) ∨ (∃ (x : Nat) (er : Int) (p : Nat), s4 = iv x ∧ R = .error (er, p) ∧ Bd g b w V wx er p))
  case atStart => exact .inl ⟨x0, s1, V1, _, rfl, H.out, HR.out, Nat.le_refl _, Nat.le_refl _⟩
  case round =>
    clear HR H
    rcases hrel with ⟨x, sx, Vx, k, hs5, hst, hmore, hk, hkg⟩ | ⟨x, er, p, hs5, hre, hbd⟩
    · subst hs5
      have hpos := ne_pos hst.ne
      obtain ⟨k', rfl⟩ : ∃ k', k = k' + 1 := ⟨k - 1, by omega⟩
      obtain ⟨g', rfl⟩ : ∃ g', gk = g' + 1 := ⟨gk - 1, by omega⟩
      have H := hidb hst
      have HR := hidb (hmore.trans (Gm.bind_here rfl))
      clear hst hmore
      obtain ⟨i0, hi0, hz0, hz1, hz2⟩ := info_parts (P := Tryz.prog) (e := IT) (z := .int .i64 0) (size := 1) (bytes := 8) (by kernel_rfl)
      cases hm : Gm.isM (Gm.hd sx) ⟨#[40]⟩ with
      | false =>
        have HM := hidb hm
        replace HR := hidb (HR.out.trans (Gm.ite_f (by simp [hm])))
        clear hm
        go_wp2_with (first
          | (go_at_call 64; refine (sSign rfl H.out).mono ?_; rintro r1 w1 ⟨⟨hq, rfl⟩ | ⟨hq, rfl⟩, hb⟩ <;> first | (rw [HM.out] at hq; cases hq; done) | (replace H := hidb (H.out.below hb); clear hb hq)))
        go_ret
        exact .inr ⟨_, _, _, HR.out, rfl, H.out⟩
      | true =>
        have HM := hidb hm
        replace HR := hidb (((HR.out.trans (Gm.ite_t hm)).trans (Gm.assoc _ _ _ _)).trans (Gm.bind_ok (need_t hm)))
        have hcl := cut_len H.out.ne
        clear hm
        go_wp2_with (first
          | (go_at_call 64; refine (sSign rfl H.out).mono ?_; rintro r1 w1 ⟨⟨hq, rfl⟩ | ⟨hq, rfl⟩, hb⟩ <;> first | (rw [HM.out] at hq; cases hq; done) | (replace H := hidb (H.out.below hb); clear hb hq))
          | (go_at_call 29; refine (sNextT H.out.at HM.out).mono ?_; rintro r1 w1 ⟨rfl, hs⟩; replace H := hidb (H.out.trans hs); clear hs)
          | (go_at_call 62; refine (pMaybeT HE.out (x := ⟨#[41]⟩) rfl H.out.at).mono ?_; rintro r1 w2 (⟨er, q, v, l, hq, rfl, hw, hng, hbd⟩ | ⟨l, s2, V2, v, hq, rfl, hs, hs2, hi, hlen⟩) <;> first | (have HF := hidb (maybe_len HE.out.all H.out.ne hq); have HN := hidb hlen; replace H := hidb (H.out.trans hs2); replace HR := hidb (HR.out.trans (Gm.bind_ok hq)); have HA := hidb hi.own; (rcases hi.own.2 with ⟨hv0, hn0⟩ | ⟨qa, ca, cur, hv0, -⟩) <;> first | (obtain rfl := List.length_eq_zero_iff.1 hn0; subst hv0; replace H := hidb H.out.drop; clear hs hs2 hi hq hlen hn0) | (subst hv0; clear hs hs2 hi hq hlen)) | (have HRE := hidb (HR.out.trans (Gm.bind_err hq)); have HW := hidb hw; replace H := hidb (H.out.bad hbd); (rcases hw.1.2 with ⟨hv0, hn0⟩ | ⟨qa, ca, cur, hv0, -⟩) <;> first | (obtain rfl := List.length_eq_zero_iff.1 hn0; subst hv0; clear hq hbd hw hng HR hn0) | (subst hv0; clear hq hbd hw hng HR)))
          | (at_builtin; refine wpList_append_own_none rfl (.tmp 23) (.tmp 24) 44 rfl w.heap.size IT i0 1 Tryz.underlying44 hi0 _ _ _ rfl (IR.lit H.out #[iv x] [x] rfl (by simp)).1.own rfl ?_)
          | (at_builtin; refine wpList_append_own_at _ rfl (.tmp 23) (.tmp 24) 44 rfl w.heap.size IT i0 (.int .i64 0) 1 8 Tryz.underlying44 hi0 hz0 hz1 hz2 rfl (by decide) _ _ _ rfl (IR.lit H.out #[iv x] [x] rfl (by simp)).1.own ⟨qa, 0, none⟩ l.length ca (l.map iv) rfl ?_ ?_ ?_ ?_ ?_ ?_ ?_)
          | (at_builtin; refine wpList_append_own_none rfl (.tmp 23) (.tmp 24) 44 rfl w2.heap.size IT i0 1 Tryz.underlying44 hi0 _ _ _ rfl (lit_row w2 #[iv x] [x] rfl (by simp)).1 rfl ?_)
          | (at_builtin; refine wpList_append_own_at _ rfl (.tmp 23) (.tmp 24) 44 rfl w2.heap.size IT i0 (.int .i64 0) 1 8 Tryz.underlying44 hi0 hz0 hz1 hz2 rfl (by decide) _ _ _ rfl (lit_row w2 #[iv x] [x] rfl (by simp)).1 ⟨qa, 0, none⟩ l.length ca (l.map iv) rfl ?_ ?_ ?_ ?_ ?_ ?_ ?_)
          | (go_at_call 32; refine (sNode ⟨12, ⟨#[]⟩, 0, 0, [x], t.p⟩ _ (IR.lit H.out #[iv x] [x] rfl (by simp)).2.drop.at ((IR.lit H.out #[iv x] [x] rfl (by simp)).1.lr HP.out)).mono ?_; rintro r1 w5 (⟨er, q, z, hq, rfl, hbd⟩ | ⟨z, s3, V3, hq, rfl, hs⟩) <;> first | (have HO := hidb (Gm.all_lay _ _ H.out.ne _ _ hq).1.len; replace H := hidb ((IR.lit H.out #[iv x] [x] rfl (by simp)).2.drop.trans hs); replace HR := hidb (HR.out.trans (Gm.bind_ok hq)); clear hs hq) | (have HRE := hidb (HR.out.trans (Gm.bind_err hq)); replace H := hidb ((IR.lit H.out #[iv x] [x] rfl (by simp)).2.drop.bad hbd); clear hq hbd HR))
          | (go_at_call 32; refine (bNode _ _ _ _ _ _ (H.out.keep (below_new _ _))).mono ?_; rintro r1 w5 ⟨rfl, hd, hb⟩; replace H := hidb hd; clear hb hd))
        all_goals first
          | (go_roundg g'; (case measure => omega); (case rel => first | exact .inl ⟨_, _, _, k', rfl, H.out, HR.out, by have := HF.out; have := HO.out; omega, by omega⟩ | exact .inr ⟨_, _, _, rfl, HRE.out, H.out⟩))
          | (simp; done)
          | (intro j u hj; exact (row_but HA.out (But.of_below (S := fun _ => False) (below_new w2 _)) (fun _ _ h => h)).cells rfl j u hj)
          | (intro j u hj; exact (row_but HW.out.1 (But.of_below (S := fun _ => False) (below_new w2 _)) (fun _ _ h => h)).cells rfl j u hj)
          | (intro u hu; simp at hu; obtain ⟨y, _, rfl⟩ := hu; rfl)
          | (have := HN.out; unfold maxLen; simp; omega)
          | (have := HN.out; simp; omega)
          | (have := HW.out.2; unfold maxLen; simp; omega)
          | (have := HW.out.2; simp; omega)
          | (have := H.out.but.size; simp; omega)
          | (simp; omega)
          | skip
        · intro v' w3 hown hgrow hnil hat
          have hb3 : Below w2.heap.size w2 w3 := grown_up (below_new w2 _) hgrow (fun k hk => by simp [Value.ownBlock] at hk; omega)
          replace H := hidb (H.out.keep hb3)
          obtain ⟨a', c', rfl⟩ := own_sl hown
          clear hown hgrow hnil hat hb3
          go_wp2_with (first
            | (go_at_call 32; refine (bNode _ _ _ _ _ _ H.out).mono ?_; rintro r1 w5 ⟨rfl, hd, hb⟩; replace H := hidb hd; clear hb hd))
          go_roundg g'
          case measure => omega
          case rel => exact .inr ⟨_, _, _, rfl, HRE.out, H.out⟩
        · intro v' w3 hown hgrow hnil hat
          obtain ⟨l1, l2⟩ := (IR.lit H.out #[iv x] [x] rfl (by simp))
          obtain ⟨j1, j2⟩ := IR.grown (l' := x :: l) l2 l1 (Below.refl _ _) hgrow (fun k hk => by rcases hat with h | h <;> rw [h] at hk; (exact .inl hk); (cases hk; exact .inr (by simp))) (by simpa [Nat.add_comm] using hown)
          obtain ⟨a', c', rfl⟩ := own_sl hown
          have HI2 := hidb j1
          replace H := hidb (j2.less (Q := P) (fun k hk => .inl (.inl hk)))
          clear j1 j2 l1 l2 hown hgrow hnil hat
          go_wp2_with (first
            | (go_at_call 32; refine (sNode ⟨12, ⟨#[]⟩, 0, 0, x :: l, t.p⟩ _ H.out.at (HI2.out.lr HP.out)).mono ?_; rintro r1 w5 (⟨er, q, z, hq, rfl, hbd⟩ | ⟨z, s3, V3, hq, rfl, hs⟩) <;> first | (have HO := hidb (Gm.all_lay _ _ H.out.ne _ _ hq).1.len; replace H := hidb (H.out.trans hs); replace HR := hidb (HR.out.trans (Gm.bind_ok hq)); clear hs hq) | (have HRE := hidb (HR.out.trans (Gm.bind_err hq)); replace H := hidb (H.out.bad hbd); clear hq hbd HR)))
          all_goals (go_roundg g'; (case measure => omega); (case rel => first | exact .inl ⟨_, _, _, k', rfl, H.out, HR.out, by have := HF.out; have := HO.out; omega, by omega⟩ | exact .inr ⟨_, _, _, rfl, HRE.out, H.out⟩))
    · subst hs5
      have H := hidb hbd
      have HB : Hid (But (· = g) wr wr) := hidb (But.refl _ _)
      have HRE := hidb hre
      clear hbd hre
      go_wp2_with (first
        | (go_at_call 64; refine (bSign _ H.out).mono ?_; rintro r1 w1 ⟨rfl, hb⟩; replace HB := hidb (HB.out.trans (But.of_below hb)); replace H := hidb (H.out.keep hb); clear hb))
      go_ret
      exact .inl ⟨_, _, _, HRE.out, rfl, H.out⟩

end Rf
end Go.Proofs.YthdljnakmekhkaaGreatDoor


/- The reference's parser: primary, by kinds of tokens. -/
namespace Go.Proofs.YthdljnakmekhkaaGreatDoor
namespace Rf
open Go.RowKit Go.Lib
attribute [local go_sem] store_float f64bits
attribute [local go_sem ↓] Go.wp_at_zero Go.wp_at_succ
attribute [local go_sem] nd_p tk_k tk_x tk_n tk_f tk_p
variable {B g b o : Nat} {e : PM Nat}

theorem leaf_of {s : PS} {t : Tk} (h : Gm.hd s = t) (hk : t.k = 2 ∨ t.k = 3 ∨ t.k = 4 ∨ t.k = 5) : Gm.called e s = Gm.lay ⟨Gm.leafKind t.k, t.x, t.n, t.f, [], t.p⟩ (Gm.cut s) := by
  rw [called_f h (by omega)]
  subst h
  show (if _ then Gm.leaf else _ : PM Nat) s = _
  rw [if_pos (by omega)]
  rfl
theorem atom_of {s : PS} {t : Tk} (h : Gm.hd s = t) (hk : t.k = 1) (hm : Gm.isM (Gm.hd2 s) ⟨#[40]⟩ = false) : Gm.called e s = Gm.lay ⟨3, t.x, t.n, t.f, [], t.p⟩ (Gm.cut s) := by
  rw [called_f h (by simp [hm])]
  subst h
  show (if _ then Gm.leaf else _ : PM Nat) s = _
  rw [if_pos (by omega)]
  show Gm.lay ⟨Gm.leafKind (Gm.hd s).k, _, _, _, _, _⟩ (Gm.cut s) = _
  rw [hk]
  rfl

set_option maxHeartbeats 8000000 in
set_option maxRecDepth 100000 in
theorem pPrim2 (hE : EC B g b o e) {P : Nat → Prop} {w : World} {V : Value} {s : PS} {tx : ByteArray} {tp : Nat} (ht : Gm.hd s = ⟨2, tx, 0, 0, tp⟩) (h : At B g b o P w V s) :
    Calls Tryz.prog 143 #[.pointer (some ⟨g, 0, none⟩)] w fun r w' => RzP B g b o P w V (Gm.called e s) r w' := by
  have H : Hid (St B g b o P w V w V s) := hidb h
  have HE := hidb hE
  have HP := hidb h.plt
  have TT := hidb ht
  obtain ⟨R, hR⟩ : ∃ R, Gm.called e s = R := ⟨_, rfl⟩
  rw [hR]
  have HR := hidb (hR.symm.trans (leaf_of (e := e) ht (by simp)))
  have M0 : Hid True := hidb trivial
  clear hR h hE ht
  go_enter Tryz.func143, Tryz.ntmps143
  go_wp2_with (first
      | (go_at_call 26; refine (sNow H.out).mono ?_; rintro r1 wn ⟨t, hq, rfl, hb⟩; obtain rfl : t = ⟨2, tx, 0, 0, tp⟩ := hq.symm.trans TT.out; replace H := hidb (H.out.below hb); have BX := hidb (Box.new wn 41 (.int .i64 2) (.string tx) (.int .i64 0) (.float .f64 0) (.int .i64 (tp : Int))); replace H := hidb (H.out.hold (.cells #[.int .i64 2, .string tx, .int .i64 0, .float .f64 0, .int .i64 (tp : Int)] 41)); obtain ⟨x0, x1, x2, x3, x4, -, -, -, -, -, xl⟩ := BX.out; clear hb hq)
      | (go_at_call 19; refine (sBad H.out).mono ?_; rintro r1 w1 ⟨rfl, rfl⟩)
      | (go_at_call 29; clear M0; refine (sNext H.out.at (hk_of TT.out (by simp))).mono ?_; rintro r1 w1 ⟨rfl, hs⟩; replace BX := hidb (Box.but BX.out hs.but (bx_no H.out)); obtain ⟨x0, x1, x2, x3, x4, -, -, -, -, -, xl⟩ := BX.out; replace H := hidb (H.out.trans hs); clear hs)
      | (go_at_call 32; refine (sNodeR (n := ⟨4, tx, 0, 0, [], tp⟩) HR.out H.out.drop.at (LR.none _ _ _ _)).mono ?_; rintro r1 w2 (⟨er, q2, z, hq, rfl, hbd⟩ | ⟨z, s2, V2, hq, rfl, hs⟩) <;> first | (replace H := hidb (H.out.drop.trans hs); replace HR := hidb hq; clear hs hq) | (have HRE := hidb hq; replace H := hidb (H.out.drop.bad hbd); clear hq hbd HR)))
  all_goals (
    go_ret2
    first
      | exact .inr ⟨_, _, _, _, HR.out, rfl, H.out⟩
      | exact .inl ⟨_, _, _, _, HRE.out, rfl, H.out⟩)

set_option maxHeartbeats 8000000 in
set_option maxRecDepth 100000 in
theorem pPrim3 (hE : EC B g b o e) {P : Nat → Prop} {w : World} {V : Value} {s : PS} {tn : Int} {tp : Nat} (ht : Gm.hd s = ⟨3, ⟨#[]⟩, tn, 0, tp⟩) (h : At B g b o P w V s) :
    Calls Tryz.prog 143 #[.pointer (some ⟨g, 0, none⟩)] w fun r w' => RzP B g b o P w V (Gm.called e s) r w' := by
  have H : Hid (St B g b o P w V w V s) := hidb h
  have HE := hidb hE
  have HP := hidb h.plt
  have TT := hidb ht
  obtain ⟨R, hR⟩ : ∃ R, Gm.called e s = R := ⟨_, rfl⟩
  rw [hR]
  have HR := hidb (hR.symm.trans (leaf_of (e := e) ht (by simp)))
  have M0 : Hid True := hidb trivial
  clear hR h hE ht
  go_enter Tryz.func143, Tryz.ntmps143
  go_wp2_with (first
      | (go_at_call 26; refine (sNow H.out).mono ?_; rintro r1 wn ⟨t, hq, rfl, hb⟩; obtain rfl : t = ⟨3, ⟨#[]⟩, tn, 0, tp⟩ := hq.symm.trans TT.out; replace H := hidb (H.out.below hb); have BX := hidb (Box.new wn 41 (.int .i64 3) (.string ⟨#[]⟩) (.int .i64 tn) (.float .f64 0) (.int .i64 (tp : Int))); replace H := hidb (H.out.hold (.cells #[.int .i64 3, .string ⟨#[]⟩, .int .i64 tn, .float .f64 0, .int .i64 (tp : Int)] 41)); obtain ⟨x0, x1, x2, x3, x4, -, -, -, -, -, xl⟩ := BX.out; clear hb hq)
      | (go_at_call 19; refine (sBad H.out).mono ?_; rintro r1 w1 ⟨rfl, rfl⟩)
      | (go_at_call 29; clear M0; refine (sNext H.out.at (hk_of TT.out (by simp))).mono ?_; rintro r1 w1 ⟨rfl, hs⟩; replace BX := hidb (Box.but BX.out hs.but (bx_no H.out)); obtain ⟨x0, x1, x2, x3, x4, -, -, -, -, -, xl⟩ := BX.out; replace H := hidb (H.out.trans hs); clear hs)
      | (go_at_call 32; refine (sNodeR (n := ⟨1, ⟨#[]⟩, tn, 0, [], tp⟩) HR.out H.out.drop.at (LR.none _ _ _ _)).mono ?_; rintro r1 w2 (⟨er, q2, z, hq, rfl, hbd⟩ | ⟨z, s2, V2, hq, rfl, hs⟩) <;> first | (replace H := hidb (H.out.drop.trans hs); replace HR := hidb hq; clear hs hq) | (have HRE := hidb hq; replace H := hidb (H.out.drop.bad hbd); clear hq hbd HR)))
  all_goals (
    go_ret2
    first
      | exact .inr ⟨_, _, _, _, HR.out, rfl, H.out⟩
      | exact .inl ⟨_, _, _, _, HRE.out, rfl, H.out⟩)

set_option maxHeartbeats 8000000 in
set_option maxRecDepth 100000 in
theorem pPrim4 (hE : EC B g b o e) {P : Nat → Prop} {w : World} {V : Value} {s : PS} {tf : Nat} {tp : Nat} (ht : Gm.hd s = ⟨4, ⟨#[]⟩, 0, tf, tp⟩) (h : At B g b o P w V s) :
    Calls Tryz.prog 143 #[.pointer (some ⟨g, 0, none⟩)] w fun r w' => RzP B g b o P w V (Gm.called e s) r w' := by
  have H : Hid (St B g b o P w V w V s) := hidb h
  have HE := hidb hE
  have HP := hidb h.plt
  have TT := hidb ht
  obtain ⟨R, hR⟩ : ∃ R, Gm.called e s = R := ⟨_, rfl⟩
  rw [hR]
  have HR := hidb (hR.symm.trans (leaf_of (e := e) ht (by simp)))
  have M0 : Hid True := hidb trivial
  clear hR h hE ht
  go_enter Tryz.func143, Tryz.ntmps143
  go_wp2_with (first
      | (go_at_call 26; refine (sNow H.out).mono ?_; rintro r1 wn ⟨t, hq, rfl, hb⟩; obtain rfl : t = ⟨4, ⟨#[]⟩, 0, tf, tp⟩ := hq.symm.trans TT.out; replace H := hidb (H.out.below hb); have BX := hidb (Box.new wn 41 (.int .i64 4) (.string ⟨#[]⟩) (.int .i64 0) (.float .f64 tf) (.int .i64 (tp : Int))); replace H := hidb (H.out.hold (.cells #[.int .i64 4, .string ⟨#[]⟩, .int .i64 0, .float .f64 tf, .int .i64 (tp : Int)] 41)); obtain ⟨x0, x1, x2, x3, x4, -, -, -, -, -, xl⟩ := BX.out; clear hb hq)
      | (go_at_call 19; refine (sBad H.out).mono ?_; rintro r1 w1 ⟨rfl, rfl⟩)
      | (go_at_call 29; clear M0; refine (sNext H.out.at (hk_of TT.out (by simp))).mono ?_; rintro r1 w1 ⟨rfl, hs⟩; replace BX := hidb (Box.but BX.out hs.but (bx_no H.out)); obtain ⟨x0, x1, x2, x3, x4, -, -, -, -, -, xl⟩ := BX.out; replace H := hidb (H.out.trans hs); clear hs)
      | (go_at_call 32; refine (sNodeR (n := ⟨2, ⟨#[]⟩, 0, tf, [], tp⟩) HR.out H.out.drop.at (LR.none _ _ _ _)).mono ?_; rintro r1 w2 (⟨er, q2, z, hq, rfl, hbd⟩ | ⟨z, s2, V2, hq, rfl, hs⟩) <;> first | (replace H := hidb (H.out.drop.trans hs); replace HR := hidb hq; clear hs hq) | (have HRE := hidb hq; replace H := hidb (H.out.drop.bad hbd); clear hq hbd HR)))
  all_goals (
    go_ret2
    first
      | exact .inr ⟨_, _, _, _, HR.out, rfl, H.out⟩
      | exact .inl ⟨_, _, _, _, HRE.out, rfl, H.out⟩)

set_option maxHeartbeats 8000000 in
set_option maxRecDepth 100000 in
theorem pPrim5 (hE : EC B g b o e) {P : Nat → Prop} {w : World} {V : Value} {s : PS} {tx : ByteArray} {tp : Nat} (ht : Gm.hd s = ⟨5, tx, 0, 0, tp⟩) (h : At B g b o P w V s) :
    Calls Tryz.prog 143 #[.pointer (some ⟨g, 0, none⟩)] w fun r w' => RzP B g b o P w V (Gm.called e s) r w' := by
  have H : Hid (St B g b o P w V w V s) := hidb h
  have HE := hidb hE
  have HP := hidb h.plt
  have TT := hidb ht
  obtain ⟨R, hR⟩ : ∃ R, Gm.called e s = R := ⟨_, rfl⟩
  rw [hR]
  have HR := hidb (hR.symm.trans (leaf_of (e := e) ht (by simp)))
  have M0 : Hid True := hidb trivial
  clear hR h hE ht
  go_enter Tryz.func143, Tryz.ntmps143
  go_wp2_with (first
      | (go_at_call 26; refine (sNow H.out).mono ?_; rintro r1 wn ⟨t, hq, rfl, hb⟩; obtain rfl : t = ⟨5, tx, 0, 0, tp⟩ := hq.symm.trans TT.out; replace H := hidb (H.out.below hb); have BX := hidb (Box.new wn 41 (.int .i64 5) (.string tx) (.int .i64 0) (.float .f64 0) (.int .i64 (tp : Int))); replace H := hidb (H.out.hold (.cells #[.int .i64 5, .string tx, .int .i64 0, .float .f64 0, .int .i64 (tp : Int)] 41)); obtain ⟨x0, x1, x2, x3, x4, -, -, -, -, -, xl⟩ := BX.out; clear hb hq)
      | (go_at_call 19; refine (sBad H.out).mono ?_; rintro r1 w1 ⟨rfl, rfl⟩)
      | (go_at_call 29; clear M0; refine (sNext H.out.at (hk_of TT.out (by simp))).mono ?_; rintro r1 w1 ⟨rfl, hs⟩; replace BX := hidb (Box.but BX.out hs.but (bx_no H.out)); obtain ⟨x0, x1, x2, x3, x4, -, -, -, -, -, xl⟩ := BX.out; replace H := hidb (H.out.trans hs); clear hs)
      | (go_at_call 32; refine (sNodeR (n := ⟨5, tx, 0, 0, [], tp⟩) HR.out H.out.drop.at (LR.none _ _ _ _)).mono ?_; rintro r1 w2 (⟨er, q2, z, hq, rfl, hbd⟩ | ⟨z, s2, V2, hq, rfl, hs⟩) <;> first | (replace H := hidb (H.out.drop.trans hs); replace HR := hidb hq; clear hs hq) | (have HRE := hidb hq; replace H := hidb (H.out.drop.bad hbd); clear hq hbd HR)))
  all_goals (
    go_ret2
    first
      | exact .inr ⟨_, _, _, _, HR.out, rfl, H.out⟩
      | exact .inl ⟨_, _, _, _, HRE.out, rfl, H.out⟩)

end Rf
end Go.Proofs.YthdljnakmekhkaaGreatDoor


