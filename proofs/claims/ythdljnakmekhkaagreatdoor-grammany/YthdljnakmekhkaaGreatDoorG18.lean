import Derived.Test.YthdljnakmekhkaaGreatDoorG17
/- The reference's parser: receive, whole. -/
namespace Go.Proofs.YthdljnakmekhkaaGreatDoor
namespace Rf
open Go.RowKit Go.Lib
attribute [local go_sem] store_float f64bits
attribute [local go_sem ↓] Go.wp_at_zero Go.wp_at_succ
attribute [local go_sem] nd_p tk_k tk_x tk_n tk_f tk_p
variable {B g b o : Nat} {e : PM Nat}
set_option maxHeartbeats 8000000 in
set_option maxRecDepth 100000 in
theorem pReceive1 (hE : EC B g b o e) (q : Nat) {P : Nat → Prop} {w : World} {V : Value} {s : PS} (hm : Gm.isM (Gm.hd s) ⟨#[97, 102, 116, 101, 114]⟩ = true) (h : At B g b o P w V s) :
    Calls Tryz.prog 151 #[.pointer (some ⟨g, 0, none⟩), .int .i64 (q : Int)] w fun r w' => Rz B g b o P w V (receiveP e q s) r w' := by
  have H : Hid (St B g b o P w V w V s) := hidb h
  have HE := hidb hE
  have HP := hidb h.plt
  have HM := hidb hm
  obtain ⟨R, hR⟩ : ∃ R, receiveP e q s = R := ⟨_, rfl⟩
  rw [hR]
  have HR := hidb (((hR.symm.trans (Gm.assoc _ _ _ _)).trans (Gm.bind_here rfl)).trans (congrArg (fun m : PM Nat => (m >>= fun c => Gm.afterR e >>= fun a => Gm.need ⟨#[101, 110, 100]⟩ >>= fun _ => Gm.lay ⟨18, ⟨#[]⟩, a.1, 0, [c, a.2], q⟩) s) (if_pos hm)))
  have M0 : Hid True := hidb trivial
  have M1 : Hid True := hidb trivial
  clear hR h hE hm
  go_enter Tryz.func151, Tryz.ntmps151
  go_wp2_with (first
    | (go_at_call 105; clear M0; refine (sKept rfl H.out).mono ?_; rintro r1 w1 ⟨⟨hq, rfl⟩ | ⟨hq, rfl⟩, hb⟩ <;> first | (rw [HM.out] at hq; cases hq; done) | (replace H := hidb (H.out.below hb); clear hb hq))
    | (go_at_call 106; clear M1; refine (pNone 20 H.out.at).mono ?_; rintro r1 w1 (⟨er, q, c, hq, rfl, hbd⟩ | ⟨c, s1, V1, hq, rfl, hs⟩) <;> first | (replace H := hidb (H.out.trans hs); replace HR := hidb (HR.out.trans (Gm.bind_ok hq)); clear hs hq) | (have HRE := hidb (HR.out.trans (Gm.bind_err hq)); have HB : Hid (But (· = g) w1 w1) := hidb (But.refl _ _); replace H := hidb (H.out.bad hbd); clear hq hbd HR))
    | (go_at_call 105; refine (sKept (x := ⟨#[97, 102, 116, 101, 114]⟩) rfl H.out).mono ?_; rintro r1 w1 ⟨⟨hq, rfl⟩ | ⟨hq, rfl⟩, hb⟩ <;> first | (have HT : Hid (Gm.isM _ _ = true) := hidb hq; replace HR := hidb (HR.out.trans (afterR_t hq)); replace H := hidb (H.out.below hb); clear hb hq) | (replace HR := hidb (HR.out.trans (afterR_f hq)); replace H := hidb (H.out.below hb); clear hb hq))
    | (go_at_call 29; refine (sNext H.out.at (Gm.isM_k HT.out)).mono ?_; rintro r1 w1 ⟨rfl, hs⟩; replace H := hidb (H.out.trans hs); clear hs HT)
    | (go_at_call 26; refine (sNow H.out).mono ?_; rintro r1 wn ⟨⟨tk, tx, tn, tf, tp⟩, hq, rfl, hb⟩; replace H := hidb (H.out.below hb); (rcases pat_cases tk tn tx with ⟨rfl, rfl⟩ | ⟨rfl, rfl⟩ | ⟨rfl, d1⟩ | ⟨rfl, d1⟩ | ⟨d1, d2⟩) <;> first | (replace HR := hidb (HR.out.trans (Gm.bind_ok (pat1 hq))); have TT := hidb hq; have BX := hidb (Box.new wn 41 (.int .i64 3) (.string tx) (.int .i64 0) (.float .f64 tf) (.int .i64 (tp : Int))); replace H := hidb (H.out.hold (.cells #[.int .i64 3, .string tx, .int .i64 0, .float .f64 tf, .int .i64 (tp : Int)] 41)); obtain ⟨x0, x1, x2, x3, x4, -, -, -, -, -, xl⟩ := BX.out; clear hb hq) | (replace HR := hidb (HR.out.trans (Gm.bind_ok (pat2 hq))); have TT := hidb hq; have BX := hidb (Box.new wn 41 (.int .i64 1) (.string ⟨#[105, 110, 102, 105, 110, 105, 116, 121]⟩) (.int .i64 tn) (.float .f64 tf) (.int .i64 (tp : Int))); replace H := hidb (H.out.hold (.cells #[.int .i64 1, .string ⟨#[105, 110, 102, 105, 110, 105, 116, 121]⟩, .int .i64 tn, .float .f64 tf, .int .i64 (tp : Int)] 41)); obtain ⟨x0, x1, x2, x3, x4, -, -, -, -, -, xl⟩ := BX.out; clear hb hq) | (have HRE := hidb (HR.out.trans (Gm.bind_err (pat3 hq d1))); have TT := hidb hq; have BX := hidb (Box.new wn 41 (.int .i64 3) (.string tx) (.int .i64 tn) (.float .f64 tf) (.int .i64 (tp : Int))); replace H := hidb (H.out.hold (.cells #[.int .i64 3, .string tx, .int .i64 tn, .float .f64 tf, .int .i64 (tp : Int)] 41)); obtain ⟨x0, x1, x2, x3, x4, -, -, -, -, -, xl⟩ := BX.out; clear hb hq HR) | (have HRE := hidb (HR.out.trans (Gm.bind_err (pat4 hq d1))); have TT := hidb hq; have BX := hidb (Box.new wn 41 (.int .i64 1) (.string tx) (.int .i64 tn) (.float .f64 tf) (.int .i64 (tp : Int))); replace H := hidb (H.out.hold (.cells #[.int .i64 1, .string tx, .int .i64 tn, .float .f64 tf, .int .i64 (tp : Int)] 41)); obtain ⟨x0, x1, x2, x3, x4, -, -, -, -, -, xl⟩ := BX.out; clear hb hq HR) | (have HRE := hidb (HR.out.trans (Gm.bind_err (pat5 hq d1 d2))); have TT := hidb hq; have BX := hidb (Box.new wn 41 (.int .i64 tk) (.string tx) (.int .i64 tn) (.float .f64 tf) (.int .i64 (tp : Int))); replace H := hidb (H.out.hold (.cells #[.int .i64 tk, .string tx, .int .i64 tn, .float .f64 tf, .int .i64 (tp : Int)] 41)); obtain ⟨x0, x1, x2, x3, x4, -, -, -, -, -, xl⟩ := BX.out; clear hb hq HR))
    | (go_at_call 28; refine (sFail H.out.drop.at tp (by decide)).mono ?_; rintro r1 w1 ⟨rfl, hbd⟩; have HB : Hid (But (· = g) w1 w1) := hidb (But.refl _ _); replace H := hidb (H.out.drop.bad hbd); clear hbd)
    | (go_at_call 29; refine (sNext H.out.drop.at (hk_of TT.out (by simp))).mono ?_; rintro r1 w1 ⟨rfl, hs⟩; replace H := hidb (H.out.drop.trans hs); clear hs TT BX)
    | (go_at_call 107; refine (pBody HE.out H.out.at).mono ?_; rintro r1 w1 (⟨er, q, la, hq, rfl, hbd⟩ | ⟨la, s1, V1, hq, rfl, hs⟩) <;> first | (replace H := hidb (H.out.trans hs); replace HR := hidb (HR.out.trans (Gm.bind_ok hq)); clear hs hq) | (have HRE := hidb (HR.out.trans (Gm.bind_err hq)); have HB : Hid (But (· = g) w1 w1) := hidb (But.refl _ _); replace H := hidb (H.out.bad hbd); clear hq hbd HR))
    | (go_at_call 106; refine (pNone 19 H.out.at).mono ?_; rintro r1 w1 (⟨er, q, la, hq, rfl, hbd⟩ | ⟨la, s1, V1, hq, rfl, hs⟩) <;> first | (replace H := hidb (H.out.trans hs); replace HR := hidb (HR.out.trans (Gm.bind_ok hq)); clear hs hq) | (have HRE := hidb (HR.out.trans (Gm.bind_err hq)); have HB : Hid (But (· = g) w1 w1) := hidb (But.refl _ _); replace H := hidb (H.out.bad hbd); clear hq hbd HR))
    | (go_at_call 27; refine (sWant (by first | exact .inl ⟨rfl, rfl⟩ | exact .inr ⟨rfl, rfl⟩) H.out.at).mono ?_; rintro r1 w1 (⟨er, q, hq, rfl, hbd⟩ | ⟨s1, hq, rfl, hs⟩) <;> first | (replace H := hidb (H.out.trans hs); replace HR := hidb (HR.out.trans (Gm.bind_ok hq)); clear hs hq) | (have HRE := hidb (HR.out.trans (Gm.bind_err hq)); have HB : Hid (But (· = g) w1 w1) := hidb (But.refl _ _); replace H := hidb (H.out.bad hbd); clear hq hbd HR))
    | (go_at_call 32; refine (sNodeR (n := ⟨18, ⟨#[]⟩, _, 0, [c, la], q⟩) HR.out (IR.lit H.out #[iv c, iv la] [c, la] rfl (by simp)).2.drop.at ((IR.lit H.out #[iv c, iv la] [c, la] rfl (by simp)).1.lr HP.out)).mono ?_; rintro r1 w2 (⟨er, q2, z, hq, rfl, hbd⟩ | ⟨z, s2, V2, hq, rfl, hs⟩) <;> first | (replace H := hidb ((IR.lit H.out #[iv c, iv la] [c, la] rfl (by simp)).2.drop.trans hs); replace HR := hidb hq; clear hs hq) | (have HRE := hidb hq; have HB : Hid (But (· = g) w2 w2) := hidb (But.refl _ _); replace H := hidb ((IR.lit H.out #[iv c, iv la] [c, la] rfl (by simp)).2.drop.bad hbd); clear hq hbd HR))
    | (go_at_call 105; refine (bKept _ H.out).mono ?_; rintro r1 w1 ⟨rfl, hb⟩; replace HB := hidb (HB.out.trans (But.of_below hb)); replace H := hidb (H.out.keep hb); clear hb)
    | (go_at_call 29; refine (bNext H.out).mono ?_; rintro r1 w1 ⟨rfl, hb⟩; replace HB := hidb (HB.out.trans (But.of_below hb)); replace H := hidb (H.out.keep hb); clear hb)
    | (go_at_call 107; refine (bBody H.out).mono ?_; rintro r1 w1 ⟨rfl, hd, hb⟩; replace HB := hidb (HB.out.trans hb); replace H := hidb hd; clear hb hd)
    | (go_at_call 106; refine (bNone _ H.out).mono ?_; rintro r1 w1 ⟨rfl, hd, hb⟩; replace HB := hidb (HB.out.trans hb); replace H := hidb hd; clear hb hd)
    | (go_at_call 27; refine (bWant _ _ H.out).mono ?_; rintro r1 w1 ⟨rfl, hd, hb⟩; replace HB := hidb (HB.out.trans hb); replace H := hidb hd; clear hb hd)
    | (go_at_call 32; refine (bNode _ _ _ _ _ _ (H.out.keep (below_new _ _))).mono ?_; rintro r1 w1 ⟨rfl, hd, hb⟩; replace HB := hidb ((HB.out.trans (But.of_below (below_new _ _))).trans hb); replace H := hidb hd; clear hb hd))
  all_goals first
    | (go_ret; first | exact .inr ⟨_, _, _, HR.out, rfl, H.out⟩ | exact .inl ⟨_, _, _, HRE.out, rfl, H.out⟩)
    | skip

theorem pReceive (hE : EC B g b o e) (q : Nat) {P : Nat → Prop} {w : World} {V : Value} {s : PS} (h : At B g b o P w V s) :
    Calls Tryz.prog 151 #[.pointer (some ⟨g, 0, none⟩), .int .i64 (q : Int)] w fun r w' => Rz B g b o P w V (receiveP e q s) r w' := by
  cases hm : Gm.isM (Gm.hd s) ⟨#[97, 102, 116, 101, 114]⟩ with
  | true => exact pReceive1 hE q hm h
  | false => exact pReceive0 hE q hm h

end Rf
end Go.Proofs.YthdljnakmekhkaaGreatDoor


/- The reference's parser: receive as a word, words that begin nothing. -/
namespace Go.Proofs.YthdljnakmekhkaaGreatDoor
namespace Rf
open Go.RowKit Go.Lib
attribute [local go_sem] store_float f64bits
attribute [local go_sem ↓] Go.wp_at_zero Go.wp_at_succ
attribute [local go_sem] nd_p tk_k tk_x tk_n tk_f tk_p
variable {B g b o : Nat} {e : PM Nat}

theorem wd_receive {s : PS} {t : Tk} (h : Gm.hd s = t) (hx : t.x = ⟨#[114, 101, 99, 101, 105, 118, 101]⟩) : Gm.worded e s = receiveP e t.p (Gm.cut s) := by
  subst h
  show (if _ then _ else if _ then _ else if _ then _ else if _ then _ else if _ then _ else _ : PM Nat) s = _
  rw [if_neg (by rw [hx]; decide), if_neg (by rw [hx]; decide), if_neg (by rw [hx]; decide), if_neg (by rw [hx]; decide), if_pos hx]
  rfl
theorem wd_no {s : PS} {t : Tk} (h : Gm.hd s = t) (h1 : ¬ t.x = ⟨#[98, 101, 103, 105, 110]⟩) (h2 : ¬ t.x = ⟨#[99, 97, 115, 101]⟩) (h3 : ¬ t.x = ⟨#[102, 117, 110]⟩) (h4 : ¬ t.x = ⟨#[116, 114, 121]⟩) (h5 : ¬ t.x = ⟨#[114, 101, 99, 101, 105, 118, 101]⟩) : Gm.worded e s = .error (24, t.p) := by
  subst h
  show (if _ then _ else if _ then _ else if _ then _ else if _ then _ else if _ then _ else _ : PM Nat) s = _
  rw [if_neg h1, if_neg h2, if_neg h3, if_neg h4, if_neg h5]
  rfl

set_option maxHeartbeats 8000000 in
set_option maxRecDepth 100000 in
theorem pWordR (hE : EC B g b o e) {P : Nat → Prop} {w : World} {V : Value} {s : PS} {tn : Int} {tf tp : Nat} (ht : Gm.hd s = ⟨7, ⟨#[114, 101, 99, 101, 105, 118, 101]⟩, tn, tf, tp⟩) (h : At B g b o P w V s) :
    Calls Tryz.prog 145 #[.pointer (some ⟨g, 0, none⟩), .agg #[.int .i64 7, .string ⟨#[114, 101, 99, 101, 105, 118, 101]⟩, .int .i64 tn, .float .f64 tf, .int .i64 (tp : Int)]] w fun r w' => Rz B g b o P w V (Gm.worded e s) r w' := by
  have H : Hid (St B g b o P w V w V s) := hidb h
  have HE := hidb hE
  have HP := hidb h.plt
  have TT := hidb ht
  obtain ⟨R, hR⟩ : ∃ R, Gm.worded e s = R := ⟨_, rfl⟩
  rw [hR]
  have HR := hidb (hR.symm.trans (wd_receive (e := e) ht rfl))
  have M0 : Hid True := hidb trivial
  obtain ⟨wn, hwn⟩ : ∃ wn : World, wn = w := ⟨_, rfl⟩
  subst hwn
  have BX := hidb (Box.new wn 41 (.int .i64 7) (.string ⟨#[114, 101, 99, 101, 105, 118, 101]⟩) (.int .i64 tn) (.float .f64 tf) (.int .i64 (tp : Int)))
  replace H := hidb (H.out.hold (.cells #[.int .i64 7, .string ⟨#[114, 101, 99, 101, 105, 118, 101]⟩, .int .i64 tn, .float .f64 tf, .int .i64 (tp : Int)] 41))
  obtain ⟨x0, x1, x2, x3, x4, -, -, -, -, -, xl⟩ := BX.out
  clear hR h hE ht
  go_enter Tryz.func145, Tryz.ntmps145
  go_wp2_with (first
    | (go_at_call 29; clear M0; refine (sNext H.out.at (hk_of TT.out (by simp))).mono ?_; rintro r1 w1 ⟨rfl, hs⟩; replace BX := hidb (Box.but BX.out hs.but (bx_no H.out)); obtain ⟨x0, x1, x2, x3, x4, -, -, -, -, -, xl⟩ := BX.out; replace H := hidb (H.out.trans hs); clear hs)
    | (go_at_call 151; refine (pReceive HE.out tp H.out.drop.at).mono ?_; rintro r1 w2 (⟨er, q2, z, hq, rfl, hbd⟩ | ⟨z, s2, V2, hq, rfl, hs⟩) <;> first | (replace H := hidb (H.out.drop.trans hs); replace HR := hidb (HR.out.trans hq); clear hs hq) | (have HRE := hidb (HR.out.trans hq); replace H := hidb (H.out.drop.bad hbd); clear hq hbd HR)))
  all_goals (
    go_ret
    first
      | exact .inr ⟨_, _, _, HR.out, rfl, H.out⟩
      | exact .inl ⟨_, _, _, HRE.out, rfl, H.out⟩)

set_option maxHeartbeats 8000000 in
set_option maxRecDepth 100000 in
theorem pWordN (hE : EC B g b o e) {P : Nat → Prop} {w : World} {V : Value} {s : PS} {tx : ByteArray} {tn : Int} {tf tp : Nat} (ht : Gm.hd s = ⟨7, tx, tn, tf, tp⟩) (h1 : ¬ tx = ⟨#[98, 101, 103, 105, 110]⟩) (h2 : ¬ tx = ⟨#[99, 97, 115, 101]⟩) (h3 : ¬ tx = ⟨#[102, 117, 110]⟩) (h4 : ¬ tx = ⟨#[116, 114, 121]⟩) (h5 : ¬ tx = ⟨#[114, 101, 99, 101, 105, 118, 101]⟩) (h : At B g b o P w V s) :
    Calls Tryz.prog 145 #[.pointer (some ⟨g, 0, none⟩), .agg #[.int .i64 7, .string tx, .int .i64 tn, .float .f64 tf, .int .i64 (tp : Int)]] w fun r w' => Rz B g b o P w V (Gm.worded e s) r w' := by
  have H : Hid (St B g b o P w V w V s) := hidb h
  have HE := hidb hE
  have HP := hidb h.plt
  have TT := hidb ht
  obtain ⟨R, hR⟩ : ∃ R, Gm.worded e s = R := ⟨_, rfl⟩
  rw [hR]
  have HR := hidb (hR.symm.trans (wd_no (e := e) ht h1 h2 h3 h4 h5))
  have M0 : Hid True := hidb trivial
  obtain ⟨wn, hwn⟩ : ∃ wn : World, wn = w := ⟨_, rfl⟩
  subst hwn
  have BX := hidb (Box.new wn 41 (.int .i64 7) (.string tx) (.int .i64 tn) (.float .f64 tf) (.int .i64 (tp : Int)))
  replace H := hidb (H.out.hold (.cells #[.int .i64 7, .string tx, .int .i64 tn, .float .f64 tf, .int .i64 (tp : Int)] 41))
  obtain ⟨x0, x1, x2, x3, x4, -, -, -, -, -, xl⟩ := BX.out
  have d1 : (tx.toList == [98, 101, 103, 105, 110]) = false := by rw [show ([98, 101, 103, 105, 110] : List UInt8) = (⟨#[98, 101, 103, 105, 110]⟩ : ByteArray).toList from by rw [ByteArray.toList_eq], str_eq]; simpa using h1
  have d2 : (tx.toList == [99, 97, 115, 101]) = false := by rw [show ([99, 97, 115, 101] : List UInt8) = (⟨#[99, 97, 115, 101]⟩ : ByteArray).toList from by rw [ByteArray.toList_eq], str_eq]; simpa using h2
  have d3 : (tx.toList == [102, 117, 110]) = false := by rw [show ([102, 117, 110] : List UInt8) = (⟨#[102, 117, 110]⟩ : ByteArray).toList from by rw [ByteArray.toList_eq], str_eq]; simpa using h3
  have d4 : (tx.toList == [116, 114, 121]) = false := by rw [show ([116, 114, 121] : List UInt8) = (⟨#[116, 114, 121]⟩ : ByteArray).toList from by rw [ByteArray.toList_eq], str_eq]; simpa using h4
  have d5 : (tx.toList == [114, 101, 99, 101, 105, 118, 101]) = false := by rw [show ([114, 101, 99, 101, 105, 118, 101] : List UInt8) = (⟨#[114, 101, 99, 101, 105, 118, 101]⟩ : ByteArray).toList from by rw [ByteArray.toList_eq], str_eq]; simpa using h5
  clear h1 h2 h3 h4 h5
  clear hR h hE ht
  go_enter Tryz.func145, Tryz.ntmps145
  go_wp2_with (first
    | (go_at_call 28; refine (sFail H.out.drop.at tp (by decide)).mono ?_; rintro r1 w1 ⟨rfl, hbd⟩; have HRE := hidb HR.out; replace H := hidb (H.out.drop.bad hbd); clear hbd HR))
  all_goals (
    go_ret
    first
      | exact .inr ⟨_, _, _, HR.out, rfl, H.out⟩
      | exact .inl ⟨_, _, _, HRE.out, rfl, H.out⟩)

end Rf
end Go.Proofs.YthdljnakmekhkaaGreatDoor


/- The reference's parser: compared. -/
namespace Go.Proofs.YthdljnakmekhkaaGreatDoor
namespace Rf
open Go.RowKit Go.Lib
attribute [local go_sem] store_float f64bits
attribute [local go_sem ↓] Go.wp_at_zero Go.wp_at_succ
attribute [local go_sem] nd_p tk_k tk_x tk_n tk_f tk_p
variable {B g b o : Nat} {e : PM Nat}

theorem str_lit {x : ByteArray} {l : List UInt8} (a : Array UInt8) (h : a.toList = l) : (x.toList == l) = decide (x = ⟨a⟩) := by
  subst h
  rw [show a.toList = (⟨a⟩ : ByteArray).toList from by rw [ByteArray.toList_eq], str_eq]
theorem cmp_y {x : ByteArray} {n : Int} {f p : Nat} (h : (x.toList == [61, 61]) = true ∨ (x.toList == [47, 61]) = true ∨ (x.toList == [61, 60]) = true ∨ (x.toList == [60]) = true ∨ (x.toList == [62, 61]) = true ∨ (x.toList == [62]) = true ∨ (x.toList == [61, 58, 61]) = true ∨ (x.toList == [61, 47, 61]) = true) : Gm.isCmp ⟨6, x, n, f, p⟩ = true := by
  rcases h with h | h | h | h | h | h | h | h
  · rw [str_lit #[61, 61] rfl] at h; simp [Gm.isCmp, Gm.isM, of_decide_eq_true h]
  · rw [str_lit #[47, 61] rfl] at h; simp [Gm.isCmp, Gm.isM, of_decide_eq_true h]
  · rw [str_lit #[61, 60] rfl] at h; simp [Gm.isCmp, Gm.isM, of_decide_eq_true h]
  · rw [str_lit #[60] rfl] at h; simp [Gm.isCmp, Gm.isM, of_decide_eq_true h]
  · rw [str_lit #[62, 61] rfl] at h; simp [Gm.isCmp, Gm.isM, of_decide_eq_true h]
  · rw [str_lit #[62] rfl] at h; simp [Gm.isCmp, Gm.isM, of_decide_eq_true h]
  · rw [str_lit #[61, 58, 61] rfl] at h; simp [Gm.isCmp, Gm.isM, of_decide_eq_true h]
  · rw [str_lit #[61, 47, 61] rfl] at h; simp [Gm.isCmp, Gm.isM, of_decide_eq_true h]
theorem cmp_n {x : ByteArray} {n : Int} {f p : Nat} (h0 : (x.toList == [61, 61]) = false) (h1 : (x.toList == [47, 61]) = false) (h2 : (x.toList == [61, 60]) = false) (h3 : (x.toList == [60]) = false) (h4 : (x.toList == [62, 61]) = false) (h5 : (x.toList == [62]) = false) (h6 : (x.toList == [61, 58, 61]) = false) (h7 : (x.toList == [61, 47, 61]) = false) : Gm.isCmp ⟨6, x, n, f, p⟩ = false := by
  rw [str_lit #[61, 61] rfl] at h0
  rw [str_lit #[47, 61] rfl] at h1
  rw [str_lit #[61, 60] rfl] at h2
  rw [str_lit #[60] rfl] at h3
  rw [str_lit #[62, 61] rfl] at h4
  rw [str_lit #[62] rfl] at h5
  rw [str_lit #[61, 58, 61] rfl] at h6
  rw [str_lit #[61, 47, 61] rfl] at h7
  simp only [decide_eq_false_iff_not] at h0 h1 h2 h3 h4 h5 h6 h7
  simp [Gm.isCmp, Gm.isM, h0, h1, h2, h3, h4, h5, h6, h7]
theorem cmp_k {t : Tk} (htg : Tg t) (hk : t.k ≠ 6) : Gm.isCmp t = false := by
  unfold Gm.isCmp
  rw [isM_sign (x := ⟨#[61, 61]⟩) htg rfl, isM_sign (x := ⟨#[47, 61]⟩) htg rfl, isM_sign (x := ⟨#[61, 60]⟩) htg rfl, isM_sign (x := ⟨#[60]⟩) htg rfl, isM_sign (x := ⟨#[62, 61]⟩) htg rfl, isM_sign (x := ⟨#[62]⟩) htg rfl, isM_sign (x := ⟨#[61, 58, 61]⟩) htg rfl, isM_sign (x := ⟨#[61, 47, 61]⟩) htg rfl]
  simp [hk]

set_option maxHeartbeats 8000000 in
set_option maxRecDepth 100000 in
theorem pCompared (hE : EC B g b o e) (hU : ∀ {P : Nat → Prop} {w : World} {V : Value} {s : PS}, At B g b o P w V s → Calls Tryz.prog 132 #[.pointer (some ⟨g, 0, none⟩)] w fun r w' => Rz B g b o P w V (Gm.appends e s) r w') {P : Nat → Prop} {w : World} {V : Value} {s : PS} (h : At B g b o P w V s) :
    Calls Tryz.prog 129 #[.pointer (some ⟨g, 0, none⟩)] w fun r w' => Rz B g b o P w V (Gm.compare e s) r w' := by
  have H : Hid (St B g b o P w V w V s) := hidb h
  have HE := hidb hE
  obtain ⟨R, hR⟩ : ∃ R, Gm.compare e s = R := ⟨_, rfl⟩
  rw [hR]
  have HR := hidb hR.symm
  have HU := hidb (fun (P : Nat → Prop) (w : World) (V : Value) (s : PS) (h : At B g b o P w V s) => hU h)
  have M0 : Hid True := hidb trivial
  have M1 : Hid True := hidb trivial
  clear hR h hE hU
  go_enter Tryz.func129, Tryz.ntmps129
  go_wp2_with (first
    | (go_at_call 26; clear M0; refine (sNow H.out).mono ?_; rintro r1 w1 ⟨t, hq, rfl, hb⟩; replace H := hidb (H.out.below hb); replace HR := hidb (HR.out.trans (Gm.bind_here hq)); have Tt := hidb hq; clear hb hq)
    | (go_at_call 132; clear M1; refine (HU.out _ _ _ _ H.out.at).mono ?_; rintro r1 w1 (⟨er, q, x, hq, rfl, hbd⟩ | ⟨x, s1, V1, hq, rfl, hs⟩) <;> first | (replace H := hidb (H.out.trans hs); replace HR := hidb (HR.out.trans (Gm.bind_ok hq)); clear hs hq) | (have HRE := hidb (HR.out.trans (Gm.bind_err hq)); have HB : Hid (But (· = g) w1 w1) := hidb (But.refl _ _); replace H := hidb (H.out.bad hbd); clear hq hbd HR))
    | (go_at_call 26; refine (sNow H.out).mono ?_; rintro r1 wn ⟨⟨uk, ux, un, uf, up⟩, hq, rfl, hb⟩; have htg := H.out.tg; rw [hq] at htg; replace H := hidb (H.out.below hb); (by_cases hk : uk = 6) <;> first | (subst hk; replace HR := hidb (HR.out.trans (Gm.bind_here hq)); have TT := hidb hq; have BX := hidb (Box.new wn 41 (.int .i64 6) (.string ux) (.int .i64 un) (.float .f64 uf) (.int .i64 (up : Int))); replace H := hidb (H.out.hold (.cells #[.int .i64 6, .string ux, .int .i64 un, .float .f64 uf, .int .i64 (up : Int)] 41)); obtain ⟨x0, x1, x2, x3, x4, -, -, -, -, -, xl⟩ := BX.out; clear hb hq htg) | (replace HR := hidb ((HR.out.trans (Gm.bind_here hq)).trans (Gm.ite_f (by rw [cmp_k htg hk]; decide))); have d0 : (uk != 6) = true := (by simpa using hk); have BX := hidb (Box.new wn 41 (.int .i64 uk) (.string ux) (.int .i64 un) (.float .f64 uf) (.int .i64 (up : Int))); replace H := hidb (H.out.hold (.cells #[.int .i64 uk, .string ux, .int .i64 un, .float .f64 uf, .int .i64 (up : Int)] 41)); obtain ⟨x0, x1, x2, x3, x4, -, -, -, -, -, xl⟩ := BX.out; clear hb hq htg hk))
    | (go_at_call 19; refine (sBad H.out).mono ?_; rintro r1 w1 ⟨rfl, rfl⟩)
    | (go_at_call 29; refine (sNext H.out.at (hk_of TT.out (by simp))).mono ?_; rintro r1 w1 ⟨rfl, hs⟩; replace BX := hidb (Box.but BX.out hs.but (bx_no H.out)); obtain ⟨x0, x1, x2, x3, x4, -, -, -, -, -, xl⟩ := BX.out; replace H := hidb (H.out.trans hs); replace HR := hidb ((HR.out.trans (Gm.ite_t (cmp_y (by first | exact .inl (by assumption) | exact .inr (.inl (by assumption)) | exact .inr (.inr (.inl (by assumption))) | exact .inr (.inr (.inr (.inl (by assumption)))) | exact .inr (.inr (.inr (.inr (.inl (by assumption))))) | exact .inr (.inr (.inr (.inr (.inr (.inl (by assumption)))))) | exact .inr (.inr (.inr (.inr (.inr (.inr (.inl (by assumption))))))) | exact .inr (.inr (.inr (.inr (.inr (.inr (.inr (by assumption))))))))))).trans (Gm.bind_next ⟨TT.out, rfl⟩)); clear hs)
    | (go_at_call 132; refine (HU.out _ _ _ _ H.out.at).mono ?_; rintro r1 w1 (⟨er, q, y, hq, rfl, hbd⟩ | ⟨y, s1, V1, hq, rfl, hs⟩) <;> first | (replace BX := hidb (Box.but BX.out hs.but (bx_no H.out)); obtain ⟨x0, x1, x2, x3, x4, -, -, -, -, -, xl⟩ := BX.out; replace H := hidb (H.out.trans hs); replace HR := hidb (HR.out.trans (Gm.bind_ok hq)); clear hs hq) | (have HRE := hidb (HR.out.trans (Gm.bind_err hq)); replace BX := hidb (Box.but BX.out hbd.but (bx_no H.out)); have HXG := hidb (fun e => (bx_no H.out) (.inl e) : wn.heap.size ≠ g); obtain ⟨x0, x1, x2, x3, x4, -, -, -, -, -, xl⟩ := BX.out; have HB : Hid (But (· = g) w1 w1) := hidb (But.refl _ _); replace H := hidb (H.out.bad hbd); clear hq hbd HR))
    | (go_at_call 123; refine (pTwo _ x y t.p H.out.drop.at).mono ?_; rintro r1 w2 (⟨er, q, z, hq, rfl, hbd⟩ | ⟨z, s2, V2, hq, rfl, hs⟩) <;> first | (replace H := hidb (H.out.drop.trans hs); replace HR := hidb (HR.out.trans hq); clear hs hq) | (have HRE := hidb (HR.out.trans hq); replace H := hidb (H.out.drop.bad hbd); clear hq hbd HR))
    | (go_at_call 26; refine (bNow H.out).mono ?_; rintro r1 w1 ⟨⟨tk, tx, tn, tf, tp⟩, rfl, hb⟩; replace HB := hidb (HB.out.trans (But.of_below hb)); replace H := hidb (H.out.keep hb); clear hb)
    | (go_at_call 19; refine (bBad (H.out.keep (below_new _ _))).mono ?_; rintro r1 w2 ⟨rfl, rfl⟩; replace H := hidb (H.out.keep (below_new w1 (.cells #[.int .i64 tk, .string tx, .int .i64 tn, .float .f64 tf, .int .i64 (tp : Int)] 41))))
    | (go_at_call 123; refine (bTwo _ _ _ _ H.out).mono ?_; rintro r1 w1 ⟨rfl, hd, hb⟩; replace HB := hidb (HB.out.trans hb); replace H := hidb hd; clear hb hd))
  all_goals first
    | (exfalso; rename_i ha hb; exact absurd (ha.symm.trans hb) (by decide))
    | (go_ret
       first
         | exact .inr ⟨_, _, _, HR.out, rfl, H.out⟩
         | exact .inr ⟨_, _, _, HR.out, rfl, H.out.drop⟩
         | exact .inr ⟨_, _, _, HR.out.trans (Gm.ite_f (by rw [cmp_n (by assumption) (by assumption) (by assumption) (by assumption) (by assumption) (by assumption) (by assumption) (by assumption)]; decide)), rfl, H.out.drop⟩
         | exact .inl ⟨_, _, _, HRE.out, rfl, H.out⟩)

end Rf
end Go.Proofs.YthdljnakmekhkaaGreatDoor


/- The reference's parser: clauses of a catch. -/
namespace Go.Proofs.YthdljnakmekhkaaGreatDoor
namespace Rf
open Go.RowKit Go.Lib
attribute [local go_sem] store_float f64bits
attribute [local go_sem ↓] Go.wp_at_zero Go.wp_at_succ
attribute [local go_sem] nd_p tk_k tk_x tk_n tk_f tk_p
variable {B g b o : Nat} {e : PM Nat}

set_option maxHeartbeats 8000000 in
set_option maxRecDepth 100000 in
theorem pClauses3 (hE : EC B g b o e) (hC : ∀ {P : Nat → Prop} {w : World} {V : Value} {s : PS}, At B g b o P w V s → Calls Tryz.prog 156 #[.pointer (some ⟨g, 0, none⟩)] w fun r w' => Rz B g b o P w V (Gm.cclause e s) r w') {P : Nat → Prop} {w : World} {V : Value} {s : PS} (h : At B g b o P w V s) :
    Calls Tryz.prog 148 #[.pointer (some ⟨g, 0, none⟩), .int .i64 3] w fun r w' => Rz B g b o P w V (Gm.clauses (Gm.cclause e) s) r w' := by
  obtain ⟨i0, hi0, hz0, hz1, hz2⟩ := info_parts (P := Tryz.prog) (e := IT) (z := .int .i64 0) (size := 1) (bytes := 8) (by kernel_rfl)
  have H : Hid (St B g b o P w V w V s) := hidb h
  have HE := hidb hE
  have HC3 := hidb (fun (P : Nat → Prop) (w : World) (V : Value) (s : PS) (h : At B g b o P w V s) => hC h)
  have HP := hidb h.plt
  obtain ⟨R, hR⟩ : ∃ R, Gm.clauses (Gm.cclause e) s = R := ⟨_, rfl⟩
  rw [hR]
  have HR := hidb hR.symm
  have htl := h.tl
  have HGB := hidb (And.intro h.glt h.blt)
  clear hR h hE hC
  go_enter Tryz.func148, Tryz.ntmps148
  go_wp2_with (first
    | (go_at_call 26; refine (sNow H.out).mono ?_; rintro r1 w1 ⟨t, hq, rfl, hb⟩; replace H := hidb (H.out.below hb); replace HR := hidb (HR.out.trans (Gm.bind_here hq)); have Tt := hidb hq; clear hb hq))
  have H0 : Hid (St B g b o (PV P (.slice none 0 0)) w V w1 V s) := hidb (H.out.more (fun k hk => by simp [Value.ownBlock] at hk) (H.out.ns.newer (fun k hk => by simp [Value.ownBlock] at hk)))
  go_loopg [6] s.ts.length (fun gf s5 wx => ∃ (l : List Nat) (sx : PS) (Vx : Value) (a : Option Addr) (c : Nat) (F : Nat → PM Nat), s5 = .slice a l.length c ∧ St B g b o (PV P (.slice a l.length c)) w V wx Vx sx ∧ IR wx w.heap.size g b Vx (.slice a l.length c) l ∧ R = ((Gm.cclause e) >>= F) sx ∧ (∀ x s1, s1.ts.length ≤ sx.ts.length → ∃ k, s1.ts.length ≤ k ∧ F x s1 = (Gm.moreC (Gm.cclause e) k (l ++ [x]) >>= fun l => Gm.lay ⟨20, ⟨#[]⟩, 0, 0, l, t.p⟩) s1) ∧ sx.ts.length ≤ gf ∧ l.length + sx.ts.length ≤ 100001)
  case atStart => exact ⟨[], s, V, none, 0, fun x => Gm.left >>= fun k => Gm.moreC (Gm.cclause e) k [x] >>= fun l => Gm.lay ⟨20, ⟨#[]⟩, 0, 0, l, t.p⟩, rfl, H0.out, IR.none _ _ _ _ _, HR.out, fun x s1 _ => ⟨s1.ts.length, Nat.le_refl _, rfl⟩, Nat.le_refl _, by simp; omega⟩
  case round =>
    obtain ⟨l, sx, Vx, a, c, F, hs5, hst, hir, hmore, hF, hgf, hll⟩ := hrel
    subst hs5
    clear HR H H0
    have hpos := ne_pos hst.ne
    obtain ⟨g', rfl⟩ : ∃ g', gk = g' + 1 := ⟨gk - 1, by omega⟩
    have H := hidb hst
    have HI := hidb hir
    have HR := hidb hmore
    have HFF := hidb hF
    have hc1 : l.length + 1 ≤ maxLen := by unfold maxLen; omega
    have hc2 : (l.length + 1) * 8 ≤ 140737488355328 := by omega
    have hlb : l.length ≤ 100002 := by omega
    have hgl : g < w.heap.size := HGB.out.1
    have hbl : b < w.heap.size := HGB.out.2
    clear hst hir hmore hF
    go_wp2_with (first
      | (go_at_call 156; refine (HC3.out _ _ _ _ H.out.at).mono ?_; rintro r1 w1 (⟨er, q, x, hq, rfl, hbd⟩ | ⟨x, s1, V1, hq, rfl, hs⟩) <;> first | (have HF := hidb ((Gm.all_cclause HE.out.all) _ H.out.ne _ _ hq).1; replace H := hidb (H.out.trans hs); replace HI := hidb (HI.out.step hs); replace HR := hidb (HR.out.trans (Gm.bind_ok hq)); clear hs hq) | (have HRE := hidb (HR.out.trans (Gm.bind_err hq)); have HW := hidb (HI.out.badrow hlb hbd); replace H := hidb (H.out.bad hbd); clear hq hbd HR))
      | (at_builtin; refine wpList_append_own_at _ rfl _ _ 44 rfl w.heap.size IT i0 (.int .i64 0) 1 8 Tryz.underlying44 hi0 hz0 hz1 hz2 rfl (by decide) _ _ _ rfl (HI.out.own.alloc _) ⟨w1.heap.size, 0, none⟩ 1 1 [iv x] rfl rfl ?_ ?_ ?_ ?_ ?_ ?_)
      | (at_builtin; refine wpList_append_own_at _ rfl _ _ 44 rfl w.heap.size IT i0 (.int .i64 0) 1 8 Tryz.underlying44 hi0 hz0 hz1 hz2 rfl (by decide) _ _ _ rfl (HW.out.1.alloc _) ⟨w1.heap.size, 0, none⟩ 1 1 [iv x] rfl rfl ?_ ?_ ?_ ?_ ?_ ?_))
    all_goals first
      | (intro q u hq; exact app_ints _ _ _ rfl q u hq)
      | (intro u hu; cases List.mem_singleton.1 hu; rfl)
      | exact hc1
      | exact hc2
      | (have := H.out.but.size; simp; omega)
      | skip
    · intro v' w3 hown hgrow hnil hat
      obtain ⟨j1, j2, j3⟩ := RB.app (xs := [x]) H.out hgl hbl HW.out hgrow hown (by simp; omega)
      obtain ⟨a', c', rfl⟩ := own_sl j1.1
      replace H := hidb j2
      have HB : Hid (But (· = g) w3 w3) := hidb (But.refl _ _)
      clear j1 j2 j3 hown hgrow hnil hat
      go_wp2_with (first
        | (go_at_call 64; refine (bSign _ H.out).mono ?_; rintro r1 w1 ⟨rfl, hb⟩; replace HB := hidb (HB.out.trans (But.of_below hb)); replace H := hidb (H.out.keep hb); clear hb)
        | (go_at_call 32; refine (bNode _ _ _ _ _ _ H.out).mono ?_; rintro r1 w1 ⟨rfl, hd, hb⟩; replace HB := hidb (HB.out.trans hb); replace H := hidb hd; clear hb hd))
      go_ret
      exact .inl ⟨_, _, _, HRE.out, rfl, H.out⟩
    · intro v' w3 hown hgrow hnil hat
      obtain ⟨j1, j2⟩ := IR.app (xs := [x]) H.out HI.out hgrow hat hown
      obtain ⟨a', c', rfl⟩ : ∃ a' c', v' = .slice a' (l.length + 1) c' := by obtain ⟨a', c', h⟩ := j1.sl; exact ⟨a', c', by simpa using h⟩
      replace HI := hidb j1
      replace H := hidb j2
      clear j1 j2 hown hgrow hnil hat
      obtain ⟨k, hk, hm⟩ := HFF.out x s1 HF.out.len
      have hp1 := ne_pos H.out.ne
      obtain ⟨k', rfl⟩ : ∃ k', k = k' + 1 := ⟨k - 1, by omega⟩
      replace HR := hidb ((HR.out.trans hm).trans (Gm.assoc _ _ _ _))
      have hlen := HF.out.len
      clear hm
      go_wp2_with (first
        | (go_at_call 64; refine (sSign (x := ⟨#[59]⟩) rfl H.out).mono ?_; rintro r1 w4 ⟨⟨hq, rfl⟩ | ⟨hq, rfl⟩, hb⟩ <;> first | (have HT : Hid (Gm.isM (Gm.hd s1) ⟨#[59]⟩ = true) := hidb hq; replace HI := hidb (HI.out.below hb); replace H := hidb (H.out.below hb); replace HR := hidb ((HR.out.trans (Gm.bind_ok (take_t hq))).trans (Gm.assoc _ _ _ _)); clear hb hq) | (replace HI := hidb (HI.out.below hb); replace H := hidb (H.out.below hb); replace HR := hidb (HR.out.trans (Gm.bind_ok (take_f hq))); clear hb hq))
        | (go_at_call 29; refine (sNext H.out.at (Gm.isM_k HT.out)).mono ?_; rintro r1 w5 ⟨rfl, hs⟩; have HC := hidb (cut_len H.out.ne); replace H := hidb (H.out.trans hs); replace HI := hidb (HI.out.step hs); clear hs)
        | (go_at_call 32; refine (sNodeR (n := ⟨20, ⟨#[]⟩, 0, 0, l ++ [x], t.p⟩) HR.out H.out.drop.at (HI.out.lr HP.out)).mono ?_; rintro r1 w6 (⟨er, q, z, hq, rfl, hbd⟩ | ⟨z, s2, V2, hq, rfl, hs⟩) <;> first | (replace H := hidb (H.out.drop.trans hs); replace HR := hidb hq; clear hs hq) | (have HRE := hidb hq; replace H := hidb (H.out.drop.bad hbd); clear hq hbd HR)))
      all_goals first
        | (go_roundg g'
           case measure => omega
           case rel => exact ⟨l ++ [x], Gm.cut s1, V1, a', c', fun y => Gm.moreC _ k' (l ++ [x] ++ [y]) >>= fun l => Gm.lay ⟨20, ⟨#[]⟩, 0, 0, l, t.p⟩, by simp, by simpa using H.out, by simpa using HI.out, HR.out, fun y s2 h2 => ⟨k', by have := HC.out; omega, rfl⟩, by have := HC.out; omega, by have := HC.out; simp; omega⟩)
        | (go_ret
           first
             | exact .inr ⟨_, _, _, HR.out, rfl, H.out⟩
             | exact .inl ⟨_, _, _, HRE.out, rfl, H.out⟩)

end Rf
end Go.Proofs.YthdljnakmekhkaaGreatDoor


/- The reference's parser: worded, primary, given try's contract. -/
namespace Go.Proofs.YthdljnakmekhkaaGreatDoor
namespace Rf
open Go.RowKit Go.Lib
attribute [local go_sem] store_float f64bits
attribute [local go_sem ↓] Go.wp_at_zero Go.wp_at_succ
attribute [local go_sem] nd_p tk_k tk_x tk_n tk_f tk_p
variable {B g b o : Nat} {e : PM Nat}

/-- a try behind its word -/
def tryP (e : PM Nat) (p : Nat) : PM Nat := do
  let b ← Gm.body e
  let o ← Gm.clausesBehind ⟨#[111, 102]⟩ (Gm.clause e)
  let u ← Gm.here
  let c ← Gm.clausesBehind ⟨#[99, 97, 116, 99, 104]⟩ (Gm.cclause e)
  let v ← Gm.here
  if Gm.isM u ⟨#[99, 97, 116, 99, 104]⟩ = true ∨ Gm.isM v ⟨#[97, 102, 116, 101, 114]⟩ = true then do
    let a ← Gm.afterB e
    Gm.need ⟨#[101, 110, 100]⟩
    Gm.lay ⟨16, ⟨#[]⟩, a.1, 0, [b, o, c, a.2], p⟩
  else Gm.giveUp 24
theorem wd_try {s : PS} {t : Tk} (h : Gm.hd s = t) (hx : t.x = ⟨#[116, 114, 121]⟩) : Gm.worded e s = tryP e t.p (Gm.cut s) := by
  subst h
  show (if _ then _ else if _ then _ else if _ then _ else if _ then _ else if _ then _ else _ : PM Nat) s = _
  rw [if_neg (by rw [hx]; decide), if_neg (by rw [hx]; decide), if_neg (by rw [hx]; decide), if_pos hx]
  rfl

set_option maxHeartbeats 8000000 in
set_option maxRecDepth 100000 in
theorem pWordT (hE : EC B g b o e) (hT : ∀ (q : Nat) {P : Nat → Prop} {w : World} {V : Value} {s : PS}, At B g b o P w V s → Calls Tryz.prog 150 #[.pointer (some ⟨g, 0, none⟩), .int .i64 (q : Int)] w fun r w' => Rz B g b o P w V (tryP e q s) r w') {P : Nat → Prop} {w : World} {V : Value} {s : PS} {tn : Int} {tf tp : Nat} (ht : Gm.hd s = ⟨7, ⟨#[116, 114, 121]⟩, tn, tf, tp⟩) (h : At B g b o P w V s) :
    Calls Tryz.prog 145 #[.pointer (some ⟨g, 0, none⟩), .agg #[.int .i64 7, .string ⟨#[116, 114, 121]⟩, .int .i64 tn, .float .f64 tf, .int .i64 (tp : Int)]] w fun r w' => Rz B g b o P w V (Gm.worded e s) r w' := by
  have H : Hid (St B g b o P w V w V s) := hidb h
  have HE := hidb hE
  have HT3 := hidb (fun (q : Nat) (P : Nat → Prop) (w : World) (V : Value) (s : PS) (h : At B g b o P w V s) => hT q h)
  have HP := hidb h.plt
  have TT := hidb ht
  obtain ⟨R, hR⟩ : ∃ R, Gm.worded e s = R := ⟨_, rfl⟩
  rw [hR]
  have HR := hidb (hR.symm.trans (wd_try (e := e) ht rfl))
  have M0 : Hid True := hidb trivial
  obtain ⟨wn, hwn⟩ : ∃ wn : World, wn = w := ⟨_, rfl⟩
  subst hwn
  have BX := hidb (Box.new wn 41 (.int .i64 7) (.string ⟨#[116, 114, 121]⟩) (.int .i64 tn) (.float .f64 tf) (.int .i64 (tp : Int)))
  replace H := hidb (H.out.hold (.cells #[.int .i64 7, .string ⟨#[116, 114, 121]⟩, .int .i64 tn, .float .f64 tf, .int .i64 (tp : Int)] 41))
  obtain ⟨x0, x1, x2, x3, x4, -, -, -, -, -, xl⟩ := BX.out
  clear hR h hE ht hT
  go_enter Tryz.func145, Tryz.ntmps145
  go_wp2_with (first
    | (go_at_call 29; clear M0; refine (sNext H.out.at (hk_of TT.out (by simp))).mono ?_; rintro r1 w1 ⟨rfl, hs⟩; replace BX := hidb (Box.but BX.out hs.but (bx_no H.out)); obtain ⟨x0, x1, x2, x3, x4, -, -, -, -, -, xl⟩ := BX.out; replace H := hidb (H.out.trans hs); clear hs)
    | (go_at_call 150; refine (HT3.out tp _ _ _ _ H.out.drop.at).mono ?_; rintro r1 w2 (⟨er, q2, z, hq, rfl, hbd⟩ | ⟨z, s2, V2, hq, rfl, hs⟩) <;> first | (replace H := hidb (H.out.drop.trans hs); replace HR := hidb (HR.out.trans hq); clear hs hq) | (have HRE := hidb (HR.out.trans hq); replace H := hidb (H.out.drop.bad hbd); clear hq hbd HR)))
  all_goals (
    go_ret
    first
      | exact .inr ⟨_, _, _, HR.out, rfl, H.out⟩
      | exact .inl ⟨_, _, _, HRE.out, rfl, H.out⟩)

theorem pWorded (hE : EC B g b o e) (hT : ∀ (q : Nat) {P : Nat → Prop} {w : World} {V : Value} {s : PS}, At B g b o P w V s → Calls Tryz.prog 150 #[.pointer (some ⟨g, 0, none⟩), .int .i64 (q : Int)] w fun r w' => Rz B g b o P w V (tryP e q s) r w') {P : Nat → Prop} {w : World} {V : Value} {s : PS} (tx : ByteArray) (tn : Int) (tf tp : Nat) (ht : Gm.hd s = ⟨7, tx, tn, tf, tp⟩) (h : At B g b o P w V s) :
    Calls Tryz.prog 145 #[.pointer (some ⟨g, 0, none⟩), .agg #[.int .i64 7, .string tx, .int .i64 tn, .float .f64 tf, .int .i64 (tp : Int)]] w fun r w' => Rz B g b o P w V (Gm.worded e s) r w' := by
  by_cases h1 : tx = ⟨#[98, 101, 103, 105, 110]⟩
  · subst h1; exact pWordB hE ht h
  by_cases h2 : tx = ⟨#[99, 97, 115, 101]⟩
  · subst h2; exact pWordC hE ht h
  by_cases h3 : tx = ⟨#[102, 117, 110]⟩
  · subst h3; exact pWordF hE ht h
  by_cases h4 : tx = ⟨#[116, 114, 121]⟩
  · subst h4; exact pWordT hE hT ht h
  by_cases h5 : tx = ⟨#[114, 101, 99, 101, 105, 118, 101]⟩
  · subst h5; exact pWordR hE ht h
  exact pWordN hE ht h1 h2 h3 h4 h5 h
theorem pPrimary_all (hE : EC B g b o e) (hT : ∀ (q : Nat) {P : Nat → Prop} {w : World} {V : Value} {s : PS}, At B g b o P w V s → Calls Tryz.prog 150 #[.pointer (some ⟨g, 0, none⟩), .int .i64 (q : Int)] w fun r w' => Rz B g b o P w V (tryP e q s) r w') {P : Nat → Prop} {w : World} {V : Value} {s : PS} (h : At B g b o P w V s) :
    Calls Tryz.prog 143 #[.pointer (some ⟨g, 0, none⟩)] w fun r w' => RzP B g b o P w V (Gm.called e s) r w' :=
  pPrimary hE (fun tx tn tf tp ht _ _ _ h => pWorded hE hT tx tn tf tp ht h) h

end Rf
end Go.Proofs.YthdljnakmekhkaaGreatDoor


