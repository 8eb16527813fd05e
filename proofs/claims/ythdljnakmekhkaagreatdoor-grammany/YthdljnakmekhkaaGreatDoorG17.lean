import Derived.Test.YthdljnakmekhkaaGreatDoorG16
/- The reference's parser: primary, atoms and brackets. -/
namespace Go.Proofs.YthdljnakmekhkaaGreatDoor
namespace Rf
open Go.RowKit Go.Lib
attribute [local go_sem] store_float f64bits
attribute [local go_sem ↓] Go.wp_at_zero Go.wp_at_succ
attribute [local go_sem] nd_p tk_k tk_x tk_n tk_f tk_p
variable {B g b o : Nat} {e : PM Nat}

theorem br_of {s : PS} {t : Tk} (h : Gm.hd s = t) (hk : t.k = 6) : Gm.called e s = Gm.bracketed e s := by
  rw [called_f h (by omega)]
  subst h
  show (if _ then Gm.leaf else if _ then _ else _ : PM Nat) s = _
  rw [if_neg (by omega), if_pos hk]
theorem wd_of {s : PS} {t : Tk} (h : Gm.hd s = t) (hk : t.k = 7) : Gm.called e s = Gm.worded e s := by
  rw [called_f h (by omega)]
  subst h
  show (if _ then Gm.leaf else if _ then _ else if _ then _ else _ : PM Nat) s = _
  rw [if_neg (by omega), if_neg (by omega), if_pos hk]
theorem no_of {s : PS} {t : Tk} (h : Gm.hd s = t) (hk : ¬ (1 ≤ t.k ∧ t.k ≤ 7)) : Gm.called e s = .error (24, t.p) := by
  rw [called_f h (by omega)]
  subst h
  show (if _ then Gm.leaf else if _ then _ else if _ then _ else _ : PM Nat) s = _
  rw [if_neg (by omega), if_neg (by omega), if_neg (by omega)]
  rfl
theorem tuple_is (e : PM Nat) (s : PS) : Gm.tuple e s = (maybeP e ⟨#[125]⟩ Gm.noBound >>= fun l => Gm.lay ⟨6, ⟨#[]⟩, 0, 0, l, (Gm.hd s).p⟩) (Gm.cut s) := by
  show (Gm.here >>= fun u => if Gm.isM u ⟨#[125]⟩ then _ else _ : PM Nat) (Gm.cut s) = _
  rw [Gm.bind_here rfl]
  unfold maybeP
  rw [Gm.assoc]
  cases hm : Gm.isM (Gm.hd (Gm.cut s)) ⟨#[125]⟩ with
  | true =>
    rw [Gm.bind_ok (take_t hm)]
    show (Gm.need ⟨#[125]⟩ >>= fun _ => Gm.lay _) (Gm.cut s) = _
    rw [Gm.bind_ok (need_t hm)]
    rfl
  | false =>
    rw [Gm.bind_ok (take_f hm)]
    show (Gm.exprs e Gm.noBound >>= fun l => Gm.need ⟨#[125]⟩ >>= fun _ => Gm.lay _) (Gm.cut s) = ((Gm.exprs e Gm.noBound >>= fun l => Gm.need ⟨#[125]⟩ >>= fun _ => pure l) >>= _) (Gm.cut s)
    rw [Gm.assoc, Gm.bind_at, Gm.bind_at]
    cases Gm.exprs e Gm.noBound (Gm.cut s) with
    | error er => rfl
    | ok q =>
      obtain ⟨l, s1⟩ := q
      show (Gm.need ⟨#[125]⟩ >>= fun _ => Gm.lay _) s1 = ((Gm.need ⟨#[125]⟩ >>= fun _ => pure l) >>= _) s1
      rw [Gm.assoc]
      rfl
theorem br_round {s : PS} {t : Tk} (h : Gm.hd s = t) (hx : t.x = ⟨#[40]⟩) : Gm.bracketed e s = (e >>= fun x => Gm.need ⟨#[41]⟩ >>= fun _ => pure x) (Gm.cut s) := by
  subst h
  show (if _ then _ else _ : PM Nat) s = _
  rw [if_pos hx]
  rfl
theorem br_tuple {s : PS} {t : Tk} (h : Gm.hd s = t) (hx : t.x = ⟨#[123]⟩) : Gm.bracketed e s = Gm.tuple e s := by
  subst h
  show (if _ then _ else if _ then _ else _ : PM Nat) s = _
  rw [if_neg (by rw [hx]; decide), if_pos hx]
theorem br_list {s : PS} {t : Tk} (h : Gm.hd s = t) (hx : t.x = ⟨#[91]⟩) : Gm.bracketed e s = listP e t.p (Gm.cut s) := by
  subst h
  show (if _ then _ else if _ then _ else if _ then _ else _ : PM Nat) s = _
  rw [if_neg (by rw [hx]; decide), if_neg (by rw [hx]; decide), if_pos hx]
  rfl
theorem br_no {s : PS} {t : Tk} (h : Gm.hd s = t) (h1 : ¬ t.x = ⟨#[40]⟩) (h2 : ¬ t.x = ⟨#[123]⟩) (h3 : ¬ t.x = ⟨#[91]⟩) : Gm.bracketed e s = .error (24, t.p) := by
  subst h
  show (if _ then _ else if _ then _ else if _ then _ else _ : PM Nat) s = _
  rw [if_neg h1, if_neg h2, if_neg h3]
  rfl

set_option maxHeartbeats 8000000 in
set_option maxRecDepth 100000 in
theorem pPrim1a (hE : EC B g b o e) {P : Nat → Prop} {w : World} {V : Value} {s : PS} {tx : ByteArray} {tp : Nat} (ht : Gm.hd s = ⟨1, tx, 0, 0, tp⟩) (hm : Gm.isM (Gm.hd2 s) ⟨#[40]⟩ = false) (h : At B g b o P w V s) :
    Calls Tryz.prog 143 #[.pointer (some ⟨g, 0, none⟩)] w fun r w' => RzP B g b o P w V (Gm.called e s) r w' := by
  have H : Hid (St B g b o P w V w V s) := hidb h
  have HE := hidb hE
  have HP := hidb h.plt
  have TT := hidb ht
  obtain ⟨R, hR⟩ : ∃ R, Gm.called e s = R := ⟨_, rfl⟩
  rw [hR]
  have HR := hidb (hR.symm.trans (atom_of (e := e) ht rfl hm))
  have M0 : Hid True := hidb trivial
  have HM := hidb hm
  clear hm
  clear hR h hE ht
  go_enter Tryz.func143, Tryz.ntmps143
  go_wp2_with (first
      | (go_at_call 26; refine (sNow H.out).mono ?_; rintro r1 wn ⟨t, hq, rfl, hb⟩; obtain rfl : t = ⟨1, tx, 0, 0, tp⟩ := hq.symm.trans TT.out; replace H := hidb (H.out.below hb); have BX := hidb (Box.new wn 41 (.int .i64 1) (.string tx) (.int .i64 0) (.float .f64 0) (.int .i64 (tp : Int))); replace H := hidb (H.out.hold (.cells #[.int .i64 1, .string tx, .int .i64 0, .float .f64 0, .int .i64 (tp : Int)] 41)); obtain ⟨x0, x1, x2, x3, x4, -, -, -, -, -, xl⟩ := BX.out; clear hb hq)
      | (go_at_call 19; refine (sBad H.out).mono ?_; rintro r1 w1 ⟨rfl, rfl⟩)
      | (go_at_call 29; clear M0; refine (sNext H.out.at (hk_of TT.out (by simp))).mono ?_; rintro r1 w1 ⟨rfl, hs⟩; replace BX := hidb (Box.but BX.out hs.but (bx_no H.out)); obtain ⟨x0, x1, x2, x3, x4, -, -, -, -, -, xl⟩ := BX.out; replace H := hidb (H.out.trans hs); clear hs)
      | (go_at_call 64; refine (sSign rfl H.out).mono ?_; rintro r1 w1 ⟨⟨hq, rfl⟩ | ⟨hq, rfl⟩, hb⟩ <;> first | (exfalso; have hq2 := hq; rw [show Gm.hd (Gm.cut s) = Gm.hd2 s from rfl, HM.out] at hq2; cases hq2; done) | (replace BX := hidb (Box.but BX.out (But.of_below (S := fun _ => False) hb) (fun h => h)); obtain ⟨x0, x1, x2, x3, x4, -, -, -, -, -, xl⟩ := BX.out; replace H := hidb (H.out.below hb); clear hb hq))
      | (go_at_call 32; refine (sNodeR (n := ⟨3, tx, 0, 0, [], tp⟩) HR.out H.out.drop.at (LR.none _ _ _ _)).mono ?_; rintro r1 w2 (⟨er, q2, z, hq, rfl, hbd⟩ | ⟨z, s2, V2, hq, rfl, hs⟩) <;> first | (replace H := hidb (H.out.drop.trans hs); replace HR := hidb hq; clear hs hq) | (have HRE := hidb hq; replace H := hidb (H.out.drop.bad hbd); clear hq hbd HR)))
  all_goals (
    go_ret2
    first
      | exact .inr ⟨_, _, _, _, HR.out, rfl, H.out⟩
      | exact .inl ⟨_, _, _, _, HRE.out, rfl, H.out⟩)

set_option maxHeartbeats 8000000 in
set_option maxRecDepth 100000 in
theorem pPrim1b (hE : EC B g b o e) {P : Nat → Prop} {w : World} {V : Value} {s : PS} {tx : ByteArray} {tp : Nat} (ht : Gm.hd s = ⟨1, tx, 0, 0, tp⟩) (hm : Gm.isM (Gm.hd2 s) ⟨#[40]⟩ = true) (h : At B g b o P w V s) :
    Calls Tryz.prog 143 #[.pointer (some ⟨g, 0, none⟩)] w fun r w' => RzP B g b o P w V (Gm.called e s) r w' := by
  have H : Hid (St B g b o P w V w V s) := hidb h
  have HE := hidb hE
  have HP := hidb h.plt
  have TT := hidb ht
  obtain ⟨R, hR⟩ : ∃ R, Gm.called e s = R := ⟨_, rfl⟩
  rw [hR]
  have HR := hidb (hR.symm.trans ((((called_t (e := e) ht rfl hm).trans (Gm.bind_next ⟨ht, rfl⟩)).trans (Gm.assoc (Gm.need ⟨#[40]⟩) (fun _ => maybeP e ⟨#[41]⟩ 16) _ _)).trans (Gm.bind_ok (need_t hm))))
  have M0 : Hid True := hidb trivial
  have HM : Hid (Gm.isM (Gm.hd (Gm.cut s)) ⟨#[40]⟩ = true) := hidb hm
  clear hm
  clear hR h hE ht
  go_enter Tryz.func143, Tryz.ntmps143
  go_wp2_with (first
      | (go_at_call 26; refine (sNow H.out).mono ?_; rintro r1 wn ⟨t, hq, rfl, hb⟩; obtain rfl : t = ⟨1, tx, 0, 0, tp⟩ := hq.symm.trans TT.out; replace H := hidb (H.out.below hb); have BX := hidb (Box.new wn 41 (.int .i64 1) (.string tx) (.int .i64 0) (.float .f64 0) (.int .i64 (tp : Int))); replace H := hidb (H.out.hold (.cells #[.int .i64 1, .string tx, .int .i64 0, .float .f64 0, .int .i64 (tp : Int)] 41)); obtain ⟨x0, x1, x2, x3, x4, -, -, -, -, -, xl⟩ := BX.out; clear hb hq)
      | (go_at_call 19; refine (sBad H.out).mono ?_; rintro r1 w1 ⟨rfl, rfl⟩)
      | (go_at_call 29; clear M0; refine (sNext H.out.at (hk_of TT.out (by simp))).mono ?_; rintro r1 w1 ⟨rfl, hs⟩; replace BX := hidb (Box.but BX.out hs.but (bx_no H.out)); obtain ⟨x0, x1, x2, x3, x4, -, -, -, -, -, xl⟩ := BX.out; replace H := hidb (H.out.trans hs); clear hs)
      | (go_at_call 64; refine (sSign rfl H.out).mono ?_; rintro r1 w1 ⟨⟨hq, rfl⟩ | ⟨hq, rfl⟩, hb⟩ <;> first | (exfalso; have hq2 := hq; rw [HM.out] at hq2; cases hq2; done) | (replace BX := hidb (Box.but BX.out (But.of_below (S := fun _ => False) hb) (fun h => h)); obtain ⟨x0, x1, x2, x3, x4, -, -, -, -, -, xl⟩ := BX.out; replace H := hidb (H.out.below hb); clear hb hq))
      | (go_at_call 29; refine (sNextT H.out.at HM.out).mono ?_; rintro r1 w1 ⟨rfl, hs⟩; replace BX := hidb (Box.but BX.out hs.but (bx_no H.out)); obtain ⟨x0, x1, x2, x3, x4, -, -, -, -, -, xl⟩ := BX.out; replace H := hidb (H.out.trans hs); clear hs)
      | (go_at_call 62; refine (pMaybeT HE.out (x := ⟨#[41]⟩) rfl H.out.at).mono ?_; rintro r1 w1 (⟨er, q, v, l, hq, rfl, hw, hng, hbd⟩ | ⟨l, s1, V1, v, hq, rfl, hs, hs2, hi, hlen⟩) <;> first | (obtain ⟨la, lc, rfl⟩ := hi.sl; have HI := hidb (hi.rebase H.out.but.size); replace BX := hidb (Box.but BX.out hs.but (bx_no H.out)); obtain ⟨x0, x1, x2, x3, x4, -, -, -, -, -, xl⟩ := BX.out; replace H := hidb ((H.out.trans hs2).less (Q := P) (fun k hk => .inl (.inl hk))); replace HR := hidb (HR.out.trans (Gm.bind_ok hq)); clear hs hs2 hi hq hlen) | (obtain ⟨la, lc, rfl⟩ := own_sl hw.1; have HRE := hidb (HR.out.trans (Gm.bind_err hq)); replace BX := hidb (Box.but BX.out hbd.but (bx_no H.out)); have HXG := hidb (fun e => (bx_no H.out) (.inl e) : wn.heap.size ≠ g); obtain ⟨x0, x1, x2, x3, x4, -, -, -, -, -, xl⟩ := BX.out; have HB : Hid (But (· = g) w1 w1) := hidb (But.refl _ _); replace H := hidb (H.out.bad hbd); clear hq hbd hw hng HR))
      | (go_at_call 32; refine (sNodeR (n := ⟨11, tx, 0, 0, l, tp⟩) HR.out H.out.at (HI.out.lr HP.out)).mono ?_; rintro r1 w2 (⟨er, q2, z, hq, rfl, hbd⟩ | ⟨z, s2, V2, hq, rfl, hs⟩) <;> first | (replace H := hidb (H.out.trans hs); replace HR := hidb hq; clear hs hq) | (have HRE := hidb hq; replace H := hidb (H.out.bad hbd); clear hq hbd HR))
      | (go_at_call 32; refine (bNode _ _ _ _ _ _ H.out).mono ?_; rintro r1 w1 ⟨rfl, hd, hb⟩; replace HB := hidb (HB.out.trans hb); replace H := hidb hd; clear hb hd))
  all_goals (
    go_ret2
    first
      | exact .inr ⟨_, _, _, _, HR.out, rfl, H.out⟩
      | exact .inl ⟨_, _, _, _, HRE.out, rfl, H.out⟩)

set_option maxHeartbeats 8000000 in
set_option maxRecDepth 100000 in
theorem pPrim6a (hE : EC B g b o e) {P : Nat → Prop} {w : World} {V : Value} {s : PS} {tn : Int} {tf : Nat} {tp : Nat} (ht : Gm.hd s = ⟨6, ⟨#[40]⟩, tn, tf, tp⟩) (h : At B g b o P w V s) :
    Calls Tryz.prog 143 #[.pointer (some ⟨g, 0, none⟩)] w fun r w' => RzP B g b o P w V (Gm.called e s) r w' := by
  have H : Hid (St B g b o P w V w V s) := hidb h
  have HE := hidb hE
  have HP := hidb h.plt
  have TT := hidb ht
  obtain ⟨R, hR⟩ : ∃ R, Gm.called e s = R := ⟨_, rfl⟩
  rw [hR]
  have HR := hidb (hR.symm.trans ((br_of (e := e) ht rfl).trans (br_round ht rfl)))
  have M0 : Hid True := hidb trivial
  clear hR h hE ht
  go_enter Tryz.func143, Tryz.ntmps143
  go_wp2_with (first
      | (go_at_call 26; refine (sNow H.out).mono ?_; rintro r1 wn ⟨t, hq, rfl, hb⟩; obtain rfl : t = ⟨6, ⟨#[40]⟩, tn, tf, tp⟩ := hq.symm.trans TT.out; replace H := hidb (H.out.below hb); have BX := hidb (Box.new wn 41 (.int .i64 6) (.string ⟨#[40]⟩) (.int .i64 tn) (.float .f64 tf) (.int .i64 (tp : Int))); replace H := hidb (H.out.hold (.cells #[.int .i64 6, .string ⟨#[40]⟩, .int .i64 tn, .float .f64 tf, .int .i64 (tp : Int)] 41)); obtain ⟨x0, x1, x2, x3, x4, -, -, -, -, -, xl⟩ := BX.out; clear hb hq)
      | (go_at_call 19; refine (sBad H.out).mono ?_; rintro r1 w1 ⟨rfl, rfl⟩)
      | (go_at_call 64; refine (sSign rfl H.out).mono ?_; rintro r1 w1 ⟨⟨hq, rfl⟩ | ⟨hq, rfl⟩, hb⟩ <;> first | (exfalso; rw [TT.out] at hq; simp [Gm.isM] at hq; done) | (replace BX := hidb (Box.but BX.out (But.of_below (S := fun _ => False) hb) (fun h => h)); obtain ⟨x0, x1, x2, x3, x4, -, -, -, -, -, xl⟩ := BX.out; replace H := hidb (H.out.below hb); clear hb hq))
      | (go_at_call 29; clear M0; refine (sNext H.out.at (hk_of TT.out (by simp))).mono ?_; rintro r1 w1 ⟨rfl, hs⟩; replace BX := hidb (Box.but BX.out hs.but (bx_no H.out)); obtain ⟨x0, x1, x2, x3, x4, -, -, -, -, -, xl⟩ := BX.out; replace H := hidb (H.out.trans hs); clear hs)
      | (go_at_call 104; refine (HE.out.run H.out.at).mono ?_; rintro r1 w1 (⟨er, q, x, hq, rfl, hbd⟩ | ⟨x, s1, V1, hq, rfl, hs⟩) <;> first | (replace H := hidb (H.out.trans hs); replace HR := hidb (HR.out.trans (Gm.bind_ok hq)); clear hs hq) | (have HRE := hidb (HR.out.trans (Gm.bind_err hq)); have HB : Hid (But (· = g) w1 w1) := hidb (But.refl _ _); replace H := hidb (H.out.bad hbd); clear hq hbd HR))
      | (go_at_call 27; refine (sWant (by first | exact .inl ⟨rfl, rfl⟩ | exact .inr ⟨rfl, rfl⟩) H.out.at).mono ?_; rintro r1 w1 (⟨er, q, hq, rfl, hbd⟩ | ⟨s1, hq, rfl, hs⟩) <;> first | (replace H := hidb (H.out.trans hs); replace HR := hidb (HR.out.trans (Gm.bind_ok hq)); clear hs hq) | (have HRE := hidb (HR.out.trans (Gm.bind_err hq)); have HB : Hid (But (· = g) w1 w1) := hidb (But.refl _ _); replace H := hidb (H.out.bad hbd); clear hq hbd HR))
      | (go_at_call 27; refine (bWant _ _ H.out).mono ?_; rintro r1 w1 ⟨rfl, hd, hb⟩; replace HB := hidb (HB.out.trans hb); replace H := hidb hd; clear hb hd))
  all_goals (
    go_ret2
    first
      | exact .inr ⟨_, _, _, _, HR.out, rfl, H.out⟩
      | exact .inr ⟨_, _, _, _, HR.out, rfl, H.out.drop⟩
      | exact .inl ⟨_, _, _, _, HRE.out, rfl, H.out⟩)

set_option maxHeartbeats 8000000 in
set_option maxRecDepth 100000 in
theorem pPrim6b (hE : EC B g b o e) {P : Nat → Prop} {w : World} {V : Value} {s : PS} {tn : Int} {tf : Nat} {tp : Nat} (ht : Gm.hd s = ⟨6, ⟨#[123]⟩, tn, tf, tp⟩) (h : At B g b o P w V s) :
    Calls Tryz.prog 143 #[.pointer (some ⟨g, 0, none⟩)] w fun r w' => RzP B g b o P w V (Gm.called e s) r w' := by
  have H : Hid (St B g b o P w V w V s) := hidb h
  have HE := hidb hE
  have HP := hidb h.plt
  have TT := hidb ht
  obtain ⟨R, hR⟩ : ∃ R, Gm.called e s = R := ⟨_, rfl⟩
  rw [hR]
  have HR := hidb (hR.symm.trans (((br_of (e := e) ht rfl).trans (br_tuple ht rfl)).trans ((tuple_is e s).trans (by rw [ht]))))
  have M0 : Hid True := hidb trivial
  clear hR h hE ht
  go_enter Tryz.func143, Tryz.ntmps143
  go_wp2_with (first
      | (go_at_call 26; refine (sNow H.out).mono ?_; rintro r1 wn ⟨t, hq, rfl, hb⟩; obtain rfl : t = ⟨6, ⟨#[123]⟩, tn, tf, tp⟩ := hq.symm.trans TT.out; replace H := hidb (H.out.below hb); have BX := hidb (Box.new wn 41 (.int .i64 6) (.string ⟨#[123]⟩) (.int .i64 tn) (.float .f64 tf) (.int .i64 (tp : Int))); replace H := hidb (H.out.hold (.cells #[.int .i64 6, .string ⟨#[123]⟩, .int .i64 tn, .float .f64 tf, .int .i64 (tp : Int)] 41)); obtain ⟨x0, x1, x2, x3, x4, -, -, -, -, -, xl⟩ := BX.out; clear hb hq)
      | (go_at_call 19; refine (sBad H.out).mono ?_; rintro r1 w1 ⟨rfl, rfl⟩)
      | (go_at_call 64; refine (sSign rfl H.out).mono ?_; rintro r1 w1 ⟨⟨hq, rfl⟩ | ⟨hq, rfl⟩, hb⟩ <;> first | (exfalso; rw [TT.out] at hq; simp [Gm.isM] at hq; done) | (replace BX := hidb (Box.but BX.out (But.of_below (S := fun _ => False) hb) (fun h => h)); obtain ⟨x0, x1, x2, x3, x4, -, -, -, -, -, xl⟩ := BX.out; replace H := hidb (H.out.below hb); clear hb hq))
      | (go_at_call 29; clear M0; refine (sNext H.out.at (hk_of TT.out (by simp))).mono ?_; rintro r1 w1 ⟨rfl, hs⟩; replace BX := hidb (Box.but BX.out hs.but (bx_no H.out)); obtain ⟨x0, x1, x2, x3, x4, -, -, -, -, -, xl⟩ := BX.out; replace H := hidb (H.out.trans hs); clear hs)
      | (go_at_call 62; refine (pMaybeF HE.out (x := ⟨#[125]⟩) rfl H.out.at).mono ?_; rintro r1 w1 (⟨er, q, v, l, hq, rfl, hw, hng, hbd⟩ | ⟨l, s1, V1, v, hq, rfl, hs, hs2, hi, hlen⟩) <;> first | (obtain ⟨la, lc, rfl⟩ := hi.sl; have HI := hidb (hi.rebase H.out.but.size); replace BX := hidb (Box.but BX.out hs.but (bx_no H.out)); obtain ⟨x0, x1, x2, x3, x4, -, -, -, -, -, xl⟩ := BX.out; replace H := hidb ((H.out.trans hs2).less (Q := P) (fun k hk => .inl (.inl hk))); replace HR := hidb (HR.out.trans (Gm.bind_ok hq)); clear hs hs2 hi hq hlen) | (obtain ⟨la, lc, rfl⟩ := own_sl hw.1; have HRE := hidb (HR.out.trans (Gm.bind_err hq)); replace BX := hidb (Box.but BX.out hbd.but (bx_no H.out)); have HXG := hidb (fun e => (bx_no H.out) (.inl e) : wn.heap.size ≠ g); obtain ⟨x0, x1, x2, x3, x4, -, -, -, -, -, xl⟩ := BX.out; have HB : Hid (But (· = g) w1 w1) := hidb (But.refl _ _); replace H := hidb (H.out.bad hbd); clear hq hbd hw hng HR))
      | (go_at_call 32; refine (sNodeR (n := ⟨6, ⟨#[]⟩, 0, 0, l, tp⟩) HR.out H.out.at (HI.out.lr HP.out)).mono ?_; rintro r1 w2 (⟨er, q2, z, hq, rfl, hbd⟩ | ⟨z, s2, V2, hq, rfl, hs⟩) <;> first | (replace H := hidb (H.out.trans hs); replace HR := hidb hq; clear hs hq) | (have HRE := hidb hq; replace H := hidb (H.out.bad hbd); clear hq hbd HR))
      | (go_at_call 32; refine (bNode _ _ _ _ _ _ H.out).mono ?_; rintro r1 w1 ⟨rfl, hd, hb⟩; replace HB := hidb (HB.out.trans hb); replace H := hidb hd; clear hb hd))
  all_goals (
    go_ret2
    first
      | exact .inr ⟨_, _, _, _, HR.out, rfl, H.out⟩
      | exact .inl ⟨_, _, _, _, HRE.out, rfl, H.out⟩)

set_option maxHeartbeats 8000000 in
set_option maxRecDepth 100000 in
theorem pPrim6c (hE : EC B g b o e) {P : Nat → Prop} {w : World} {V : Value} {s : PS} {tn : Int} {tf : Nat} {tp : Nat} (ht : Gm.hd s = ⟨6, ⟨#[91]⟩, tn, tf, tp⟩) (h : At B g b o P w V s) :
    Calls Tryz.prog 143 #[.pointer (some ⟨g, 0, none⟩)] w fun r w' => RzP B g b o P w V (Gm.called e s) r w' := by
  have H : Hid (St B g b o P w V w V s) := hidb h
  have HE := hidb hE
  have HP := hidb h.plt
  have TT := hidb ht
  obtain ⟨R, hR⟩ : ∃ R, Gm.called e s = R := ⟨_, rfl⟩
  rw [hR]
  have HR := hidb (hR.symm.trans ((br_of (e := e) ht rfl).trans (br_list ht rfl)))
  have M0 : Hid True := hidb trivial
  clear hR h hE ht
  go_enter Tryz.func143, Tryz.ntmps143
  go_wp2_with (first
      | (go_at_call 26; refine (sNow H.out).mono ?_; rintro r1 wn ⟨t, hq, rfl, hb⟩; obtain rfl : t = ⟨6, ⟨#[91]⟩, tn, tf, tp⟩ := hq.symm.trans TT.out; replace H := hidb (H.out.below hb); have BX := hidb (Box.new wn 41 (.int .i64 6) (.string ⟨#[91]⟩) (.int .i64 tn) (.float .f64 tf) (.int .i64 (tp : Int))); replace H := hidb (H.out.hold (.cells #[.int .i64 6, .string ⟨#[91]⟩, .int .i64 tn, .float .f64 tf, .int .i64 (tp : Int)] 41)); obtain ⟨x0, x1, x2, x3, x4, -, -, -, -, -, xl⟩ := BX.out; clear hb hq)
      | (go_at_call 19; refine (sBad H.out).mono ?_; rintro r1 w1 ⟨rfl, rfl⟩)
      | (go_at_call 64; refine (sSign rfl H.out).mono ?_; rintro r1 w1 ⟨⟨hq, rfl⟩ | ⟨hq, rfl⟩, hb⟩ <;> first | (exfalso; rw [TT.out] at hq; simp [Gm.isM] at hq; done) | (replace BX := hidb (Box.but BX.out (But.of_below (S := fun _ => False) hb) (fun h => h)); obtain ⟨x0, x1, x2, x3, x4, -, -, -, -, -, xl⟩ := BX.out; replace H := hidb (H.out.below hb); clear hb hq))
      | (go_at_call 29; clear M0; refine (sNext H.out.at (hk_of TT.out (by simp))).mono ?_; rintro r1 w1 ⟨rfl, hs⟩; replace BX := hidb (Box.but BX.out hs.but (bx_no H.out)); obtain ⟨x0, x1, x2, x3, x4, -, -, -, -, -, xl⟩ := BX.out; replace H := hidb (H.out.trans hs); clear hs)
      | (go_at_call 146; refine (pList HE.out tp H.out.drop.at).mono ?_; rintro r1 w2 (⟨er, q2, z, hq, rfl, hbd⟩ | ⟨z, s2, V2, hq, rfl, hs⟩) <;> first | (replace H := hidb (H.out.drop.trans hs); replace HR := hidb (HR.out.trans hq); clear hs hq) | (have HRE := hidb (HR.out.trans hq); replace H := hidb (H.out.drop.bad hbd); clear hq hbd HR)))
  all_goals (
    go_ret2
    first
      | exact .inr ⟨_, _, _, _, HR.out, rfl, H.out⟩
      | exact .inl ⟨_, _, _, _, HRE.out, rfl, H.out⟩)

end Rf
end Go.Proofs.YthdljnakmekhkaaGreatDoor


/- The reference's parser: primary. -/
namespace Go.Proofs.YthdljnakmekhkaaGreatDoor
namespace Rf
open Go.RowKit Go.Lib
attribute [local go_sem] store_float f64bits
attribute [local go_sem ↓] Go.wp_at_zero Go.wp_at_succ
attribute [local go_sem] nd_p tk_k tk_x tk_n tk_f tk_p
variable {B g b o : Nat} {e : PM Nat}

set_option maxHeartbeats 8000000 in
set_option maxRecDepth 100000 in
theorem pPrim6d (hE : EC B g b o e) {P : Nat → Prop} {w : World} {V : Value} {s : PS} {tx : ByteArray} {tn : Int} {tf : Nat} {tp : Nat} (ht : Gm.hd s = ⟨6, tx, tn, tf, tp⟩) (h1 : ¬ tx = ⟨#[40]⟩) (h2 : ¬ tx = ⟨#[123]⟩) (h3 : ¬ tx = ⟨#[91]⟩) (h : At B g b o P w V s) :
    Calls Tryz.prog 143 #[.pointer (some ⟨g, 0, none⟩)] w fun r w' => RzP B g b o P w V (Gm.called e s) r w' := by
  have H : Hid (St B g b o P w V w V s) := hidb h
  have HE := hidb hE
  have HP := hidb h.plt
  have TT := hidb ht
  obtain ⟨R, hR⟩ : ∃ R, Gm.called e s = R := ⟨_, rfl⟩
  rw [hR]
  have HR := hidb (hR.symm.trans ((br_of (e := e) ht rfl).trans (br_no ht h1 h2 h3)))
  have M0 : Hid True := hidb trivial
  have HX1 := hidb h1
  have HX2 := hidb h2
  have HX3 := hidb h3
  clear h1 h2 h3
  clear hR h hE ht
  go_enter Tryz.func143, Tryz.ntmps143
  go_wp2_with (first
      | (go_at_call 26; refine (sNow H.out).mono ?_; rintro r1 wn ⟨t, hq, rfl, hb⟩; obtain rfl : t = ⟨6, tx, tn, tf, tp⟩ := hq.symm.trans TT.out; replace H := hidb (H.out.below hb); have BX := hidb (Box.new wn 41 (.int .i64 6) (.string tx) (.int .i64 tn) (.float .f64 tf) (.int .i64 (tp : Int))); replace H := hidb (H.out.hold (.cells #[.int .i64 6, .string tx, .int .i64 tn, .float .f64 tf, .int .i64 (tp : Int)] 41)); obtain ⟨x0, x1, x2, x3, x4, -, -, -, -, -, xl⟩ := BX.out; clear hb hq)
      | (go_at_call 19; refine (sBad H.out).mono ?_; rintro r1 w1 ⟨rfl, rfl⟩)
      | (go_at_call 64; refine (sSign rfl H.out).mono ?_; rintro r1 w1 ⟨⟨hq, rfl⟩ | ⟨hq, rfl⟩, hb⟩ <;> first | (exfalso; rw [TT.out] at hq; simp [Gm.isM] at hq; first | exact HX1.out hq | exact HX2.out hq | exact HX3.out hq) | (exfalso; rw [TT.out] at hq; simp [Gm.isM] at hq; omega) | (replace BX := hidb (Box.but BX.out (But.of_below (S := fun _ => False) hb) (fun h => h)); obtain ⟨x0, x1, x2, x3, x4, -, -, -, -, -, xl⟩ := BX.out; replace H := hidb (H.out.below hb); clear hb hq))
      | (go_at_call 28; refine (sFail H.out.drop.at tp (by decide)).mono ?_; rintro r1 w1 ⟨rfl, hbd⟩; have HRE := hidb HR.out; replace H := hidb (H.out.drop.bad hbd); clear hbd HR))
  all_goals (
    go_ret2
    first
      | exact .inr ⟨_, _, _, _, HR.out, rfl, H.out⟩
      | exact .inl ⟨_, _, _, _, HRE.out, rfl, H.out⟩)

set_option maxHeartbeats 8000000 in
set_option maxRecDepth 100000 in
theorem pPrim8 (hE : EC B g b o e) {P : Nat → Prop} {w : World} {V : Value} {s : PS} {tk : Int} {tx : ByteArray} {tn : Int} {tf : Nat} {tp : Nat} (ht : Gm.hd s = ⟨tk, tx, tn, tf, tp⟩) (hk : ¬ (1 ≤ tk ∧ tk ≤ 7)) (h : At B g b o P w V s) :
    Calls Tryz.prog 143 #[.pointer (some ⟨g, 0, none⟩)] w fun r w' => RzP B g b o P w V (Gm.called e s) r w' := by
  have H : Hid (St B g b o P w V w V s) := hidb h
  have HE := hidb hE
  have HP := hidb h.plt
  have TT := hidb ht
  obtain ⟨R, hR⟩ : ∃ R, Gm.called e s = R := ⟨_, rfl⟩
  rw [hR]
  have HR := hidb (hR.symm.trans (no_of (e := e) ht hk))
  have M0 : Hid True := hidb trivial
  have d1 : (tk == 1) = false := by simp; omega
  have d2 : (tk == 2) = false := by simp; omega
  have d3 : (tk == 3) = false := by simp; omega
  have d4 : (tk == 4) = false := by simp; omega
  have d5 : (tk == 5) = false := by simp; omega
  have d7 : (tk == 7) = false := by simp; omega
  clear hR h hE ht
  go_enter Tryz.func143, Tryz.ntmps143
  go_wp2_with (first
      | (go_at_call 26; refine (sNow H.out).mono ?_; rintro r1 wn ⟨t, hq, rfl, hb⟩; obtain rfl : t = ⟨tk, tx, tn, tf, tp⟩ := hq.symm.trans TT.out; replace H := hidb (H.out.below hb); have BX := hidb (Box.new wn 41 (.int .i64 tk) (.string tx) (.int .i64 tn) (.float .f64 tf) (.int .i64 (tp : Int))); replace H := hidb (H.out.hold (.cells #[.int .i64 tk, .string tx, .int .i64 tn, .float .f64 tf, .int .i64 (tp : Int)] 41)); obtain ⟨x0, x1, x2, x3, x4, -, -, -, -, -, xl⟩ := BX.out; clear hb hq)
      | (go_at_call 19; refine (sBad H.out).mono ?_; rintro r1 w1 ⟨rfl, rfl⟩)
      | (go_at_call 64; refine (sSign rfl H.out).mono ?_; rintro r1 w1 ⟨⟨hq, rfl⟩ | ⟨hq, rfl⟩, hb⟩ <;> first | (exfalso; rw [TT.out] at hq; simp [Gm.isM] at hq; first | exact HX1.out hq | exact HX2.out hq | exact HX3.out hq) | (exfalso; rw [TT.out] at hq; simp [Gm.isM] at hq; omega) | (replace BX := hidb (Box.but BX.out (But.of_below (S := fun _ => False) hb) (fun h => h)); obtain ⟨x0, x1, x2, x3, x4, -, -, -, -, -, xl⟩ := BX.out; replace H := hidb (H.out.below hb); clear hb hq))
      | (go_at_call 28; refine (sFail H.out.drop.at tp (by decide)).mono ?_; rintro r1 w1 ⟨rfl, hbd⟩; have HRE := hidb HR.out; replace H := hidb (H.out.drop.bad hbd); clear hbd HR))
  all_goals (
    go_ret2
    first
      | exact .inr ⟨_, _, _, _, HR.out, rfl, H.out⟩
      | exact .inl ⟨_, _, _, _, HRE.out, rfl, H.out⟩)

set_option maxHeartbeats 8000000 in
set_option maxRecDepth 100000 in
theorem pPrim7 (hE : EC B g b o e) {P : Nat → Prop} {w : World} {V : Value} {s : PS} {tx : ByteArray} {tn : Int} {tf : Nat} {tp : Nat} (ht : Gm.hd s = ⟨7, tx, tn, tf, tp⟩) (hW : ∀ {P : Nat → Prop} {w : World} {V : Value}, At B g b o P w V s → Calls Tryz.prog 145 #[.pointer (some ⟨g, 0, none⟩), .agg #[.int .i64 7, .string tx, .int .i64 tn, .float .f64 tf, .int .i64 (tp : Int)]] w fun r w' => Rz B g b o P w V (Gm.worded e s) r w') (h : At B g b o P w V s) :
    Calls Tryz.prog 143 #[.pointer (some ⟨g, 0, none⟩)] w fun r w' => RzP B g b o P w V (Gm.called e s) r w' := by
  have H : Hid (St B g b o P w V w V s) := hidb h
  have HE := hidb hE
  have HP := hidb h.plt
  have TT := hidb ht
  obtain ⟨R, hR⟩ : ∃ R, Gm.called e s = R := ⟨_, rfl⟩
  rw [hR]
  have HR := hidb (hR.symm.trans (wd_of (e := e) ht rfl))
  have M0 : Hid True := hidb trivial
  have HWW := hidb (fun (P : Nat → Prop) (w : World) (V : Value) (h : At B g b o P w V s) => hW h)
  clear hW
  clear hR h hE ht
  go_enter Tryz.func143, Tryz.ntmps143
  go_wp2_with (first
      | (go_at_call 26; refine (sNow H.out).mono ?_; rintro r1 wn ⟨t, hq, rfl, hb⟩; obtain rfl : t = ⟨7, tx, tn, tf, tp⟩ := hq.symm.trans TT.out; replace H := hidb (H.out.below hb); have BX := hidb (Box.new wn 41 (.int .i64 7) (.string tx) (.int .i64 tn) (.float .f64 tf) (.int .i64 (tp : Int))); replace H := hidb (H.out.hold (.cells #[.int .i64 7, .string tx, .int .i64 tn, .float .f64 tf, .int .i64 (tp : Int)] 41)); obtain ⟨x0, x1, x2, x3, x4, -, -, -, -, -, xl⟩ := BX.out; clear hb hq)
      | (go_at_call 19; refine (sBad H.out).mono ?_; rintro r1 w1 ⟨rfl, rfl⟩)
      | (go_at_call 145; refine (HWW.out _ _ _ H.out.drop.at).mono ?_; rintro r1 w2 (⟨er, q2, z, hq, rfl, hbd⟩ | ⟨z, s2, V2, hq, rfl, hs⟩) <;> first | (replace H := hidb (H.out.drop.trans hs); replace HR := hidb (HR.out.trans hq); clear hs hq) | (have HRE := hidb (HR.out.trans hq); replace H := hidb (H.out.drop.bad hbd); clear hq hbd HR)))
  all_goals (
    go_ret2
    first
      | exact .inr ⟨_, _, _, _, HR.out, rfl, H.out⟩
      | exact .inl ⟨_, _, _, _, HRE.out, rfl, H.out⟩)

/-- primary, whatever stands there; of what a kept word begins by its contract. -/
theorem pPrimary (hE : EC B g b o e) {P : Nat → Prop} {w : World} {V : Value} {s : PS} (hW : ∀ (tx : ByteArray) (tn : Int) (tf tp : Nat), Gm.hd s = ⟨7, tx, tn, tf, tp⟩ → ∀ {P : Nat → Prop} {w : World} {V : Value}, At B g b o P w V s → Calls Tryz.prog 145 #[.pointer (some ⟨g, 0, none⟩), .agg #[.int .i64 7, .string tx, .int .i64 tn, .float .f64 tf, .int .i64 (tp : Int)]] w fun r w' => Rz B g b o P w V (Gm.worded e s) r w') (h : At B g b o P w V s) :
    Calls Tryz.prog 143 #[.pointer (some ⟨g, 0, none⟩)] w fun r w' => RzP B g b o P w V (Gm.called e s) r w' := by
  have htg := h.tg
  obtain ⟨t, ht⟩ : ∃ t, Gm.hd s = t := ⟨_, rfl⟩
  rw [ht] at htg
  obtain ⟨tk, tx, tn, tf, tp⟩ := t
  by_cases hk : 1 ≤ tk ∧ tk ≤ 7
  · have hc : tk = 1 ∨ tk = 2 ∨ tk = 3 ∨ tk = 4 ∨ tk = 5 ∨ tk = 6 ∨ tk = 7 := by omega
    rcases hc with rfl | rfl | rfl | rfl | rfl | rfl | rfl
    · obtain ⟨h1, h2⟩ := htg.txt (.inl rfl)
      simp only at h1 h2
      subst h1 h2
      cases hm : Gm.isM (Gm.hd2 s) ⟨#[40]⟩ with
      | true => exact pPrim1b hE ht hm h
      | false => exact pPrim1a hE ht hm h
    · obtain ⟨h1, h2⟩ := htg.txt (.inr (.inl rfl))
      simp only at h1 h2
      subst h1 h2
      exact pPrim2 hE ht h
    · obtain ⟨h1, h2⟩ := htg.int rfl
      simp only at h1 h2
      subst h1 h2
      exact pPrim3 hE ht h
    · obtain ⟨h1, h2⟩ := htg.flt rfl
      simp only at h1 h2
      subst h1 h2
      exact pPrim4 hE ht h
    · obtain ⟨h1, h2⟩ := htg.txt (.inr (.inr rfl))
      simp only at h1 h2
      subst h1 h2
      exact pPrim5 hE ht h
    · by_cases h1 : tx = ⟨#[40]⟩
      · subst h1; exact pPrim6a hE ht h
      · by_cases h2 : tx = ⟨#[123]⟩
        · subst h2; exact pPrim6b hE ht h
        · by_cases h3 : tx = ⟨#[91]⟩
          · subst h3; exact pPrim6c hE ht h
          · exact pPrim6d hE ht h1 h2 h3 h
    · exact pPrim7 hE ht (hW tx tn tf tp ht) h
  · exact pPrim8 hE ht hk h

end Rf
end Go.Proofs.YthdljnakmekhkaaGreatDoor


/- The reference's parser: what a kept word begins. -/
namespace Go.Proofs.YthdljnakmekhkaaGreatDoor
namespace Rf
open Go.RowKit Go.Lib
attribute [local go_sem] store_float f64bits
attribute [local go_sem ↓] Go.wp_at_zero Go.wp_at_succ
attribute [local go_sem] nd_p tk_k tk_x tk_n tk_f tk_p
variable {B g b o : Nat} {e : PM Nat}

theorem bx_no2 {P : Nat → Prop} {w0 w : World} {V0 V v : Value} {s : PS} {k : Nat} (h : St B g b o (PV (PV P (hv k)) v) w0 V0 w V s) : ¬ (k = g ∨ V.ownBlock = some k) := bx_no h.drop
theorem wd_begin {s : PS} {t : Tk} (h : Gm.hd s = t) (hx : t.x = ⟨#[98, 101, 103, 105, 110]⟩) : Gm.worded e s = (Gm.exprs e Gm.noBound >>= fun l => Gm.need ⟨#[101, 110, 100]⟩ >>= fun _ => Gm.lay ⟨19, ⟨#[]⟩, 0, 0, l, t.p⟩) (Gm.cut s) := by
  subst h
  show (if _ then _ else _ : PM Nat) s = _
  rw [if_pos hx]
  rfl
theorem wd_case {s : PS} {t : Tk} (h : Gm.hd s = t) (hx : t.x = ⟨#[99, 97, 115, 101]⟩) : Gm.worded e s = (e >>= fun x => Gm.need ⟨#[111, 102]⟩ >>= fun _ => Gm.clauses (Gm.clause e) >>= fun c => Gm.need ⟨#[101, 110, 100]⟩ >>= fun _ => Gm.lay ⟨15, ⟨#[]⟩, 0, 0, [x, c], t.p⟩) (Gm.cut s) := by
  subst h
  show (if _ then _ else if _ then _ else _ : PM Nat) s = _
  rw [if_neg (by rw [hx]; decide), if_pos hx]
  rfl
theorem wd_fun {s : PS} {t : Tk} (h : Gm.hd s = t) (hx : t.x = ⟨#[102, 117, 110]⟩) : Gm.worded e s = fnP e t.p (Gm.cut s) := by
  subst h
  show (if _ then _ else if _ then _ else if _ then _ else _ : PM Nat) s = _
  rw [if_neg (by rw [hx]; decide), if_neg (by rw [hx]; decide), if_pos hx]
  rfl

set_option maxHeartbeats 8000000 in
set_option maxRecDepth 100000 in
theorem pWordB (hE : EC B g b o e) {P : Nat → Prop} {w : World} {V : Value} {s : PS} {tn : Int} {tf tp : Nat} (ht : Gm.hd s = ⟨7, ⟨#[98, 101, 103, 105, 110]⟩, tn, tf, tp⟩) (h : At B g b o P w V s) :
    Calls Tryz.prog 145 #[.pointer (some ⟨g, 0, none⟩), .agg #[.int .i64 7, .string ⟨#[98, 101, 103, 105, 110]⟩, .int .i64 tn, .float .f64 tf, .int .i64 (tp : Int)]] w fun r w' => Rz B g b o P w V (Gm.worded e s) r w' := by
  have H : Hid (St B g b o P w V w V s) := hidb h
  have HE := hidb hE
  have HP := hidb h.plt
  have TT := hidb ht
  obtain ⟨R, hR⟩ : ∃ R, Gm.worded e s = R := ⟨_, rfl⟩
  rw [hR]
  have HR := hidb (hR.symm.trans (wd_begin (e := e) ht rfl))
  have M0 : Hid True := hidb trivial
  obtain ⟨wn, hwn⟩ : ∃ wn : World, wn = w := ⟨_, rfl⟩
  subst hwn
  have BX := hidb (Box.new wn 41 (.int .i64 7) (.string ⟨#[98, 101, 103, 105, 110]⟩) (.int .i64 tn) (.float .f64 tf) (.int .i64 (tp : Int)))
  replace H := hidb (H.out.hold (.cells #[.int .i64 7, .string ⟨#[98, 101, 103, 105, 110]⟩, .int .i64 tn, .float .f64 tf, .int .i64 (tp : Int)] 41))
  obtain ⟨x0, x1, x2, x3, x4, -, -, -, -, -, xl⟩ := BX.out
  clear hR h hE ht
  go_enter Tryz.func145, Tryz.ntmps145
  go_wp2_with (first
    | (go_at_call 29; clear M0; refine (sNext H.out.at (hk_of TT.out (by simp))).mono ?_; rintro r1 w1 ⟨rfl, hs⟩; replace BX := hidb (Box.but BX.out hs.but (bx_no H.out)); obtain ⟨x0, x1, x2, x3, x4, -, -, -, -, -, xl⟩ := BX.out; replace H := hidb (H.out.trans hs); clear hs)
    | (go_at_call 86; refine (pExprsF HE.out H.out.at).mono ?_; rintro r1 w1 (⟨er, q, v, l, hq, rfl, hw, hng, hbd⟩ | ⟨l, s1, V1, v, hq, rfl, hs, hs2, hi, hlen⟩) <;> first | (obtain ⟨la, lc, rfl⟩ := hi.sl; have HI := hidb (hi.rebase H.out.but.size); replace BX := hidb (Box.but BX.out hs.but (bx_no H.out)); obtain ⟨x0, x1, x2, x3, x4, -, -, -, -, -, xl⟩ := BX.out; replace H := hidb (H.out.trans hs2); replace HR := hidb (HR.out.trans (Gm.bind_ok hq)); clear hs hs2 hi hq hlen) | (obtain ⟨la, lc, rfl⟩ := own_sl hw.1; have HRE := hidb (HR.out.trans (Gm.bind_err hq)); replace BX := hidb (Box.but BX.out hbd.but (bx_no H.out)); have HXG := hidb (fun e => (bx_no H.out) (.inl e) : wn.heap.size ≠ g); obtain ⟨x0, x1, x2, x3, x4, -, -, -, -, -, xl⟩ := BX.out; have HB : Hid (But (· = g) w1 w1) := hidb (But.refl _ _); replace H := hidb (H.out.bad hbd); clear hq hbd hw hng HR))
    | (go_at_call 27; refine (sWant (by first | exact .inl ⟨rfl, rfl⟩ | exact .inr ⟨rfl, rfl⟩) H.out.at).mono ?_; rintro r1 w1 (⟨er, q, hq, rfl, hbd⟩ | ⟨s1, hq, rfl, hs⟩) <;> first | (replace HI := hidb (HI.out.step hs); replace BX := hidb (Box.but BX.out hs.but (bx_no2 H.out)); obtain ⟨x0, x1, x2, x3, x4, -, -, -, -, -, xl⟩ := BX.out; replace H := hidb (H.out.trans hs); replace HR := hidb (HR.out.trans (Gm.bind_ok hq)); clear hs hq) | (have HRE := hidb (HR.out.trans (Gm.bind_err hq)); replace BX := hidb (Box.but BX.out hbd.but (bx_no2 H.out)); have HXG := hidb (fun e => (bx_no2 H.out) (.inl e) : wn.heap.size ≠ g); obtain ⟨x0, x1, x2, x3, x4, -, -, -, -, -, xl⟩ := BX.out; have HB : Hid (But (· = g) w1 w1) := hidb (But.refl _ _); replace H := hidb (H.out.bad hbd); clear hq hbd HR))
    | (go_at_call 32; refine (sNodeR (n := ⟨19, ⟨#[]⟩, 0, 0, l, tp⟩) HR.out H.out.drop.drop.at (HI.out.lr HP.out)).mono ?_; rintro r1 w2 (⟨er, q2, z, hq, rfl, hbd⟩ | ⟨z, s2, V2, hq, rfl, hs⟩) <;> first | (replace H := hidb (H.out.drop.drop.trans hs); replace HR := hidb hq; clear hs hq) | (have HRE := hidb hq; replace H := hidb (H.out.drop.drop.bad hbd); clear hq hbd HR))
    | (go_at_call 27; refine (bWant _ _ H.out).mono ?_; rintro r1 w1 ⟨rfl, hd, hb⟩; replace BX := hidb (Box.but BX.out (hb) (fun e => HXG.out e)); obtain ⟨x0, x1, x2, x3, x4, -, -, -, -, -, xl⟩ := BX.out; replace HB := hidb (HB.out.trans hb); replace H := hidb hd; clear hb hd)
    | (go_at_call 32; refine (bNode _ _ _ _ _ _ H.out).mono ?_; rintro r1 w1 ⟨rfl, hd, hb⟩; replace HB := hidb (HB.out.trans hb); replace H := hidb hd; clear hb hd))
  all_goals (
    go_ret
    first
      | exact .inr ⟨_, _, _, HR.out, rfl, H.out⟩
      | exact .inl ⟨_, _, _, HRE.out, rfl, H.out⟩)

set_option maxHeartbeats 8000000 in
set_option maxRecDepth 100000 in
theorem pWordC (hE : EC B g b o e) {P : Nat → Prop} {w : World} {V : Value} {s : PS} {tn : Int} {tf tp : Nat} (ht : Gm.hd s = ⟨7, ⟨#[99, 97, 115, 101]⟩, tn, tf, tp⟩) (h : At B g b o P w V s) :
    Calls Tryz.prog 145 #[.pointer (some ⟨g, 0, none⟩), .agg #[.int .i64 7, .string ⟨#[99, 97, 115, 101]⟩, .int .i64 tn, .float .f64 tf, .int .i64 (tp : Int)]] w fun r w' => Rz B g b o P w V (Gm.worded e s) r w' := by
  have H : Hid (St B g b o P w V w V s) := hidb h
  have HE := hidb hE
  have HP := hidb h.plt
  have TT := hidb ht
  obtain ⟨R, hR⟩ : ∃ R, Gm.worded e s = R := ⟨_, rfl⟩
  rw [hR]
  have HR := hidb (hR.symm.trans (wd_case (e := e) ht rfl))
  have M0 : Hid True := hidb trivial
  obtain ⟨wn, hwn⟩ : ∃ wn : World, wn = w := ⟨_, rfl⟩
  subst hwn
  have BX := hidb (Box.new wn 41 (.int .i64 7) (.string ⟨#[99, 97, 115, 101]⟩) (.int .i64 tn) (.float .f64 tf) (.int .i64 (tp : Int)))
  replace H := hidb (H.out.hold (.cells #[.int .i64 7, .string ⟨#[99, 97, 115, 101]⟩, .int .i64 tn, .float .f64 tf, .int .i64 (tp : Int)] 41))
  obtain ⟨x0, x1, x2, x3, x4, -, -, -, -, -, xl⟩ := BX.out
  clear hR h hE ht
  go_enter Tryz.func145, Tryz.ntmps145
  go_wp2_with (first
    | (go_at_call 29; clear M0; refine (sNext H.out.at (hk_of TT.out (by simp))).mono ?_; rintro r1 w1 ⟨rfl, hs⟩; replace BX := hidb (Box.but BX.out hs.but (bx_no H.out)); obtain ⟨x0, x1, x2, x3, x4, -, -, -, -, -, xl⟩ := BX.out; replace H := hidb (H.out.trans hs); clear hs)
    | (go_at_call 104; refine (HE.out.run H.out.at).mono ?_; rintro r1 w1 (⟨er, q, x, hq, rfl, hbd⟩ | ⟨x, s1, V1, hq, rfl, hs⟩) <;> first | (replace BX := hidb (Box.but BX.out hs.but (bx_no H.out)); obtain ⟨x0, x1, x2, x3, x4, -, -, -, -, -, xl⟩ := BX.out; replace H := hidb (H.out.trans hs); replace HR := hidb (HR.out.trans (Gm.bind_ok hq)); clear hs hq) | (have HRE := hidb (HR.out.trans (Gm.bind_err hq)); replace BX := hidb (Box.but BX.out hbd.but (bx_no H.out)); have HXG := hidb (fun e => (bx_no H.out) (.inl e) : wn.heap.size ≠ g); obtain ⟨x0, x1, x2, x3, x4, -, -, -, -, -, xl⟩ := BX.out; have HB : Hid (But (· = g) w1 w1) := hidb (But.refl _ _); replace H := hidb (H.out.bad hbd); clear hq hbd HR))
    | (go_at_call 27; refine (sWant (by first | exact .inl ⟨rfl, rfl⟩ | exact .inr ⟨rfl, rfl⟩) H.out.at).mono ?_; rintro r1 w1 (⟨er, q, hq, rfl, hbd⟩ | ⟨s1, hq, rfl, hs⟩) <;> first | (replace BX := hidb (Box.but BX.out hs.but (bx_no H.out)); obtain ⟨x0, x1, x2, x3, x4, -, -, -, -, -, xl⟩ := BX.out; replace H := hidb (H.out.trans hs); replace HR := hidb (HR.out.trans (Gm.bind_ok hq)); clear hs hq) | (have HRE := hidb (HR.out.trans (Gm.bind_err hq)); replace BX := hidb (Box.but BX.out hbd.but (bx_no H.out)); have HXG := hidb (fun e => (bx_no H.out) (.inl e) : wn.heap.size ≠ g); obtain ⟨x0, x1, x2, x3, x4, -, -, -, -, -, xl⟩ := BX.out; have HB : Hid (But (· = g) w1 w1) := hidb (But.refl _ _); replace H := hidb (H.out.bad hbd); clear hq hbd HR))
    | (go_at_call 148; refine (pClauses1 HE.out H.out.at).mono ?_; rintro r1 w1 (⟨er, q, c, hq, rfl, hbd⟩ | ⟨c, s1, V1, hq, rfl, hs⟩) <;> first | (replace BX := hidb (Box.but BX.out hs.but (bx_no H.out)); obtain ⟨x0, x1, x2, x3, x4, -, -, -, -, -, xl⟩ := BX.out; replace H := hidb (H.out.trans hs); replace HR := hidb (HR.out.trans (Gm.bind_ok hq)); clear hs hq) | (have HRE := hidb (HR.out.trans (Gm.bind_err hq)); replace BX := hidb (Box.but BX.out hbd.but (bx_no H.out)); have HXG := hidb (fun e => (bx_no H.out) (.inl e) : wn.heap.size ≠ g); obtain ⟨x0, x1, x2, x3, x4, -, -, -, -, -, xl⟩ := BX.out; have HB : Hid (But (· = g) w1 w1) := hidb (But.refl _ _); replace H := hidb (H.out.bad hbd); clear hq hbd HR))
    | (go_at_call 32; refine (sNodeR (n := ⟨15, ⟨#[]⟩, 0, 0, [x, c], tp⟩) HR.out (IR.lit H.out.drop #[iv x, iv c] [x, c] rfl (by simp)).2.drop.at ((IR.lit H.out.drop #[iv x, iv c] [x, c] rfl (by simp)).1.lr HP.out)).mono ?_; rintro r1 w2 (⟨er, q, z, hq, rfl, hbd⟩ | ⟨z, s2, V2, hq, rfl, hs⟩) <;> first | (replace H := hidb ((IR.lit H.out.drop #[iv x, iv c] [x, c] rfl (by simp)).2.drop.trans hs); replace HR := hidb hq; clear hs hq) | (have HRE := hidb hq; have HB : Hid (But (· = g) w2 w2) := hidb (But.refl _ _); replace H := hidb ((IR.lit H.out.drop #[iv x, iv c] [x, c] rfl (by simp)).2.drop.bad hbd); clear hq hbd HR))
    | (go_at_call 27; refine (bWant _ _ H.out).mono ?_; rintro r1 w1 ⟨rfl, hd, hb⟩; replace BX := hidb (Box.but BX.out (hb) (fun e => HXG.out e)); obtain ⟨x0, x1, x2, x3, x4, -, -, -, -, -, xl⟩ := BX.out; replace HB := hidb (HB.out.trans hb); replace H := hidb hd; clear hb hd)
    | (go_at_call 148; refine (bClauses _ H.out).mono ?_; rintro r1 w1 ⟨rfl, hd, hb⟩; replace BX := hidb (Box.but BX.out (hb) (fun e => HXG.out e)); obtain ⟨x0, x1, x2, x3, x4, -, -, -, -, -, xl⟩ := BX.out; replace HB := hidb (HB.out.trans hb); replace H := hidb hd; clear hb hd)
    | (go_at_call 32; refine (bNode _ _ _ _ _ _ (H.out.keep (below_new _ _))).mono ?_; rintro r1 w1 ⟨rfl, hd, hb⟩; replace HB := hidb ((HB.out.trans (But.of_below (below_new _ _))).trans hb); replace H := hidb hd; clear hb hd))
  all_goals (
    go_ret
    first
      | exact .inr ⟨_, _, _, HR.out, rfl, H.out⟩
      | exact .inl ⟨_, _, _, HRE.out, rfl, H.out⟩)

set_option maxHeartbeats 8000000 in
set_option maxRecDepth 100000 in
theorem pWordF (hE : EC B g b o e) {P : Nat → Prop} {w : World} {V : Value} {s : PS} {tn : Int} {tf tp : Nat} (ht : Gm.hd s = ⟨7, ⟨#[102, 117, 110]⟩, tn, tf, tp⟩) (h : At B g b o P w V s) :
    Calls Tryz.prog 145 #[.pointer (some ⟨g, 0, none⟩), .agg #[.int .i64 7, .string ⟨#[102, 117, 110]⟩, .int .i64 tn, .float .f64 tf, .int .i64 (tp : Int)]] w fun r w' => Rz B g b o P w V (Gm.worded e s) r w' := by
  have H : Hid (St B g b o P w V w V s) := hidb h
  have HE := hidb hE
  have HP := hidb h.plt
  have TT := hidb ht
  obtain ⟨R, hR⟩ : ∃ R, Gm.worded e s = R := ⟨_, rfl⟩
  rw [hR]
  have HR := hidb (hR.symm.trans (wd_fun (e := e) ht rfl))
  have M0 : Hid True := hidb trivial
  obtain ⟨wn, hwn⟩ : ∃ wn : World, wn = w := ⟨_, rfl⟩
  subst hwn
  have BX := hidb (Box.new wn 41 (.int .i64 7) (.string ⟨#[102, 117, 110]⟩) (.int .i64 tn) (.float .f64 tf) (.int .i64 (tp : Int)))
  replace H := hidb (H.out.hold (.cells #[.int .i64 7, .string ⟨#[102, 117, 110]⟩, .int .i64 tn, .float .f64 tf, .int .i64 (tp : Int)] 41))
  obtain ⟨x0, x1, x2, x3, x4, -, -, -, -, -, xl⟩ := BX.out
  clear hR h hE ht
  go_enter Tryz.func145, Tryz.ntmps145
  go_wp2_with (first
    | (go_at_call 29; clear M0; refine (sNext H.out.at (hk_of TT.out (by simp))).mono ?_; rintro r1 w1 ⟨rfl, hs⟩; replace BX := hidb (Box.but BX.out hs.but (bx_no H.out)); obtain ⟨x0, x1, x2, x3, x4, -, -, -, -, -, xl⟩ := BX.out; replace H := hidb (H.out.trans hs); clear hs)
    | (go_at_call 149; refine (pFun HE.out tp H.out.drop.at).mono ?_; rintro r1 w2 (⟨er, q2, z, hq, rfl, hbd⟩ | ⟨z, s2, V2, hq, rfl, hs⟩) <;> first | (replace H := hidb (H.out.drop.trans hs); replace HR := hidb (HR.out.trans hq); clear hs hq) | (have HRE := hidb (HR.out.trans hq); replace H := hidb (H.out.drop.bad hbd); clear hq hbd HR)))
  all_goals (
    go_ret
    first
      | exact .inr ⟨_, _, _, HR.out, rfl, H.out⟩
      | exact .inl ⟨_, _, _, HRE.out, rfl, H.out⟩)

end Rf
end Go.Proofs.YthdljnakmekhkaaGreatDoor


/- The reference's parser: receive. -/
namespace Go.Proofs.YthdljnakmekhkaaGreatDoor
namespace Rf
open Go.RowKit Go.Lib
attribute [local go_sem] store_float f64bits
attribute [local go_sem ↓] Go.wp_at_zero Go.wp_at_succ
attribute [local go_sem] nd_p tk_k tk_x tk_n tk_f tk_p
variable {B g b o : Nat} {e : PM Nat}

theorem inf_list : ([105, 110, 102, 105, 110, 105, 116, 121] : List UInt8) = (⟨#[105, 110, 102, 105, 110, 105, 116, 121]⟩ : ByteArray).toList := by rw [ByteArray.toList_eq]
theorem pat_cases (tk tn : Int) (tx : ByteArray) : (tk = 3 ∧ tn = 0) ∨ (tk = 1 ∧ tx = ⟨#[105, 110, 102, 105, 110, 105, 116, 121]⟩) ∨ (tk = 3 ∧ (tn == 0) = false) ∨ (tk = 1 ∧ (tx.toList == [105, 110, 102, 105, 110, 105, 116, 121]) = false) ∨ ((tk == 3) = false ∧ (tk == 1) = false) := by
  by_cases h3 : tk = 3
  · by_cases h0 : tn = 0
    · exact .inl ⟨h3, h0⟩
    · exact .inr (.inr (.inl ⟨h3, by simpa using h0⟩))
  · by_cases h1 : tk = 1
    · by_cases hx : tx = ⟨#[105, 110, 102, 105, 110, 105, 116, 121]⟩
      · exact .inr (.inl ⟨h1, hx⟩)
      · exact .inr (.inr (.inr (.inl ⟨h1, by rw [inf_list, str_eq]; simpa using hx⟩)))
    · exact .inr (.inr (.inr (.inr ⟨by simpa using h3, by simpa using h1⟩)))
theorem pat1 {s : PS} {x : ByteArray} {f p : Nat} (h : Gm.hd s = ⟨3, x, 0, f, p⟩) : Gm.patience s = .ok (1, Gm.cut s) := by
  show (if Gm.isA (Gm.hd s) _ then _ else if _ then _ else _ : PM Int) s = _
  rw [h, if_neg (by simp [Gm.isA]), if_pos (by simp)]
  rfl
theorem pat2 {s : PS} {n : Int} {f p : Nat} (h : Gm.hd s = ⟨1, ⟨#[105, 110, 102, 105, 110, 105, 116, 121]⟩, n, f, p⟩) : Gm.patience s = .ok (2, Gm.cut s) := by
  show (if Gm.isA (Gm.hd s) _ then _ else if _ then _ else _ : PM Int) s = _
  rw [h, if_pos (by simp [Gm.isA])]
  rfl
theorem pat0 {s : PS} {t : Tk} (h : Gm.hd s = t) (h1 : ¬ Gm.isA t ⟨#[105, 110, 102, 105, 110, 105, 116, 121]⟩ = true) (h2 : ¬ (t.k = 3 ∧ t.n = 0)) : Gm.patience s = .error (24, t.p) := by
  subst h
  show (if Gm.isA (Gm.hd s) _ then _ else if _ then _ else _ : PM Int) s = _
  rw [if_neg h1, if_neg h2]
  rfl
theorem pat3 {s : PS} {x : ByteArray} {n : Int} {f p : Nat} (h : Gm.hd s = ⟨3, x, n, f, p⟩) (d : (n == 0) = false) : Gm.patience s = .error (24, p) := pat0 h (by simp [Gm.isA]) (by simpa using d)
theorem pat4 {s : PS} {x : ByteArray} {n : Int} {f p : Nat} (h : Gm.hd s = ⟨1, x, n, f, p⟩) (d : (x.toList == [105, 110, 102, 105, 110, 105, 116, 121]) = false) : Gm.patience s = .error (24, p) := pat0 h (by rw [inf_list, str_eq] at d; simpa [Gm.isA] using d) (by simp)
theorem pat5 {s : PS} {k : Int} {x : ByteArray} {n : Int} {f p : Nat} (h : Gm.hd s = ⟨k, x, n, f, p⟩) (d1 : (k == 3) = false) (d2 : (k == 1) = false) : Gm.patience s = .error (24, p) := pat0 h (by simp [Gm.isA]; intro e; subst e; cases d2) (by simp; intro e; subst e; cases d1)
theorem afterR_t {α : Type} {s : PS} {K : Int × Nat → PM α} (hm : Gm.isM (Gm.hd s) ⟨#[97, 102, 116, 101, 114]⟩ = true) : (Gm.afterR e >>= K) s = (Gm.patience >>= fun n => Gm.need ⟨#[45, 62]⟩ >>= fun _ => Gm.body e >>= fun x => K (n, x)) (Gm.cut s) := by
  unfold Gm.afterR
  rw [Gm.assoc, Gm.bind_ok (take_t hm)]
  show ((Gm.patience >>= fun n => Gm.need ⟨#[45, 62]⟩ >>= fun _ => Gm.body e >>= fun x => pure (n, x)) >>= K) (Gm.cut s) = _
  rw [Gm.assoc, Gm.bind_at, Gm.bind_at]
  cases Gm.patience (Gm.cut s) with
  | error er => rfl
  | ok q =>
    obtain ⟨n, s1⟩ := q
    show ((Gm.need ⟨#[45, 62]⟩ >>= fun _ => Gm.body e >>= fun x => pure (n, x)) >>= K) s1 = (Gm.need ⟨#[45, 62]⟩ >>= fun _ => Gm.body e >>= fun x => K (n, x)) s1
    rw [Gm.assoc, Gm.bind_at, Gm.bind_at]
    cases Gm.need ⟨#[45, 62]⟩ s1 with
    | error er => rfl
    | ok q =>
      obtain ⟨_, s2⟩ := q
      show ((Gm.body e >>= fun x => pure (n, x)) >>= K) s2 = (Gm.body e >>= fun x => K (n, x)) s2
      rw [Gm.assoc]
      rfl
theorem afterR_f {α : Type} {s : PS} {K : Int × Nat → PM α} (hm : Gm.isM (Gm.hd s) ⟨#[97, 102, 116, 101, 114]⟩ = false) : (Gm.afterR e >>= K) s = (Gm.layNone 19 >>= fun x => K (0, x)) s := by
  unfold Gm.afterR
  rw [Gm.assoc, Gm.bind_ok (take_f hm)]
  show ((Gm.layNone 19 >>= fun x => pure (0, x)) >>= K) s = _
  rw [Gm.assoc]
  rfl
def receiveP (e : PM Nat) (p : Nat) : PM Nat := do
  let c ← Gm.received e
  let a ← Gm.afterR e
  Gm.need ⟨#[101, 110, 100]⟩
  Gm.lay ⟨18, ⟨#[]⟩, a.1, 0, [c, a.2], p⟩
set_option maxHeartbeats 8000000 in
set_option maxRecDepth 100000 in
theorem pReceive0 (hE : EC B g b o e) (q : Nat) {P : Nat → Prop} {w : World} {V : Value} {s : PS} (hm : Gm.isM (Gm.hd s) ⟨#[97, 102, 116, 101, 114]⟩ = false) (h : At B g b o P w V s) :
    Calls Tryz.prog 151 #[.pointer (some ⟨g, 0, none⟩), .int .i64 (q : Int)] w fun r w' => Rz B g b o P w V (receiveP e q s) r w' := by
  have H : Hid (St B g b o P w V w V s) := hidb h
  have HE := hidb hE
  have HP := hidb h.plt
  have HM := hidb hm
  obtain ⟨R, hR⟩ : ∃ R, receiveP e q s = R := ⟨_, rfl⟩
  rw [hR]
  have HR := hidb (((hR.symm.trans (Gm.assoc _ _ _ _)).trans (Gm.bind_here rfl)).trans (congrArg (fun m : PM Nat => (m >>= fun c => Gm.afterR e >>= fun a => Gm.need ⟨#[101, 110, 100]⟩ >>= fun _ => Gm.lay ⟨18, ⟨#[]⟩, a.1, 0, [c, a.2], q⟩) s) (if_neg (by simp [hm]))))
  have M0 : Hid True := hidb trivial
  clear hR h hE hm
  go_enter Tryz.func151, Tryz.ntmps151
  go_wp2_with (first
    | (go_at_call 105; clear M0; refine (sKept rfl H.out).mono ?_; rintro r1 w1 ⟨⟨hq, rfl⟩ | ⟨hq, rfl⟩, hb⟩ <;> first | (rw [HM.out] at hq; cases hq; done) | (replace H := hidb (H.out.below hb); clear hb hq))
    | (go_at_call 148; refine (pClauses1 HE.out H.out.at).mono ?_; rintro r1 w1 (⟨er, q, c, hq, rfl, hbd⟩ | ⟨c, s1, V1, hq, rfl, hs⟩) <;> first | (replace H := hidb (H.out.trans hs); replace HR := hidb (HR.out.trans (Gm.bind_ok hq)); clear hs hq) | (have HRE := hidb (HR.out.trans (Gm.bind_err hq)); have HB : Hid (But (· = g) w1 w1) := hidb (But.refl _ _); replace H := hidb (H.out.bad hbd); clear hq hbd HR))
    | (go_at_call 105; refine (sKept (x := ⟨#[97, 102, 116, 101, 114]⟩) rfl H.out).mono ?_; rintro r1 w1 ⟨⟨hq, rfl⟩ | ⟨hq, rfl⟩, hb⟩ <;> first | (have HT : Hid (Gm.isM _ _ = true) := hidb hq; replace HR := hidb (HR.out.trans (afterR_t hq)); replace H := hidb (H.out.below hb); clear hb hq) | (replace HR := hidb (HR.out.trans (afterR_f hq)); replace H := hidb (H.out.below hb); clear hb hq))
    | (go_at_call 29; refine (sNext H.out.at (Gm.isM_k HT.out)).mono ?_; rintro r1 w1 ⟨rfl, hs⟩; replace H := hidb (H.out.trans hs); clear hs HT)
    | (go_at_call 26; refine (sNow H.out).mono ?_; rintro r1 wn ⟨⟨tk, tx, tn, tf, tp⟩, hq, rfl, hb⟩; replace H := hidb (H.out.below hb); (rcases pat_cases tk tn tx with ⟨rfl, rfl⟩ | ⟨rfl, rfl⟩ | ⟨rfl, d1⟩ | ⟨rfl, d1⟩ | ⟨d1, d2⟩) <;> first | (replace HR := hidb (HR.out.trans (Gm.bind_ok (pat1 hq))); have TT := hidb hq; have BX := hidb (Box.new wn 41 (.int .i64 3) (.string tx) (.int .i64 0) (.float .f64 tf) (.int .i64 (tp : Int))); replace H := hidb (H.out.hold (.cells #[.int .i64 3, .string tx, .int .i64 0, .float .f64 tf, .int .i64 (tp : Int)] 41)); obtain ⟨x0, x1, x2, x3, x4, -, -, -, -, -, xl⟩ := BX.out; clear hb hq) | (replace HR := hidb (HR.out.trans (Gm.bind_ok (pat2 hq))); have TT := hidb hq; have BX := hidb (Box.new wn 41 (.int .i64 1) (.string ⟨#[105, 110, 102, 105, 110, 105, 116, 121]⟩) (.int .i64 tn) (.float .f64 tf) (.int .i64 (tp : Int))); replace H := hidb (H.out.hold (.cells #[.int .i64 1, .string ⟨#[105, 110, 102, 105, 110, 105, 116, 121]⟩, .int .i64 tn, .float .f64 tf, .int .i64 (tp : Int)] 41)); obtain ⟨x0, x1, x2, x3, x4, -, -, -, -, -, xl⟩ := BX.out; clear hb hq) | (have HRE := hidb (HR.out.trans (Gm.bind_err (pat3 hq d1))); have TT := hidb hq; have BX := hidb (Box.new wn 41 (.int .i64 3) (.string tx) (.int .i64 tn) (.float .f64 tf) (.int .i64 (tp : Int))); replace H := hidb (H.out.hold (.cells #[.int .i64 3, .string tx, .int .i64 tn, .float .f64 tf, .int .i64 (tp : Int)] 41)); obtain ⟨x0, x1, x2, x3, x4, -, -, -, -, -, xl⟩ := BX.out; clear hb hq HR) | (have HRE := hidb (HR.out.trans (Gm.bind_err (pat4 hq d1))); have TT := hidb hq; have BX := hidb (Box.new wn 41 (.int .i64 1) (.string tx) (.int .i64 tn) (.float .f64 tf) (.int .i64 (tp : Int))); replace H := hidb (H.out.hold (.cells #[.int .i64 1, .string tx, .int .i64 tn, .float .f64 tf, .int .i64 (tp : Int)] 41)); obtain ⟨x0, x1, x2, x3, x4, -, -, -, -, -, xl⟩ := BX.out; clear hb hq HR) | (have HRE := hidb (HR.out.trans (Gm.bind_err (pat5 hq d1 d2))); have TT := hidb hq; have BX := hidb (Box.new wn 41 (.int .i64 tk) (.string tx) (.int .i64 tn) (.float .f64 tf) (.int .i64 (tp : Int))); replace H := hidb (H.out.hold (.cells #[.int .i64 tk, .string tx, .int .i64 tn, .float .f64 tf, .int .i64 (tp : Int)] 41)); obtain ⟨x0, x1, x2, x3, x4, -, -, -, -, -, xl⟩ := BX.out; clear hb hq HR))
    | (go_at_call 28; refine (sFail H.out.drop.at tp (by decide)).mono ?_; rintro r1 w1 ⟨rfl, hbd⟩; have HB : Hid (But (· = g) w1 w1) := hidb (But.refl _ _); replace H := hidb (H.out.drop.bad hbd); clear hbd)
    | (go_at_call 29; refine (sNext H.out.drop.at (hk_of TT.out (by simp))).mono ?_; rintro r1 w1 ⟨rfl, hs⟩; replace H := hidb (H.out.drop.trans hs); clear hs TT BX)
    | (go_at_call 107; refine (pBody HE.out H.out.at).mono ?_; rintro r1 w1 (⟨er, q, la, hq, rfl, hbd⟩ | ⟨la, s1, V1, hq, rfl, hs⟩) <;> first | (replace H := hidb (H.out.trans hs); replace HR := hidb (HR.out.trans (Gm.bind_ok hq)); clear hs hq) | (have HRE := hidb (HR.out.trans (Gm.bind_err hq)); have HB : Hid (But (· = g) w1 w1) := hidb (But.refl _ _); replace H := hidb (H.out.bad hbd); clear hq hbd HR))
    | (go_at_call 106; refine (pNone 19 H.out.at).mono ?_; rintro r1 w1 (⟨er, q, la, hq, rfl, hbd⟩ | ⟨la, s1, V1, hq, rfl, hs⟩) <;> first | (replace H := hidb (H.out.trans hs); replace HR := hidb (HR.out.trans (Gm.bind_ok hq)); clear hs hq) | (have HRE := hidb (HR.out.trans (Gm.bind_err hq)); have HB : Hid (But (· = g) w1 w1) := hidb (But.refl _ _); replace H := hidb (H.out.bad hbd); clear hq hbd HR))
    | (go_at_call 27; refine (sWant (by first | exact .inl ⟨rfl, rfl⟩ | exact .inr ⟨rfl, rfl⟩) H.out.at).mono ?_; rintro r1 w1 (⟨er, q, hq, rfl, hbd⟩ | ⟨s1, hq, rfl, hs⟩) <;> first | (replace H := hidb (H.out.trans hs); replace HR := hidb (HR.out.trans (Gm.bind_ok hq)); clear hs hq) | (have HRE := hidb (HR.out.trans (Gm.bind_err hq)); have HB : Hid (But (· = g) w1 w1) := hidb (But.refl _ _); replace H := hidb (H.out.bad hbd); clear hq hbd HR))
    | (go_at_call 32; refine (sNodeR (n := ⟨18, ⟨#[]⟩, _, 0, [c, la], q⟩) HR.out (IR.lit H.out #[iv c, iv la] [c, la] rfl (by simp)).2.drop.at ((IR.lit H.out #[iv c, iv la] [c, la] rfl (by simp)).1.lr HP.out)).mono ?_; rintro r1 w2 (⟨er, q2, z, hq, rfl, hbd⟩ | ⟨z, s2, V2, hq, rfl, hs⟩) <;> first | (replace H := hidb ((IR.lit H.out #[iv c, iv la] [c, la] rfl (by simp)).2.drop.trans hs); replace HR := hidb hq; clear hs hq) | (have HRE := hidb hq; have HB : Hid (But (· = g) w2 w2) := hidb (But.refl _ _); replace H := hidb ((IR.lit H.out #[iv c, iv la] [c, la] rfl (by simp)).2.drop.bad hbd); clear hq hbd HR))
    | (go_at_call 105; refine (bKept _ H.out).mono ?_; rintro r1 w1 ⟨rfl, hb⟩; replace HB := hidb (HB.out.trans (But.of_below hb)); replace H := hidb (H.out.keep hb); clear hb)
    | (go_at_call 29; refine (bNext H.out).mono ?_; rintro r1 w1 ⟨rfl, hb⟩; replace HB := hidb (HB.out.trans (But.of_below hb)); replace H := hidb (H.out.keep hb); clear hb)
    | (go_at_call 107; refine (bBody H.out).mono ?_; rintro r1 w1 ⟨rfl, hd, hb⟩; replace HB := hidb (HB.out.trans hb); replace H := hidb hd; clear hb hd)
    | (go_at_call 106; refine (bNone _ H.out).mono ?_; rintro r1 w1 ⟨rfl, hd, hb⟩; replace HB := hidb (HB.out.trans hb); replace H := hidb hd; clear hb hd)
    | (go_at_call 27; refine (bWant _ _ H.out).mono ?_; rintro r1 w1 ⟨rfl, hd, hb⟩; replace HB := hidb (HB.out.trans hb); replace H := hidb hd; clear hb hd)
    | (go_at_call 32; refine (bNode _ _ _ _ _ _ (H.out.keep (below_new _ _))).mono ?_; rintro r1 w1 ⟨rfl, hd, hb⟩; replace HB := hidb ((HB.out.trans (But.of_below (below_new _ _))).trans hb); replace H := hidb hd; clear hb hd))
  all_goals first
    | (go_ret; first | exact .inr ⟨_, _, _, HR.out, rfl, H.out⟩ | exact .inl ⟨_, _, _, HRE.out, rfl, H.out⟩)
    | skip

end Rf
end Go.Proofs.YthdljnakmekhkaaGreatDoor


