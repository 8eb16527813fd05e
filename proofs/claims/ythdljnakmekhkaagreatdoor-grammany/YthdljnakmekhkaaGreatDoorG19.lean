import Derived.Test.YthdljnakmekhkaaGreatDoorG18
/- The reference's parser: try, given caught's contract. -/
namespace Go.Proofs.YthdljnakmekhkaaGreatDoor
namespace Rf
open Go.RowKit Go.Lib
attribute [local go_sem] store_float f64bits
attribute [local go_sem ↓] Go.wp_at_zero Go.wp_at_succ
attribute [local go_sem] nd_p tk_k tk_x tk_n tk_f tk_p
variable {B g b o : Nat} {e : PM Nat}

theorem cb_t {α : Type} {s : PS} {x : ByteArray} {m : PM Nat} {K : Nat → PM α} (hm : Gm.isM (Gm.hd s) x = true) : (Gm.clausesBehind x m >>= K) s = (Gm.clauses m >>= K) (Gm.cut s) := by
  unfold Gm.clausesBehind
  rw [Gm.assoc, Gm.bind_ok (take_t hm)]
  rfl
theorem cb_f {α : Type} {s : PS} {x : ByteArray} {m : PM Nat} {K : Nat → PM α} (hm : Gm.isM (Gm.hd s) x = false) : (Gm.clausesBehind x m >>= K) s = (Gm.layNone 20 >>= K) s := by
  unfold Gm.clausesBehind
  rw [Gm.assoc, Gm.bind_ok (take_f hm)]
  rfl
theorem afterB_t {α : Type} {s : PS} {K : Int × Nat → PM α} (hm : Gm.isM (Gm.hd s) ⟨#[97, 102, 116, 101, 114]⟩ = true) : (Gm.afterB e >>= K) s = (Gm.body e >>= fun x => K (1, x)) (Gm.cut s) := by
  unfold Gm.afterB
  rw [Gm.assoc, Gm.bind_ok (take_t hm)]
  show ((Gm.body e >>= fun x => pure (1, x)) >>= K) (Gm.cut s) = _
  rw [Gm.assoc]
  rfl
theorem afterB_f {α : Type} {s : PS} {K : Int × Nat → PM α} (hm : Gm.isM (Gm.hd s) ⟨#[97, 102, 116, 101, 114]⟩ = false) : (Gm.afterB e >>= K) s = (Gm.layNone 19 >>= fun x => K (0, x)) s := by
  unfold Gm.afterB
  rw [Gm.assoc, Gm.bind_ok (take_f hm)]
  show ((Gm.layNone 19 >>= fun x => pure (0, x)) >>= K) s = _
  rw [Gm.assoc]
  rfl

set_option maxHeartbeats 8000000 in
set_option maxRecDepth 100000 in
theorem pTry (hE : EC B g b o e) (hC : ∀ {P : Nat → Prop} {w : World} {V : Value} {s : PS}, At B g b o P w V s → Calls Tryz.prog 156 #[.pointer (some ⟨g, 0, none⟩)] w fun r w' => Rz B g b o P w V (Gm.cclause e s) r w') (q : Nat) {P : Nat → Prop} {w : World} {V : Value} {s : PS} (h : At B g b o P w V s) :
    Calls Tryz.prog 150 #[.pointer (some ⟨g, 0, none⟩), .int .i64 (q : Int)] w fun r w' => Rz B g b o P w V (tryP e q s) r w' := by
  have H : Hid (St B g b o P w V w V s) := hidb h
  have HE := hidb hE
  have HP := hidb h.plt
  have HK := hidb (fun (P : Nat → Prop) (w : World) (V : Value) (s : PS) (h : At B g b o P w V s) => pClauses3 hE hC h)
  obtain ⟨R, hR⟩ : ∃ R, tryP e q s = R := ⟨_, rfl⟩
  rw [hR]
  have HR := hidb hR.symm
  have M0 : Hid True := hidb trivial
  have M1 : Hid True := hidb trivial
  have M2 : Hid True := hidb trivial
  have M3 : Hid True := hidb trivial
  clear hR h hE hC
  go_enter Tryz.func150, Tryz.ntmps150
  go_wp2_with (first
    | (go_at_call 107; clear M2; refine (pBody HE.out H.out.at).mono ?_; rintro r1 w1 (⟨er, q', bb, hq, rfl, hbd⟩ | ⟨bb, s1, V1, hq, rfl, hs⟩) <;> first | (replace H := hidb (H.out.trans hs); replace HR := hidb (HR.out.trans (Gm.bind_ok hq)); clear hs hq) | (have HRE := hidb (HR.out.trans (Gm.bind_err hq)); have HB : Hid (But (· = g) w1 w1) := hidb (But.refl _ _); replace H := hidb (H.out.bad hbd); clear hq hbd HR))
    | (go_at_call 105; clear M0; refine (sKept (x := ⟨#[111, 102]⟩) rfl H.out).mono ?_; rintro r1 w1 ⟨⟨hq, rfl⟩ | ⟨hq, rfl⟩, hb⟩ <;> first | (have HT : Hid (Gm.isM _ _ = true) := hidb hq; replace HR := hidb (HR.out.trans (cb_t hq)); replace H := hidb (H.out.below hb); clear hb hq) | (replace HR := hidb (HR.out.trans (cb_f hq)); replace H := hidb (H.out.below hb); clear hb hq))
    | (go_at_call 105; clear M1; refine (sKept (x := ⟨#[99, 97, 116, 99, 104]⟩) rfl H.out).mono ?_; rintro r1 w1 ⟨⟨hq, rfl⟩ | ⟨hq, rfl⟩, hb⟩ <;> first | (have HT : Hid (Gm.isM _ _ = true) := hidb hq; have HU := hidb hq; replace HR := hidb ((HR.out.trans (Gm.bind_here rfl)).trans (cb_t hq)); replace H := hidb (H.out.below hb); clear hb hq) | (have HN := hidb hq; replace HR := hidb ((HR.out.trans (Gm.bind_here rfl)).trans (cb_f hq)); replace H := hidb (H.out.below hb); clear hb hq))
    | (go_at_call 105; clear M3; refine (sKept (x := ⟨#[97, 102, 116, 101, 114]⟩) rfl H.out).mono ?_; rintro r1 w1 ⟨⟨hq, rfl⟩ | ⟨hq, rfl⟩, hb⟩ <;> first | (have HT : Hid (Gm.isM _ _ = true) := hidb hq; replace HR := hidb (((HR.out.trans (Gm.bind_here rfl)).trans (Gm.ite_t (.inr hq))).trans (afterB_t hq)); replace H := hidb (H.out.below hb); clear hb hq) | ((first | (have HU1 := HU.out; replace HR := hidb (((HR.out.trans (Gm.bind_here rfl)).trans (Gm.ite_t (.inl HU.out))).trans (afterB_f hq)); clear HU1) | (have HN1 := HN.out; replace HR := hidb ((HR.out.trans (Gm.bind_here rfl)).trans (Gm.ite_f (by rw [HN.out, hq]; decide))); clear HN1)); replace H := hidb (H.out.below hb); clear hb hq))
    | (go_at_call 29; refine (sNext H.out.at (Gm.isM_k HT.out)).mono ?_; rintro r1 w1 ⟨rfl, hs⟩; replace H := hidb (H.out.trans hs); clear hs HT)
    | (go_at_call 148; have M1c := M1; clear M1c; refine (pClauses1 HE.out H.out.at).mono ?_; rintro r1 w1 (⟨er, q', oo, hq, rfl, hbd⟩ | ⟨oo, s1, V1, hq, rfl, hs⟩) <;> first | (replace H := hidb (H.out.trans hs); replace HR := hidb (HR.out.trans (Gm.bind_ok hq)); clear hs hq) | (have HRE := hidb (HR.out.trans (Gm.bind_err hq)); have HB : Hid (But (· = g) w1 w1) := hidb (But.refl _ _); replace H := hidb (H.out.bad hbd); clear hq hbd HR))
    | (go_at_call 148; refine (HK.out _ _ _ _ H.out.at).mono ?_; rintro r1 w1 (⟨er, q', cc, hq, rfl, hbd⟩ | ⟨cc, s1, V1, hq, rfl, hs⟩) <;> first | (replace H := hidb (H.out.trans hs); replace HR := hidb (HR.out.trans (Gm.bind_ok hq)); clear hs hq) | (have HRE := hidb (HR.out.trans (Gm.bind_err hq)); have HB : Hid (But (· = g) w1 w1) := hidb (But.refl _ _); replace H := hidb (H.out.bad hbd); clear hq hbd HR))
    | (go_at_call 106; have M1c := M1; clear M1c; refine (pNone 20 H.out.at).mono ?_; rintro r1 w1 (⟨er, q', oo, hq, rfl, hbd⟩ | ⟨oo, s1, V1, hq, rfl, hs⟩) <;> first | (replace H := hidb (H.out.trans hs); replace HR := hidb (HR.out.trans (Gm.bind_ok hq)); clear hs hq) | (have HRE := hidb (HR.out.trans (Gm.bind_err hq)); have HB : Hid (But (· = g) w1 w1) := hidb (But.refl _ _); replace H := hidb (H.out.bad hbd); clear hq hbd HR))
    | (go_at_call 106; have M3c := M3; clear M3c; refine (pNone 20 H.out.at).mono ?_; rintro r1 w1 (⟨er, q', cc, hq, rfl, hbd⟩ | ⟨cc, s1, V1, hq, rfl, hs⟩) <;> first | (replace H := hidb (H.out.trans hs); replace HR := hidb (HR.out.trans (Gm.bind_ok hq)); clear hs hq) | (have HRE := hidb (HR.out.trans (Gm.bind_err hq)); have HB : Hid (But (· = g) w1 w1) := hidb (But.refl _ _); replace H := hidb (H.out.bad hbd); clear hq hbd HR))
    | (go_at_call 106; refine (pNone 19 H.out.at).mono ?_; rintro r1 w1 (⟨er, q', la, hq, rfl, hbd⟩ | ⟨la, s1, V1, hq, rfl, hs⟩) <;> first | (replace H := hidb (H.out.trans hs); replace HR := hidb (HR.out.trans (Gm.bind_ok hq)); clear hs hq) | (have HRE := hidb (HR.out.trans (Gm.bind_err hq)); have HB : Hid (But (· = g) w1 w1) := hidb (But.refl _ _); replace H := hidb (H.out.bad hbd); clear hq hbd HR))
    | (go_at_call 107; refine (pBody HE.out H.out.at).mono ?_; rintro r1 w1 (⟨er, q', la, hq, rfl, hbd⟩ | ⟨la, s1, V1, hq, rfl, hs⟩) <;> first | (replace H := hidb (H.out.trans hs); replace HR := hidb (HR.out.trans (Gm.bind_ok hq)); clear hs hq) | (have HRE := hidb (HR.out.trans (Gm.bind_err hq)); have HB : Hid (But (· = g) w1 w1) := hidb (But.refl _ _); replace H := hidb (H.out.bad hbd); clear hq hbd HR))
    | (go_at_call 26; refine (sNow H.out).mono ?_; rintro r1 w1 ⟨t, hq, rfl, hb⟩; have HRE := hidb (HR.out.trans (show Gm.giveUp 24 _ = .error (24, t.p) from by rw [← hq]; rfl)); replace H := hidb (H.out.below hb); clear hb hq HR)
    | (go_at_call 28; refine (sFail H.out.at t.p (by decide)).mono ?_; rintro r1 w1 ⟨rfl, hbd⟩; have HB : Hid (But (· = g) w1 w1) := hidb (But.refl _ _); replace H := hidb (H.out.bad hbd); clear hbd)
    | (go_at_call 27; refine (sWant (by first | exact .inl ⟨rfl, rfl⟩ | exact .inr ⟨rfl, rfl⟩) H.out.at).mono ?_; rintro r1 w1 (⟨er, q', hq, rfl, hbd⟩ | ⟨s1, hq, rfl, hs⟩) <;> first | (replace H := hidb (H.out.trans hs); replace HR := hidb (HR.out.trans (Gm.bind_ok hq)); clear hs hq) | (have HRE := hidb (HR.out.trans (Gm.bind_err hq)); have HB : Hid (But (· = g) w1 w1) := hidb (But.refl _ _); replace H := hidb (H.out.bad hbd); clear hq hbd HR))
    | (go_at_call 32; refine (sNodeR (n := ⟨16, ⟨#[]⟩, _, 0, [bb, oo, cc, la], q⟩) HR.out (IR.lit H.out #[iv bb, iv oo, iv cc, iv la] [bb, oo, cc, la] rfl (by simp)).2.drop.at ((IR.lit H.out #[iv bb, iv oo, iv cc, iv la] [bb, oo, cc, la] rfl (by simp)).1.lr HP.out)).mono ?_; rintro r1 w2 (⟨er, q2, z, hq, rfl, hbd⟩ | ⟨z, s2, V2, hq, rfl, hs⟩) <;> first | (replace H := hidb ((IR.lit H.out #[iv bb, iv oo, iv cc, iv la] [bb, oo, cc, la] rfl (by simp)).2.drop.trans hs); replace HR := hidb hq; clear hs hq) | (have HRE := hidb hq; have HB : Hid (But (· = g) w2 w2) := hidb (But.refl _ _); replace H := hidb ((IR.lit H.out #[iv bb, iv oo, iv cc, iv la] [bb, oo, cc, la] rfl (by simp)).2.drop.bad hbd); clear hq hbd HR))
    | (go_at_call 26; refine (bNow H.out).mono ?_; rintro r1 w1 ⟨⟨tk, tx, tn, tf, tp⟩, rfl, hb⟩; replace HB := hidb (HB.out.trans (But.of_below hb)); replace H := hidb (H.out.keep hb); clear hb)
    | (go_at_call 105; refine (bKept _ H.out).mono ?_; rintro r1 w1 ⟨rfl, hb⟩; replace HB := hidb (HB.out.trans (But.of_below hb)); replace H := hidb (H.out.keep hb); clear hb)
    | (go_at_call 29; refine (bNext H.out).mono ?_; rintro r1 w1 ⟨rfl, hb⟩; replace HB := hidb (HB.out.trans (But.of_below hb)); replace H := hidb (H.out.keep hb); clear hb)
    | (go_at_call 28; refine (bFail _ _ H.out).mono ?_; rintro r1 w1 ⟨rfl, hd, hb⟩; replace HB := hidb (HB.out.trans hb); replace H := hidb hd; clear hb hd)
    | (go_at_call 107; refine (bBody H.out).mono ?_; rintro r1 w1 ⟨rfl, hd, hb⟩; replace HB := hidb (HB.out.trans hb); replace H := hidb hd; clear hb hd)
    | (go_at_call 106; refine (bNone _ H.out).mono ?_; rintro r1 w1 ⟨rfl, hd, hb⟩; replace HB := hidb (HB.out.trans hb); replace H := hidb hd; clear hb hd)
    | (go_at_call 27; refine (bWant _ _ H.out).mono ?_; rintro r1 w1 ⟨rfl, hd, hb⟩; replace HB := hidb (HB.out.trans hb); replace H := hidb hd; clear hb hd)
    | (go_at_call 32; refine (bNode _ _ _ _ _ _ (H.out.keep (below_new _ _))).mono ?_; rintro r1 w1 ⟨rfl, hd, hb⟩; replace HB := hidb ((HB.out.trans (But.of_below (below_new _ _))).trans hb); replace H := hidb hd; clear hb hd))
  all_goals (
    go_ret
    first
      | exact .inr ⟨_, _, _, HR.out, rfl, H.out⟩
      | exact .inl ⟨_, _, _, HRE.out, rfl, H.out⟩)

end Rf
end Go.Proofs.YthdljnakmekhkaaGreatDoor


/- The reference's parser: a clause of a catch, no class. -/
namespace Go.Proofs.YthdljnakmekhkaaGreatDoor
namespace Rf
open Go.RowKit Go.Lib
attribute [local go_sem] store_float f64bits
attribute [local go_sem ↓] Go.wp_at_zero Go.wp_at_succ
attribute [local go_sem] nd_p tk_k tk_x tk_n tk_f tk_p
variable {B g b o : Nat} {e : PM Nat}

theorem hd2_tok {TS : List Tk} {i : Nat} {s : PS} {u : Tk} (hs : s.ts = TS.drop i) (hu : TS[i + 1]? = some u) : Gm.hd2 s = u := by
  have hlt := (List.getElem?_eq_some_iff.1 hu).1
  unfold Gm.hd2
  rw [hs, List.tail_drop, List.drop_eq_getElem_cons hlt]
  exact (List.getElem?_eq_some_iff.1 hu).2
theorem lit_f {a : ByteArray} {l : List UInt8} (h : ¬ a = ⟨l.toArray⟩) : (a.toList == l) = false := by
  rw [ByteArray.toList_eq]
  refine Bool.eq_false_iff.2 fun he => h ?_
  have : a.data.toList = l := by simpa using he
  cases a
  simp at this
  simp [← this]
theorem lit_F {a : ByteArray} {l : List UInt8} (h : ¬ a = ⟨l.toArray⟩) : ¬ a.toList = l := fun e => by have := lit_f h; simp [e] at this
section
variable {α : Type} {s s1 : PS} {t u : Tk} {F : Nat → PM α} {er : Int × Nat} {x : Nat}
theorem cls_err (h1 : Gm.hd s = t) (h2 : Gm.hd2 s = u) (hk : t.k = 1 ∨ t.k = 2) (hm : Gm.isM u ⟨#[58]⟩ = true) (hc : Gm.isClass t = true) (hn : t.n = 0 ∧ t.f = 0) (hl : Gm.lay ⟨Gm.leafKind t.k, t.x, 0, 0, [], t.p⟩ s = .error er) : (Gm.cls >>= F) s = .error er := by
  subst h1 h2
  apply Gm.bind_err
  show (if _ then (if _ then _ else _) else _ : PM Nat) s = _
  rw [if_pos ⟨hk, hm⟩, if_pos hc]
  apply Gm.bind_err
  show Gm.lay ⟨Gm.leafKind (Gm.hd s).k, (Gm.hd s).x, (Gm.hd s).n, (Gm.hd s).f, [], (Gm.hd s).p⟩ (Gm.cut s) = _
  rw [hn.1, hn.2]
  unfold Gm.lay at hl ⊢
  by_cases h : s.ns.length = 16384
  · rw [if_pos h] at hl
    rw [if_pos (show (Gm.cut s).ns.length = 16384 from h)]
    cases hl
    rfl
  · rw [if_neg h] at hl
    cases hl
theorem lay_ts {n : Nd} (hl : Gm.lay n s = .ok (x, s1)) : s1.ts = s.ts := by
  unfold Gm.lay at hl
  split at hl
  · cases hl
  · cases hl; rfl
theorem cls_ok (h1 : Gm.hd s = t) (h2 : Gm.hd2 s = u) (hk : t.k = 1 ∨ t.k = 2) (hm : Gm.isM u ⟨#[58]⟩ = true) (hc : Gm.isClass t = true) (hn : t.n = 0 ∧ t.f = 0) (hl : Gm.lay ⟨Gm.leafKind t.k, t.x, 0, 0, [], t.p⟩ s = .ok (x, s1)) : (Gm.cls >>= F) s = F x (Gm.cut (Gm.cut s1)) := by
  subst h1 h2
  apply Gm.bind_ok
  show (if _ then (if _ then _ else _) else _ : PM Nat) s = _
  rw [if_pos ⟨hk, hm⟩, if_pos hc]
  have h3 : Gm.leaf s = .ok (x, Gm.cut s1) := by
    show Gm.lay ⟨Gm.leafKind (Gm.hd s).k, (Gm.hd s).x, (Gm.hd s).n, (Gm.hd s).f, [], (Gm.hd s).p⟩ (Gm.cut s) = _
    rw [hn.1, hn.2]
    unfold Gm.lay at hl ⊢
    by_cases h : s.ns.length = 16384
    · rw [if_pos h] at hl; cases hl
    · rw [if_neg h] at hl
      rw [if_neg (show ¬ (Gm.cut s).ns.length = 16384 from h)]
      cases hl
      rfl
  rw [Gm.bind_ok h3]
  have h4 : Gm.hd (Gm.cut s1) = Gm.hd2 s := by
    have := lay_ts hl
    unfold Gm.hd Gm.hd2 Gm.cut
    rw [this]
  rw [Gm.bind_ok (need_t (h4 ▸ hm))]
  rfl
theorem cls_no (h1 : Gm.hd s = t) (h2 : Gm.hd2 s = u) (hk : t.k = 1 ∨ t.k = 2) (hm : Gm.isM u ⟨#[58]⟩ = true) (hc : Gm.isClass t = false) : (Gm.cls >>= F) s = .error (24, t.p) := by
  subst h1 h2
  apply Gm.bind_err
  show (if _ then (if _ then _ else _) else _ : PM Nat) s = _
  rw [if_pos ⟨hk, hm⟩, if_neg (by rw [hc]; decide)]
  rfl
theorem cls_else (h1 : Gm.hd s = t) (h2 : Gm.hd2 s = u) (h : ¬ ((t.k = 1 ∨ t.k = 2) ∧ Gm.isM u ⟨#[58]⟩ = true)) : (Gm.cls >>= F) s = (Gm.lay ⟨3, ⟨#[116, 104, 114, 111, 119]⟩, 0, 0, [], t.p⟩ >>= F) s := by
  subst h1 h2
  have : Gm.cls s = Gm.lay ⟨3, ⟨#[116, 104, 114, 111, 119]⟩, 0, 0, [], (Gm.hd s).p⟩ s := by
    show (if _ then _ else _ : PM Nat) s = _
    rw [if_neg h]
  rw [Gm.bind_at, this, Gm.bind_at]
theorem hd_at (h : s1.ts = s.ts) (h1 : Gm.hd s = t) : Gm.hd s1 = t := by unfold Gm.hd at *; rw [h]; exact h1
theorem hd2_at (h : s1.ts = s.ts) (h2 : Gm.hd2 s = u) : Gm.hd (Gm.cut s1) = u := by
  show Gm.hd2 s1 = u
  unfold Gm.hd2 at *; rw [h]; exact h2
end

set_option maxHeartbeats 8000000 in
set_option maxRecDepth 100000 in
theorem pCaughtN (hE : EC B g b o e) {P : Nat → Prop} {w : World} {V : Value} {s : PS} (h : At B g b o P w V s) (hk : ¬ ((Gm.hd s).k = 1 ∨ (Gm.hd s).k = 2)) :
    Calls Tryz.prog 156 #[.pointer (some ⟨g, 0, none⟩)] w fun r w' => Rz B g b o P w V (Gm.cclause e s) r w' := by
  have H : Hid (St B g b o P w V w V s) := hidb h
  obtain ⟨R, hR⟩ : ∃ R, Gm.cclause e s = R := ⟨_, rfl⟩
  rw [hR]
  have HR := hidb hR.symm
  have HP := hidb h.plt
  have HE := hidb hE
  clear hR h hE
  have htg := H.out.tg
  have HN : Hid (Tg (Gm.hd s)) := hidb htg
  clear htg
  go_enter Tryz.func156, Tryz.ntmps156
  go_wp2_with (go_at_call 26; refine (sNow H.out).mono ?_; rintro r1 w1 ⟨⟨tk, tx, tn, tf, tp⟩, hq, rfl, hb⟩; have TT := hidb hq; replace H := hidb (H.out.below hb); clear hb hq)
  have htg := HN.out
  rw [TT.out] at htg
  clear HN
  have hsz := H.out.glt
  replace HR := hidb (HR.out.trans (Gm.bind_here TT.out))
  have HX := hidb (Box.new w1 41 (.int .i64 tk) (.string tx) (.int .i64 tn) (.float .f64 tf) (.int .i64 (tp : Int)))
  replace H := hidb (H.out.hold (.cells #[.int .i64 tk, .string tx, .int .i64 tn, .float .f64 tf, .int .i64 (tp : Int)] 41))
  generalize (w1.alloc (.cells #[.int .i64 tk, .string tx, .int .i64 tn, .float .f64 tf, .int .i64 (tp : Int)] 41)) = W1 at H HX ⊢
  generalize w1.heap.size = xb at H HX ⊢
  clear hsz
  obtain ⟨x0, x1, x2, x3, x4, -, -, -, -, -, xl⟩ := HX.out
  rw [TT.out] at hk
  replace HR := hidb (HR.out.trans (cls_else TT.out rfl (fun h => hk h.1)))
  have d1 : (tk == 1) = false := by simp at hk ⊢; omega
  have d2 : (tk == 2) = false := by simp at hk ⊢; omega
  clear hk htg
  skip
  go_big_quiet (fail)
  have hbd : Below W1.heap.size W1 (W1.drewN nq) := below_drewN (Below.refl _ _) nq
  replace H := hidb (H.out.below hbd)
  replace HX := hidb (HX.out.keep hbd)
  clear hbd x0 x1 x2 x3 x4 xl
  generalize W1.drewN nq = W2 at H HX ⊢
  obtain ⟨x0, x1, x2, x3, x4, -, -, -, -, -, xl⟩ := HX.out
  go_wp2_with (first
    | (go_at_call 32; refine (sNode ⟨3, ⟨#[116, 104, 114, 111, 119]⟩, 0, 0, [], tp⟩ _ H.out.at (LR.none _ _ _ _)).mono ?_; rintro r1 w2 (⟨er, q, c, hq, rfl, hbd⟩ | ⟨c, s1, V1, hq, rfl, hs⟩) <;> first | (replace HR := hidb (HR.out.trans (Gm.bind_ok hq)); replace H := hidb (H.out.trans hs); clear hs hq) | (have HRE := hidb (HR.out.trans (Gm.bind_err hq)); have HB : Hid (But (· = g) w2 w2) := hidb (But.refl _ _); replace H := hidb (H.out.bad hbd); clear hq hbd HR))
    | (go_at_call 104; refine (HE.out.run H.out.at).mono ?_; rintro r1 w2 (⟨er, q, x, hq, rfl, hbd⟩ | ⟨x, s2, V2, hq, rfl, hs⟩) <;> first | (replace H := hidb (H.out.trans hs); replace HR := hidb (HR.out.trans (Gm.bind_ok hq)); clear hs hq) | (have HRE := hidb (HR.out.trans (Gm.bind_err hq)); have HB : Hid (But (· = g) w2 w2) := hidb (But.refl _ _); replace H := hidb (H.out.bad hbd); clear hq hbd HR))
    | (go_at_call 63; refine (pClause HE.out _ [c, x] _ tp (IR.lit H.out #[iv c, iv x] [c, x] rfl (by simp)).2.at (IR.lit H.out #[iv c, iv x] [c, x] rfl (by simp)).1 (by simp)).mono ?_; rintro r1 w3 (⟨er, q, z, hq, rfl, hbd⟩ | ⟨z, s2, V2, hq, rfl, hs⟩) <;> first | (replace H := hidb ((IR.lit H.out #[iv c, iv x] [c, x] rfl (by simp)).2.trans hs).drop; replace HR := hidb (HR.out.trans hq); clear hs hq) | (have HRE := hidb (HR.out.trans hq); replace H := hidb ((IR.lit H.out #[iv c, iv x] [c, x] rfl (by simp)).2.bad hbd); clear hq hbd HR))
    | (go_at_call 32; refine (bNode _ _ _ _ _ _ H.out).mono ?_; rintro r1 w2 ⟨rfl, hd, hb⟩; replace HB := hidb (HB.out.trans hb); replace H := hidb hd; clear hb hd)
    | (go_at_call 29; refine (bNext H.out).mono ?_; rintro r1 w2 ⟨rfl, hb⟩; replace HB := hidb (HB.out.trans (But.of_below hb)); replace H := hidb (H.out.keep hb); clear hb)
    | (go_at_call 104; refine (bExpr H.out).mono ?_; rintro r1 w2 ⟨rfl, hd, hb⟩; replace HB := hidb (HB.out.trans hb); replace H := hidb hd; clear hb hd)
    | (go_at_call 63; refine (bClause _ [c, x] _ _ (lit_row w2 #[iv c, iv x] [c, x] rfl (by simp)) (lit_ng H.out 2 2) (H.out.keep (below_new _ _))).mono ?_; rintro r1 w3 ⟨rfl, hd, hb⟩; replace H := hidb hd; clear hb hd)
    | (go_at_call 63; refine (bClause _ [c, 0] _ _ (lit_row w2 #[iv c, iv 0] [c, 0] rfl (by simp)) (lit_ng H.out 2 2) (H.out.keep (below_new _ _))).mono ?_; rintro r1 w3 ⟨rfl, hd, hb⟩; replace H := hidb hd; clear hb hd)
    | (go_at_call 63; refine (bClause _ [0, 0] _ _ (lit_row w2 #[iv 0, iv 0] [0, 0] rfl (by simp)) (lit_ng H.out 2 2) (H.out.keep (below_new _ _))).mono ?_; rintro r1 w3 ⟨rfl, hd, hb⟩; replace H := hidb hd; clear hb hd))
  all_goals (
    go_ret
    first
      | exact .inr ⟨_, _, _, HR.out, rfl, H.out.drop⟩
      | exact .inl ⟨_, _, _, HRE.out, rfl, H.out⟩)

end Rf
end Go.Proofs.YthdljnakmekhkaaGreatDoor


/- The reference's parser: a clause of a catch, no colon. -/
namespace Go.Proofs.YthdljnakmekhkaaGreatDoor
namespace Rf
open Go.RowKit Go.Lib
attribute [local go_sem] store_float f64bits
attribute [local go_sem ↓] Go.wp_at_zero Go.wp_at_succ
attribute [local go_sem] nd_p tk_k tk_x tk_n tk_f tk_p
variable {B g b o : Nat} {e : PM Nat}

set_option maxHeartbeats 8000000 in
set_option maxRecDepth 100000 in
theorem pCaughtC1 (hE : EC B g b o e) {P : Nat → Prop} {w : World} {V : Value} {s : PS} (h : At B g b o P w V s) (hk : (Gm.hd s).k = 1) (hm : Gm.isM (Gm.hd2 s) ⟨#[58]⟩ = false) :
    Calls Tryz.prog 156 #[.pointer (some ⟨g, 0, none⟩)] w fun r w' => Rz B g b o P w V (Gm.cclause e s) r w' := by
  have H : Hid (St B g b o P w V w V s) := hidb h
  obtain ⟨R, hR⟩ : ∃ R, Gm.cclause e s = R := ⟨_, rfl⟩
  rw [hR]
  have HR := hidb hR.symm
  have HP := hidb h.plt
  have HE := hidb hE
  clear hR h hE
  have htg := H.out.tg
  have HN : Hid (Tg (Gm.hd s)) := hidb htg
  clear htg
  go_enter Tryz.func156, Tryz.ntmps156
  go_wp2_with (go_at_call 26; refine (sNow H.out).mono ?_; rintro r1 w1 ⟨⟨tk, tx, tn, tf, tp⟩, hq, rfl, hb⟩; have TT := hidb hq; replace H := hidb (H.out.below hb); clear hb hq)
  have htg := HN.out
  rw [TT.out] at htg
  clear HN
  have hsz := H.out.glt
  replace HR := hidb (HR.out.trans (Gm.bind_here TT.out))
  have HX := hidb (Box.new w1 41 (.int .i64 tk) (.string tx) (.int .i64 tn) (.float .f64 tf) (.int .i64 (tp : Int)))
  replace H := hidb (H.out.hold (.cells #[.int .i64 tk, .string tx, .int .i64 tn, .float .f64 tf, .int .i64 (tp : Int)] 41))
  generalize (w1.alloc (.cells #[.int .i64 tk, .string tx, .int .i64 tn, .float .f64 tf, .int .i64 (tp : Int)] 41)) = W1 at H HX ⊢
  generalize w1.heap.size = xb at H HX ⊢
  clear hsz
  obtain ⟨x0, x1, x2, x3, x4, -, -, -, -, -, xl⟩ := HX.out
  rw [TT.out] at hk
  simp only at hk
  subst hk
  obtain ⟨TS, i, hq, hts, hg, he⟩ := H.out.pb
  have ht0 := hd_tok hq.ilt hts
  rw [TT.out] at ht0
  obtain ⟨u, hu⟩ := hq.nextTok he ht0 (by simp)
  have htk := hq.toks
  obtain ⟨k0, k1, -, -, -⟩ := tks_at htk (i + 1) u hu
  simp only [Nat.zero_add] at k0 k1
  have hlt := (List.getElem?_eq_some_iff.1 hu).1
  have hfw := hq.few
  have hbl := hq.lt
  have UU := hidb (hd2_tok hts hu)
  have htu := hg u (List.mem_of_getElem? hu)
  obtain ⟨⟨cap, h6⟩, -⟩ := hq
  obtain ⟨c0, c1, -, -, -, -, -, -, -, -, -, -, gl⟩ := h6
  generalize TS.length = N at c0 hlt hfw
  obtain ⟨uk, ux, un, uf, up⟩ := u
  obtain ⟨J, hJ⟩ : ∃ J, i + 1 = J := ⟨_, rfl⟩
  have v1 : IntKind.i64.wrap ((i : Int) + 1) = (J : Int) := by rw [IntKind.wrap_i64]; omega
  have j0 : (0 : Int) ≤ (J : Int) := by omega
  have j1 : (J : Int) < (N : Int) := by omega
  rw [hJ] at k0 k1
  simp only at k0 k1
  clear hJ hlt hfw htk hu hts hg he ht0
  rw [UU.out] at hm
  replace HR := hidb (HR.out.trans (cls_else TT.out UU.out (fun h => by rw [hm] at h; cases h.2)))
  rw [isM_sign htu rfl] at hm
  have d2 : (uk == 6) = false ∨ ((uk == 6) = true ∧ (ux.toList == [58]) = false) := by
    by_cases h1 : uk = 6
    · by_cases h2 : ux = ⟨#[58]⟩
      · simp [h1, h2] at hm
      · exact .inr ⟨by simp [h1], lit_f h2⟩
    · exact .inl (by simp [h1])
  have HN : Hid True := hidb trivial
  have HTX : Hid True := hidb trivial
  clear hm htg htu
  rcases d2 with d2 | ⟨d2, d4⟩
  all_goals (
      go_big_quiet (fail)
      have hbd : Below W1.heap.size W1 (W1.drewN nq) := below_drewN (Below.refl _ _) nq
      replace H := hidb (H.out.below hbd)
      replace HX := hidb (HX.out.keep hbd)
      clear hbd x0 x1 x2 x3 x4 xl c0 c1 k0 k1
      generalize W1.drewN nq = W2 at H HX ⊢
      obtain ⟨x0, x1, x2, x3, x4, -, -, -, -, -, xl⟩ := HX.out
      go_wp2_with (first
        | (go_at_call 32; refine (sNode ⟨3, ⟨#[116, 104, 114, 111, 119]⟩, 0, 0, [], tp⟩ _ H.out.at (LR.none _ _ _ _)).mono ?_; rintro r1 w2 (⟨er, q, c, hq, rfl, hbd⟩ | ⟨c, s1, V1, hq, rfl, hs⟩) <;> first | (replace HR := hidb (HR.out.trans (Gm.bind_ok hq)); replace H := hidb (H.out.trans hs); clear hs hq) | (have HRE := hidb (HR.out.trans (Gm.bind_err hq)); have HB : Hid (But (· = g) w2 w2) := hidb (But.refl _ _); replace H := hidb (H.out.bad hbd); clear hq hbd HR))
        | (go_at_call 104; refine (HE.out.run H.out.at).mono ?_; rintro r1 w2 (⟨er, q, x, hq, rfl, hbd⟩ | ⟨x, s2, V2, hq, rfl, hs⟩) <;> first | (replace H := hidb (H.out.trans hs); replace HR := hidb (HR.out.trans (Gm.bind_ok hq)); clear hs hq) | (have HRE := hidb (HR.out.trans (Gm.bind_err hq)); have HB : Hid (But (· = g) w2 w2) := hidb (But.refl _ _); replace H := hidb (H.out.bad hbd); clear hq hbd HR))
        | (go_at_call 63; refine (pClause HE.out _ [c, x] _ tp (IR.lit H.out #[iv c, iv x] [c, x] rfl (by simp)).2.at (IR.lit H.out #[iv c, iv x] [c, x] rfl (by simp)).1 (by simp)).mono ?_; rintro r1 w3 (⟨er, q, z, hq, rfl, hbd⟩ | ⟨z, s2, V2, hq, rfl, hs⟩) <;> first | (replace H := hidb ((IR.lit H.out #[iv c, iv x] [c, x] rfl (by simp)).2.trans hs).drop; replace HR := hidb (HR.out.trans hq); clear hs hq) | (have HRE := hidb (HR.out.trans hq); replace H := hidb ((IR.lit H.out #[iv c, iv x] [c, x] rfl (by simp)).2.bad hbd); clear hq hbd HR))
        | (go_at_call 32; refine (bNode _ _ _ _ _ _ H.out).mono ?_; rintro r1 w2 ⟨rfl, hd, hb⟩; replace HB := hidb (HB.out.trans hb); replace H := hidb hd; clear hb hd)
        | (go_at_call 29; refine (bNext H.out).mono ?_; rintro r1 w2 ⟨rfl, hb⟩; replace HB := hidb (HB.out.trans (But.of_below hb)); replace H := hidb (H.out.keep hb); clear hb)
        | (go_at_call 104; refine (bExpr H.out).mono ?_; rintro r1 w2 ⟨rfl, hd, hb⟩; replace HB := hidb (HB.out.trans hb); replace H := hidb hd; clear hb hd)
        | (go_at_call 63; refine (bClause _ [c, x] _ _ (lit_row w2 #[iv c, iv x] [c, x] rfl (by simp)) (lit_ng H.out 2 2) (H.out.keep (below_new _ _))).mono ?_; rintro r1 w3 ⟨rfl, hd, hb⟩; replace H := hidb hd; clear hb hd)
        | (go_at_call 63; refine (bClause _ [c, 0] _ _ (lit_row w2 #[iv c, iv 0] [c, 0] rfl (by simp)) (lit_ng H.out 2 2) (H.out.keep (below_new _ _))).mono ?_; rintro r1 w3 ⟨rfl, hd, hb⟩; replace H := hidb hd; clear hb hd)
        | (go_at_call 63; refine (bClause _ [0, 0] _ _ (lit_row w2 #[iv 0, iv 0] [0, 0] rfl (by simp)) (lit_ng H.out 2 2) (H.out.keep (below_new _ _))).mono ?_; rintro r1 w3 ⟨rfl, hd, hb⟩; replace H := hidb hd; clear hb hd))
      all_goals (
        go_ret
        first
          | exact .inr ⟨_, _, _, HR.out, rfl, H.out.drop⟩
          | exact .inl ⟨_, _, _, HRE.out, rfl, H.out⟩)
)

set_option maxHeartbeats 8000000 in
set_option maxRecDepth 100000 in
theorem pCaughtC2 (hE : EC B g b o e) {P : Nat → Prop} {w : World} {V : Value} {s : PS} (h : At B g b o P w V s) (hk : (Gm.hd s).k = 2) (hm : Gm.isM (Gm.hd2 s) ⟨#[58]⟩ = false) :
    Calls Tryz.prog 156 #[.pointer (some ⟨g, 0, none⟩)] w fun r w' => Rz B g b o P w V (Gm.cclause e s) r w' := by
  have H : Hid (St B g b o P w V w V s) := hidb h
  obtain ⟨R, hR⟩ : ∃ R, Gm.cclause e s = R := ⟨_, rfl⟩
  rw [hR]
  have HR := hidb hR.symm
  have HP := hidb h.plt
  have HE := hidb hE
  clear hR h hE
  have htg := H.out.tg
  have HN : Hid (Tg (Gm.hd s)) := hidb htg
  clear htg
  go_enter Tryz.func156, Tryz.ntmps156
  go_wp2_with (go_at_call 26; refine (sNow H.out).mono ?_; rintro r1 w1 ⟨⟨tk, tx, tn, tf, tp⟩, hq, rfl, hb⟩; have TT := hidb hq; replace H := hidb (H.out.below hb); clear hb hq)
  have htg := HN.out
  rw [TT.out] at htg
  clear HN
  have hsz := H.out.glt
  replace HR := hidb (HR.out.trans (Gm.bind_here TT.out))
  have HX := hidb (Box.new w1 41 (.int .i64 tk) (.string tx) (.int .i64 tn) (.float .f64 tf) (.int .i64 (tp : Int)))
  replace H := hidb (H.out.hold (.cells #[.int .i64 tk, .string tx, .int .i64 tn, .float .f64 tf, .int .i64 (tp : Int)] 41))
  generalize (w1.alloc (.cells #[.int .i64 tk, .string tx, .int .i64 tn, .float .f64 tf, .int .i64 (tp : Int)] 41)) = W1 at H HX ⊢
  generalize w1.heap.size = xb at H HX ⊢
  clear hsz
  obtain ⟨x0, x1, x2, x3, x4, -, -, -, -, -, xl⟩ := HX.out
  rw [TT.out] at hk
  simp only at hk
  subst hk
  obtain ⟨TS, i, hq, hts, hg, he⟩ := H.out.pb
  have ht0 := hd_tok hq.ilt hts
  rw [TT.out] at ht0
  obtain ⟨u, hu⟩ := hq.nextTok he ht0 (by simp)
  have htk := hq.toks
  obtain ⟨k0, k1, -, -, -⟩ := tks_at htk (i + 1) u hu
  simp only [Nat.zero_add] at k0 k1
  have hlt := (List.getElem?_eq_some_iff.1 hu).1
  have hfw := hq.few
  have hbl := hq.lt
  have UU := hidb (hd2_tok hts hu)
  have htu := hg u (List.mem_of_getElem? hu)
  obtain ⟨⟨cap, h6⟩, -⟩ := hq
  obtain ⟨c0, c1, -, -, -, -, -, -, -, -, -, -, gl⟩ := h6
  generalize TS.length = N at c0 hlt hfw
  obtain ⟨uk, ux, un, uf, up⟩ := u
  obtain ⟨J, hJ⟩ : ∃ J, i + 1 = J := ⟨_, rfl⟩
  have v1 : IntKind.i64.wrap ((i : Int) + 1) = (J : Int) := by rw [IntKind.wrap_i64]; omega
  have j0 : (0 : Int) ≤ (J : Int) := by omega
  have j1 : (J : Int) < (N : Int) := by omega
  rw [hJ] at k0 k1
  simp only at k0 k1
  clear hJ hlt hfw htk hu hts hg he ht0
  rw [UU.out] at hm
  replace HR := hidb (HR.out.trans (cls_else TT.out UU.out (fun h => by rw [hm] at h; cases h.2)))
  rw [isM_sign htu rfl] at hm
  have d2 : (uk == 6) = false ∨ ((uk == 6) = true ∧ (ux.toList == [58]) = false) := by
    by_cases h1 : uk = 6
    · by_cases h2 : ux = ⟨#[58]⟩
      · simp [h1, h2] at hm
      · exact .inr ⟨by simp [h1], lit_f h2⟩
    · exact .inl (by simp [h1])
  have HN : Hid True := hidb trivial
  have HTX : Hid True := hidb trivial
  clear hm htg htu
  rcases d2 with d2 | ⟨d2, d4⟩
  all_goals (
      go_big_quiet (fail)
      have hbd : Below W1.heap.size W1 (W1.drewN nq) := below_drewN (Below.refl _ _) nq
      replace H := hidb (H.out.below hbd)
      replace HX := hidb (HX.out.keep hbd)
      clear hbd x0 x1 x2 x3 x4 xl c0 c1 k0 k1
      generalize W1.drewN nq = W2 at H HX ⊢
      obtain ⟨x0, x1, x2, x3, x4, -, -, -, -, -, xl⟩ := HX.out
      go_wp2_with (first
        | (go_at_call 32; refine (sNode ⟨3, ⟨#[116, 104, 114, 111, 119]⟩, 0, 0, [], tp⟩ _ H.out.at (LR.none _ _ _ _)).mono ?_; rintro r1 w2 (⟨er, q, c, hq, rfl, hbd⟩ | ⟨c, s1, V1, hq, rfl, hs⟩) <;> first | (replace HR := hidb (HR.out.trans (Gm.bind_ok hq)); replace H := hidb (H.out.trans hs); clear hs hq) | (have HRE := hidb (HR.out.trans (Gm.bind_err hq)); have HB : Hid (But (· = g) w2 w2) := hidb (But.refl _ _); replace H := hidb (H.out.bad hbd); clear hq hbd HR))
        | (go_at_call 104; refine (HE.out.run H.out.at).mono ?_; rintro r1 w2 (⟨er, q, x, hq, rfl, hbd⟩ | ⟨x, s2, V2, hq, rfl, hs⟩) <;> first | (replace H := hidb (H.out.trans hs); replace HR := hidb (HR.out.trans (Gm.bind_ok hq)); clear hs hq) | (have HRE := hidb (HR.out.trans (Gm.bind_err hq)); have HB : Hid (But (· = g) w2 w2) := hidb (But.refl _ _); replace H := hidb (H.out.bad hbd); clear hq hbd HR))
        | (go_at_call 63; refine (pClause HE.out _ [c, x] _ tp (IR.lit H.out #[iv c, iv x] [c, x] rfl (by simp)).2.at (IR.lit H.out #[iv c, iv x] [c, x] rfl (by simp)).1 (by simp)).mono ?_; rintro r1 w3 (⟨er, q, z, hq, rfl, hbd⟩ | ⟨z, s2, V2, hq, rfl, hs⟩) <;> first | (replace H := hidb ((IR.lit H.out #[iv c, iv x] [c, x] rfl (by simp)).2.trans hs).drop; replace HR := hidb (HR.out.trans hq); clear hs hq) | (have HRE := hidb (HR.out.trans hq); replace H := hidb ((IR.lit H.out #[iv c, iv x] [c, x] rfl (by simp)).2.bad hbd); clear hq hbd HR))
        | (go_at_call 32; refine (bNode _ _ _ _ _ _ H.out).mono ?_; rintro r1 w2 ⟨rfl, hd, hb⟩; replace HB := hidb (HB.out.trans hb); replace H := hidb hd; clear hb hd)
        | (go_at_call 29; refine (bNext H.out).mono ?_; rintro r1 w2 ⟨rfl, hb⟩; replace HB := hidb (HB.out.trans (But.of_below hb)); replace H := hidb (H.out.keep hb); clear hb)
        | (go_at_call 104; refine (bExpr H.out).mono ?_; rintro r1 w2 ⟨rfl, hd, hb⟩; replace HB := hidb (HB.out.trans hb); replace H := hidb hd; clear hb hd)
        | (go_at_call 63; refine (bClause _ [c, x] _ _ (lit_row w2 #[iv c, iv x] [c, x] rfl (by simp)) (lit_ng H.out 2 2) (H.out.keep (below_new _ _))).mono ?_; rintro r1 w3 ⟨rfl, hd, hb⟩; replace H := hidb hd; clear hb hd)
        | (go_at_call 63; refine (bClause _ [c, 0] _ _ (lit_row w2 #[iv c, iv 0] [c, 0] rfl (by simp)) (lit_ng H.out 2 2) (H.out.keep (below_new _ _))).mono ?_; rintro r1 w3 ⟨rfl, hd, hb⟩; replace H := hidb hd; clear hb hd)
        | (go_at_call 63; refine (bClause _ [0, 0] _ _ (lit_row w2 #[iv 0, iv 0] [0, 0] rfl (by simp)) (lit_ng H.out 2 2) (H.out.keep (below_new _ _))).mono ?_; rintro r1 w3 ⟨rfl, hd, hb⟩; replace H := hidb hd; clear hb hd))
      all_goals (
        go_ret
        first
          | exact .inr ⟨_, _, _, HR.out, rfl, H.out.drop⟩
          | exact .inl ⟨_, _, _, HRE.out, rfl, H.out⟩)
)

end Rf
end Go.Proofs.YthdljnakmekhkaaGreatDoor


/- The reference's parser: a clause of a catch, a variable as its class. -/
namespace Go.Proofs.YthdljnakmekhkaaGreatDoor
namespace Rf
open Go.RowKit Go.Lib
attribute [local go_sem] store_float f64bits
attribute [local go_sem ↓] Go.wp_at_zero Go.wp_at_succ
attribute [local go_sem] nd_p tk_k tk_x tk_n tk_f tk_p
variable {B g b o : Nat} {e : PM Nat}

set_option maxHeartbeats 8000000 in
set_option maxRecDepth 100000 in
theorem pCaught2A (hE : EC B g b o e) {P : Nat → Prop} {w : World} {V : Value} {s : PS} (h : At B g b o P w V s) (hk : (Gm.hd s).k = 2) (hm : Gm.isM (Gm.hd2 s) ⟨#[58]⟩ = true) (hc : Gm.isClass (Gm.hd s) = true) (hx : (Gm.hd s).x = ⟨#[95]⟩) :
    Calls Tryz.prog 156 #[.pointer (some ⟨g, 0, none⟩)] w fun r w' => Rz B g b o P w V (Gm.cclause e s) r w' := by
  have H : Hid (St B g b o P w V w V s) := hidb h
  obtain ⟨R, hR⟩ : ∃ R, Gm.cclause e s = R := ⟨_, rfl⟩
  rw [hR]
  have HR := hidb hR.symm
  have HP := hidb h.plt
  have HE := hidb hE
  clear hR h hE
  have htg := H.out.tg
  have HN : Hid (Tg (Gm.hd s)) := hidb htg
  clear htg
  go_enter Tryz.func156, Tryz.ntmps156
  go_wp2_with (go_at_call 26; refine (sNow H.out).mono ?_; rintro r1 w1 ⟨⟨tk, tx, tn, tf, tp⟩, hq, rfl, hb⟩; have TT := hidb hq; replace H := hidb (H.out.below hb); clear hb hq)
  have htg := HN.out
  rw [TT.out] at htg
  clear HN
  have hsz := H.out.glt
  replace HR := hidb (HR.out.trans (Gm.bind_here TT.out))
  have HX := hidb (Box.new w1 41 (.int .i64 tk) (.string tx) (.int .i64 tn) (.float .f64 tf) (.int .i64 (tp : Int)))
  replace H := hidb (H.out.hold (.cells #[.int .i64 tk, .string tx, .int .i64 tn, .float .f64 tf, .int .i64 (tp : Int)] 41))
  generalize (w1.alloc (.cells #[.int .i64 tk, .string tx, .int .i64 tn, .float .f64 tf, .int .i64 (tp : Int)] 41)) = W1 at H HX ⊢
  generalize w1.heap.size = xb at H HX ⊢
  clear hsz
  obtain ⟨x0, x1, x2, x3, x4, -, -, -, -, -, xl⟩ := HX.out
  rw [TT.out] at hk
  simp only at hk
  subst hk
  obtain ⟨TS, i, hq, hts, hg, he⟩ := H.out.pb
  have ht0 := hd_tok hq.ilt hts
  rw [TT.out] at ht0
  obtain ⟨u, hu⟩ := hq.nextTok he ht0 (by simp)
  have htk := hq.toks
  obtain ⟨k0, k1, -, -, -⟩ := tks_at htk (i + 1) u hu
  simp only [Nat.zero_add] at k0 k1
  have hlt := (List.getElem?_eq_some_iff.1 hu).1
  have hfw := hq.few
  have hbl := hq.lt
  have UU := hidb (hd2_tok hts hu)
  have htu := hg u (List.mem_of_getElem? hu)
  obtain ⟨⟨cap, h6⟩, -⟩ := hq
  obtain ⟨c0, c1, -, -, -, -, -, -, -, -, -, -, gl⟩ := h6
  generalize TS.length = N at c0 hlt hfw
  obtain ⟨uk, ux, un, uf, up⟩ := u
  obtain ⟨J, hJ⟩ : ∃ J, i + 1 = J := ⟨_, rfl⟩
  have v1 : IntKind.i64.wrap ((i : Int) + 1) = (J : Int) := by rw [IntKind.wrap_i64]; omega
  have j0 : (0 : Int) ≤ (J : Int) := by omega
  have j1 : (J : Int) < (N : Int) := by omega
  rw [hJ] at k0 k1
  simp only at k0 k1
  clear hJ hlt hfw htk hu hts hg he ht0
  rw [UU.out] at hm
  have HM := hidb hm
  have HN := hidb (htg.txt (by simp))
  rw [isM_sign htu rfl, Bool.and_eq_true, decide_eq_true_eq, decide_eq_true_eq] at hm
  have d2 : (uk == 6) = true := by simp at hm ⊢; exact hm.1
  have hux : ux = ⟨#[58]⟩ := hm.2
  subst hux
  have hu6 : uk = 6 := hm.1
  subst hu6
  rw [TT.out] at hc
  have HC := hidb hc
  rw [TT.out] at hx
  simp only at hx
  subst hx
  clear hc
  clear hm htg htu
  go_big_quiet (fail)
  have hbd : Below W1.heap.size W1 (W1.drewN nq) := below_drewN (Below.refl _ _) nq
  replace H := hidb (H.out.below hbd)
  replace HX := hidb (HX.out.keep hbd)
  clear hbd x0 x1 x2 x3 x4 xl c0 c1 k0 k1
  generalize W1.drewN nq = W2 at H HX ⊢
  obtain ⟨x0, x1, x2, x3, x4, -, -, -, -, -, xl⟩ := HX.out
  go_wp2_with (first
    | (go_at_call 32; refine (sNode ⟨4, ⟨#[95]⟩, 0, 0, [], tp⟩ _ H.out.at (LR.none _ _ _ _)).mono ?_; rintro r1 w2 (⟨er, q, c, hq, rfl, hbd⟩ | ⟨c, s1, V1, hq, rfl, hs⟩) <;> first | (have HK8 := hidb (hk_of (hd_at (lay_ts hq) TT.out) (by simp)); have HK9 := hidb (hk_of (hd2_at (lay_ts hq) UU.out) (by simp)); replace HR := hidb (HR.out.trans (cls_ok TT.out UU.out (by simp) HM.out HC.out HN.out hq)); replace H := hidb (H.out.trans hs); clear hs hq) | (have HRE := hidb (HR.out.trans (cls_err TT.out UU.out (by simp) HM.out HC.out HN.out hq)); have HB : Hid (But (· = g) w2 w2) := hidb (But.refl _ _); replace H := hidb (H.out.bad hbd); clear hq hbd HR))
    | (go_at_call 29; refine (sNext H.out.at HK8.out).mono ?_; rintro r1 w2 ⟨rfl, hs⟩; replace H := hidb (H.out.trans hs); clear hs HK8)
    | (go_at_call 29; refine (sNext H.out.at HK9.out).mono ?_; rintro r1 w2 ⟨rfl, hs⟩; replace H := hidb (H.out.trans hs); clear hs HK9)
    | (go_at_call 104; refine (HE.out.run H.out.at).mono ?_; rintro r1 w2 (⟨er, q, x, hq, rfl, hbd⟩ | ⟨x, s2, V2, hq, rfl, hs⟩) <;> first | (replace H := hidb (H.out.trans hs); replace HR := hidb (HR.out.trans (Gm.bind_ok hq)); clear hs hq) | (have HRE := hidb (HR.out.trans (Gm.bind_err hq)); have HB : Hid (But (· = g) w2 w2) := hidb (But.refl _ _); replace H := hidb (H.out.bad hbd); clear hq hbd HR))
    | (go_at_call 63; refine (pClause HE.out _ [c, x] _ tp (IR.lit H.out #[iv c, iv x] [c, x] rfl (by simp)).2.at (IR.lit H.out #[iv c, iv x] [c, x] rfl (by simp)).1 (by simp)).mono ?_; rintro r1 w3 (⟨er, q, z, hq, rfl, hbd⟩ | ⟨z, s2, V2, hq, rfl, hs⟩) <;> first | (replace H := hidb ((IR.lit H.out #[iv c, iv x] [c, x] rfl (by simp)).2.trans hs).drop; replace HR := hidb (HR.out.trans hq); clear hs hq) | (have HRE := hidb (HR.out.trans hq); replace H := hidb ((IR.lit H.out #[iv c, iv x] [c, x] rfl (by simp)).2.bad hbd); clear hq hbd HR))
    | (go_at_call 32; refine (bNode _ _ _ _ _ _ H.out).mono ?_; rintro r1 w2 ⟨rfl, hd, hb⟩; replace HB := hidb (HB.out.trans hb); replace H := hidb hd; clear hb hd)
    | (go_at_call 29; refine (bNext H.out).mono ?_; rintro r1 w2 ⟨rfl, hb⟩; replace HB := hidb (HB.out.trans (But.of_below hb)); replace H := hidb (H.out.keep hb); clear hb)
    | (go_at_call 104; refine (bExpr H.out).mono ?_; rintro r1 w2 ⟨rfl, hd, hb⟩; replace HB := hidb (HB.out.trans hb); replace H := hidb hd; clear hb hd)
    | (go_at_call 63; refine (bClause _ [c, x] _ _ (lit_row w2 #[iv c, iv x] [c, x] rfl (by simp)) (lit_ng H.out 2 2) (H.out.keep (below_new _ _))).mono ?_; rintro r1 w3 ⟨rfl, hd, hb⟩; replace H := hidb hd; clear hb hd)
    | (go_at_call 63; refine (bClause _ [c, 0] _ _ (lit_row w2 #[iv c, iv 0] [c, 0] rfl (by simp)) (lit_ng H.out 2 2) (H.out.keep (below_new _ _))).mono ?_; rintro r1 w3 ⟨rfl, hd, hb⟩; replace H := hidb hd; clear hb hd)
    | (go_at_call 63; refine (bClause _ [0, 0] _ _ (lit_row w2 #[iv 0, iv 0] [0, 0] rfl (by simp)) (lit_ng H.out 2 2) (H.out.keep (below_new _ _))).mono ?_; rintro r1 w3 ⟨rfl, hd, hb⟩; replace H := hidb hd; clear hb hd))
  all_goals (
    go_ret
    first
      | exact .inr ⟨_, _, _, HR.out, rfl, H.out.drop⟩
      | exact .inl ⟨_, _, _, HRE.out, rfl, H.out⟩)

set_option maxHeartbeats 8000000 in
set_option maxRecDepth 100000 in
theorem pCaught2B (hE : EC B g b o e) {P : Nat → Prop} {w : World} {V : Value} {s : PS} (h : At B g b o P w V s) (hk : (Gm.hd s).k = 2) (hm : Gm.isM (Gm.hd2 s) ⟨#[58]⟩ = true) (hc : Gm.isClass (Gm.hd s) = false) (hx : ¬ (Gm.hd s).x = ⟨#[95]⟩) :
    Calls Tryz.prog 156 #[.pointer (some ⟨g, 0, none⟩)] w fun r w' => Rz B g b o P w V (Gm.cclause e s) r w' := by
  have H : Hid (St B g b o P w V w V s) := hidb h
  obtain ⟨R, hR⟩ : ∃ R, Gm.cclause e s = R := ⟨_, rfl⟩
  rw [hR]
  have HR := hidb hR.symm
  have HP := hidb h.plt
  have HE := hidb hE
  clear hR h hE
  have htg := H.out.tg
  have HN : Hid (Tg (Gm.hd s)) := hidb htg
  clear htg
  go_enter Tryz.func156, Tryz.ntmps156
  go_wp2_with (go_at_call 26; refine (sNow H.out).mono ?_; rintro r1 w1 ⟨⟨tk, tx, tn, tf, tp⟩, hq, rfl, hb⟩; have TT := hidb hq; replace H := hidb (H.out.below hb); clear hb hq)
  have htg := HN.out
  rw [TT.out] at htg
  clear HN
  have hsz := H.out.glt
  replace HR := hidb (HR.out.trans (Gm.bind_here TT.out))
  have HX := hidb (Box.new w1 41 (.int .i64 tk) (.string tx) (.int .i64 tn) (.float .f64 tf) (.int .i64 (tp : Int)))
  replace H := hidb (H.out.hold (.cells #[.int .i64 tk, .string tx, .int .i64 tn, .float .f64 tf, .int .i64 (tp : Int)] 41))
  generalize (w1.alloc (.cells #[.int .i64 tk, .string tx, .int .i64 tn, .float .f64 tf, .int .i64 (tp : Int)] 41)) = W1 at H HX ⊢
  generalize w1.heap.size = xb at H HX ⊢
  clear hsz
  obtain ⟨x0, x1, x2, x3, x4, -, -, -, -, -, xl⟩ := HX.out
  rw [TT.out] at hk
  simp only at hk
  subst hk
  obtain ⟨TS, i, hq, hts, hg, he⟩ := H.out.pb
  have ht0 := hd_tok hq.ilt hts
  rw [TT.out] at ht0
  obtain ⟨u, hu⟩ := hq.nextTok he ht0 (by simp)
  have htk := hq.toks
  obtain ⟨k0, k1, -, -, -⟩ := tks_at htk (i + 1) u hu
  simp only [Nat.zero_add] at k0 k1
  have hlt := (List.getElem?_eq_some_iff.1 hu).1
  have hfw := hq.few
  have hbl := hq.lt
  have UU := hidb (hd2_tok hts hu)
  have htu := hg u (List.mem_of_getElem? hu)
  obtain ⟨⟨cap, h6⟩, -⟩ := hq
  obtain ⟨c0, c1, -, -, -, -, -, -, -, -, -, -, gl⟩ := h6
  generalize TS.length = N at c0 hlt hfw
  obtain ⟨uk, ux, un, uf, up⟩ := u
  obtain ⟨J, hJ⟩ : ∃ J, i + 1 = J := ⟨_, rfl⟩
  have v1 : IntKind.i64.wrap ((i : Int) + 1) = (J : Int) := by rw [IntKind.wrap_i64]; omega
  have j0 : (0 : Int) ≤ (J : Int) := by omega
  have j1 : (J : Int) < (N : Int) := by omega
  rw [hJ] at k0 k1
  simp only at k0 k1
  clear hJ hlt hfw htk hu hts hg he ht0
  rw [UU.out] at hm
  have HM := hidb hm
  have HN := hidb (htg.txt (by simp))
  rw [isM_sign htu rfl, Bool.and_eq_true, decide_eq_true_eq, decide_eq_true_eq] at hm
  have d2 : (uk == 6) = true := by simp at hm ⊢; exact hm.1
  have hux : ux = ⟨#[58]⟩ := hm.2
  subst hux
  have hu6 : uk = 6 := hm.1
  subst hu6
  rw [TT.out] at hc
  have HC := hidb hc
  rw [TT.out] at hx
  simp only at hx
  have d7 : (tx.toList == [95]) = false := lit_f hx
  have d8 : ¬ tx.toList = [95] := lit_F hx
  clear hx hc
  have HRE := hidb (HR.out.trans (cls_no TT.out UU.out (by simp) HM.out HC.out))
  clear HR
  clear hm htg htu
  go_big_quiet (fail)
  have hbd : Below W1.heap.size W1 (W1.drewN nq) := below_drewN (Below.refl _ _) nq
  replace H := hidb (H.out.below hbd)
  replace HX := hidb (HX.out.keep hbd)
  clear hbd x0 x1 x2 x3 x4 xl c0 c1 k0 k1
  generalize W1.drewN nq = W2 at H HX ⊢
  obtain ⟨x0, x1, x2, x3, x4, -, -, -, -, -, xl⟩ := HX.out
  go_wp2_with (first
    | (go_at_call 28; refine (sFail H.out.at tp (by decide)).mono ?_; rintro r1 w2 ⟨rfl, hbd⟩; replace HX := hidb (Box.but HX.out hbd.but (bx_no H.out)); obtain ⟨x0, x1, x2, x3, x4, -, -, -, -, -, xl⟩ := HX.out; have HB : Hid (But (· = g) w2 w2) := hidb (But.refl _ _); replace H := hidb (H.out.bad hbd); clear hbd)
    | (go_at_call 32; refine (bNode _ _ _ _ _ _ H.out).mono ?_; rintro r1 w2 ⟨rfl, hd, hb⟩; replace HB := hidb (HB.out.trans hb); replace H := hidb hd; clear hb hd)
    | (go_at_call 29; refine (bNext H.out).mono ?_; rintro r1 w2 ⟨rfl, hb⟩; replace HB := hidb (HB.out.trans (But.of_below hb)); replace H := hidb (H.out.keep hb); clear hb)
    | (go_at_call 104; refine (bExpr H.out).mono ?_; rintro r1 w2 ⟨rfl, hd, hb⟩; replace HB := hidb (HB.out.trans hb); replace H := hidb hd; clear hb hd)
    | (go_at_call 63; refine (bClause _ [c, x] _ _ (lit_row w2 #[iv c, iv x] [c, x] rfl (by simp)) (lit_ng H.out 2 2) (H.out.keep (below_new _ _))).mono ?_; rintro r1 w3 ⟨rfl, hd, hb⟩; replace H := hidb hd; clear hb hd)
    | (go_at_call 63; refine (bClause _ [c, 0] _ _ (lit_row w2 #[iv c, iv 0] [c, 0] rfl (by simp)) (lit_ng H.out 2 2) (H.out.keep (below_new _ _))).mono ?_; rintro r1 w3 ⟨rfl, hd, hb⟩; replace H := hidb hd; clear hb hd)
    | (go_at_call 63; refine (bClause _ [0, 0] _ _ (lit_row w2 #[iv 0, iv 0] [0, 0] rfl (by simp)) (lit_ng H.out 2 2) (H.out.keep (below_new _ _))).mono ?_; rintro r1 w3 ⟨rfl, hd, hb⟩; replace H := hidb hd; clear hb hd))
  all_goals (
    go_ret
    first
      | exact .inr ⟨_, _, _, HR.out, rfl, H.out.drop⟩
      | exact .inl ⟨_, _, _, HRE.out, rfl, H.out⟩)

end Rf
end Go.Proofs.YthdljnakmekhkaaGreatDoor


/- The reference's parser: a clause of a catch, its class. -/
namespace Go.Proofs.YthdljnakmekhkaaGreatDoor
namespace Rf
open Go.RowKit Go.Lib
attribute [local go_sem] store_float f64bits
attribute [local go_sem ↓] Go.wp_at_zero Go.wp_at_succ
attribute [local go_sem] nd_p tk_k tk_x tk_n tk_f tk_p
variable {B g b o : Nat} {e : PM Nat}

set_option maxHeartbeats 8000000 in
set_option maxRecDepth 100000 in
theorem pCaught1E (hE : EC B g b o e) {P : Nat → Prop} {w : World} {V : Value} {s : PS} (h : At B g b o P w V s) (hk : (Gm.hd s).k = 1) (hm : Gm.isM (Gm.hd2 s) ⟨#[58]⟩ = true) (hc : Gm.isClass (Gm.hd s) = true) (hx : (Gm.hd s).x = ⟨#[101, 114, 114, 111, 114]⟩) :
    Calls Tryz.prog 156 #[.pointer (some ⟨g, 0, none⟩)] w fun r w' => Rz B g b o P w V (Gm.cclause e s) r w' := by
  have H : Hid (St B g b o P w V w V s) := hidb h
  obtain ⟨R, hR⟩ : ∃ R, Gm.cclause e s = R := ⟨_, rfl⟩
  rw [hR]
  have HR := hidb hR.symm
  have HP := hidb h.plt
  have HE := hidb hE
  clear hR h hE
  have htg := H.out.tg
  have HN : Hid (Tg (Gm.hd s)) := hidb htg
  clear htg
  go_enter Tryz.func156, Tryz.ntmps156
  go_wp2_with (go_at_call 26; refine (sNow H.out).mono ?_; rintro r1 w1 ⟨⟨tk, tx, tn, tf, tp⟩, hq, rfl, hb⟩; have TT := hidb hq; replace H := hidb (H.out.below hb); clear hb hq)
  have htg := HN.out
  rw [TT.out] at htg
  clear HN
  have hsz := H.out.glt
  replace HR := hidb (HR.out.trans (Gm.bind_here TT.out))
  have HX := hidb (Box.new w1 41 (.int .i64 tk) (.string tx) (.int .i64 tn) (.float .f64 tf) (.int .i64 (tp : Int)))
  replace H := hidb (H.out.hold (.cells #[.int .i64 tk, .string tx, .int .i64 tn, .float .f64 tf, .int .i64 (tp : Int)] 41))
  generalize (w1.alloc (.cells #[.int .i64 tk, .string tx, .int .i64 tn, .float .f64 tf, .int .i64 (tp : Int)] 41)) = W1 at H HX ⊢
  generalize w1.heap.size = xb at H HX ⊢
  clear hsz
  obtain ⟨x0, x1, x2, x3, x4, -, -, -, -, -, xl⟩ := HX.out
  rw [TT.out] at hk
  simp only at hk
  subst hk
  obtain ⟨TS, i, hq, hts, hg, he⟩ := H.out.pb
  have ht0 := hd_tok hq.ilt hts
  rw [TT.out] at ht0
  obtain ⟨u, hu⟩ := hq.nextTok he ht0 (by simp)
  have htk := hq.toks
  obtain ⟨k0, k1, -, -, -⟩ := tks_at htk (i + 1) u hu
  simp only [Nat.zero_add] at k0 k1
  have hlt := (List.getElem?_eq_some_iff.1 hu).1
  have hfw := hq.few
  have hbl := hq.lt
  have UU := hidb (hd2_tok hts hu)
  have htu := hg u (List.mem_of_getElem? hu)
  obtain ⟨⟨cap, h6⟩, -⟩ := hq
  obtain ⟨c0, c1, -, -, -, -, -, -, -, -, -, -, gl⟩ := h6
  generalize TS.length = N at c0 hlt hfw
  obtain ⟨uk, ux, un, uf, up⟩ := u
  obtain ⟨J, hJ⟩ : ∃ J, i + 1 = J := ⟨_, rfl⟩
  have v1 : IntKind.i64.wrap ((i : Int) + 1) = (J : Int) := by rw [IntKind.wrap_i64]; omega
  have j0 : (0 : Int) ≤ (J : Int) := by omega
  have j1 : (J : Int) < (N : Int) := by omega
  rw [hJ] at k0 k1
  simp only at k0 k1
  clear hJ hlt hfw htk hu hts hg he ht0
  rw [UU.out] at hm
  have HM := hidb hm
  have HN := hidb (htg.txt (by simp))
  rw [isM_sign htu rfl, Bool.and_eq_true, decide_eq_true_eq, decide_eq_true_eq] at hm
  have d2 : (uk == 6) = true := by simp at hm ⊢; exact hm.1
  have hux : ux = ⟨#[58]⟩ := hm.2
  subst hux
  have hu6 : uk = 6 := hm.1
  subst hu6
  rw [TT.out] at hc
  have HC := hidb hc
  rw [TT.out] at hx
  simp only at hx
  subst hx
  clear hc
  clear hm htg htu
  go_big_quiet (fail)
  have hbd : Below W1.heap.size W1 (W1.drewN nq) := below_drewN (Below.refl _ _) nq
  replace H := hidb (H.out.below hbd)
  replace HX := hidb (HX.out.keep hbd)
  clear hbd x0 x1 x2 x3 x4 xl c0 c1 k0 k1
  generalize W1.drewN nq = W2 at H HX ⊢
  obtain ⟨x0, x1, x2, x3, x4, -, -, -, -, -, xl⟩ := HX.out
  go_wp2_with (first
    | (go_at_call 32; refine (sNode ⟨3, ⟨#[101, 114, 114, 111, 114]⟩, 0, 0, [], tp⟩ _ H.out.at (LR.none _ _ _ _)).mono ?_; rintro r1 w2 (⟨er, q, c, hq, rfl, hbd⟩ | ⟨c, s1, V1, hq, rfl, hs⟩) <;> first | (have HK8 := hidb (hk_of (hd_at (lay_ts hq) TT.out) (by simp)); have HK9 := hidb (hk_of (hd2_at (lay_ts hq) UU.out) (by simp)); replace HR := hidb (HR.out.trans (cls_ok TT.out UU.out (by simp) HM.out HC.out HN.out hq)); replace H := hidb (H.out.trans hs); clear hs hq) | (have HRE := hidb (HR.out.trans (cls_err TT.out UU.out (by simp) HM.out HC.out HN.out hq)); have HB : Hid (But (· = g) w2 w2) := hidb (But.refl _ _); replace H := hidb (H.out.bad hbd); clear hq hbd HR))
    | (go_at_call 29; refine (sNext H.out.at HK8.out).mono ?_; rintro r1 w2 ⟨rfl, hs⟩; replace H := hidb (H.out.trans hs); clear hs HK8)
    | (go_at_call 29; refine (sNext H.out.at HK9.out).mono ?_; rintro r1 w2 ⟨rfl, hs⟩; replace H := hidb (H.out.trans hs); clear hs HK9)
    | (go_at_call 104; refine (HE.out.run H.out.at).mono ?_; rintro r1 w2 (⟨er, q, x, hq, rfl, hbd⟩ | ⟨x, s2, V2, hq, rfl, hs⟩) <;> first | (replace H := hidb (H.out.trans hs); replace HR := hidb (HR.out.trans (Gm.bind_ok hq)); clear hs hq) | (have HRE := hidb (HR.out.trans (Gm.bind_err hq)); have HB : Hid (But (· = g) w2 w2) := hidb (But.refl _ _); replace H := hidb (H.out.bad hbd); clear hq hbd HR))
    | (go_at_call 63; refine (pClause HE.out _ [c, x] _ tp (IR.lit H.out #[iv c, iv x] [c, x] rfl (by simp)).2.at (IR.lit H.out #[iv c, iv x] [c, x] rfl (by simp)).1 (by simp)).mono ?_; rintro r1 w3 (⟨er, q, z, hq, rfl, hbd⟩ | ⟨z, s2, V2, hq, rfl, hs⟩) <;> first | (replace H := hidb ((IR.lit H.out #[iv c, iv x] [c, x] rfl (by simp)).2.trans hs).drop; replace HR := hidb (HR.out.trans hq); clear hs hq) | (have HRE := hidb (HR.out.trans hq); replace H := hidb ((IR.lit H.out #[iv c, iv x] [c, x] rfl (by simp)).2.bad hbd); clear hq hbd HR))
    | (go_at_call 32; refine (bNode _ _ _ _ _ _ H.out).mono ?_; rintro r1 w2 ⟨rfl, hd, hb⟩; replace HB := hidb (HB.out.trans hb); replace H := hidb hd; clear hb hd)
    | (go_at_call 29; refine (bNext H.out).mono ?_; rintro r1 w2 ⟨rfl, hb⟩; replace HB := hidb (HB.out.trans (But.of_below hb)); replace H := hidb (H.out.keep hb); clear hb)
    | (go_at_call 104; refine (bExpr H.out).mono ?_; rintro r1 w2 ⟨rfl, hd, hb⟩; replace HB := hidb (HB.out.trans hb); replace H := hidb hd; clear hb hd)
    | (go_at_call 63; refine (bClause _ [c, x] _ _ (lit_row w2 #[iv c, iv x] [c, x] rfl (by simp)) (lit_ng H.out 2 2) (H.out.keep (below_new _ _))).mono ?_; rintro r1 w3 ⟨rfl, hd, hb⟩; replace H := hidb hd; clear hb hd)
    | (go_at_call 63; refine (bClause _ [c, 0] _ _ (lit_row w2 #[iv c, iv 0] [c, 0] rfl (by simp)) (lit_ng H.out 2 2) (H.out.keep (below_new _ _))).mono ?_; rintro r1 w3 ⟨rfl, hd, hb⟩; replace H := hidb hd; clear hb hd)
    | (go_at_call 63; refine (bClause _ [0, 0] _ _ (lit_row w2 #[iv 0, iv 0] [0, 0] rfl (by simp)) (lit_ng H.out 2 2) (H.out.keep (below_new _ _))).mono ?_; rintro r1 w3 ⟨rfl, hd, hb⟩; replace H := hidb hd; clear hb hd))
  all_goals (
    go_ret
    first
      | exact .inr ⟨_, _, _, HR.out, rfl, H.out.drop⟩
      | exact .inl ⟨_, _, _, HRE.out, rfl, H.out⟩)

set_option maxHeartbeats 8000000 in
set_option maxRecDepth 100000 in
theorem pCaught1X (hE : EC B g b o e) {P : Nat → Prop} {w : World} {V : Value} {s : PS} (h : At B g b o P w V s) (hk : (Gm.hd s).k = 1) (hm : Gm.isM (Gm.hd2 s) ⟨#[58]⟩ = true) (hc : Gm.isClass (Gm.hd s) = true) (hx : ¬ (Gm.hd s).x = ⟨#[101, 114, 114, 111, 114]⟩ ∧ (Gm.hd s).x = ⟨#[101, 120, 105, 116]⟩) :
    Calls Tryz.prog 156 #[.pointer (some ⟨g, 0, none⟩)] w fun r w' => Rz B g b o P w V (Gm.cclause e s) r w' := by
  have H : Hid (St B g b o P w V w V s) := hidb h
  obtain ⟨R, hR⟩ : ∃ R, Gm.cclause e s = R := ⟨_, rfl⟩
  rw [hR]
  have HR := hidb hR.symm
  have HP := hidb h.plt
  have HE := hidb hE
  clear hR h hE
  have htg := H.out.tg
  have HN : Hid (Tg (Gm.hd s)) := hidb htg
  clear htg
  go_enter Tryz.func156, Tryz.ntmps156
  go_wp2_with (go_at_call 26; refine (sNow H.out).mono ?_; rintro r1 w1 ⟨⟨tk, tx, tn, tf, tp⟩, hq, rfl, hb⟩; have TT := hidb hq; replace H := hidb (H.out.below hb); clear hb hq)
  have htg := HN.out
  rw [TT.out] at htg
  clear HN
  have hsz := H.out.glt
  replace HR := hidb (HR.out.trans (Gm.bind_here TT.out))
  have HX := hidb (Box.new w1 41 (.int .i64 tk) (.string tx) (.int .i64 tn) (.float .f64 tf) (.int .i64 (tp : Int)))
  replace H := hidb (H.out.hold (.cells #[.int .i64 tk, .string tx, .int .i64 tn, .float .f64 tf, .int .i64 (tp : Int)] 41))
  generalize (w1.alloc (.cells #[.int .i64 tk, .string tx, .int .i64 tn, .float .f64 tf, .int .i64 (tp : Int)] 41)) = W1 at H HX ⊢
  generalize w1.heap.size = xb at H HX ⊢
  clear hsz
  obtain ⟨x0, x1, x2, x3, x4, -, -, -, -, -, xl⟩ := HX.out
  rw [TT.out] at hk
  simp only at hk
  subst hk
  obtain ⟨TS, i, hq, hts, hg, he⟩ := H.out.pb
  have ht0 := hd_tok hq.ilt hts
  rw [TT.out] at ht0
  obtain ⟨u, hu⟩ := hq.nextTok he ht0 (by simp)
  have htk := hq.toks
  obtain ⟨k0, k1, -, -, -⟩ := tks_at htk (i + 1) u hu
  simp only [Nat.zero_add] at k0 k1
  have hlt := (List.getElem?_eq_some_iff.1 hu).1
  have hfw := hq.few
  have hbl := hq.lt
  have UU := hidb (hd2_tok hts hu)
  have htu := hg u (List.mem_of_getElem? hu)
  obtain ⟨⟨cap, h6⟩, -⟩ := hq
  obtain ⟨c0, c1, -, -, -, -, -, -, -, -, -, -, gl⟩ := h6
  generalize TS.length = N at c0 hlt hfw
  obtain ⟨uk, ux, un, uf, up⟩ := u
  obtain ⟨J, hJ⟩ : ∃ J, i + 1 = J := ⟨_, rfl⟩
  have v1 : IntKind.i64.wrap ((i : Int) + 1) = (J : Int) := by rw [IntKind.wrap_i64]; omega
  have j0 : (0 : Int) ≤ (J : Int) := by omega
  have j1 : (J : Int) < (N : Int) := by omega
  rw [hJ] at k0 k1
  simp only at k0 k1
  clear hJ hlt hfw htk hu hts hg he ht0
  rw [UU.out] at hm
  have HM := hidb hm
  have HN := hidb (htg.txt (by simp))
  rw [isM_sign htu rfl, Bool.and_eq_true, decide_eq_true_eq, decide_eq_true_eq] at hm
  have d2 : (uk == 6) = true := by simp at hm ⊢; exact hm.1
  have hux : ux = ⟨#[58]⟩ := hm.2
  subst hux
  have hu6 : uk = 6 := hm.1
  subst hu6
  rw [TT.out] at hc
  have HC := hidb hc
  rw [TT.out] at hx
  simp only at hx
  obtain rfl := hx.2
  clear hx hc
  clear hm htg htu
  go_big_quiet (fail)
  have hbd : Below W1.heap.size W1 (W1.drewN nq) := below_drewN (Below.refl _ _) nq
  replace H := hidb (H.out.below hbd)
  replace HX := hidb (HX.out.keep hbd)
  clear hbd x0 x1 x2 x3 x4 xl c0 c1 k0 k1
  generalize W1.drewN nq = W2 at H HX ⊢
  obtain ⟨x0, x1, x2, x3, x4, -, -, -, -, -, xl⟩ := HX.out
  go_wp2_with (first
    | (go_at_call 32; refine (sNode ⟨3, ⟨#[101, 120, 105, 116]⟩, 0, 0, [], tp⟩ _ H.out.at (LR.none _ _ _ _)).mono ?_; rintro r1 w2 (⟨er, q, c, hq, rfl, hbd⟩ | ⟨c, s1, V1, hq, rfl, hs⟩) <;> first | (have HK8 := hidb (hk_of (hd_at (lay_ts hq) TT.out) (by simp)); have HK9 := hidb (hk_of (hd2_at (lay_ts hq) UU.out) (by simp)); replace HR := hidb (HR.out.trans (cls_ok TT.out UU.out (by simp) HM.out HC.out HN.out hq)); replace H := hidb (H.out.trans hs); clear hs hq) | (have HRE := hidb (HR.out.trans (cls_err TT.out UU.out (by simp) HM.out HC.out HN.out hq)); have HB : Hid (But (· = g) w2 w2) := hidb (But.refl _ _); replace H := hidb (H.out.bad hbd); clear hq hbd HR))
    | (go_at_call 29; refine (sNext H.out.at HK8.out).mono ?_; rintro r1 w2 ⟨rfl, hs⟩; replace H := hidb (H.out.trans hs); clear hs HK8)
    | (go_at_call 29; refine (sNext H.out.at HK9.out).mono ?_; rintro r1 w2 ⟨rfl, hs⟩; replace H := hidb (H.out.trans hs); clear hs HK9)
    | (go_at_call 104; refine (HE.out.run H.out.at).mono ?_; rintro r1 w2 (⟨er, q, x, hq, rfl, hbd⟩ | ⟨x, s2, V2, hq, rfl, hs⟩) <;> first | (replace H := hidb (H.out.trans hs); replace HR := hidb (HR.out.trans (Gm.bind_ok hq)); clear hs hq) | (have HRE := hidb (HR.out.trans (Gm.bind_err hq)); have HB : Hid (But (· = g) w2 w2) := hidb (But.refl _ _); replace H := hidb (H.out.bad hbd); clear hq hbd HR))
    | (go_at_call 63; refine (pClause HE.out _ [c, x] _ tp (IR.lit H.out #[iv c, iv x] [c, x] rfl (by simp)).2.at (IR.lit H.out #[iv c, iv x] [c, x] rfl (by simp)).1 (by simp)).mono ?_; rintro r1 w3 (⟨er, q, z, hq, rfl, hbd⟩ | ⟨z, s2, V2, hq, rfl, hs⟩) <;> first | (replace H := hidb ((IR.lit H.out #[iv c, iv x] [c, x] rfl (by simp)).2.trans hs).drop; replace HR := hidb (HR.out.trans hq); clear hs hq) | (have HRE := hidb (HR.out.trans hq); replace H := hidb ((IR.lit H.out #[iv c, iv x] [c, x] rfl (by simp)).2.bad hbd); clear hq hbd HR))
    | (go_at_call 32; refine (bNode _ _ _ _ _ _ H.out).mono ?_; rintro r1 w2 ⟨rfl, hd, hb⟩; replace HB := hidb (HB.out.trans hb); replace H := hidb hd; clear hb hd)
    | (go_at_call 29; refine (bNext H.out).mono ?_; rintro r1 w2 ⟨rfl, hb⟩; replace HB := hidb (HB.out.trans (But.of_below hb)); replace H := hidb (H.out.keep hb); clear hb)
    | (go_at_call 104; refine (bExpr H.out).mono ?_; rintro r1 w2 ⟨rfl, hd, hb⟩; replace HB := hidb (HB.out.trans hb); replace H := hidb hd; clear hb hd)
    | (go_at_call 63; refine (bClause _ [c, x] _ _ (lit_row w2 #[iv c, iv x] [c, x] rfl (by simp)) (lit_ng H.out 2 2) (H.out.keep (below_new _ _))).mono ?_; rintro r1 w3 ⟨rfl, hd, hb⟩; replace H := hidb hd; clear hb hd)
    | (go_at_call 63; refine (bClause _ [c, 0] _ _ (lit_row w2 #[iv c, iv 0] [c, 0] rfl (by simp)) (lit_ng H.out 2 2) (H.out.keep (below_new _ _))).mono ?_; rintro r1 w3 ⟨rfl, hd, hb⟩; replace H := hidb hd; clear hb hd)
    | (go_at_call 63; refine (bClause _ [0, 0] _ _ (lit_row w2 #[iv 0, iv 0] [0, 0] rfl (by simp)) (lit_ng H.out 2 2) (H.out.keep (below_new _ _))).mono ?_; rintro r1 w3 ⟨rfl, hd, hb⟩; replace H := hidb hd; clear hb hd))
  all_goals (
    go_ret
    first
      | exact .inr ⟨_, _, _, HR.out, rfl, H.out.drop⟩
      | exact .inl ⟨_, _, _, HRE.out, rfl, H.out⟩)

end Rf
end Go.Proofs.YthdljnakmekhkaaGreatDoor


