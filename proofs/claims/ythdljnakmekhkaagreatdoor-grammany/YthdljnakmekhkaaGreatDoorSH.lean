import Derived.Test.YthdljnakmekhkaaGreatDoorSG
namespace Go.Proofs.YthdljnakmekhkaaGreatDoor
namespace Rf
open Go.RowKit Go.Lib
attribute [local go_sem] store_float f64bits
attribute [local go_sem ↓] Go.wp_at_zero Go.wp_at_succ
attribute [local go_sem] nd_p tk_k tk_x tk_n tk_f tk_p
variable {B g b o : Nat} {e : PM Nat}
theorem hd2_tok {TS : List Tk} {i : Nat} {s : PS} {u : Tk} (hs : s.ts = TS.drop i) (hu : TS[i + 1]? = some u) : Gm.hd2 s = u := by
  have hlt := (List.getElem?_eq_some_iff.1 hu).1
  unfold Gm.hd2
  rw [hs, List.tail_drop, List.drop_eq_getElem_cons hlt]
  exact (List.getElem?_eq_some_iff.1 hu).2
theorem lit_f {a : ByteArray} {l : List UInt8} (h : ¬ a = ⟨l.toArray⟩) : (a.toList == l) = false := by
  rw [ByteArray.toList_eq]
  refine Bool.eq_false_iff.2 fun he => h ?_
  have : a.data.toList = l := by simpa using he
  cases a
  simp at this
  simp [← this]
theorem lit_F {a : ByteArray} {l : List UInt8} (h : ¬ a = ⟨l.toArray⟩) : ¬ a.toList = l := fun e => by have := lit_f h; simp [e] at this
section
variable {α : Type} {s s1 : PS} {t u : Tk} {F : Nat → PM α} {er : Int × Nat} {x : Nat}
theorem cls_err (h1 : Gm.hd s = t) (h2 : Gm.hd2 s = u) (hk : t.k = 1 ∨ t.k = 2) (hm : Gm.isM u ⟨#[58]⟩ = true) (hc : Gm.isClass t = true) (hn : t.n = 0 ∧ t.f = 0) (hl : Gm.lay ⟨Gm.leafKind t.k, t.x, 0, 0, [], t.p⟩ s = .error er) : (Gm.cls >>= F) s = .error er := by
  subst h1 h2
  apply Gm.bind_err
  show (if _ then (if _ then _ else _) else _ : PM Nat) s = _
  rw [if_pos ⟨hk, hm⟩, if_pos hc]
  apply Gm.bind_err
  show Gm.lay ⟨Gm.leafKind (Gm.hd s).k, (Gm.hd s).x, (Gm.hd s).n, (Gm.hd s).f, [], (Gm.hd s).p⟩ (Gm.cut s) = _
  rw [hn.1, hn.2]
  unfold Gm.lay at hl ⊢
  by_cases h : s.ns.length = 16384
  · rw [if_pos h] at hl
    rw [if_pos (show (Gm.cut s).ns.length = 16384 from h)]
    cases hl
    rfl
  · rw [if_neg h] at hl
    cases hl
theorem lay_ts {n : Nd} (hl : Gm.lay n s = .ok (x, s1)) : s1.ts = s.ts := by
  unfold Gm.lay at hl
  split at hl
  · cases hl
  · cases hl; rfl
theorem cls_ok (h1 : Gm.hd s = t) (h2 : Gm.hd2 s = u) (hk : t.k = 1 ∨ t.k = 2) (hm : Gm.isM u ⟨#[58]⟩ = true) (hc : Gm.isClass t = true) (hn : t.n = 0 ∧ t.f = 0) (hl : Gm.lay ⟨Gm.leafKind t.k, t.x, 0, 0, [], t.p⟩ s = .ok (x, s1)) : (Gm.cls >>= F) s = F x (Gm.cut (Gm.cut s1)) := by
  subst h1 h2
  apply Gm.bind_ok
  show (if _ then (if _ then _ else _) else _ : PM Nat) s = _
  rw [if_pos ⟨hk, hm⟩, if_pos hc]
  have h3 : Gm.leaf s = .ok (x, Gm.cut s1) := by
    show Gm.lay ⟨Gm.leafKind (Gm.hd s).k, (Gm.hd s).x, (Gm.hd s).n, (Gm.hd s).f, [], (Gm.hd s).p⟩ (Gm.cut s) = _
    rw [hn.1, hn.2]
    unfold Gm.lay at hl ⊢
    by_cases h : s.ns.length = 16384
    · rw [if_pos h] at hl; cases hl
    · rw [if_neg h] at hl
      rw [if_neg (show ¬ (Gm.cut s).ns.length = 16384 from h)]
      cases hl
      rfl
  rw [Gm.bind_ok h3]
  have h4 : Gm.hd (Gm.cut s1) = Gm.hd2 s := by
    have := lay_ts hl
    unfold Gm.hd Gm.hd2 Gm.cut
    rw [this]
  rw [Gm.bind_ok (need_t (h4 ▸ hm))]
  rfl
theorem cls_no (h1 : Gm.hd s = t) (h2 : Gm.hd2 s = u) (hk : t.k = 1 ∨ t.k = 2) (hm : Gm.isM u ⟨#[58]⟩ = true) (hc : Gm.isClass t = false) : (Gm.cls >>= F) s = .error (24, t.p) := by
  subst h1 h2
  apply Gm.bind_err
  show (if _ then (if _ then _ else _) else _ : PM Nat) s = _
  rw [if_pos ⟨hk, hm⟩, if_neg (by rw [hc]; decide)]
  rfl
theorem cls_else (h1 : Gm.hd s = t) (h2 : Gm.hd2 s = u) (h : ¬ ((t.k = 1 ∨ t.k = 2) ∧ Gm.isM u ⟨#[58]⟩ = true)) : (Gm.cls >>= F) s = (Gm.lay ⟨3, ⟨#[116, 104, 114, 111, 119]⟩, 0, 0, [], t.p⟩ >>= F) s := by
  subst h1 h2
  have : Gm.cls s = Gm.lay ⟨3, ⟨#[116, 104, 114, 111, 119]⟩, 0, 0, [], (Gm.hd s).p⟩ s := by
    show (if _ then _ else _ : PM Nat) s = _
    rw [if_neg h]
  rw [Gm.bind_at, this, Gm.bind_at]
theorem hd_at (h : s1.ts = s.ts) (h1 : Gm.hd s = t) : Gm.hd s1 = t := by unfold Gm.hd at *; rw [h]; exact h1
theorem hd2_at (h : s1.ts = s.ts) (h2 : Gm.hd2 s = u) : Gm.hd (Gm.cut s1) = u := by
  show Gm.hd2 s1 = u
  unfold Gm.hd2 at *; rw [h]; exact h2
end
set_option maxHeartbeats 8000000 in
set_option maxRecDepth 100000 in
theorem pCaughtN (hE : EC B g b o e) {P : Nat → Prop} {w : World} {V : Value} {s : PS} (h : At B g b o P w V s) (hk : ¬ ((Gm.hd s).k = 1 ∨ (Gm.hd s).k = 2)) :
    Calls Tryz.prog 156 #[.pointer (some ⟨g, 0, none⟩)] w fun r w' => Rz B g b o P w V (Gm.cclause e s) r w' := by
  have H : Hid (St B g b o P w V w V s) := hidb h
  obtain ⟨R, hR⟩ : ∃ R, Gm.cclause e s = R := ⟨_, rfl⟩
  rw [hR]
  have HR := hidb hR.symm
  have HP := hidb h.plt
  have HE := hidb hE
  clear hR h hE
  have htg := H.out.tg
  have HN : Hid (Tg (Gm.hd s)) := hidb htg
  clear htg
  go_enter Tryz.func156, Tryz.ntmps156
  go_wp2_with (go_at_call 26; refine (sNow H.out).mono ?_; rintro r1 w1 ⟨⟨tk, tx, tn, tf, tp⟩, hq, rfl, hb⟩; have TT := hidb hq; replace H := hidb (H.out.below hb); clear hb hq)
  have htg := HN.out
  rw [TT.out] at htg
  clear HN
  have hsz := H.out.glt
  replace HR := hidb (HR.out.trans (Gm.bind_here TT.out))
  have HX := hidb (Box.new w1 41 (.int .i64 tk) (.string tx) (.int .i64 tn) (.float .f64 tf) (.int .i64 (tp : Int)))
  replace H := hidb (H.out.hold (.cells #[.int .i64 tk, .string tx, .int .i64 tn, .float .f64 tf, .int .i64 (tp : Int)] 41))
  generalize (w1.alloc (.cells #[.int .i64 tk, .string tx, .int .i64 tn, .float .f64 tf, .int .i64 (tp : Int)] 41)) = W1 at H HX ⊢
  generalize w1.heap.size = xb at H HX ⊢
  clear hsz
  obtain ⟨x0, x1, x2, x3, x4, -, -, -, -, -, xl⟩ := HX.out
  rw [TT.out] at hk
  replace HR := hidb (HR.out.trans (cls_else TT.out rfl (fun h => hk h.1)))
  have d1 : (tk == 1) = false := by simp at hk ⊢; omega
  have d2 : (tk == 2) = false := by simp at hk ⊢; omega
  clear hk htg
  skip
  go_big_quiet (fail)
  have hbd : Below W1.heap.size W1 (W1.drewN nq) := below_drewN (Below.refl _ _) nq
  replace H := hidb (H.out.below hbd)
  replace HX := hidb (HX.out.keep hbd)
  clear hbd x0 x1 x2 x3 x4 xl
  generalize W1.drewN nq = W2 at H HX ⊢
  obtain ⟨x0, x1, x2, x3, x4, -, -, -, -, -, xl⟩ := HX.out
  go_wp2_with (first
    | (go_at_call 32; refine (sNode ⟨3, ⟨#[116, 104, 114, 111, 119]⟩, 0, 0, [], tp⟩ _ H.out.at (LR.none _ _ _ _)).mono ?_; rintro r1 w2 (⟨er, q, c, hq, rfl, hbd⟩ | ⟨c, s1, V1, hq, rfl, hs⟩) <;> first | (replace HR := hidb (HR.out.trans (Gm.bind_ok hq)); replace H := hidb (H.out.trans hs); clear hs hq) | (have HRE := hidb (HR.out.trans (Gm.bind_err hq)); have HB : Hid (But (· = g) w2 w2) := hidb (But.refl _ _); replace H := hidb (H.out.bad hbd); clear hq hbd HR))
    | (go_at_call 104; refine (HE.out.run H.out.at).mono ?_; rintro r1 w2 (⟨er, q, x, hq, rfl, hbd⟩ | ⟨x, s2, V2, hq, rfl, hs⟩) <;> first | (replace H := hidb (H.out.trans hs); replace HR := hidb (HR.out.trans (Gm.bind_ok hq)); clear hs hq) | (have HRE := hidb (HR.out.trans (Gm.bind_err hq)); have HB : Hid (But (· = g) w2 w2) := hidb (But.refl _ _); replace H := hidb (H.out.bad hbd); clear hq hbd HR))
    | (go_at_call 63; refine (pClause HE.out _ [c, x] _ tp (IR.lit H.out #[iv c, iv x] [c, x] rfl (by simp)).2.at (IR.lit H.out #[iv c, iv x] [c, x] rfl (by simp)).1 (by simp)).mono ?_; rintro r1 w3 (⟨er, q, z, hq, rfl, hbd⟩ | ⟨z, s2, V2, hq, rfl, hs⟩) <;> first | (replace H := hidb ((IR.lit H.out #[iv c, iv x] [c, x] rfl (by simp)).2.trans hs).drop; replace HR := hidb (HR.out.trans hq); clear hs hq) | (have HRE := hidb (HR.out.trans hq); replace H := hidb ((IR.lit H.out #[iv c, iv x] [c, x] rfl (by simp)).2.bad hbd); clear hq hbd HR))
    | (go_at_call 32; refine (bNode _ _ _ _ _ _ H.out).mono ?_; rintro r1 w2 ⟨rfl, hd, hb⟩; replace HB := hidb (HB.out.trans hb); replace H := hidb hd; clear hb hd)
    | (go_at_call 29; refine (bNext H.out).mono ?_; rintro r1 w2 ⟨rfl, hb⟩; replace HB := hidb (HB.out.trans (But.of_below hb)); replace H := hidb (H.out.keep hb); clear hb)
    | (go_at_call 104; refine (bExpr H.out).mono ?_; rintro r1 w2 ⟨rfl, hd, hb⟩; replace HB := hidb (HB.out.trans hb); replace H := hidb hd; clear hb hd)
    | (go_at_call 63; refine (bClause _ [c, x] _ _ (lit_row w2 #[iv c, iv x] [c, x] rfl (by simp)) (lit_ng H.out 2 2) (H.out.keep (below_new _ _))).mono ?_; rintro r1 w3 ⟨rfl, hd, hb⟩; replace H := hidb hd; clear hb hd)
    | (go_at_call 63; refine (bClause _ [c, 0] _ _ (lit_row w2 #[iv c, iv 0] [c, 0] rfl (by simp)) (lit_ng H.out 2 2) (H.out.keep (below_new _ _))).mono ?_; rintro r1 w3 ⟨rfl, hd, hb⟩; replace H := hidb hd; clear hb hd)
    | (go_at_call 63; refine (bClause _ [0, 0] _ _ (lit_row w2 #[iv 0, iv 0] [0, 0] rfl (by simp)) (lit_ng H.out 2 2) (H.out.keep (below_new _ _))).mono ?_; rintro r1 w3 ⟨rfl, hd, hb⟩; replace H := hidb hd; clear hb hd))
  all_goals (
    go_ret
    first
      | exact .inr ⟨_, _, _, HR.out, rfl, H.out.drop⟩
      | exact .inl ⟨_, _, _, HRE.out, rfl, H.out⟩)
end Rf
end Go.Proofs.YthdljnakmekhkaaGreatDoor
