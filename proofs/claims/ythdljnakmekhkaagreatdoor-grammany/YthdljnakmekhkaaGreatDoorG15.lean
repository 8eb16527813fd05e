import Derived.Test.YthdljnakmekhkaaGreatDoorG14
import Derived.Test.YthdljnakmekhkaaGreatDoorG11
/- The reference's parser: clauses of one pattern, of a fun. -/
namespace Go.Proofs.YthdljnakmekhkaaGreatDoor
namespace Rf
open Go.RowKit Go.Lib
attribute [local go_sem] store_float f64bits
attribute [local go_sem ↓] Go.wp_at_zero Go.wp_at_succ
attribute [local go_sem] nd_p tk_k tk_x tk_n tk_f tk_p
variable {B g b o : Nat} {e : PM Nat}

set_option maxHeartbeats 4000000 in
set_option maxRecDepth 100000 in
theorem pOne (hE : EC B g b o e) {P : Nat → Prop} {w : World} {V : Value} {s : PS} (h : At B g b o P w V s) :
    Calls Tryz.prog 154 #[.pointer (some ⟨g, 0, none⟩)] w fun r w' => Rz B g b o P w V (Gm.clause e s) r w' := by
  have H : Hid (St B g b o P w V w V s) := hidb h
  obtain ⟨R, hR⟩ : ∃ R, Gm.clause e s = R := ⟨_, rfl⟩
  rw [hR]
  have HR := hidb hR.symm
  clear hR
  have HP := hidb h.plt
  have HE := hidb hE
  clear hE
  clear h
  go_enter Tryz.func154, Tryz.ntmps154
  go_wp2_with (first
    | (go_at_call 26; refine (sNow H.out).mono ?_; rintro r1 w1 ⟨t, hq, rfl, hb⟩; replace H := hidb (H.out.below hb); replace HR := hidb (HR.out.trans (Gm.bind_here hq)); have Tt := hidb hq; clear hb hq)
    | (go_at_call 104; refine (HE.out.run H.out.at).mono ?_; rintro r1 w1 (⟨er, q, x, hq, rfl, hbd⟩ | ⟨x, s1, V1, hq, rfl, hs⟩) <;> first | (replace H := hidb (H.out.trans hs); replace HR := hidb (HR.out.trans (Gm.bind_ok hq)); clear hs hq) | (have HRE := hidb (HR.out.trans (Gm.bind_err hq)); have HB : Hid (But (· = g) w1 w1) := hidb (But.refl _ _); replace H := hidb (H.out.bad hbd); clear hq hbd HR))
    | (go_at_call 63; refine (pClause HE.out _ [x] _ t.p (IR.lit H.out #[iv x] [x] rfl (by simp)).2.at (IR.lit H.out #[iv x] [x] rfl (by simp)).1 (by simp)).mono ?_; rintro r1 w2 (⟨er, q, z, hq, rfl, hbd⟩ | ⟨z, s2, V2, hq, rfl, hs⟩) <;> first | (replace H := hidb ((IR.lit H.out #[iv x] [x] rfl (by simp)).2.trans hs).drop; replace HR := hidb (HR.out.trans hq); clear hs hq) | (have HRE := hidb (HR.out.trans hq); replace H := hidb ((IR.lit H.out #[iv x] [x] rfl (by simp)).2.bad hbd); clear hq hbd HR))
    | (go_at_call 63; refine (bClause _ [x] _ _ (lit_row w1 #[iv x] [x] rfl (by simp)) (lit_ng H.out 1 1) (H.out.keep (below_new _ _))).mono ?_; rintro r1 w2 ⟨rfl, hd, hb⟩; replace H := hidb hd; clear hb hd))
  all_goals (
    go_ret
    first
      | exact .inr ⟨_, _, _, HR.out, rfl, H.out⟩
      | exact .inl ⟨_, _, _, HRE.out, rfl, H.out⟩)

theorem pMaybeT (hE : EC B g b o e) {x : ByteArray} (hx : lowB x = false) {P : Nat → Prop} {w : World} {V : Value} {s : PS} (h : At B g b o P w V s) : Calls Tryz.prog 62 #[.pointer (some ⟨g, 0, none⟩), .string x, .bool true] w fun r w' => RzL B g b o P w V (maybeP e x 16 s) r w' := pMaybe hE hx true h
theorem pMaybeF (hE : EC B g b o e) {x : ByteArray} (hx : lowB x = false) {P : Nat → Prop} {w : World} {V : Value} {s : PS} (h : At B g b o P w V s) : Calls Tryz.prog 62 #[.pointer (some ⟨g, 0, none⟩), .string x, .bool false] w fun r w' => RzL B g b o P w V (maybeP e x Gm.noBound s) r w' := pMaybe hE hx false h
theorem gclause_is (e : PM Nat) (s : PS) : Gm.gclause e s = (Gm.here >>= fun t => Gm.need ⟨#[40]⟩ >>= fun _ => maybeP e ⟨#[41]⟩ 16 >>= fun l => Gm.tail e t.p ⟨#[]⟩ l) s := by
  show ((Gm.need ⟨#[40]⟩ >>= fun _ => maybeP e ⟨#[41]⟩ 16) >>= fun l => Gm.tail e (Gm.hd s).p ⟨#[]⟩ l) s = (Gm.need ⟨#[40]⟩ >>= fun _ => maybeP e ⟨#[41]⟩ 16 >>= fun l => Gm.tail e (Gm.hd s).p ⟨#[]⟩ l) s
  rw [Gm.assoc]

set_option maxHeartbeats 4000000 in
set_option maxRecDepth 100000 in
theorem pMany (hE : EC B g b o e) {P : Nat → Prop} {w : World} {V : Value} {s : PS} (h : At B g b o P w V s) :
    Calls Tryz.prog 155 #[.pointer (some ⟨g, 0, none⟩)] w fun r w' => Rz B g b o P w V (Gm.gclause e s) r w' := by
  have H : Hid (St B g b o P w V w V s) := hidb h
  obtain ⟨R, hR⟩ : ∃ R, Gm.gclause e s = R := ⟨_, rfl⟩
  rw [hR]
  have HR := hidb hR.symm
  clear hR
  have HP := hidb h.plt
  have HE := hidb hE
  clear hE
  replace HR := hidb (HR.out.trans (gclause_is e s))
  clear h
  go_enter Tryz.func155, Tryz.ntmps155
  go_wp2_with (first
    | (go_at_call 26; refine (sNow H.out).mono ?_; rintro r1 w1 ⟨t, hq, rfl, hb⟩; replace H := hidb (H.out.below hb); replace HR := hidb (HR.out.trans (Gm.bind_here hq)); have Tt := hidb hq; clear hb hq)
    | (go_at_call 27; refine (sWant (by first | exact .inl ⟨rfl, rfl⟩ | exact .inr ⟨rfl, rfl⟩) H.out.at).mono ?_; rintro r1 w1 (⟨er, q, hq, rfl, hbd⟩ | ⟨s1, hq, rfl, hs⟩) <;> first | (replace H := hidb (H.out.trans hs); replace HR := hidb (HR.out.trans (Gm.bind_ok hq)); clear hs hq) | (have HRE := hidb (HR.out.trans (Gm.bind_err hq)); have HB : Hid (But (· = g) w1 w1) := hidb (But.refl _ _); replace H := hidb (H.out.bad hbd); clear hq hbd HR))
    | (go_at_call 62; refine (pMaybeT HE.out (x := ⟨#[41]⟩) rfl H.out.at).mono ?_; rintro r1 w1 (⟨er, q, v, l, hq, rfl, hw, hng, hbd⟩ | ⟨l, s1, V1, v, hq, rfl, hs, hs2, hi, hlen⟩) <;> first | (obtain ⟨la, lc, rfl⟩ := hi.sl; have HI := hidb (hi.rebase H.out.but.size); have HN := hidb hlen; replace H := hidb (H.out.trans hs2); replace HR := hidb (HR.out.trans (Gm.bind_ok hq)); clear hs hs2 hi hq hlen) | (obtain ⟨la, lc, rfl⟩ := own_sl hw.1; have HRE := hidb (HR.out.trans (Gm.bind_err hq)); have HW := hidb (RB.base hw H.out.but.size); have HNG := hidb hng; have HB : Hid (But (· = g) w1 w1) := hidb (But.refl _ _); replace H := hidb (H.out.bad hbd); clear hq hbd hw hng HR))
    | (go_at_call 63; refine (pClause HE.out _ l _ t.p H.out.at HI.out HN.out).mono ?_; rintro r1 w2 (⟨er, q, z, hq, rfl, hbd⟩ | ⟨z, s2, V2, hq, rfl, hs⟩) <;> first | (replace H := hidb (H.out.trans hs).drop; replace HR := hidb (HR.out.trans hq); clear hs hq) | (have HRE := hidb (HR.out.trans hq); replace H := hidb (H.out.bad hbd); clear hq hbd HR))
    | (go_at_call 27; refine (bWant _ _ H.out).mono ?_; rintro r1 w1 ⟨rfl, hd, hb⟩; replace HB := hidb (HB.out.trans hb); replace H := hidb hd; clear hb hd)
    | (go_at_call 62; refine (bMaybe _ _ H.out).mono ?_; rintro r1 w1 ⟨va, vc, rfl, hr, hd, hb⟩; have HNG := hidb (fun e => by have := RB.low hr g e; have := H.out.glt; omega : (Value.slice va 1 vc).ownBlock ≠ some g); have HW := hidb hr; replace H := hidb hd; clear hr hb hd)
    | (go_at_call 63; refine (bClause _ _ _ _ HW.out HNG.out H.out).mono ?_; rintro r1 w2 ⟨rfl, hd, hb⟩; replace H := hidb hd; clear hb hd))
  all_goals (
    go_ret
    first
      | exact .inr ⟨_, _, _, HR.out, rfl, H.out⟩
      | exact .inl ⟨_, _, _, HRE.out, rfl, H.out⟩)

end Rf
end Go.Proofs.YthdljnakmekhkaaGreatDoor


/- The reference's parser: clauses. -/
namespace Go.Proofs.YthdljnakmekhkaaGreatDoor
namespace Rf
open Go.RowKit Go.Lib
attribute [local go_sem] store_float f64bits
attribute [local go_sem ↓] Go.wp_at_zero Go.wp_at_succ
attribute [local go_sem] nd_p tk_k tk_x tk_n tk_f tk_p
variable {B g b o : Nat} {e : PM Nat}

set_option maxHeartbeats 8000000 in
set_option maxRecDepth 100000 in
theorem pClauses1 (hE : EC B g b o e) {P : Nat → Prop} {w : World} {V : Value} {s : PS} (h : At B g b o P w V s) :
    Calls Tryz.prog 148 #[.pointer (some ⟨g, 0, none⟩), .int .i64 1] w fun r w' => Rz B g b o P w V (Gm.clauses (Gm.clause e) s) r w' := by
  obtain ⟨i0, hi0, hz0, hz1, hz2⟩ := info_parts (P := Tryz.prog) (e := IT) (z := .int .i64 0) (size := 1) (bytes := 8) (by kernel_rfl)
  have H : Hid (St B g b o P w V w V s) := hidb h
  have HE := hidb hE
  have HP := hidb h.plt
  obtain ⟨R, hR⟩ : ∃ R, Gm.clauses (Gm.clause e) s = R := ⟨_, rfl⟩
  rw [hR]
  have HR := hidb hR.symm
  have htl := h.tl
  have HGB := hidb (And.intro h.glt h.blt)
  clear hR h hE
  go_enter Tryz.func148, Tryz.ntmps148
  go_wp2_with (first
    | (go_at_call 26; refine (sNow H.out).mono ?_; rintro r1 w1 ⟨t, hq, rfl, hb⟩; replace H := hidb (H.out.below hb); replace HR := hidb (HR.out.trans (Gm.bind_here hq)); have Tt := hidb hq; clear hb hq))
  have H0 : Hid (St B g b o (PV P (.slice none 0 0)) w V w1 V s) := hidb (H.out.more (fun k hk => by simp [Value.ownBlock] at hk) (H.out.ns.newer (fun k hk => by simp [Value.ownBlock] at hk)))
  go_loopg [6] s.ts.length (fun gf s5 wx => ∃ (l : List Nat) (sx : PS) (Vx : Value) (a : Option Addr) (c : Nat) (F : Nat → PM Nat), s5 = .slice a l.length c ∧ St B g b o (PV P (.slice a l.length c)) w V wx Vx sx ∧ IR wx w.heap.size g b Vx (.slice a l.length c) l ∧ R = ((Gm.clause e) >>= F) sx ∧ (∀ x s1, s1.ts.length ≤ sx.ts.length → ∃ k, s1.ts.length ≤ k ∧ F x s1 = (Gm.moreC (Gm.clause e) k (l ++ [x]) >>= fun l => Gm.lay ⟨20, ⟨#[]⟩, 0, 0, l, t.p⟩) s1) ∧ sx.ts.length ≤ gf ∧ l.length + sx.ts.length ≤ 100001)
  case atStart => exact ⟨[], s, V, none, 0, fun x => Gm.left >>= fun k => Gm.moreC (Gm.clause e) k [x] >>= fun l => Gm.lay ⟨20, ⟨#[]⟩, 0, 0, l, t.p⟩, rfl, H0.out, IR.none _ _ _ _ _, HR.out, fun x s1 _ => ⟨s1.ts.length, Nat.le_refl _, rfl⟩, Nat.le_refl _, by simp; omega⟩
  case round =>
    obtain ⟨l, sx, Vx, a, c, F, hs5, hst, hir, hmore, hF, hgf, hll⟩ := hrel
    subst hs5
    clear HR H H0
    have hpos := ne_pos hst.ne
    obtain ⟨g', rfl⟩ : ∃ g', gk = g' + 1 := ⟨gk - 1, by omega⟩
    have H := hidb hst
    have HI := hidb hir
    have HR := hidb hmore
    have HFF := hidb hF
    have hc1 : l.length + 1 ≤ maxLen := by unfold maxLen; omega
    have hc2 : (l.length + 1) * 8 ≤ 140737488355328 := by omega
    have hlb : l.length ≤ 100002 := by omega
    have hgl : g < w.heap.size := HGB.out.1
    have hbl : b < w.heap.size := HGB.out.2
    clear hst hir hmore hF
    go_wp2_with (first
      | (go_at_call 154; refine (pOne HE.out H.out.at).mono ?_; rintro r1 w1 (⟨er, q, x, hq, rfl, hbd⟩ | ⟨x, s1, V1, hq, rfl, hs⟩) <;> first | (have HF := hidb ((Gm.all_clause HE.out.all) _ H.out.ne _ _ hq).1; replace H := hidb (H.out.trans hs); replace HI := hidb (HI.out.step hs); replace HR := hidb (HR.out.trans (Gm.bind_ok hq)); clear hs hq) | (have HRE := hidb (HR.out.trans (Gm.bind_err hq)); have HW := hidb (HI.out.badrow hlb hbd); replace H := hidb (H.out.bad hbd); clear hq hbd HR))
      | (at_builtin; refine wpList_append_own_at _ rfl _ _ 44 rfl w.heap.size IT i0 (.int .i64 0) 1 8 Tryz.underlying44 hi0 hz0 hz1 hz2 rfl (by decide) _ _ _ rfl (HI.out.own.alloc _) ⟨w1.heap.size, 0, none⟩ 1 1 [iv x] rfl rfl ?_ ?_ ?_ ?_ ?_ ?_)
      | (at_builtin; refine wpList_append_own_at _ rfl _ _ 44 rfl w.heap.size IT i0 (.int .i64 0) 1 8 Tryz.underlying44 hi0 hz0 hz1 hz2 rfl (by decide) _ _ _ rfl (HW.out.1.alloc _) ⟨w1.heap.size, 0, none⟩ 1 1 [iv x] rfl rfl ?_ ?_ ?_ ?_ ?_ ?_))
    all_goals first
      | (intro q u hq; exact app_ints _ _ _ rfl q u hq)
      | (intro u hu; cases List.mem_singleton.1 hu; rfl)
      | exact hc1
      | exact hc2
      | (have := H.out.but.size; simp; omega)
      | skip
    · intro v' w3 hown hgrow hnil hat
      obtain ⟨j1, j2, j3⟩ := RB.app (xs := [x]) H.out hgl hbl HW.out hgrow hown (by simp; omega)
      obtain ⟨a', c', rfl⟩ := own_sl j1.1
      replace H := hidb j2
      have HB : Hid (But (· = g) w3 w3) := hidb (But.refl _ _)
      clear j1 j2 j3 hown hgrow hnil hat
      go_wp2_with (first
        | (go_at_call 64; refine (bSign _ H.out).mono ?_; rintro r1 w1 ⟨rfl, hb⟩; replace HB := hidb (HB.out.trans (But.of_below hb)); replace H := hidb (H.out.keep hb); clear hb)
        | (go_at_call 32; refine (bNode _ _ _ _ _ _ H.out).mono ?_; rintro r1 w1 ⟨rfl, hd, hb⟩; replace HB := hidb (HB.out.trans hb); replace H := hidb hd; clear hb hd))
      go_ret
      exact .inl ⟨_, _, _, HRE.out, rfl, H.out⟩
    · intro v' w3 hown hgrow hnil hat
      obtain ⟨j1, j2⟩ := IR.app (xs := [x]) H.out HI.out hgrow hat hown
      obtain ⟨a', c', rfl⟩ : ∃ a' c', v' = .slice a' (l.length + 1) c' := by obtain ⟨a', c', h⟩ := j1.sl; exact ⟨a', c', by simpa using h⟩
      replace HI := hidb j1
      replace H := hidb j2
      clear j1 j2 hown hgrow hnil hat
      obtain ⟨k, hk, hm⟩ := HFF.out x s1 HF.out.len
      have hp1 := ne_pos H.out.ne
      obtain ⟨k', rfl⟩ : ∃ k', k = k' + 1 := ⟨k - 1, by omega⟩
      replace HR := hidb ((HR.out.trans hm).trans (Gm.assoc _ _ _ _))
      have hlen := HF.out.len
      clear hm
      go_wp2_with (first
        | (go_at_call 64; refine (sSign (x := ⟨#[59]⟩) rfl H.out).mono ?_; rintro r1 w4 ⟨⟨hq, rfl⟩ | ⟨hq, rfl⟩, hb⟩ <;> first | (have HT : Hid (Gm.isM (Gm.hd s1) ⟨#[59]⟩ = true) := hidb hq; replace HI := hidb (HI.out.below hb); replace H := hidb (H.out.below hb); replace HR := hidb ((HR.out.trans (Gm.bind_ok (take_t hq))).trans (Gm.assoc _ _ _ _)); clear hb hq) | (replace HI := hidb (HI.out.below hb); replace H := hidb (H.out.below hb); replace HR := hidb (HR.out.trans (Gm.bind_ok (take_f hq))); clear hb hq))
        | (go_at_call 29; refine (sNext H.out.at (Gm.isM_k HT.out)).mono ?_; rintro r1 w5 ⟨rfl, hs⟩; have HC := hidb (cut_len H.out.ne); replace H := hidb (H.out.trans hs); replace HI := hidb (HI.out.step hs); clear hs)
        | (go_at_call 32; refine (sNodeR (n := ⟨20, ⟨#[]⟩, 0, 0, l ++ [x], t.p⟩) HR.out H.out.drop.at (HI.out.lr HP.out)).mono ?_; rintro r1 w6 (⟨er, q, z, hq, rfl, hbd⟩ | ⟨z, s2, V2, hq, rfl, hs⟩) <;> first | (replace H := hidb (H.out.drop.trans hs); replace HR := hidb hq; clear hs hq) | (have HRE := hidb hq; replace H := hidb (H.out.drop.bad hbd); clear hq hbd HR)))
      all_goals first
        | (go_roundg g'
           case measure => omega
           case rel => exact ⟨l ++ [x], Gm.cut s1, V1, a', c', fun y => Gm.moreC _ k' (l ++ [x] ++ [y]) >>= fun l => Gm.lay ⟨20, ⟨#[]⟩, 0, 0, l, t.p⟩, by simp, by simpa using H.out, by simpa using HI.out, HR.out, fun y s2 h2 => ⟨k', by have := HC.out; omega, rfl⟩, by have := HC.out; omega, by have := HC.out; simp; omega⟩)
        | (go_ret
           first
             | exact .inr ⟨_, _, _, HR.out, rfl, H.out⟩
             | exact .inl ⟨_, _, _, HRE.out, rfl, H.out⟩)

set_option maxHeartbeats 8000000 in
set_option maxRecDepth 100000 in
theorem pClauses2 (hE : EC B g b o e) {P : Nat → Prop} {w : World} {V : Value} {s : PS} (h : At B g b o P w V s) :
    Calls Tryz.prog 148 #[.pointer (some ⟨g, 0, none⟩), .int .i64 2] w fun r w' => Rz B g b o P w V (Gm.clauses (Gm.gclause e) s) r w' := by
  obtain ⟨i0, hi0, hz0, hz1, hz2⟩ := info_parts (P := Tryz.prog) (e := IT) (z := .int .i64 0) (size := 1) (bytes := 8) (by kernel_rfl)
  have H : Hid (St B g b o P w V w V s) := hidb h
  have HE := hidb hE
  have HP := hidb h.plt
  obtain ⟨R, hR⟩ : ∃ R, Gm.clauses (Gm.gclause e) s = R := ⟨_, rfl⟩
  rw [hR]
  have HR := hidb hR.symm
  have htl := h.tl
  have HGB := hidb (And.intro h.glt h.blt)
  clear hR h hE
  go_enter Tryz.func148, Tryz.ntmps148
  go_wp2_with (first
    | (go_at_call 26; refine (sNow H.out).mono ?_; rintro r1 w1 ⟨t, hq, rfl, hb⟩; replace H := hidb (H.out.below hb); replace HR := hidb (HR.out.trans (Gm.bind_here hq)); have Tt := hidb hq; clear hb hq))
  have H0 : Hid (St B g b o (PV P (.slice none 0 0)) w V w1 V s) := hidb (H.out.more (fun k hk => by simp [Value.ownBlock] at hk) (H.out.ns.newer (fun k hk => by simp [Value.ownBlock] at hk)))
  go_loopg [6] s.ts.length (fun gf s5 wx => ∃ (l : List Nat) (sx : PS) (Vx : Value) (a : Option Addr) (c : Nat) (F : Nat → PM Nat), s5 = .slice a l.length c ∧ St B g b o (PV P (.slice a l.length c)) w V wx Vx sx ∧ IR wx w.heap.size g b Vx (.slice a l.length c) l ∧ R = ((Gm.gclause e) >>= F) sx ∧ (∀ x s1, s1.ts.length ≤ sx.ts.length → ∃ k, s1.ts.length ≤ k ∧ F x s1 = (Gm.moreC (Gm.gclause e) k (l ++ [x]) >>= fun l => Gm.lay ⟨20, ⟨#[]⟩, 0, 0, l, t.p⟩) s1) ∧ sx.ts.length ≤ gf ∧ l.length + sx.ts.length ≤ 100001)
  case atStart => exact ⟨[], s, V, none, 0, fun x => Gm.left >>= fun k => Gm.moreC (Gm.gclause e) k [x] >>= fun l => Gm.lay ⟨20, ⟨#[]⟩, 0, 0, l, t.p⟩, rfl, H0.out, IR.none _ _ _ _ _, HR.out, fun x s1 _ => ⟨s1.ts.length, Nat.le_refl _, rfl⟩, Nat.le_refl _, by simp; omega⟩
  case round =>
    obtain ⟨l, sx, Vx, a, c, F, hs5, hst, hir, hmore, hF, hgf, hll⟩ := hrel
    subst hs5
    clear HR H H0
    have hpos := ne_pos hst.ne
    obtain ⟨g', rfl⟩ : ∃ g', gk = g' + 1 := ⟨gk - 1, by omega⟩
    have H := hidb hst
    have HI := hidb hir
    have HR := hidb hmore
    have HFF := hidb hF
    have hc1 : l.length + 1 ≤ maxLen := by unfold maxLen; omega
    have hc2 : (l.length + 1) * 8 ≤ 140737488355328 := by omega
    have hlb : l.length ≤ 100002 := by omega
    have hgl : g < w.heap.size := HGB.out.1
    have hbl : b < w.heap.size := HGB.out.2
    clear hst hir hmore hF
    go_wp2_with (first
      | (go_at_call 155; refine (pMany HE.out H.out.at).mono ?_; rintro r1 w1 (⟨er, q, x, hq, rfl, hbd⟩ | ⟨x, s1, V1, hq, rfl, hs⟩) <;> first | (have HF := hidb ((Gm.all_gclause HE.out.all) _ H.out.ne _ _ hq).1; replace H := hidb (H.out.trans hs); replace HI := hidb (HI.out.step hs); replace HR := hidb (HR.out.trans (Gm.bind_ok hq)); clear hs hq) | (have HRE := hidb (HR.out.trans (Gm.bind_err hq)); have HW := hidb (HI.out.badrow hlb hbd); replace H := hidb (H.out.bad hbd); clear hq hbd HR))
      | (at_builtin; refine wpList_append_own_at _ rfl _ _ 44 rfl w.heap.size IT i0 (.int .i64 0) 1 8 Tryz.underlying44 hi0 hz0 hz1 hz2 rfl (by decide) _ _ _ rfl (HI.out.own.alloc _) ⟨w1.heap.size, 0, none⟩ 1 1 [iv x] rfl rfl ?_ ?_ ?_ ?_ ?_ ?_)
      | (at_builtin; refine wpList_append_own_at _ rfl _ _ 44 rfl w.heap.size IT i0 (.int .i64 0) 1 8 Tryz.underlying44 hi0 hz0 hz1 hz2 rfl (by decide) _ _ _ rfl (HW.out.1.alloc _) ⟨w1.heap.size, 0, none⟩ 1 1 [iv x] rfl rfl ?_ ?_ ?_ ?_ ?_ ?_))
    all_goals first
      | (intro q u hq; exact app_ints _ _ _ rfl q u hq)
      | (intro u hu; cases List.mem_singleton.1 hu; rfl)
      | exact hc1
      | exact hc2
      | (have := H.out.but.size; simp; omega)
      | skip
    · intro v' w3 hown hgrow hnil hat
      obtain ⟨j1, j2, j3⟩ := RB.app (xs := [x]) H.out hgl hbl HW.out hgrow hown (by simp; omega)
      obtain ⟨a', c', rfl⟩ := own_sl j1.1
      replace H := hidb j2
      have HB : Hid (But (· = g) w3 w3) := hidb (But.refl _ _)
      clear j1 j2 j3 hown hgrow hnil hat
      go_wp2_with (first
        | (go_at_call 64; refine (bSign _ H.out).mono ?_; rintro r1 w1 ⟨rfl, hb⟩; replace HB := hidb (HB.out.trans (But.of_below hb)); replace H := hidb (H.out.keep hb); clear hb)
        | (go_at_call 32; refine (bNode _ _ _ _ _ _ H.out).mono ?_; rintro r1 w1 ⟨rfl, hd, hb⟩; replace HB := hidb (HB.out.trans hb); replace H := hidb hd; clear hb hd))
      go_ret
      exact .inl ⟨_, _, _, HRE.out, rfl, H.out⟩
    · intro v' w3 hown hgrow hnil hat
      obtain ⟨j1, j2⟩ := IR.app (xs := [x]) H.out HI.out hgrow hat hown
      obtain ⟨a', c', rfl⟩ : ∃ a' c', v' = .slice a' (l.length + 1) c' := by obtain ⟨a', c', h⟩ := j1.sl; exact ⟨a', c', by simpa using h⟩
      replace HI := hidb j1
      replace H := hidb j2
      clear j1 j2 hown hgrow hnil hat
      obtain ⟨k, hk, hm⟩ := HFF.out x s1 HF.out.len
      have hp1 := ne_pos H.out.ne
      obtain ⟨k', rfl⟩ : ∃ k', k = k' + 1 := ⟨k - 1, by omega⟩
      replace HR := hidb ((HR.out.trans hm).trans (Gm.assoc _ _ _ _))
      have hlen := HF.out.len
      clear hm
      go_wp2_with (first
        | (go_at_call 64; refine (sSign (x := ⟨#[59]⟩) rfl H.out).mono ?_; rintro r1 w4 ⟨⟨hq, rfl⟩ | ⟨hq, rfl⟩, hb⟩ <;> first | (have HT : Hid (Gm.isM (Gm.hd s1) ⟨#[59]⟩ = true) := hidb hq; replace HI := hidb (HI.out.below hb); replace H := hidb (H.out.below hb); replace HR := hidb ((HR.out.trans (Gm.bind_ok (take_t hq))).trans (Gm.assoc _ _ _ _)); clear hb hq) | (replace HI := hidb (HI.out.below hb); replace H := hidb (H.out.below hb); replace HR := hidb (HR.out.trans (Gm.bind_ok (take_f hq))); clear hb hq))
        | (go_at_call 29; refine (sNext H.out.at (Gm.isM_k HT.out)).mono ?_; rintro r1 w5 ⟨rfl, hs⟩; have HC := hidb (cut_len H.out.ne); replace H := hidb (H.out.trans hs); replace HI := hidb (HI.out.step hs); clear hs)
        | (go_at_call 32; refine (sNodeR (n := ⟨20, ⟨#[]⟩, 0, 0, l ++ [x], t.p⟩) HR.out H.out.drop.at (HI.out.lr HP.out)).mono ?_; rintro r1 w6 (⟨er, q, z, hq, rfl, hbd⟩ | ⟨z, s2, V2, hq, rfl, hs⟩) <;> first | (replace H := hidb (H.out.drop.trans hs); replace HR := hidb hq; clear hs hq) | (have HRE := hidb hq; replace H := hidb (H.out.drop.bad hbd); clear hq hbd HR)))
      all_goals first
        | (go_roundg g'
           case measure => omega
           case rel => exact ⟨l ++ [x], Gm.cut s1, V1, a', c', fun y => Gm.moreC _ k' (l ++ [x] ++ [y]) >>= fun l => Gm.lay ⟨20, ⟨#[]⟩, 0, 0, l, t.p⟩, by simp, by simpa using H.out, by simpa using HI.out, HR.out, fun y s2 h2 => ⟨k', by have := HC.out; omega, rfl⟩, by have := HC.out; omega, by have := HC.out; simp; omega⟩)
        | (go_ret
           first
             | exact .inr ⟨_, _, _, HR.out, rfl, H.out⟩
             | exact .inl ⟨_, _, _, HRE.out, rfl, H.out⟩)

end Rf
end Go.Proofs.YthdljnakmekhkaaGreatDoor


/- The reference's parser: products, sums. -/
namespace Go.Proofs.YthdljnakmekhkaaGreatDoor
namespace Rf
open Go.RowKit Go.Lib
attribute [local go_sem] store_float f64bits
attribute [local go_sem ↓] Go.wp_at_zero Go.wp_at_succ
attribute [local go_sem] nd_p tk_k tk_x tk_n tk_f tk_p
variable {B g b o : Nat} {e : PM Nat}

set_option maxHeartbeats 8000000 in
set_option maxRecDepth 100000 in
theorem pMul (hE : EC B g b o e) (hU : ∀ {P : Nat → Prop} {w : World} {V : Value} {s : PS}, At B g b o P w V s → Calls Tryz.prog 139 #[.pointer (some ⟨g, 0, none⟩)] w fun r w' => Rz B g b o P w V (Gm.unary e s) r w') {P : Nat → Prop} {w : World} {V : Value} {s : PS} (h : At B g b o P w V s) :
    Calls Tryz.prog 137 #[.pointer (some ⟨g, 0, none⟩)] w fun r w' => Rz B g b o P w V (Gm.mul e s) r w' := by
  have H : Hid (St B g b o P w V w V s) := hidb h
  have HE := hidb hE
  obtain ⟨R, hR⟩ : ∃ R, Gm.mul e s = R := ⟨_, rfl⟩
  rw [hR]
  have HR := hidb hR.symm
  have HU := hidb (fun (P : Nat → Prop) (w : World) (V : Value) (s : PS) (h : At B g b o P w V s) => hU h)
  clear hR h hE hU
  go_enter Tryz.func137, Tryz.ntmps137
  go_wp2_with (first
    | (go_at_call 26; refine (sNow H.out).mono ?_; rintro r1 w1 ⟨t, hq, rfl, hb⟩; replace H := hidb (H.out.below hb); replace HR := hidb (HR.out.trans (Gm.bind_here hq)); have Tt := hidb hq; clear hb hq)
    | (go_at_call 139; refine (HU.out _ _ _ _ H.out.at).mono ?_; rintro r1 w1 (⟨er, q, x0, hq, rfl, hbd⟩ | ⟨x0, s1, V1, hq, rfl, hs⟩) <;> first | (replace H := hidb (H.out.trans hs); replace HR := hidb (HR.out.trans (Gm.bind_ok hq)); clear hs hq) | (have HRE := hidb (HR.out.trans (Gm.bind_err hq)); have HB : Hid (But (· = g) w1 w1) := hidb (But.refl _ _); replace H := hidb (H.out.bad hbd); clear hq hbd HR)))
  · have hn : True := trivial
    go_loopg [4] 0 (fun gf s4 wx => s4 = iv x0 ∧ wx = w1)
    case atStart => exact ⟨rfl, rfl⟩
    case round =>
      obtain ⟨rfl, hwx⟩ := hrel
      obtain rfl := hwx.symm
      go_wp2_with (first
        | (go_at_call 64; refine (bSign _ H.out).mono ?_; rintro r1 w1 ⟨rfl, hb⟩; replace HB := hidb (HB.out.trans (But.of_below hb)); replace H := hidb (H.out.keep hb); clear hb)
        | (go_at_call 105; refine (bKept _ H.out).mono ?_; rintro r1 w1 ⟨rfl, hb⟩; replace HB := hidb (HB.out.trans (But.of_below hb)); replace H := hidb (H.out.keep hb); clear hb))
      go_ret
      exact .inl ⟨_, _, _, HRE.out, rfl, H.out⟩
  replace HR := hidb (HR.out.trans (Gm.bind_left rfl))
  go_loopg [4] s1.ts.length (fun gf s4 wx => (∃ (x : Nat) (sx : PS) (Vx : Value) (k : Nat), s4 = iv x ∧ St B g b o P w V wx Vx sx ∧ R = Gm.leftward (Gm.unary e) Gm.isMul t.p k x sx ∧ sx.ts.length ≤ k ∧ k ≤ gf) ∨ (∃ (x : Nat) (er : Int) (p : Nat), s4 = iv x ∧ R = .error (er, p) ∧ Bd g b w V wx er p))
  case atStart => exact .inl ⟨x0, s1, V1, _, rfl, H.out, HR.out, Nat.le_refl _, Nat.le_refl _⟩
  case round =>
    clear HR H
    rcases hrel with ⟨x, sx, Vx, k, hs5, hst, hmore, hk, hkg⟩ | ⟨x, er, p, hs5, hre, hbd⟩
    · subst hs5
      have hpos := ne_pos hst.ne
      obtain ⟨k', rfl⟩ : ∃ k', k = k' + 1 := ⟨k - 1, by omega⟩
      obtain ⟨g', rfl⟩ : ∃ g', gk = g' + 1 := ⟨gk - 1, by omega⟩
      have H := hidb hst
      have HR := hidb hmore
      have HFA : Hid True := hidb trivial
      clear hst hmore
      go_wp2_with (first
        | (go_at_call 64; refine (sSign rfl H.out).mono ?_; rintro r1 w1 ⟨⟨hq, rfl⟩ | ⟨hq, rfl⟩, hb⟩ <;> first | (have HT : Hid (Gm.isM _ _ = true) := hidb hq; replace H := hidb (H.out.below hb); clear hb hq) | (replace HFA := hidb (And.intro hq HFA.out); replace H := hidb (H.out.below hb); clear hb hq))
        | (go_at_call 105; refine (sKept rfl H.out).mono ?_; rintro r1 w1 ⟨⟨hq, rfl⟩ | ⟨hq, rfl⟩, hb⟩ <;> first | (have HT : Hid (Gm.isM _ _ = true) := hidb hq; replace H := hidb (H.out.below hb); clear hb hq) | (replace HFA := hidb (And.intro hq HFA.out); replace H := hidb (H.out.below hb); clear hb hq))
        | (go_at_call 26; refine (sNow H.out).mono ?_; rintro r1 w1 ⟨u, hq, rfl, hb⟩; replace H := hidb (H.out.below hb); replace HR := hidb ((HR.out.trans (Gm.bind_here hq)).trans (Gm.ite_t (by rw [← hq]; simp [Gm.isMul, HT.out]))); have HQ := hidb hq; clear hb hq)
        | (go_at_call 29; refine (sNext H.out.at (Gm.isM_k HT.out)).mono ?_; rintro r1 w1 ⟨rfl, hs⟩; have HC := hidb (cut_len H.out.ne); replace H := hidb (H.out.trans hs); replace HR := hidb (HR.out.trans (Gm.bind_next (t := u) ⟨HQ.out, rfl⟩)); clear hs)
        | (go_at_call 139; refine (HU.out _ _ _ _ H.out.at).mono ?_; rintro r1 w1 (⟨er, q, y, hq, rfl, hbd⟩ | ⟨y, s2, V2, hq, rfl, hs⟩) <;> first | (have HF := hidb ((Gm.all_unary HE.out.all) _ H.out.ne _ _ hq).1.len; replace H := hidb (H.out.trans hs); replace HR := hidb (HR.out.trans (Gm.bind_ok hq)); clear hs hq) | (have HRE := hidb (HR.out.trans (Gm.bind_err hq)); have HB : Hid (But (· = g) w1 w1) := hidb (But.refl _ _); replace H := hidb (H.out.bad hbd); clear hq hbd HR))
        | (go_at_call 123; refine (pTwo _ x y t.p H.out.at).mono ?_; rintro r1 w1 (⟨er, q, z, hq, rfl, hbd⟩ | ⟨z, s3, V3, hq, rfl, hs⟩) <;> first | (have HF2 := hidb (Gm.all_op _ _ _ _ H.out.ne _ _ hq).1.len; replace H := hidb (H.out.trans hs); replace HR := hidb (HR.out.trans (Gm.bind_ok hq)); clear hs hq) | (have HRE := hidb (HR.out.trans (Gm.bind_err hq)); have HB : Hid (But (· = g) w1 w1) := hidb (But.refl _ _); replace H := hidb (H.out.bad hbd); clear hq hbd HR))
        | (go_at_call 123; refine (bTwo _ _ _ _ H.out).mono ?_; rintro r1 w1 ⟨rfl, hd, hb⟩; replace HB := hidb (HB.out.trans hb); replace H := hidb hd; clear hb hd))
      all_goals first
        | (go_roundg g'
           case measure => omega
           case rel => first
             | exact .inl ⟨_, _, _, k', rfl, H.out, HR.out, by have := HC.out; have := HF.out; have := HF2.out; omega, by omega⟩
             | exact .inr ⟨_, _, _, rfl, HRE.out, H.out⟩)
        | (go_ret
           exact .inr ⟨_, _, _, (HR.out.trans (Gm.bind_here rfl)).trans (Gm.ite_f (by simp [Gm.isMul, HFA.out])), rfl, H.out⟩)
    · subst hs5
      have H := hidb hbd
      have HB : Hid (But (· = g) wr wr) := hidb (But.refl _ _)
      have HRE := hidb hre
      clear hbd hre
      go_wp2_with (first
        | (go_at_call 64; refine (bSign _ H.out).mono ?_; rintro r1 w1 ⟨rfl, hb⟩; replace HB := hidb (HB.out.trans (But.of_below hb)); replace H := hidb (H.out.keep hb); clear hb)
        | (go_at_call 105; refine (bKept _ H.out).mono ?_; rintro r1 w1 ⟨rfl, hb⟩; replace HB := hidb (HB.out.trans (But.of_below hb)); replace H := hidb (H.out.keep hb); clear hb))
      go_ret
      exact .inl ⟨_, _, _, HRE.out, rfl, H.out⟩

set_option maxHeartbeats 8000000 in
set_option maxRecDepth 100000 in
theorem pAdd (hE : EC B g b o e) (hU : ∀ {P : Nat → Prop} {w : World} {V : Value} {s : PS}, At B g b o P w V s → Calls Tryz.prog 137 #[.pointer (some ⟨g, 0, none⟩)] w fun r w' => Rz B g b o P w V (Gm.mul e s) r w') {P : Nat → Prop} {w : World} {V : Value} {s : PS} (h : At B g b o P w V s) :
    Calls Tryz.prog 134 #[.pointer (some ⟨g, 0, none⟩)] w fun r w' => Rz B g b o P w V (Gm.add e s) r w' := by
  have H : Hid (St B g b o P w V w V s) := hidb h
  have HE := hidb hE
  obtain ⟨R, hR⟩ : ∃ R, Gm.add e s = R := ⟨_, rfl⟩
  rw [hR]
  have HR := hidb hR.symm
  have HU := hidb (fun (P : Nat → Prop) (w : World) (V : Value) (s : PS) (h : At B g b o P w V s) => hU h)
  clear hR h hE hU
  go_enter Tryz.func134, Tryz.ntmps134
  go_wp2_with (first
    | (go_at_call 26; refine (sNow H.out).mono ?_; rintro r1 w1 ⟨t, hq, rfl, hb⟩; replace H := hidb (H.out.below hb); replace HR := hidb (HR.out.trans (Gm.bind_here hq)); have Tt := hidb hq; clear hb hq)
    | (go_at_call 137; refine (HU.out _ _ _ _ H.out.at).mono ?_; rintro r1 w1 (⟨er, q, x0, hq, rfl, hbd⟩ | ⟨x0, s1, V1, hq, rfl, hs⟩) <;> first | (replace H := hidb (H.out.trans hs); replace HR := hidb (HR.out.trans (Gm.bind_ok hq)); clear hs hq) | (have HRE := hidb (HR.out.trans (Gm.bind_err hq)); have HB : Hid (But (· = g) w1 w1) := hidb (But.refl _ _); replace H := hidb (H.out.bad hbd); clear hq hbd HR)))
  · have hn : True := trivial
    go_loopg [4] 0 (fun gf s4 wx => s4 = iv x0 ∧ wx = w1)
    case atStart => exact ⟨rfl, rfl⟩
    case round =>
      obtain ⟨rfl, hwx⟩ := hrel
      obtain rfl := hwx.symm
      go_wp2_with (first
        | (go_at_call 64; refine (bSign _ H.out).mono ?_; rintro r1 w1 ⟨rfl, hb⟩; replace HB := hidb (HB.out.trans (But.of_below hb)); replace H := hidb (H.out.keep hb); clear hb)
        | (go_at_call 105; refine (bKept _ H.out).mono ?_; rintro r1 w1 ⟨rfl, hb⟩; replace HB := hidb (HB.out.trans (But.of_below hb)); replace H := hidb (H.out.keep hb); clear hb))
      go_ret
      exact .inl ⟨_, _, _, HRE.out, rfl, H.out⟩
  replace HR := hidb (HR.out.trans (Gm.bind_left rfl))
  go_loopg [4] s1.ts.length (fun gf s4 wx => (∃ (x : Nat) (sx : PS) (Vx : Value) (k : Nat), s4 = iv x ∧ St B g b o P w V wx Vx sx ∧ R = Gm.leftward (Gm.mul e) Gm.isAdd t.p k x sx ∧ sx.ts.length ≤ k ∧ k ≤ gf) ∨ (∃ (x : Nat) (er : Int) (p : Nat), s4 = iv x ∧ R = .error (er, p) ∧ Bd g b w V wx er p))
  case atStart => exact .inl ⟨x0, s1, V1, _, rfl, H.out, HR.out, Nat.le_refl _, Nat.le_refl _⟩
  case round =>
    clear HR H
    rcases hrel with ⟨x, sx, Vx, k, hs5, hst, hmore, hk, hkg⟩ | ⟨x, er, p, hs5, hre, hbd⟩
    · subst hs5
      have hpos := ne_pos hst.ne
      obtain ⟨k', rfl⟩ : ∃ k', k = k' + 1 := ⟨k - 1, by omega⟩
      obtain ⟨g', rfl⟩ : ∃ g', gk = g' + 1 := ⟨gk - 1, by omega⟩
      have H := hidb hst
      have HR := hidb hmore
      have HFA : Hid True := hidb trivial
      clear hst hmore
      go_wp2_with (first
        | (go_at_call 64; refine (sSign rfl H.out).mono ?_; rintro r1 w1 ⟨⟨hq, rfl⟩ | ⟨hq, rfl⟩, hb⟩ <;> first | (have HT : Hid (Gm.isM _ _ = true) := hidb hq; replace H := hidb (H.out.below hb); clear hb hq) | (replace HFA := hidb (And.intro hq HFA.out); replace H := hidb (H.out.below hb); clear hb hq))
        | (go_at_call 105; refine (sKept rfl H.out).mono ?_; rintro r1 w1 ⟨⟨hq, rfl⟩ | ⟨hq, rfl⟩, hb⟩ <;> first | (have HT : Hid (Gm.isM _ _ = true) := hidb hq; replace H := hidb (H.out.below hb); clear hb hq) | (replace HFA := hidb (And.intro hq HFA.out); replace H := hidb (H.out.below hb); clear hb hq))
        | (go_at_call 26; refine (sNow H.out).mono ?_; rintro r1 w1 ⟨u, hq, rfl, hb⟩; replace H := hidb (H.out.below hb); replace HR := hidb ((HR.out.trans (Gm.bind_here hq)).trans (Gm.ite_t (by rw [← hq]; simp [Gm.isAdd, HT.out]))); have HQ := hidb hq; clear hb hq)
        | (go_at_call 29; refine (sNext H.out.at (Gm.isM_k HT.out)).mono ?_; rintro r1 w1 ⟨rfl, hs⟩; have HC := hidb (cut_len H.out.ne); replace H := hidb (H.out.trans hs); replace HR := hidb (HR.out.trans (Gm.bind_next (t := u) ⟨HQ.out, rfl⟩)); clear hs)
        | (go_at_call 137; refine (HU.out _ _ _ _ H.out.at).mono ?_; rintro r1 w1 (⟨er, q, y, hq, rfl, hbd⟩ | ⟨y, s2, V2, hq, rfl, hs⟩) <;> first | (have HF := hidb ((Gm.all_mul HE.out.all) _ H.out.ne _ _ hq).1.len; replace H := hidb (H.out.trans hs); replace HR := hidb (HR.out.trans (Gm.bind_ok hq)); clear hs hq) | (have HRE := hidb (HR.out.trans (Gm.bind_err hq)); have HB : Hid (But (· = g) w1 w1) := hidb (But.refl _ _); replace H := hidb (H.out.bad hbd); clear hq hbd HR))
        | (go_at_call 123; refine (pTwo _ x y t.p H.out.at).mono ?_; rintro r1 w1 (⟨er, q, z, hq, rfl, hbd⟩ | ⟨z, s3, V3, hq, rfl, hs⟩) <;> first | (have HF2 := hidb (Gm.all_op _ _ _ _ H.out.ne _ _ hq).1.len; replace H := hidb (H.out.trans hs); replace HR := hidb (HR.out.trans (Gm.bind_ok hq)); clear hs hq) | (have HRE := hidb (HR.out.trans (Gm.bind_err hq)); have HB : Hid (But (· = g) w1 w1) := hidb (But.refl _ _); replace H := hidb (H.out.bad hbd); clear hq hbd HR))
        | (go_at_call 123; refine (bTwo _ _ _ _ H.out).mono ?_; rintro r1 w1 ⟨rfl, hd, hb⟩; replace HB := hidb (HB.out.trans hb); replace H := hidb hd; clear hb hd))
      all_goals first
        | (go_roundg g'
           case measure => omega
           case rel => first
             | exact .inl ⟨_, _, _, k', rfl, H.out, HR.out, by have := HC.out; have := HF.out; have := HF2.out; omega, by omega⟩
             | exact .inr ⟨_, _, _, rfl, HRE.out, H.out⟩)
        | (go_ret
           exact .inr ⟨_, _, _, (HR.out.trans (Gm.bind_here rfl)).trans (Gm.ite_f (by simp [Gm.isAdd, HFA.out])), rfl, H.out⟩)
    · subst hs5
      have H := hidb hbd
      have HB : Hid (But (· = g) wr wr) := hidb (But.refl _ _)
      have HRE := hidb hre
      clear hbd hre
      go_wp2_with (first
        | (go_at_call 64; refine (bSign _ H.out).mono ?_; rintro r1 w1 ⟨rfl, hb⟩; replace HB := hidb (HB.out.trans (But.of_below hb)); replace H := hidb (H.out.keep hb); clear hb)
        | (go_at_call 105; refine (bKept _ H.out).mono ?_; rintro r1 w1 ⟨rfl, hb⟩; replace HB := hidb (HB.out.trans (But.of_below hb)); replace H := hidb (H.out.keep hb); clear hb))
      go_ret
      exact .inl ⟨_, _, _, HRE.out, rfl, H.out⟩

end Rf
end Go.Proofs.YthdljnakmekhkaaGreatDoor


/- The reference's parser: operands with one sign between, as a list; two rows. -/
namespace Go.Proofs.YthdljnakmekhkaaGreatDoor
namespace Rf
open Go.RowKit Go.Lib
attribute [local go_sem] store_float f64bits
attribute [local go_sem ↓] Go.wp_at_zero Go.wp_at_succ
attribute [local go_sem] nd_p tk_k tk_x tk_n tk_f tk_p
variable {B g b o : Nat} {e : PM Nat}

/-- Operands with one sign between: laid from the last one on. -/
def layR (x : ByteArray) : List (Nat × Nat) → PM Nat
  | [] => pure 0
  | [a] => pure a.2
  | a :: c :: r => do
    let y ← layR x (c :: r)
    Gm.op a.1 x [a.2, y]
/-- What stands behind the first operand. -/
def collC (m : PM Nat) (x : ByteArray) : Nat → PM (List (Nat × Nat))
  | 0 => pure []
  | k + 1 => do
    let b ← Gm.take x
    if b then do
      let t ← Gm.here
      let y ← m
      let r ← collC m x k
      pure ((t.p, y) :: r)
    else pure []
def collF (m : PM Nat) (x : ByteArray) (k : Nat) {α : Type} (F : List (Nat × Nat) → PM α) : PM α := Gm.here >>= fun t => m >>= fun y => collC m x k >>= fun r => F ((t.p, y) :: r)
section
variable {α β : Type} {m : PM Nat} {x : ByteArray} {k : Nat} {s : PS}
theorem pm_ext {m n : PM α} (h : ∀ s, m s = n s) : m = n := funext h
theorem assocF (m : PM α) {γ : Type} (f : α → PM β) (h : β → PM γ) : (m >>= f) >>= h = m >>= fun a => f a >>= h := pm_ext (Gm.assoc m f h)
theorem coll_eq (F : List (Nat × Nat) → PM α) : (collC m x (k + 1) >>= F) = Gm.take x >>= fun b => if b then collF m x k F else F [] := by
  show (Gm.take x >>= fun b => if b then (Gm.here >>= fun t => m >>= fun y => collC m x k >>= fun r => pure ((t.p, y) :: r)) else pure []) >>= F = _
  rw [assocF]
  congr 1
  funext b
  cases b with
  | false => rfl
  | true =>
    show (Gm.here >>= fun t => m >>= fun y => collC m x k >>= fun r => pure ((t.p, y) :: r)) >>= F = collF m x k F
    rw [assocF]
    unfold collF
    congr 1
    funext t
    rw [assocF]
    congr 1
    funext y
    rw [assocF]
    rfl
theorem coll_t {F : List (Nat × Nat) → PM α} (h : Gm.isM (Gm.hd s) x = true) : (collC m x (k + 1) >>= F) s = (Gm.here >>= fun t => m >>= fun y => collC m x k >>= fun r => F ((t.p, y) :: r)) (Gm.cut s) := by
  rw [coll_eq, Gm.bind_ok (take_t h)]
  rfl
theorem coll_f {F : List (Nat × Nat) → PM α} (h : Gm.isM (Gm.hd s) x = false) : (collC m x (k + 1) >>= F) s = F [] s := by
  rw [coll_eq, Gm.bind_ok (take_f h)]
  rfl
theorem rightward_is : ∀ k, Gm.rightward m x k = collF m x k (layR x)
  | 0 => by
    refine pm_ext fun s => ?_
    show m s = (m >>= fun y => (pure y : PM Nat)) s
    rw [Gm.bind_at]
    cases m s with
    | error er => rfl
    | ok q => rfl
  | k + 1 => by
    show (Gm.here >>= fun t => m >>= fun y => Gm.take x >>= fun b => if b then (Gm.rightward m x k >>= fun z => Gm.op t.p x [y, z]) else pure y) = _
    unfold collF
    congr 1
    funext t
    congr 1
    funext y
    rw [coll_eq]
    congr 1
    funext b
    cases b with
    | false => rfl
    | true =>
      show (Gm.rightward m x k >>= fun z => Gm.op t.p x [y, z]) = collF m x k (fun r => layR x ((t.p, y) :: r))
      rw [rightward_is k]
      unfold collF
      rw [assocF]
      congr 1
      funext t'
      rw [assocF]
      congr 1
      funext y'
      rw [assocF]
      rfl
theorem right_is : Gm.right m x s = (Gm.here >>= fun t => m >>= fun y => collC m x s.ts.length >>= fun r => layR x ((t.p, y) :: r)) s := by
  show Gm.rightward m x s.ts.length s = _
  rw [rightward_is]
  rfl
/-- The same, the operands from the last one on. -/
def layB (x : ByteArray) : List (Nat × Nat) → Nat → PM Nat
  | [], y => pure y
  | a :: r, y => Gm.op a.1 x [a.2, y] >>= fun z => layB x r z
theorem layB_app : ∀ (a c : List (Nat × Nat)) (y : Nat), layB x (a ++ c) y = layB x a y >>= fun z => layB x c z
  | [], c, y => rfl
  | a :: r, c, y => by
    show (Gm.op a.1 x [a.2, y] >>= fun z => layB x (r ++ c) z) = (Gm.op a.1 x [a.2, y] >>= fun z => layB x r z) >>= fun z => layB x c z
    rw [assocF]
    congr 1
    funext z
    exact layB_app r c z
theorem bind_pure' (m : PM Nat) : (m >>= fun z => (pure z : PM Nat)) = m := by
  refine pm_ext fun s => ?_
  rw [Gm.bind_at]
  cases m s with
  | error er => rfl
  | ok q => rfl
theorem layR_B : ∀ (l : List (Nat × Nat)) (a : Nat × Nat), layR x (l ++ [a]) = layB x l.reverse a.2
  | [], a => rfl
  | c :: l, a => by
    have h1 : layR x (c :: (l ++ [a])) = layR x (l ++ [a]) >>= fun y => Gm.op c.1 x [c.2, y] := by
      cases l with
      | nil => rfl
      | cons d l => rfl
    rw [List.cons_append, h1, layR_B l a, List.reverse_cons, layB_app]
    congr 1
    funext y
    show _ = (Gm.op c.1 x [c.2, y] >>= fun z => (pure z : PM Nat))
    rw [bind_pure']
end

section
variable {C C' : Nat} {P : Nat → Prop} {w0 w w' : World} {V0 V V' v u v' : Value} {s s' : PS} {l l' : List Nat} {er : Int} {p : Nat}
theorem St.swap (h : St B g b o (PV (PV P u) v) w0 V0 w V s) : St B g b o (PV (PV P v) u) w0 V0 w V s := h.less (fun k hk => by
  rcases hk with (hk | hk) | hk
  · exact .inl (.inl hk)
  · exact .inr hk
  · exact .inl (.inr hk))
theorem Rz.one {r : Except (Int × Nat) (Nat × PS)} {x : Ending} (h : Rz B g b o P w V r x w') : ∃ z, x = .returned (iv z) ∧ But (fun k => k = g ∨ V.ownBlock = some k) w w' ∧ ((∃ er p, r = .error (er, p) ∧ Bd g b w V w' er p) ∨ ∃ s' V', r = .ok (z, s') ∧ St B g b o P w V w' V' s') := by
  rcases h with ⟨er, p, z, h1, h2, h3⟩ | ⟨z, s', V', h1, h2, h3⟩
  · exact ⟨z, h2, h3.but, .inl ⟨er, p, h1, h3⟩⟩
  · exact ⟨z, h2, h3.but, .inr ⟨s', V', h1, h3⟩⟩
/-- Of two rows one grows. -/
theorem two_app {xs : List Nat} {ob : Obj} (h : St B g b o (PV (PV P u) v) w0 V0 w V s) (hi : IR w w0.heap.size g b V v l) (hu : IR w w0.heap.size g b V u l') (hd : ∀ k, v.ownBlock = some k → u.ownBlock ≠ some k) (hG : (w.alloc ob).grownBy w' v.ownBlock) (hA : v'.ownBlock = v.ownBlock ∨ v'.ownBlock = some (w.heap.size + 1))
    (ho : w'.ownsRow w0.heap.size IT 1 v' (l.length + xs.length) (l.map iv ++ xs.map iv)) : IR w' w0.heap.size g b V v' (l ++ xs) ∧ IR w' w0.heap.size g b V u l' ∧ (∀ k, v'.ownBlock = some k → u.ownBlock ≠ some k) ∧ St B g b o (PV (PV P u) v') w0 V0 w' V s := by
  obtain ⟨j1, j2⟩ := IR.app h hi hG hA ho
  refine ⟨j1, hu.but ((But.of_below (below_new w ob)).trans (grown_but hG)) (fun k hk he => hd k he hk), fun k hk he => ?_, j2⟩
  rcases hA with e | e
  · exact hd k (e ▸ hk) he
  · rw [e] at hk
    have := row_lt hu.own k he
    cases hk
    omega
/-- A row of two in a fault. -/
theorem two_bad {xs : List Nat} {ob : Obj} (h : Bd g b w0 V0 w er p) (hg : g < w0.heap.size) (hbl : b < w0.heap.size) (hr : RB w w0.heap.size v l) (hu : RB w w0.heap.size u l') (hd : ∀ k, v.ownBlock = some k → u.ownBlock ≠ some k) (hG : (w.alloc ob).grownBy w' v.ownBlock) (ho : w'.ownsRow w0.heap.size IT 1 v' (l.length + xs.length) (l.map iv ++ xs.map iv)) (hl : l.length + xs.length ≤ 100002) : RB w' w0.heap.size v' (l ++ xs) ∧ RB w' w0.heap.size u l' ∧ Bd g b w0 V0 w' er p ∧ v'.ownBlock ≠ some g := by
  obtain ⟨j1, j2, j3⟩ := RB.app h hg hbl hr hG ho hl
  exact ⟨j1, hu.but ((But.of_below (below_new w ob)).trans (grown_but hG)) (fun k hk he => hd k he hk), j2, j3⟩
end

end Rf
end Go.Proofs.YthdljnakmekhkaaGreatDoor


/- The reference's parser: expr. -/
namespace Go.Proofs.YthdljnakmekhkaaGreatDoor
namespace Rf
open Go.RowKit Go.Lib
attribute [local go_sem] store_float f64bits
attribute [local go_sem ↓] Go.wp_at_zero Go.wp_at_succ
attribute [local go_sem] nd_p tk_k tk_x tk_n tk_f tk_p
variable {B g b o : Nat} {e : PM Nat}

theorem St.opens {P : Nat → Prop} {w0 w : World} {V0 V : Value} {s : PS} (o' : Nat) (h : St B g b o P w0 V0 w V s) : St B g b o' P w0 V0 (w.setCell ⟨g, 3, none⟩ (.int .i64 (o' : Int))) V { s with o := o' } := by
  have hB : But (· = g) w (w.setCell ⟨g, 3, none⟩ (.int .i64 (o' : Int))) := (But.refl (· = g) w).setCell (p := ⟨g, 3, none⟩) (fun _ => rfl) _
  obtain ⟨TS, i, ⟨⟨cap, h6⟩, ht, hi, hf, hne, hl⟩, hs, hg, he⟩ := h.pb
  exact ⟨⟨TS, i, ⟨⟨cap, h6.set3 _⟩, ht.but hB hl hne, hi, hf, hne, Nat.lt_of_lt_of_le hl hB.size⟩, hs, hg, he⟩, h.ns.but hB (fun k hk he => h.ns.ng (he ▸ hk)) (fun k he => .inl he), Nat.le_trans h.le hB.size, h.ne, rfl, h.but.trans (hB.mono fun k _ he => .inl he), h.own, fun k hk => Nat.lt_of_lt_of_le (h.plt k hk) hB.size, h.npv, h.tl⟩
theorem St.cell3 {P : Nat → Prop} {w0 w : World} {V0 V : Value} {s : PS} (h : St B g b o P w0 V0 w V s) : w.cell? ⟨g, 3, none⟩ = some (.int .i64 (o : Int)) ∧ w.frozen? ⟨g, 3, none⟩ = false := by
  obtain ⟨TS, i, ⟨⟨cap, h6⟩, _⟩, _⟩ := h.pb
  exact ⟨h.op ▸ h6.c3, h6.f3⟩
theorem Bd.cell3 {w0 w : World} {V0 : Value} {er : Int} {p : Nat} (h : Bd g b w0 V0 w er p) : ∃ oo : Int, w.cell? ⟨g, 3, none⟩ = some (.int .i64 oo) ∧ w.frozen? ⟨g, 3, none⟩ = false ∧ ∀ o' : Int, Bd g b w0 V0 (w.setCell ⟨g, 3, none⟩ (.int .i64 o')) er p := by
  obtain ⟨hn, ⟨TS, i, V, oo, ⟨⟨cap, h6⟩, ht, hi, hf, hne, hl⟩, hg, he⟩, hb⟩ := h
  refine ⟨oo, h6.c3, h6.f3, fun o' => ?_⟩
  have hB : But (· = g) w (w.setCell ⟨g, 3, none⟩ (.int .i64 o')) := (But.refl (· = g) w).setCell (p := ⟨g, 3, none⟩) (fun _ => rfl) _
  exact ⟨hn, ⟨TS, i, V, o', ⟨⟨cap, h6.set3 _⟩, ht.but hB hl hne, hi, hf, hne, Nat.lt_of_lt_of_le hl hB.size⟩, hg, he⟩, hb.trans (hB.mono fun k _ he => .inl he)⟩

set_option maxHeartbeats 2000000 in
set_option maxRecDepth 100000 in
theorem pExpr_deep {k : Nat} {P : Nat → Prop} {w : World} {V : Value} {s : PS} (h : At B g b 200 P w V s) :
    Calls Tryz.prog 104 #[.pointer (some ⟨g, 0, none⟩)] w fun r w' => Rz B g b 200 P w V (Gm.expr (k + 1) s) r w' := by
  have H : Hid (St B g b 200 P w V w V s) := hidb h
  have hR : Gm.expr (k + 1) s = .error (25, (Gm.hd s).p) := by simp only [Gm.expr, if_pos h.op]
  obtain ⟨c3, f3⟩ := h.cell3
  have hg := h.glt
  have HRR := hidb hR
  clear hR h
  go_enter Tryz.func104, Tryz.ntmps104
  go_wp2_with (first
    | (go_at_call 19; refine (sBad H.out).mono ?_; rintro r1 w1 ⟨rfl, rfl⟩)
    | (go_at_call 26; refine (sNow H.out).mono ?_; rintro r1 w1 ⟨t, hq, rfl, hb⟩; obtain ⟨tk, tx, tn, tf, tp⟩ := t; have TT := hidb hq; replace H := hidb (H.out.below hb); clear hb hq)
    | (go_at_call 28; refine (sFail H.out.at tp (by decide)).mono ?_; rintro r1 w1 ⟨rfl, hbd⟩; replace H := hidb (H.out.bad hbd); clear hbd))
  go_ret
  exact .inl ⟨_, _, _, by rw [HRR.out, TT.out], rfl, H.out⟩

set_option maxHeartbeats 2000000 in
set_option maxRecDepth 100000 in
theorem pExpr_step {k : Nat} (hW : ∀ {P : Nat → Prop} {w : World} {V : Value} {s : PS}, At B g b (o + 1) P w V s → Calls Tryz.prog 117 #[.pointer (some ⟨g, 0, none⟩)] w fun r w' => Rz B g b (o + 1) P w V (Gm.opened (Gm.expr k) s) r w') (ho : o < 200) {P : Nat → Prop} {w : World} {V : Value} {s : PS} (h : At B g b o P w V s) :
    Calls Tryz.prog 104 #[.pointer (some ⟨g, 0, none⟩)] w fun r w' => Rz B g b o P w V (Gm.expr (k + 1) s) r w' := by
  have H : Hid (St B g b o P w V w V s) := hidb h
  obtain ⟨R, hR⟩ : ∃ R, Gm.expr (k + 1) s = R := ⟨_, rfl⟩
  rw [hR]
  have HR := hidb hR.symm
  have HOP := hidb h.op
  obtain ⟨c3, f3⟩ := h.cell3
  have HO := hidb (h.opens (o + 1))
  have hg := h.glt
  have e0 : ¬ (200 : Int) ≤ ((o : Nat) : Int) := by omega
  have e1 : IntKind.i64.wrap ((o : Int) + 1) = ((o + 1 : Nat) : Int) := by rw [IntKind.wrap_i64]; omega
  have e2 : IntKind.i64.wrap (((o + 1 : Nat) : Int) - 1) = (o : Int) := by rw [IntKind.wrap_i64]; omega
  have HW := hidb (fun (P : Nat → Prop) (w : World) (V : Value) (s : PS) (h : At B g b (o + 1) P w V s) => hW h)
  clear h hW hR
  go_enter Tryz.func104, Tryz.ntmps104
  go_wp2_with (first
    | (go_at_call 19; refine (sBad H.out).mono ?_; rintro r1 w1 ⟨rfl, rfl⟩)
    | (go_at_call 117; refine (HW.out _ _ _ _ HO.out.at).mono ?_; rintro r1 w2 (⟨er, q, x, hq, rfl, hbd⟩ | ⟨x, s1, V1, hq, rfl, hs⟩) <;> first | (have H1 := hidb (HO.out.trans hs); obtain ⟨d3, g3⟩ := hs.cell3; have hg2 := hs.glt; replace HR := hidb (HR.out.trans (expr_ok HOP.out ho hq)); clear hs hq) | (have HRE := hidb (HR.out.trans (expr_err HOP.out ho hq)); obtain ⟨oo, d3, g3, hset⟩ := (HO.out.bad hbd).cell3; have HS := hidb hset; have hg2 := (HO.out.bad hbd).glt; clear hq hbd HR hset)))
  · go_ret
    exact .inl ⟨_, _, _, HRE.out, rfl, HS.out _⟩
  · refine bodyPost_ret (v := iv x) (by simp [results, Tryz.results104, go_sem]) rfl (.inr ⟨x, { s1 with o := s1.o - 1 }, V1, HR.out, rfl, ?_⟩)
    have h2 := H1.out.opens o
    have h3 : s1.o - 1 = o := by rw [H1.out.op]; rfl
    rw [h3]
    exact h2

end Rf
end Go.Proofs.YthdljnakmekhkaaGreatDoor


