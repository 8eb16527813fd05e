import Derived.Test.YtdpfmmbfidknfaaGreatDoorG32
/- compare, add, mul. -/
namespace Go.Proofs.YtdpfmmbfidknfaaGreatDoor
open Go.RowKit Go.Lib
attribute [local go_sem] store_float f64bits
attribute [local go_sem ↓] Go.wp_at_zero Go.wp_at_succ
attribute [local go_sem] nd_p tk_k tk_x tk_n tk_f tk_p
variable {B g b o : Nat} {e : PM Nat}

set_option maxHeartbeats 4000000 in
set_option maxRecDepth 100000 in
theorem pIsCmp {P : Nat → Prop} {w : World} {V : Value} {s : PS} (h : At B g b o P w V s) :
    Calls Tryz.prog 92 #[.pointer (some ⟨g, 0, none⟩)] w fun r w' => ((Gm.isCmp (Gm.hd s) = true ∧ r = .returned (.bool true)) ∨ (Gm.isCmp (Gm.hd s) = false ∧ r = .returned (.bool false))) ∧ Below w.heap.size w w' := by
  have HB : Hid (Below w.heap.size w w) := hidb (Below.refl _ _)
  have HA := hidb h
  have HQ : Hid True := hidb trivial
  obtain ⟨t, ht⟩ : ∃ t, Gm.hd s = t := ⟨_, rfl⟩
  have HT := hidb ht
  clear h
  rw [ht]
  clear ht
  go_enter Tryz.func92, Tryz.ntmps92
  go_wp2_with (first
    | (go_at_call 69; refine (sIs _ (HA.out.below HB.out).at).mono ?_; rintro r1 w1 ⟨⟨hq, rfl⟩ | ⟨hq, rfl⟩, hb⟩ <;> (rw [HT.out] at hq; have HQ := hidb (And.intro HQ.out hq); have HB := hidb (HB.out.trans (hb.mono HB.out.size)); clear hb hq)))
  · exact bodyPost_ret (v := .bool true) (by simp [results, Tryz.results92, go_sem]) rfl ⟨.inl ⟨by simp [Gm.isCmp, HQ.out], rfl⟩, HB.out⟩
  · exact bodyPost_ret (v := .bool true) (by simp [results, Tryz.results92, go_sem]) rfl ⟨.inl ⟨by simp [Gm.isCmp, HQ.out], rfl⟩, HB.out⟩
  · exact bodyPost_ret (v := .bool true) (by simp [results, Tryz.results92, go_sem]) rfl ⟨.inl ⟨by simp [Gm.isCmp, HQ.out], rfl⟩, HB.out⟩
  · exact bodyPost_ret (v := .bool true) (by simp [results, Tryz.results92, go_sem]) rfl ⟨.inl ⟨by simp [Gm.isCmp, HQ.out], rfl⟩, HB.out⟩
  · exact bodyPost_ret (v := .bool true) (by simp [results, Tryz.results92, go_sem]) rfl ⟨.inl ⟨by simp [Gm.isCmp, HQ.out], rfl⟩, HB.out⟩
  · exact bodyPost_ret (v := .bool true) (by simp [results, Tryz.results92, go_sem]) rfl ⟨.inl ⟨by simp [Gm.isCmp, HQ.out], rfl⟩, HB.out⟩
  · exact bodyPost_ret (v := .bool true) (by simp [results, Tryz.results92, go_sem]) rfl ⟨.inl ⟨by simp [Gm.isCmp, HQ.out], rfl⟩, HB.out⟩
  · exact bodyPost_ret (v := .bool true) (by simp [results, Tryz.results92, go_sem]) rfl ⟨.inl ⟨by simp [Gm.isCmp, HQ.out], rfl⟩, HB.out⟩
  · exact bodyPost_ret (v := .bool false) (by simp [results, Tryz.results92, go_sem]) rfl ⟨.inr ⟨by simp [Gm.isCmp, HQ.out], rfl⟩, HB.out⟩
theorem hk_of {s : PS} {u : Tk} (hu : Gm.hd s = u) (h : u.k ≠ 8) : (Gm.hd s).k ≠ 8 := hu ▸ h

theorem sIsU (x : ByteArray) {P : Nat → Prop} {w : World} {V : Value} {s : PS} (h : At B g b o P w V s) : Calls Tryz.prog 69 #[.pointer (some ⟨g, 0, none⟩), .string x] w fun e w' => ∃ u, Gm.hd s = u ∧ ((Gm.isM u x = true ∧ e = .returned (.bool true)) ∨ (Gm.isM u x = false ∧ e = .returned (.bool false))) ∧ Below w.heap.size w w' :=
  (sIs x h).mono fun _ _ ⟨h1, h2⟩ => ⟨_, rfl, h1, h2⟩
theorem sIsCmpU {P : Nat → Prop} {w : World} {V : Value} {s : PS} (h : At B g b o P w V s) : Calls Tryz.prog 92 #[.pointer (some ⟨g, 0, none⟩)] w fun e w' => ∃ u, Gm.hd s = u ∧ ((Gm.isCmp u = true ∧ e = .returned (.bool true)) ∨ (Gm.isCmp u = false ∧ e = .returned (.bool false))) ∧ Below w.heap.size w w' :=
  (pIsCmp h).mono fun _ _ ⟨h1, h2⟩ => ⟨_, rfl, h1, h2⟩

set_option maxHeartbeats 2000000 in
set_option maxRecDepth 100000 in
theorem pCompare (hF : FC B g b o 93 (Gm.add e)) {P : Nat → Prop} {w : World} {V : Value} {s : PS} (h : At B g b o P w V s) :
    Calls Tryz.prog 90 #[.pointer (some ⟨g, 0, none⟩)] w fun r w' => Rz B g b o P w V (Gm.compare e s) iv r w' := by
  have H : Hid (St B g b o P w V w V s) := hidb h
  obtain ⟨R, hR⟩ : ∃ R, Gm.compare e s = R := ⟨_, rfl⟩
  rw [hR]
  have HR := hidb hR.symm
  clear hR
  clear h
  go_enter Tryz.func90, Tryz.ntmps90
  go_wp2_with (first
    | (go_at_call 32; refine (sHere H.out.at).mono ?_; rintro r1 w1 ⟨t, hq, rfl, hs, hb⟩; have H := hidb (H.out.below hb); have HR := hidb (HR.out.trans (Gm.bind_here hq)); have Tt := hidb hq; clear hs hb hq)
    | (go_at_call 91; refine (pAppend hF H.out.at).mono ?_; rintro r1 w1 (⟨er, q, hq, rfl, hbu⟩ | ⟨y, s1, V1, hq, rfl, hs⟩) <;> first | (have HL := hidb hs; have H := hidb (H.out.trans hs); (first | (with_reducible have HR := hidb (HR.out.trans hq)) | have HR := hidb (HR.out.trans (Gm.bind_ok hq))); clear hs hq) | ((first | (with_reducible have HR := hidb (HR.out.trans hq)) | have HR := hidb (HR.out.trans (Gm.bind_err hq))); have HBU := hidb (but_then H.out.but H.out.own hbu); clear hq hbu))
    | (go_at_call 92; refine (sIsCmpU H.out.at).mono ?_; rintro r1 w1 ⟨u, hu, ⟨hq, rfl⟩ | ⟨hq, rfl⟩, hb⟩ <;> first | (have HR := hidb ((HR.out.trans (Gm.bind_here hu)).trans (Gm.ite_t hq)); have Tu := hidb hu; have HK := hidb (hk_of hu (Gm.isCmp_k _ hq)); have H := hidb (H.out.below hb); clear hb hq hu) | (have HR := hidb ((HR.out.trans (Gm.bind_here hu)).trans (Gm.ite_f (by simp [hq]))); have H := hidb (H.out.below hb); clear hb hq hu))
    | (go_at_call 36; refine (sNext H.out.at HK.out).mono ?_; rintro r1 w1 ⟨t2, s1, hq, rfl, hs⟩; obtain rfl : u = t2 := Tu.out.symm.trans hq.1; have HC := hidb hq.2; have H := hidb (H.out.trans hs); have HR := hidb (HR.out.trans (Gm.bind_next hq)); clear hs hq)
    | (go_at_call 87; refine (sOpR HR.out (H.out.below (below_new _ _)).at (LR.lit H.out.at _ _ rfl (by simp))).mono ?_; rintro r1 w1 (⟨er, q, hq, rfl, hbu⟩ | ⟨z, s1, V1, hq, rfl, hs⟩) <;> first | (have HL := hidb hs; have H := hidb ((H.out.below (below_new _ _)).trans hs); (have HR := hidb hq);  clear hs hq) | ((have HR := hidb hq); have HBU := hidb (but_then (H.out.below (below_new _ _)).but H.out.own hbu); clear hq hbu)))

  · exact ⟨rfl, .inl ⟨_, _, HR.out, rfl, HBU.out⟩⟩
  · exact ⟨rfl, .inl ⟨_, _, HR.out, rfl, HBU.out⟩⟩
  · exact ⟨rfl, .inl ⟨_, _, HR.out, rfl, HBU.out⟩⟩
  · exact bodyPost_ret (v := iv z) (by simp [results, Tryz.results90, go_sem]) rfl (.inr ⟨_, _, _, HR.out, rfl, H.out⟩)
  · exact bodyPost_ret (v := iv y) (by simp [results, Tryz.results90, go_sem]) rfl (.inr ⟨_, _, _, HR.out, rfl, H.out⟩)

end Go.Proofs.YtdpfmmbfidknfaaGreatDoor


/- add, mul, opened. -/
namespace Go.Proofs.YtdpfmmbfidknfaaGreatDoor
open Go.RowKit Go.Lib
attribute [local go_sem] store_float f64bits
attribute [local go_sem ↓] Go.wp_at_zero Go.wp_at_succ
attribute [local go_sem] nd_p tk_k tk_x tk_n tk_f tk_p
variable {B g b o : Nat} {e : PM Nat}

set_option maxHeartbeats 2000000 in
set_option maxRecDepth 100000 in
theorem pAdd (hF : FC B g b o 94 (Gm.mul e)) {P : Nat → Prop} {w : World} {V : Value} {s : PS} (h : At B g b o P w V s) :
    Calls Tryz.prog 93 #[.pointer (some ⟨g, 0, none⟩)] w fun r w' => Rz B g b o P w V (Gm.add e s) iv r w' := by
  have H : Hid (St B g b o P w V w V s) := hidb h
  obtain ⟨R, hR⟩ : ∃ R, Gm.add e s = R := ⟨_, rfl⟩
  rw [hR]
  have HR := hidb hR.symm
  clear hR
  clear h
  go_enter Tryz.func93, Tryz.ntmps93
  go_wp2_with (first
    | (go_at_call 32; refine (sHere H.out.at).mono ?_; rintro r1 w1 ⟨t, hq, rfl, hs, hb⟩; have H := hidb (H.out.below hb); have HR := hidb (HR.out.trans (Gm.bind_here hq)); have Tt := hidb hq; clear hs hb hq)
    | (go_at_call 94; refine (hF.run H.out.at).mono ?_; rintro r1 w1 (⟨er, q, hq, rfl, hbu⟩ | ⟨x1, s1, V1, hq, rfl, hs⟩) <;> first | (have HL := hidb hs; have H := hidb (H.out.trans hs); (first | (with_reducible have HR := hidb (HR.out.trans hq)) | have HR := hidb (HR.out.trans (Gm.bind_ok hq)));  clear hs hq) | ((first | (with_reducible have HR := hidb (HR.out.trans hq)) | have HR := hidb (HR.out.trans (Gm.bind_err hq))); have HBU := hidb (but_then H.out.but H.out.own hbu); clear hq hbu)))
  · exact ⟨rfl, .inl ⟨_, _, HR.out, rfl, HBU.out⟩⟩
  have HR := hidb (HR.out.trans (Gm.bind_left rfl))
  go_loopg [4] s1.ts.length (fun gf s5 wx => ∃ (x : Nat) (sx : PS) (Vx : Value) (k : Nat), s5 = iv x ∧ St B g b o P w V wx Vx sx ∧ R = Gm.leftward (Gm.mul e) Gm.isAdd t.p k x sx ∧ sx.ts.length ≤ k ∧ k ≤ gf)
  case atStart => exact ⟨x1, s1, V1, _, rfl, H.out, HR.out, Nat.le_refl _, Nat.le_refl _⟩
  case round =>
    obtain ⟨x, sx, Vx, k, hs5, hst, hmore, hk, hkg⟩ := hrel
    subst hs5
    have hpos : 0 < sx.ts.length := by obtain ⟨r, hr⟩ := Gm.ne_hd hst.ne; rw [hr]; simp
    obtain ⟨k', rfl⟩ : ∃ k', k = k' + 1 := ⟨k - 1, by omega⟩
    obtain ⟨g', rfl⟩ : ∃ g', gk = g' + 1 := ⟨gk - 1, by omega⟩
    obtain ⟨u, hu⟩ : ∃ u, Gm.hd sx = u := ⟨_, rfl⟩
    have H := hidb hst
    have HR := hidb (hmore.trans (Gm.bind_here hu))
    have Tu := hidb hu
    have HQ : Hid True := hidb trivial
    clear hst hmore hu
    go_wp2_with (first
      | (go_at_call 69; refine (sIsU _ H.out.at).mono ?_; rintro r1 w1 ⟨u2, hu, ⟨hq, rfl⟩ | ⟨hq, rfl⟩, hb⟩ <;> (obtain rfl : u = u2 := Tu.out.symm.trans hu; have HQ := hidb (And.intro HQ.out hq); have H := hidb (H.out.below hb); clear hb hq hu))
      | (go_at_call 36; have hsg : Gm.isAdd u = true := (by simp [Gm.isAdd, HQ.out]); refine (sNext H.out.at (hk_of Tu.out (Gm.isAdd_k u hsg))).mono ?_; rintro r1 w1 ⟨t2, s1, hq, rfl, hs⟩; obtain rfl : u = t2 := Tu.out.symm.trans hq.1; have HC := hidb hq.2; have HR := hidb ((HR.out.trans (Gm.ite_t hsg)).trans (Gm.bind_next hq)); have H := hidb (H.out.trans hs); clear hs hq hsg)
      | (go_at_call 94; refine (hF.run H.out.at).mono ?_; rintro r1 w1 (⟨er, q, hq, rfl, hbu⟩ | ⟨y2, s1, V1, hq, rfl, hs⟩) <;> first | (have HF := hidb (hF.all _ H.out.ne _ _ hq).1; have H := hidb (H.out.trans hs); have HR := hidb (HR.out.trans (Gm.bind_ok hq)); clear hs hq) | (have HR := hidb (HR.out.trans (Gm.bind_err hq)); have HBU := hidb (but_then H.out.but H.out.own hbu); clear hq hbu))
      | (go_at_call 87; refine (sOp t.p u.x [x, y2] _ (H.out.below (below_new _ _)).at (LR.lit H.out.at _ _ rfl (by simp))).mono ?_; rintro r1 w1 (⟨er, q, hq, rfl, hbu⟩ | ⟨z, s1, V1, hq, rfl, hs⟩) <;> first | (have HO := hidb (Gm.all_op _ _ _ _ H.out.ne _ _ hq).1; have H := hidb ((H.out.below (below_new _ _)).trans hs); have HR := hidb (HR.out.trans (Gm.bind_ok hq)); clear hs hq) | (have HR := hidb (HR.out.trans (Gm.bind_err hq)); have HBU := hidb (but_then (H.out.below (below_new _ _)).but H.out.own hbu); clear hq hbu)))
    all_goals first
      | exact ⟨rfl, .inl ⟨_, _, HR.out, rfl, HBU.out⟩⟩
      | (go_roundg g'; (case measure => omega); (case rel => exact ⟨z, _, _, k', rfl, H.out, HR.out, (by have h1 := HC.out; have h2 := HF.out.len; have h3 := HO.out.len; subst h1; simp [Gm.cut] at h2; omega), (by omega)⟩))
      | exact bodyPost_ret (v := iv x) (by simp [results, Tryz.results93, go_sem]) rfl (.inr ⟨_, _, _, HR.out.trans (Gm.ite_f (by simp [Gm.isAdd, HQ.out])), rfl, H.out⟩)

set_option maxHeartbeats 2000000 in
set_option maxRecDepth 100000 in
theorem pMul (hF : FC B g b o 95 (Gm.unary e)) {P : Nat → Prop} {w : World} {V : Value} {s : PS} (h : At B g b o P w V s) :
    Calls Tryz.prog 94 #[.pointer (some ⟨g, 0, none⟩)] w fun r w' => Rz B g b o P w V (Gm.mul e s) iv r w' := by
  have H : Hid (St B g b o P w V w V s) := hidb h
  obtain ⟨R, hR⟩ : ∃ R, Gm.mul e s = R := ⟨_, rfl⟩
  rw [hR]
  have HR := hidb hR.symm
  clear hR
  clear h
  go_enter Tryz.func94, Tryz.ntmps94
  go_wp2_with (first
    | (go_at_call 32; refine (sHere H.out.at).mono ?_; rintro r1 w1 ⟨t, hq, rfl, hs, hb⟩; have H := hidb (H.out.below hb); have HR := hidb (HR.out.trans (Gm.bind_here hq)); have Tt := hidb hq; clear hs hb hq)
    | (go_at_call 95; refine (hF.run H.out.at).mono ?_; rintro r1 w1 (⟨er, q, hq, rfl, hbu⟩ | ⟨x1, s1, V1, hq, rfl, hs⟩) <;> first | (have HL := hidb hs; have H := hidb (H.out.trans hs); (first | (with_reducible have HR := hidb (HR.out.trans hq)) | have HR := hidb (HR.out.trans (Gm.bind_ok hq)));  clear hs hq) | ((first | (with_reducible have HR := hidb (HR.out.trans hq)) | have HR := hidb (HR.out.trans (Gm.bind_err hq))); have HBU := hidb (but_then H.out.but H.out.own hbu); clear hq hbu)))
  · exact ⟨rfl, .inl ⟨_, _, HR.out, rfl, HBU.out⟩⟩
  have HR := hidb (HR.out.trans (Gm.bind_left rfl))
  go_loopg [4] s1.ts.length (fun gf s5 wx => ∃ (x : Nat) (sx : PS) (Vx : Value) (k : Nat), s5 = iv x ∧ St B g b o P w V wx Vx sx ∧ R = Gm.leftward (Gm.unary e) Gm.isMul t.p k x sx ∧ sx.ts.length ≤ k ∧ k ≤ gf)
  case atStart => exact ⟨x1, s1, V1, _, rfl, H.out, HR.out, Nat.le_refl _, Nat.le_refl _⟩
  case round =>
    obtain ⟨x, sx, Vx, k, hs5, hst, hmore, hk, hkg⟩ := hrel
    subst hs5
    have hpos : 0 < sx.ts.length := by obtain ⟨r, hr⟩ := Gm.ne_hd hst.ne; rw [hr]; simp
    obtain ⟨k', rfl⟩ : ∃ k', k = k' + 1 := ⟨k - 1, by omega⟩
    obtain ⟨g', rfl⟩ : ∃ g', gk = g' + 1 := ⟨gk - 1, by omega⟩
    obtain ⟨u, hu⟩ : ∃ u, Gm.hd sx = u := ⟨_, rfl⟩
    have H := hidb hst
    have HR := hidb (hmore.trans (Gm.bind_here hu))
    have Tu := hidb hu
    have HQ : Hid True := hidb trivial
    clear hst hmore hu
    go_wp2_with (first
      | (go_at_call 69; refine (sIsU _ H.out.at).mono ?_; rintro r1 w1 ⟨u2, hu, ⟨hq, rfl⟩ | ⟨hq, rfl⟩, hb⟩ <;> (obtain rfl : u = u2 := Tu.out.symm.trans hu; have HQ := hidb (And.intro HQ.out hq); have H := hidb (H.out.below hb); clear hb hq hu))
      | (go_at_call 36; have hsg : Gm.isMul u = true := (by simp [Gm.isMul, HQ.out]); refine (sNext H.out.at (hk_of Tu.out (Gm.isMul_k u hsg))).mono ?_; rintro r1 w1 ⟨t2, s1, hq, rfl, hs⟩; obtain rfl : u = t2 := Tu.out.symm.trans hq.1; have HC := hidb hq.2; have HR := hidb ((HR.out.trans (Gm.ite_t hsg)).trans (Gm.bind_next hq)); have H := hidb (H.out.trans hs); clear hs hq hsg)
      | (go_at_call 95; refine (hF.run H.out.at).mono ?_; rintro r1 w1 (⟨er, q, hq, rfl, hbu⟩ | ⟨y2, s1, V1, hq, rfl, hs⟩) <;> first | (have HF := hidb (hF.all _ H.out.ne _ _ hq).1; have H := hidb (H.out.trans hs); have HR := hidb (HR.out.trans (Gm.bind_ok hq)); clear hs hq) | (have HR := hidb (HR.out.trans (Gm.bind_err hq)); have HBU := hidb (but_then H.out.but H.out.own hbu); clear hq hbu))
      | (go_at_call 87; refine (sOp t.p u.x [x, y2] _ (H.out.below (below_new _ _)).at (LR.lit H.out.at _ _ rfl (by simp))).mono ?_; rintro r1 w1 (⟨er, q, hq, rfl, hbu⟩ | ⟨z, s1, V1, hq, rfl, hs⟩) <;> first | (have HO := hidb (Gm.all_op _ _ _ _ H.out.ne _ _ hq).1; have H := hidb ((H.out.below (below_new _ _)).trans hs); have HR := hidb (HR.out.trans (Gm.bind_ok hq)); clear hs hq) | (have HR := hidb (HR.out.trans (Gm.bind_err hq)); have HBU := hidb (but_then (H.out.below (below_new _ _)).but H.out.own hbu); clear hq hbu)))
    all_goals first
      | exact ⟨rfl, .inl ⟨_, _, HR.out, rfl, HBU.out⟩⟩
      | (go_roundg g'; (case measure => omega); (case rel => exact ⟨z, _, _, k', rfl, H.out, HR.out, (by have h1 := HC.out; have h2 := HF.out.len; have h3 := HO.out.len; subst h1; simp [Gm.cut] at h2; omega), (by omega)⟩))
      | exact bodyPost_ret (v := iv x) (by simp [results, Tryz.results94, go_sem]) rfl (.inr ⟨_, _, _, HR.out.trans (Gm.ite_f (by simp [Gm.isMul, HQ.out])), rfl, H.out⟩)

set_option maxHeartbeats 2000000 in
set_option maxRecDepth 100000 in
theorem pOpened (hE : EC B g b o e) (hF : FC B g b o 89 (Gm.andalso e)) {P : Nat → Prop} {w : World} {V : Value} {s : PS} (h : At B g b o P w V s) :
    Calls Tryz.prog 85 #[.pointer (some ⟨g, 0, none⟩)] w fun r w' => Rz B g b o P w V (Gm.opened e s) iv r w' := by
  have H : Hid (St B g b o P w V w V s) := hidb h
  obtain ⟨R, hR⟩ : ∃ R, Gm.opened e s = R := ⟨_, rfl⟩
  rw [hR]
  have HR := hidb hR.symm
  clear hR
  have HE := hidb hE
  clear h hE
  go_enter Tryz.func85, Tryz.ntmps85
  go_wp2_with (first
    | (go_at_call 32; refine (sHere H.out.at).mono ?_; rintro r1 w1 ⟨t, hq, rfl, hs, hb⟩; have H := hidb (H.out.below hb); have HR := hidb (HR.out.trans (Gm.bind_here hq)); have Tt := hidb hq; clear hs hb hq)
    | (go_at_call 51; refine (sTake _ H.out.at).mono ?_; rintro r1 w1 (⟨s1, hq, rfl, hs⟩ | ⟨hq, rfl, hs⟩) <;> first | (have HR := hidb (HR.out.trans (Gm.bind_t hq.1)); have HT := hidb hq.2; have HL := hidb hs; have H := hidb (H.out.trans hs);  clear hs hq) | (have HR := hidb (HR.out.trans (Gm.bind_f hq)); have HL := hidb hs; have H := hidb (H.out.trans hs);  clear hs hq))
    | (go_at_call 84; refine (HE.out.run H.out.at).mono ?_; rintro r1 w1 (⟨er, q, hq, rfl, hbu⟩ | ⟨y, s1, V1, hq, rfl, hs⟩) <;> first | (have HL := hidb hs; have H := hidb (H.out.trans hs); (first | (with_reducible have HR := hidb (HR.out.trans hq)) | have HR := hidb (HR.out.trans (Gm.bind_ok hq)));  clear hs hq) | ((first | (with_reducible have HR := hidb (HR.out.trans hq)) | have HR := hidb (HR.out.trans (Gm.bind_err hq))); have HBU := hidb (but_then H.out.but H.out.own hbu); clear hq hbu))
    | (go_at_call 86; refine (pOrelse hF H.out.at).mono ?_; rintro r1 w1 (⟨er, q, hq, rfl, hbu⟩ | ⟨x, s1, V1, hq, rfl, hs⟩) <;> first | (have HL := hidb hs; have H := hidb (H.out.trans hs); (first | (with_reducible have HR := hidb (HR.out.trans hq)) | have HR := hidb (HR.out.trans (Gm.bind_ok hq)));  clear hs hq) | ((first | (with_reducible have HR := hidb (HR.out.trans hq)) | have HR := hidb (HR.out.trans (Gm.bind_err hq))); have HBU := hidb (but_then H.out.but H.out.own hbu); clear hq hbu))
    | (go_at_call 39; refine (sLayR HR.out (H.out.below (below_new _ _)).at (LR.lit H.out.at _ _ rfl (by simp))).mono ?_; rintro r1 w1 (⟨er, q, hq, rfl, hbu⟩ | ⟨z, s1, V1, hq, rfl, hs⟩) <;> first | (have H := hidb ((H.out.below (below_new _ _)).trans hs); have HR := hidb hq; clear hs hq) | (have HR := hidb hq; have HBU := hidb (but_then (H.out.below (below_new _ _)).but H.out.own hbu); clear hq hbu))
    | (go_at_call 87; refine (sOpR HR.out (H.out.below (below_new _ _)).at (LR.lit H.out.at _ _ rfl (by simp))).mono ?_; rintro r1 w1 (⟨er, q, hq, rfl, hbu⟩ | ⟨z, s1, V1, hq, rfl, hs⟩) <;> first | (have H := hidb ((H.out.below (below_new _ _)).trans hs); have HR := hidb hq; clear hs hq) | (have HR := hidb hq; have HBU := hidb (but_then (H.out.below (below_new _ _)).but H.out.own hbu); clear hq hbu)))

  · exact ⟨rfl, .inl ⟨_, _, HR.out, rfl, HBU.out⟩⟩
  · exact ⟨rfl, .inl ⟨_, _, HR.out, rfl, HBU.out⟩⟩
  · exact bodyPost_ret (v := iv z) (by simp [results, Tryz.results85, go_sem]) rfl (.inr ⟨_, _, _, HR.out, rfl, H.out⟩)
  · exact ⟨rfl, .inl ⟨_, _, HR.out, rfl, HBU.out⟩⟩
  · exact ⟨rfl, .inl ⟨_, _, HR.out, rfl, HBU.out⟩⟩
  · exact ⟨rfl, .inl ⟨_, _, HR.out, rfl, HBU.out⟩⟩
  · exact bodyPost_ret (v := iv z) (by simp [results, Tryz.results85, go_sem]) rfl (.inr ⟨_, _, _, HR.out, rfl, H.out⟩)
  · exact ⟨rfl, .inl ⟨_, _, HR.out, rfl, HBU.out⟩⟩
  · exact ⟨rfl, .inl ⟨_, _, HR.out, rfl, HBU.out⟩⟩
  · exact bodyPost_ret (v := iv z) (by simp [results, Tryz.results85, go_sem]) rfl (.inr ⟨_, _, _, HR.out, rfl, H.out⟩)
  · exact bodyPost_ret (v := iv x) (by simp [results, Tryz.results85, go_sem]) rfl (.inr ⟨_, _, _, HR.out, rfl, H.out⟩)
end Go.Proofs.YtdpfmmbfidknfaaGreatDoor


