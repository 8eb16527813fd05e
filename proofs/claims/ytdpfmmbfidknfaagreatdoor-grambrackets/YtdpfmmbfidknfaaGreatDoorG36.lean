import Derived.Test.YtdpfmmbfidknfaaGreatDoorG35
/- class, cclause. -/
namespace Go.Proofs.YtdpfmmbfidknfaaGreatDoor
open Go.RowKit Go.Lib
attribute [local go_sem] store_float f64bits
attribute [local go_sem ↓] Go.wp_at_zero Go.wp_at_succ
attribute [local go_sem] nd_p tk_k tk_x tk_n tk_f tk_p
variable {B g b o : Nat} {e : PM Nat}

theorem cls_t {s : PS} {t : Tk} (h : Gm.hd s = t) (hk : t.k = 1 ∨ t.k = 2) (hm : Gm.isM (Gm.hd2 s) ⟨#[58]⟩ = true) : Gm.cls s = (if Gm.isClass t then (Gm.leaf >>= fun x => Gm.need ⟨#[58]⟩ >>= fun _ => pure x) else Gm.giveUp 24 : PM Nat) s := by
  subst h
  exact Gm.ite_t ⟨hk, hm⟩
theorem cls_f {s : PS} {t : Tk} (h : Gm.hd s = t) (hk : ¬ ((t.k = 1 ∨ t.k = 2) ∧ Gm.isM (Gm.hd2 s) ⟨#[58]⟩ = true)) : Gm.cls s = Gm.lay ⟨3, ⟨#[116, 104, 114, 111, 119]⟩, 0, 0, [], t.p⟩ s := by
  subst h
  exact Gm.ite_f hk

set_option maxHeartbeats 2000000 in
set_option maxRecDepth 100000 in
theorem pClass {P : Nat → Prop} {w : World} {V : Value} {s : PS} (h : At B g b o P w V s) :
    Calls Tryz.prog 118 #[.pointer (some ⟨g, 0, none⟩)] w fun r w' => Rz B g b o P w V (Gm.cls s) iv r w' := by
  have H : Hid (St B g b o P w V w V s) := hidb h
  obtain ⟨R, hR⟩ : ∃ R, Gm.cls s = R := ⟨_, rfl⟩
  rw [hR]
  have HR := hidb hR.symm
  clear hR
  obtain ⟨t0, ht⟩ : ∃ t, Gm.hd s = t := ⟨_, rfl⟩
  obtain ⟨tk, tx, tn, tf, tp⟩ := t0
  have TK := hidb ht
  clear h ht
  by_cases h1 : tk = 1
  · subst h1
    go_enter Tryz.func118, Tryz.ntmps118
    go_wp2_with (first
      | (go_at_call 32; refine (sHere H.out.at).mono ?_; rintro r1 w1 ⟨t, hq, rfl, hs, hb⟩; obtain rfl : t = ⟨1, tx, tn, tf, tp⟩ := hq.symm.trans TK.out; have HR := hidb HR.out; have H := hidb (H.out.below hb); have BX := hidb (Box.new w1 59 (.int .i64 1) (.string tx) (.int .i64 tn) (.float .f64 tf) (.int .i64 (tp : Int))); have HX := hidb (H.out.below (below_new w1 (.cells #[.int .i64 1, .string tx, .int .i64 tn, .float .f64 tf, .int .i64 (tp : Int)] 59))); clear hs hb hq)
      | (go_at_call 98; refine (sAhead _ HX.out.at (hk_of TK.out (by simp))).mono ?_; rintro r1 w2 ⟨⟨hq, rfl⟩ | ⟨hq, rfl⟩, hb⟩ <;> first | (have HR := hidb (HR.out.trans (cls_t TK.out (.inl rfl) hq)); obtain ⟨d0, d1, d2, d3, d4, -⟩ := BX.out.keep hb; have HX := hidb (HX.out.below hb); clear hb hq) | (have HR := hidb (HR.out.trans (cls_f TK.out (by simp [hq]))); obtain ⟨d0, d1, d2, d3, d4, -⟩ := BX.out.keep hb; have HX := hidb (HX.out.below hb); clear hb hq))
      | (go_at_call 119; refine (pIsClass_any ⟨1, tx, tn, tf, tp⟩ _).mono ?_; rintro r1 w3 ⟨rfl, hb⟩; have HX := hidb (HX.out.below hb); clear hb; obtain ⟨c, hc⟩ : ∃ c, Gm.isClass ⟨1, tx, tn, tf, tp⟩ = c := ⟨_, rfl⟩; rw [hc]; have HC := hidb hc; clear hc; cases c)
      | (go_at_call 35; refine (sGiveUp (α := Nat) 24 HX.out.at).mono ?_; rintro r1 w1 ⟨q, hq, rfl, hbu⟩; have HBU := hidb (but_then HX.out.but HX.out.own hbu); have HR := hidb ((HR.out.trans (Gm.ite_f (by simp [HC.out]))).trans hq); clear hq hbu)
      | (go_at_call 100; refine (pLeaf HX.out.at (hk_of TK.out (by simp))).mono ?_; rintro r1 w1 (⟨er, q, hq, rfl, hbu⟩ | ⟨x, s1, V1, hq, rfl, hs⟩) <;> first | (have H := hidb (HX.out.trans hs); have HR := hidb ((HR.out.trans (Gm.ite_t HC.out)).trans (Gm.bind_ok hq)); clear hs hq) | (have HR := hidb ((HR.out.trans (Gm.ite_t HC.out)).trans (Gm.bind_err hq)); have HBU := hidb (but_then HX.out.but HX.out.own hbu); clear hq hbu))
      | (go_at_call 33; refine (sNeed _ H.out.at).mono ?_; rintro r1 w1 (⟨er, q, hq, rfl, hbu⟩ | ⟨s1, hq, rfl, hs⟩) <;> first | (have HL := hidb hs; have H := hidb (H.out.trans hs); (first | (with_reducible have HR := hidb (HR.out.trans hq)) | have HR := hidb (HR.out.trans (Gm.bind_ok hq)));  clear hs hq) | ((first | (with_reducible have HR := hidb (HR.out.trans hq)) | have HR := hidb (HR.out.trans (Gm.bind_err hq))); have HBU := hidb (but_then H.out.but H.out.own hbu); clear hq hbu))
      | (go_at_call 39; refine (sLayR HR.out HX.out.at (LR.none _ _ _ _)).mono ?_; rintro r1 w1 (⟨er, q, hq, rfl, hbu⟩ | ⟨z, s1, V1, hq, rfl, hs⟩) <;> first | (have H := hidb (HX.out.trans hs); have HR := hidb hq; clear hs hq) | (have HR := hidb hq; have HBU := hidb (but_then HX.out.but HX.out.own hbu); clear hq hbu)))
    · exact ⟨rfl, .inl ⟨_, _, HR.out, rfl, HBU.out⟩⟩
    · exact ⟨rfl, .inl ⟨_, _, HR.out, rfl, HBU.out⟩⟩
    · exact ⟨rfl, .inl ⟨_, _, HR.out, rfl, HBU.out⟩⟩
    · exact bodyPost_ret (v := iv x) (by simp [results, Tryz.results118, go_sem]) rfl (.inr ⟨_, _, _, HR.out, rfl, H.out⟩)
    · exact ⟨rfl, .inl ⟨_, _, HR.out, rfl, HBU.out⟩⟩
    · exact bodyPost_ret (v := iv z) (by simp [results, Tryz.results118, go_sem]) rfl (.inr ⟨_, _, _, HR.out, rfl, H.out⟩)
  by_cases h2 : tk = 2
  · subst h2
    go_enter Tryz.func118, Tryz.ntmps118
    go_wp2_with (first
      | (go_at_call 32; refine (sHere H.out.at).mono ?_; rintro r1 w1 ⟨t, hq, rfl, hs, hb⟩; obtain rfl : t = ⟨2, tx, tn, tf, tp⟩ := hq.symm.trans TK.out; have HR := hidb HR.out; have H := hidb (H.out.below hb); have BX := hidb (Box.new w1 59 (.int .i64 2) (.string tx) (.int .i64 tn) (.float .f64 tf) (.int .i64 (tp : Int))); have HX := hidb (H.out.below (below_new w1 (.cells #[.int .i64 2, .string tx, .int .i64 tn, .float .f64 tf, .int .i64 (tp : Int)] 59))); clear hs hb hq)
      | (go_at_call 98; refine (sAhead _ HX.out.at (hk_of TK.out (by simp))).mono ?_; rintro r1 w2 ⟨⟨hq, rfl⟩ | ⟨hq, rfl⟩, hb⟩ <;> first | (have HR := hidb (HR.out.trans (cls_t TK.out (.inr rfl) hq)); obtain ⟨d0, d1, d2, d3, d4, -⟩ := BX.out.keep hb; have HX := hidb (HX.out.below hb); clear hb hq) | (have HR := hidb (HR.out.trans (cls_f TK.out (by simp [hq]))); obtain ⟨d0, d1, d2, d3, d4, -⟩ := BX.out.keep hb; have HX := hidb (HX.out.below hb); clear hb hq))
      | (go_at_call 119; refine (pIsClass_any ⟨2, tx, tn, tf, tp⟩ _).mono ?_; rintro r1 w3 ⟨rfl, hb⟩; have HX := hidb (HX.out.below hb); clear hb; obtain ⟨c, hc⟩ : ∃ c, Gm.isClass ⟨2, tx, tn, tf, tp⟩ = c := ⟨_, rfl⟩; rw [hc]; have HC := hidb hc; clear hc; cases c)
      | (go_at_call 35; refine (sGiveUp (α := Nat) 24 HX.out.at).mono ?_; rintro r1 w1 ⟨q, hq, rfl, hbu⟩; have HBU := hidb (but_then HX.out.but HX.out.own hbu); have HR := hidb ((HR.out.trans (Gm.ite_f (by simp [HC.out]))).trans hq); clear hq hbu)
      | (go_at_call 100; refine (pLeaf HX.out.at (hk_of TK.out (by simp))).mono ?_; rintro r1 w1 (⟨er, q, hq, rfl, hbu⟩ | ⟨x, s1, V1, hq, rfl, hs⟩) <;> first | (have H := hidb (HX.out.trans hs); have HR := hidb ((HR.out.trans (Gm.ite_t HC.out)).trans (Gm.bind_ok hq)); clear hs hq) | (have HR := hidb ((HR.out.trans (Gm.ite_t HC.out)).trans (Gm.bind_err hq)); have HBU := hidb (but_then HX.out.but HX.out.own hbu); clear hq hbu))
      | (go_at_call 33; refine (sNeed _ H.out.at).mono ?_; rintro r1 w1 (⟨er, q, hq, rfl, hbu⟩ | ⟨s1, hq, rfl, hs⟩) <;> first | (have HL := hidb hs; have H := hidb (H.out.trans hs); (first | (with_reducible have HR := hidb (HR.out.trans hq)) | have HR := hidb (HR.out.trans (Gm.bind_ok hq)));  clear hs hq) | ((first | (with_reducible have HR := hidb (HR.out.trans hq)) | have HR := hidb (HR.out.trans (Gm.bind_err hq))); have HBU := hidb (but_then H.out.but H.out.own hbu); clear hq hbu))
      | (go_at_call 39; refine (sLayR HR.out HX.out.at (LR.none _ _ _ _)).mono ?_; rintro r1 w1 (⟨er, q, hq, rfl, hbu⟩ | ⟨z, s1, V1, hq, rfl, hs⟩) <;> first | (have H := hidb (HX.out.trans hs); have HR := hidb hq; clear hs hq) | (have HR := hidb hq; have HBU := hidb (but_then HX.out.but HX.out.own hbu); clear hq hbu)))
    · exact ⟨rfl, .inl ⟨_, _, HR.out, rfl, HBU.out⟩⟩
    · exact ⟨rfl, .inl ⟨_, _, HR.out, rfl, HBU.out⟩⟩
    · exact ⟨rfl, .inl ⟨_, _, HR.out, rfl, HBU.out⟩⟩
    · exact bodyPost_ret (v := iv x) (by simp [results, Tryz.results118, go_sem]) rfl (.inr ⟨_, _, _, HR.out, rfl, H.out⟩)
    · exact ⟨rfl, .inl ⟨_, _, HR.out, rfl, HBU.out⟩⟩
    · exact bodyPost_ret (v := iv z) (by simp [results, Tryz.results118, go_sem]) rfl (.inr ⟨_, _, _, HR.out, rfl, H.out⟩)
  have HN : Hid (¬ ((tk = 1 ∨ tk = 2) ∧ Gm.isM (Gm.hd2 s) ⟨#[58]⟩ = true)) := hidb (by simp [h1, h2])
  go_enter Tryz.func118, Tryz.ntmps118
  go_wp2_with (first
    | (go_at_call 32; refine (sHere H.out.at).mono ?_; rintro r1 w1 ⟨t, hq, rfl, hs, hb⟩; obtain rfl : t = ⟨tk, tx, tn, tf, tp⟩ := hq.symm.trans TK.out; have HR := hidb (HR.out.trans (cls_f TK.out HN.out)); have H := hidb (H.out.below hb); have BX := hidb (Box.new w1 59 (.int .i64 tk) (.string tx) (.int .i64 tn) (.float .f64 tf) (.int .i64 (tp : Int))); have HX := hidb (H.out.below (below_new w1 (.cells #[.int .i64 tk, .string tx, .int .i64 tn, .float .f64 tf, .int .i64 (tp : Int)] 59))); clear hs hb hq)
    | (go_at_call 39; refine (sLayR HR.out HX.out.at (LR.none _ _ _ _)).mono ?_; rintro r1 w1 (⟨er, q, hq, rfl, hbu⟩ | ⟨z, s1, V1, hq, rfl, hs⟩) <;> first | (have H := hidb (HX.out.trans hs); have HR := hidb hq; clear hs hq) | (have HR := hidb hq; have HBU := hidb (but_then HX.out.but HX.out.own hbu); clear hq hbu)))
  · exact ⟨rfl, .inl ⟨_, _, HR.out, rfl, HBU.out⟩⟩
  · exact bodyPost_ret (v := iv z) (by simp [results, Tryz.results118, go_sem]) rfl (.inr ⟨_, _, _, HR.out, rfl, H.out⟩)

set_option maxHeartbeats 2000000 in
set_option maxRecDepth 100000 in
theorem pCclause (hE : EC B g b o e) {P : Nat → Prop} {w : World} {V : Value} {s : PS} (h : At B g b o P w V s) :
    Calls Tryz.prog 115 #[.pointer (some ⟨g, 0, none⟩)] w fun r w' => Rz B g b o P w V (Gm.cclause e s) iv r w' := by
  have H : Hid (St B g b o P w V w V s) := hidb h
  obtain ⟨R, hR⟩ : ∃ R, Gm.cclause e s = R := ⟨_, rfl⟩
  rw [hR]
  have HR := hidb hR.symm
  clear hR
  have HP := hidb h.plt
  have HE := hidb hE
  clear h hE
  go_enter Tryz.func115, Tryz.ntmps115
  go_wp2_with (first
    | (go_at_call 32; refine (sHere H.out.at).mono ?_; rintro r1 w1 ⟨t, hq, rfl, hs, hb⟩; have H := hidb (H.out.below hb); have HR := hidb (HR.out.trans (Gm.bind_here hq)); have Tt := hidb hq; clear hs hb hq)
    | (go_at_call 118; refine (pClass H.out.at).mono ?_; rintro r1 w1 (⟨er, q, hq, rfl, hbu⟩ | ⟨c, s1, V1, hq, rfl, hs⟩) <;> first | (have HL := hidb hs; have H := hidb (H.out.trans hs); (first | (with_reducible have HR := hidb (HR.out.trans hq)) | have HR := hidb (HR.out.trans (Gm.bind_ok hq)));  clear hs hq) | ((first | (with_reducible have HR := hidb (HR.out.trans hq)) | have HR := hidb (HR.out.trans (Gm.bind_err hq))); have HBU := hidb (but_then H.out.but H.out.own hbu); clear hq hbu))
    | (go_at_call 84; refine (HE.out.run H.out.at).mono ?_; rintro r1 w1 (⟨er, q, hq, rfl, hbu⟩ | ⟨x, s1, V1, hq, rfl, hs⟩) <;> first | (have HL := hidb hs; have H := hidb (H.out.trans hs); (first | (with_reducible have HR := hidb (HR.out.trans hq)) | have HR := hidb (HR.out.trans (Gm.bind_ok hq)));  clear hs hq) | ((first | (with_reducible have HR := hidb (HR.out.trans hq)) | have HR := hidb (HR.out.trans (Gm.bind_err hq))); have HBU := hidb (but_then H.out.but H.out.own hbu); clear hq hbu))
    | (go_at_call 70; refine (pTail HE.out t.p ⟨#[]⟩ [c, x] (IR.lit H.out #[iv c, iv x] [c, x] rfl (by simp)).2 (IR.lit H.out #[iv c, iv x] [c, x] rfl (by simp)).1 (by simp) HP.out).mono ?_; rintro r1 w1 (⟨er, q, hq, rfl, hbu⟩ | ⟨z, s1, V1, hq, rfl, hs⟩) <;> first | (have H := hidb hs; (first | (with_reducible have HR := hidb (HR.out.trans hq)) | have HR := hidb (HR.out.trans (Gm.bind_ok hq))); clear hs hq) | ((first | (with_reducible have HR := hidb (HR.out.trans hq)) | have HR := hidb (HR.out.trans (Gm.bind_err hq))); have HBU := hidb (hbu); clear hq hbu)))
  · exact ⟨rfl, .inl ⟨_, _, HR.out, rfl, HBU.out⟩⟩
  · exact ⟨rfl, .inl ⟨_, _, HR.out, rfl, HBU.out⟩⟩
  · exact ⟨rfl, .inl ⟨_, _, HR.out, rfl, HBU.out⟩⟩
  · exact bodyPost_ret (v := iv z) (by simp [results, Tryz.results115, go_sem]) rfl (.inr ⟨_, _, _, HR.out, rfl, H.out⟩)

end Go.Proofs.YtdpfmmbfidknfaaGreatDoor


/- begin, choice, fun, patience. -/
namespace Go.Proofs.YtdpfmmbfidknfaaGreatDoor
open Go.RowKit Go.Lib
attribute [local go_sem] store_float f64bits
attribute [local go_sem ↓] Go.wp_at_zero Go.wp_at_succ
attribute [local go_sem] nd_p tk_k tk_x tk_n tk_f tk_p
variable {B g b o : Nat} {e : PM Nat}

theorem ent_clause : Ent 111 := by
  intro args w
  kernel_rfl
theorem ent_gclause : Ent 113 := by
  intro args w
  kernel_rfl
theorem ent_cclause : Ent 115 := by
  intro args w
  kernel_rfl
theorem ent_fclause : Ent 54 := by
  intro args w
  kernel_rfl
theorem ent_add : Ent 93 := by
  intro args w
  kernel_rfl
theorem ent_compare : Ent 90 := by
  intro args w
  kernel_rfl
theorem ent_andalso : Ent 89 := by
  intro args w
  kernel_rfl
theorem ent_mul : Ent 94 := by
  intro args w
  kernel_rfl
theorem ent_unary : Ent 95 := by
  intro args w
  kernel_rfl
theorem fc_clause (hE : EC B g b o e) : FC B g b o 111 (Gm.clause e) := ⟨Gm.all_clause hE.all, ent_clause, fun h => pClause hE h⟩
theorem fc_gclause (hE : EC B g b o e) : FC B g b o 113 (Gm.gclause e) := ⟨Gm.all_gclause hE.all, ent_gclause, fun h => pGclause hE h⟩
theorem fc_cclause (hE : EC B g b o e) : FC B g b o 115 (Gm.cclause e) := ⟨Gm.all_cclause hE.all, ent_cclause, fun h => pCclause hE h⟩
theorem fc_fclause (hE : EC B g b o e) : FC B g b o 54 (Gm.fclause e) := ⟨Gm.all_fclause hE.all, ent_fclause, fun h => pFclause hE h⟩

set_option maxHeartbeats 2000000 in
set_option maxRecDepth 100000 in
theorem pBegin (hE : EC B g b o e) {P : Nat → Prop} {w : World} {V : Value} {s : PS} (h : At B g b o P w V s) (hk : (Gm.hd s).k ≠ 8) :
    Calls Tryz.prog 106 #[.pointer (some ⟨g, 0, none⟩)] w fun r w' => Rz B g b o P w V (Gm.begin e s) iv r w' := by
  have H : Hid (St B g b o P w V w V s) := hidb h
  obtain ⟨R, hR⟩ : ∃ R, Gm.begin e s = R := ⟨_, rfl⟩
  rw [hR]
  have HR := hidb hR.symm
  clear hR
  have HP := hidb h.plt
  have HK := hidb hk
  clear hk
  have HE := hidb hE
  clear h hE
  go_enter Tryz.func106, Tryz.ntmps106
  go_wp2_with (first
    | (go_at_call 36; refine (sNext H.out.at HK.out).mono ?_; rintro r1 w1 ⟨t, s1, hq, rfl, hs⟩; have H := hidb (H.out.trans hs); have HR := hidb (HR.out.trans (Gm.bind_next hq)); have Tt := hidb hq.1; clear hs hq)
    | (go_at_call 80; refine (pExprs HE.out Gm.noBound H.out.at).mono ?_; rintro r1 w1 (⟨er, q, hq, rfl, hbu⟩ | ⟨l, s1, V1, v, hq, rfl, hs, hs2, hi, hlen⟩) <;> first | (obtain ⟨la, lc, rfl⟩ := hi.sl; have HI := hidb (hi.rebase H.out.but.size); have HN := hidb hlen; have H := hidb (H.out.trans hs2); (first | (with_reducible have HR := hidb (HR.out.trans hq)) | have HR := hidb (HR.out.trans (Gm.bind_ok hq))); clear hs hs2 hi hq hlen) | ((first | (with_reducible have HR := hidb (HR.out.trans hq)) | have HR := hidb (HR.out.trans (Gm.bind_err hq))); have HBU := hidb (but_then H.out.but H.out.own hbu); clear hq hbu))
    | (go_at_call 33; refine (sNeed _ H.out.at).mono ?_; rintro r1 w1 (⟨er, q, hq, rfl, hbu⟩ | ⟨s1, hq, rfl, hs⟩) <;> first | (have HI := hidb (HI.out.step hs); have H := hidb (H.out.trans hs); (first | (with_reducible have HR := hidb (HR.out.trans hq)) | have HR := hidb (HR.out.trans (Gm.bind_ok hq))); clear hs hq) | (have H := hidb (H.out.trans hs); (first | (with_reducible have HR := hidb (HR.out.trans hq)) | have HR := hidb (HR.out.trans (Gm.bind_ok hq))); clear hs hq) | ((first | (with_reducible have HR := hidb (HR.out.trans hq)) | have HR := hidb (HR.out.trans (Gm.bind_err hq))); have HBU := hidb (but_then H.out.but H.out.own hbu); clear hq hbu))
    | (go_at_call 39; refine (sLayR HR.out H.out.drop.at (HI.out.lr HP.out)).mono ?_; rintro r1 w1 (⟨er, q, hq, rfl, hbu⟩ | ⟨z, s1, V1, hq, rfl, hs⟩) <;> first | (have H := hidb (H.out.drop.trans hs); have HR := hidb hq; clear hs hq) | (have HR := hidb hq; have HBU := hidb (but_then H.out.but H.out.own hbu); clear hq hbu)))
  · exact ⟨rfl, .inl ⟨_, _, HR.out, rfl, HBU.out⟩⟩
  · exact ⟨rfl, .inl ⟨_, _, HR.out, rfl, HBU.out⟩⟩
  · exact ⟨rfl, .inl ⟨_, _, HR.out, rfl, HBU.out⟩⟩
  · exact bodyPost_ret (v := iv z) (by simp [results, Tryz.results106, go_sem]) rfl (.inr ⟨_, _, _, HR.out, rfl, H.out⟩)

set_option maxHeartbeats 2000000 in
set_option maxRecDepth 100000 in
theorem pChoice (hE : EC B g b o e) {P : Nat → Prop} {w : World} {V : Value} {s : PS} (h : At B g b o P w V s) (hk : (Gm.hd s).k ≠ 8) :
    Calls Tryz.prog 107 #[.pointer (some ⟨g, 0, none⟩)] w fun r w' => Rz B g b o P w V (Gm.choice e s) iv r w' := by
  have H : Hid (St B g b o P w V w V s) := hidb h
  obtain ⟨R, hR⟩ : ∃ R, Gm.choice e s = R := ⟨_, rfl⟩
  rw [hR]
  have HR := hidb hR.symm
  clear hR
  have HK := hidb hk
  clear hk
  have HE := hidb hE
  clear h hE
  have hmf : ∀ (fn : Fn) (first cap : Array Value) (w : World), (Instr.makeFunc fn first cap).run Tryz.prog w = .ok (.func fn first cap) w := fun _ _ _ _ => rfl
  go_enter Tryz.func107, Tryz.ntmps107
  go_wp2_with (first
    | (go_at_call 36; refine (sNext H.out.at HK.out).mono ?_; rintro r1 w1 ⟨t, s1, hq, rfl, hs⟩; have H := hidb (H.out.trans hs); have HR := hidb (HR.out.trans (Gm.bind_next hq)); have Tt := hidb hq.1; clear hs hq)
    | (go_at_call 84; refine (HE.out.run H.out.at).mono ?_; rintro r1 w1 (⟨er, q, hq, rfl, hbu⟩ | ⟨x, s1, V1, hq, rfl, hs⟩) <;> first | (have HL := hidb hs; have H := hidb (H.out.trans hs); (first | (with_reducible have HR := hidb (HR.out.trans hq)) | have HR := hidb (HR.out.trans (Gm.bind_ok hq)));  clear hs hq) | ((first | (with_reducible have HR := hidb (HR.out.trans hq)) | have HR := hidb (HR.out.trans (Gm.bind_err hq))); have HBU := hidb (but_then H.out.but H.out.own hbu); clear hq hbu))
    | (go_at_call 33; refine (sNeed _ H.out.at).mono ?_; rintro r1 w1 (⟨er, q, hq, rfl, hbu⟩ | ⟨s1, hq, rfl, hs⟩) <;> first | (have HL := hidb hs; have H := hidb (H.out.trans hs); (first | (with_reducible have HR := hidb (HR.out.trans hq)) | have HR := hidb (HR.out.trans (Gm.bind_ok hq)));  clear hs hq) | ((first | (with_reducible have HR := hidb (HR.out.trans hq)) | have HR := hidb (HR.out.trans (Gm.bind_err hq))); have HBU := hidb (but_then H.out.but H.out.own hbu); clear hq hbu))
    | (go_at_call 53; refine (pClauses (fc_clause HE.out) H.out.at).mono ?_; rintro r1 w1 (⟨er, q, hq, rfl, hbu⟩ | ⟨c, s1, V1, hq, rfl, hs⟩) <;> first | (have HL := hidb hs; have H := hidb (H.out.trans hs); (first | (with_reducible have HR := hidb (HR.out.trans hq)) | have HR := hidb (HR.out.trans (Gm.bind_ok hq)));  clear hs hq) | ((first | (with_reducible have HR := hidb (HR.out.trans hq)) | have HR := hidb (HR.out.trans (Gm.bind_err hq))); have HBU := hidb (but_then H.out.but H.out.own hbu); clear hq hbu))
    | (go_at_call 39; refine (sLayR HR.out (H.out.below (below_new _ _)).at (LR.lit H.out.at _ _ rfl (by simp))).mono ?_; rintro r1 w1 (⟨er, q, hq, rfl, hbu⟩ | ⟨z, s1, V1, hq, rfl, hs⟩) <;> first | (have H := hidb ((H.out.below (below_new _ _)).trans hs); have HR := hidb hq; clear hs hq) | (have HR := hidb hq; have HBU := hidb (but_then (H.out.below (below_new _ _)).but H.out.own hbu); clear hq hbu)))
  · exact ⟨rfl, .inl ⟨_, _, HR.out, rfl, HBU.out⟩⟩
  · exact ⟨rfl, .inl ⟨_, _, HR.out, rfl, HBU.out⟩⟩
  · exact ⟨rfl, .inl ⟨_, _, HR.out, rfl, HBU.out⟩⟩
  · exact ⟨rfl, .inl ⟨_, _, HR.out, rfl, HBU.out⟩⟩
  · exact ⟨rfl, .inl ⟨_, _, HR.out, rfl, HBU.out⟩⟩
  · exact bodyPost_ret (v := iv z) (by simp [results, Tryz.results107, go_sem]) rfl (.inr ⟨_, _, _, HR.out, rfl, H.out⟩)

set_option maxHeartbeats 2000000 in
set_option maxRecDepth 100000 in
theorem pFunName (p : Nat) {P : Nat → Prop} {w : World} {V : Value} {s : PS} (h : At B g b o P w V s) (hk : (Gm.hd s).k ≠ 8) :
    Calls Tryz.prog 112 #[.pointer (some ⟨g, 0, none⟩), .int .i64 (p : Int)] w fun r w' => Rz B g b o P w V (Gm.funName p s) iv r w' := by
  have H : Hid (St B g b o P w V w V s) := hidb h
  obtain ⟨R, hR⟩ : ∃ R, Gm.funName p s = R := ⟨_, rfl⟩
  rw [hR]
  have HR := hidb hR.symm
  clear hR
  have HK := hidb hk
  clear hk
  clear h
  go_enter Tryz.func112, Tryz.ntmps112
  go_wp2_with (first
    | (go_at_call 36; refine (sNext H.out.at HK.out).mono ?_; rintro r1 w1 ⟨t, s1, hq, rfl, hs⟩; have H := hidb (H.out.trans hs); have HR := hidb (HR.out.trans (Gm.bind_next hq)); have Tt := hidb hq.1; clear hs hq)
    | (go_at_call 33; refine (sNeed _ H.out.at).mono ?_; rintro r1 w1 (⟨er, q, hq, rfl, hbu⟩ | ⟨s1, hq, rfl, hs⟩) <;> first | (have HL := hidb hs; have H := hidb (H.out.trans hs); (first | (with_reducible have HR := hidb (HR.out.trans hq)) | have HR := hidb (HR.out.trans (Gm.bind_ok hq)));  clear hs hq) | ((first | (with_reducible have HR := hidb (HR.out.trans hq)) | have HR := hidb (HR.out.trans (Gm.bind_err hq))); have HBU := hidb (but_then H.out.but H.out.own hbu); clear hq hbu))
    | (go_at_call 37; refine (sNeedK (k := 3) (by omega) H.out.at).mono ?_; rintro r1 w1 (⟨er, q, hq, rfl, hbu⟩ | ⟨n, s1, hq, rfl, hs⟩) <;> first | (have HL := hidb hs; have H := hidb (H.out.trans hs); (first | (with_reducible have HR := hidb (HR.out.trans hq)) | have HR := hidb (HR.out.trans (Gm.bind_ok hq)));  clear hs hq) | ((first | (with_reducible have HR := hidb (HR.out.trans hq)) | have HR := hidb (HR.out.trans (Gm.bind_err hq))); have HBU := hidb (but_then H.out.but H.out.own hbu); clear hq hbu))
    | (go_at_call 52; refine (pGiveUpAt_any _ _ _).mono ?_; rintro r1 w1 ⟨rfl, hb⟩; have HBU := hidb (but_then (H.out.below (below_new _ _)).but H.out.own (But.of_below hb)); have HR := hidb (HR.out.trans (Gm.ite_t (by assumption))); clear hb)
    | (go_at_call 39; have HR := hidb (HR.out.trans (Gm.ite_f (by first | assumption | omega))); refine (sLayR HR.out (H.out.below (below_new _ _)).at (LR.none _ _ _ _)).mono ?_; rintro r1 w1 (⟨er, q, hq, rfl, hbu⟩ | ⟨z, s1, V1, hq, rfl, hs⟩) <;> first | (have H := hidb ((H.out.below (below_new _ _)).trans hs); have HR := hidb hq; clear hs hq) | (have HR := hidb hq; have HBU := hidb (but_then (H.out.below (below_new _ _)).but H.out.own hbu); clear hq hbu)))
  · exact ⟨rfl, .inl ⟨_, _, HR.out, rfl, HBU.out⟩⟩
  · exact ⟨rfl, .inl ⟨_, _, HR.out, rfl, HBU.out⟩⟩
  · exact ⟨rfl, .inl ⟨_, _, HR.out, rfl, HBU.out⟩⟩
  · exact ⟨rfl, .inl ⟨_, _, HR.out, rfl, HBU.out⟩⟩
  · exact bodyPost_ret (v := iv z) (by simp [results, Tryz.results112, go_sem]) rfl (.inr ⟨_, _, _, HR.out, rfl, H.out⟩)

set_option maxHeartbeats 2000000 in
set_option maxRecDepth 100000 in
theorem pFun (hE : EC B g b o e) {P : Nat → Prop} {w : World} {V : Value} {s : PS} (h : At B g b o P w V s) (hk : (Gm.hd s).k ≠ 8) :
    Calls Tryz.prog 108 #[.pointer (some ⟨g, 0, none⟩)] w fun r w' => Rz B g b o P w V (Gm.fn e s) iv r w' := by
  have H : Hid (St B g b o P w V w V s) := hidb h
  obtain ⟨R, hR⟩ : ∃ R, Gm.fn e s = R := ⟨_, rfl⟩
  rw [hR]
  have HR := hidb hR.symm
  clear hR
  have HK := hidb hk
  clear hk
  have HE := hidb hE
  clear h hE
  have hmf : ∀ (fn : Fn) (first cap : Array Value) (w : World), (Instr.makeFunc fn first cap).run Tryz.prog w = .ok (.func fn first cap) w := fun _ _ _ _ => rfl
  go_enter Tryz.func108, Tryz.ntmps108
  go_wp2_with (first
    | (go_at_call 36; refine (sNext H.out.at HK.out).mono ?_; rintro r1 w1 ⟨t, s1, hq, rfl, hs⟩; have H := hidb (H.out.trans hs); have HR := hidb (HR.out.trans (Gm.bind_next hq)); have Tt := hidb hq.1; clear hs hq)
    | (go_at_call 32; refine (sHere H.out.at).mono ?_; rintro r1 w1 ⟨u, hq, rfl, hs, hb⟩; have H := hidb (H.out.below hb); have HR := hidb (HR.out.trans (Gm.bind_here hq)); have Tu := hidb hq; clear hs hb hq)
    | (go_at_call 112; have HR := hidb (HR.out.trans (Gm.ite_t (by have h : (u.k == 1) = true := (by assumption); simpa using h))); refine (pFunName t.p H.out.at (hk_of Tu.out (by have h : u.k = 1 := (by have h : (u.k == 1) = true := (by assumption); simpa using h); omega))).mono ?_; rintro r1 w1 (⟨er, q, hq, rfl, hbu⟩ | ⟨z, s1, V1, hq, rfl, hs⟩) <;> first | (have HL := hidb hs; have H := hidb (H.out.trans hs); (first | (with_reducible have HR := hidb (HR.out.trans hq)) | have HR := hidb (HR.out.trans (Gm.bind_ok hq)));  clear hs hq) | ((first | (with_reducible have HR := hidb (HR.out.trans hq)) | have HR := hidb (HR.out.trans (Gm.bind_err hq))); have HBU := hidb (but_then H.out.but H.out.own hbu); clear hq hbu))
    | (go_at_call 53; have HR := hidb (HR.out.trans (Gm.ite_f (by have h : (u.k == 1) = false := (by assumption); simpa using h))); refine (pClauses (fc_gclause HE.out) H.out.at).mono ?_; rintro r1 w1 (⟨er, q, hq, rfl, hbu⟩ | ⟨c, s1, V1, hq, rfl, hs⟩) <;> first | (have HL := hidb hs; have H := hidb (H.out.trans hs); (first | (with_reducible have HR := hidb (HR.out.trans hq)) | have HR := hidb (HR.out.trans (Gm.bind_ok hq)));  clear hs hq) | ((first | (with_reducible have HR := hidb (HR.out.trans hq)) | have HR := hidb (HR.out.trans (Gm.bind_err hq))); have HBU := hidb (but_then H.out.but H.out.own hbu); clear hq hbu))
    | (go_at_call 33; refine (sNeed _ H.out.at).mono ?_; rintro r1 w1 (⟨er, q, hq, rfl, hbu⟩ | ⟨s1, hq, rfl, hs⟩) <;> first | (have HL := hidb hs; have H := hidb (H.out.trans hs); (first | (with_reducible have HR := hidb (HR.out.trans hq)) | have HR := hidb (HR.out.trans (Gm.bind_ok hq)));  clear hs hq) | ((first | (with_reducible have HR := hidb (HR.out.trans hq)) | have HR := hidb (HR.out.trans (Gm.bind_err hq))); have HBU := hidb (but_then H.out.but H.out.own hbu); clear hq hbu))
    | (go_at_call 39; refine (sLayR HR.out (H.out.below (below_new _ _)).at (LR.lit H.out.at _ _ rfl (by simp))).mono ?_; rintro r1 w1 (⟨er, q, hq, rfl, hbu⟩ | ⟨z, s1, V1, hq, rfl, hs⟩) <;> first | (have H := hidb ((H.out.below (below_new _ _)).trans hs); have HR := hidb hq; clear hs hq) | (have HR := hidb hq; have HBU := hidb (but_then (H.out.below (below_new _ _)).but H.out.own hbu); clear hq hbu)))
  · exact ⟨rfl, .inl ⟨_, _, HR.out, rfl, HBU.out⟩⟩
  · exact bodyPost_ret (v := iv z) (by simp [results, Tryz.results108, go_sem]) rfl (.inr ⟨_, _, _, HR.out, rfl, H.out⟩)
  · exact ⟨rfl, .inl ⟨_, _, HR.out, rfl, HBU.out⟩⟩
  · exact ⟨rfl, .inl ⟨_, _, HR.out, rfl, HBU.out⟩⟩
  · exact ⟨rfl, .inl ⟨_, _, HR.out, rfl, HBU.out⟩⟩
  · exact bodyPost_ret (v := iv z) (by simp [results, Tryz.results108, go_sem]) rfl (.inr ⟨_, _, _, HR.out, rfl, H.out⟩)

set_option maxHeartbeats 2000000 in
set_option maxRecDepth 100000 in
theorem pPatience {P : Nat → Prop} {w : World} {V : Value} {s : PS} (h : At B g b o P w V s) :
    Calls Tryz.prog 117 #[.pointer (some ⟨g, 0, none⟩)] w fun r w' => Rz B g b o P w V (Gm.patience s) (fun n => .int .i64 n) r w' := by
  have H : Hid (St B g b o P w V w V s) := hidb h
  obtain ⟨R, hR⟩ : ∃ R, Gm.patience s = R := ⟨_, rfl⟩
  rw [hR]
  have HR := hidb hR.symm
  clear hR
  clear h
  go_enter Tryz.func117, Tryz.ntmps117
  go_wp2_with (first
    | (go_at_call 32; refine (sHere H.out.at).mono ?_; rintro r1 w1 ⟨t, hq, rfl, hs, hb⟩; have H := hidb (H.out.below hb); have HR := hidb (HR.out.trans (Gm.bind_here hq)); have Tt := hidb hq; have BX := hidb (Box.new w1 59 (.int .i64 t.k) (.string t.x) (.int .i64 t.n) (.float .f64 t.f) (.int .i64 (t.p : Int))); have HX := hidb (H.out.below (below_new w1 (.cells #[.int .i64 t.k, .string t.x, .int .i64 t.n, .float .f64 t.f, .int .i64 (t.p : Int)] 59))); clear hs hb hq)
    | (go_at_call 34; refine (pAtom_any t _ _).mono ?_; rintro r1 w2 ⟨rfl, hb⟩; obtain ⟨d0, d1, d2, d3, d4, -⟩ := BX.out.keep hb; have HX := hidb (HX.out.below hb); clear hb; obtain ⟨c, hc⟩ : ∃ c, Gm.isA t ⟨#[105, 110, 102, 105, 110, 105, 116, 121]⟩ = c := ⟨_, rfl⟩; rw [hc]; have HA := hidb hc; clear hc; cases c)
    | (go_at_call 36; refine (sNext HX.out.at (hk_of Tt.out (by first | omega | exact Gm.isA_k HA.out))).mono ?_; rintro r1 w1 ⟨t2, s1, hq, rfl, hs⟩; have H := hidb (HX.out.trans hs); have HC := hidb hq; clear hs hq)
    | (go_at_call 35; refine (sGiveUp (α := Int) 24 HX.out.at).mono ?_; rintro r1 w1 ⟨q, hq, rfl, hbu⟩; have HBU := hidb (but_then HX.out.but HX.out.own hbu); have HQ := hidb hq; clear hq hbu))
  · exact ⟨rfl, .inl ⟨_, _, ((HR.out.trans (Gm.ite_f (by simp [HA.out]))).trans (Gm.ite_f (by have h : (t.n != 0) = true := (by assumption); simp at h; simp [h]))).trans HQ.out, rfl, HBU.out⟩⟩
  · exact bodyPost_ret (v := .int .i64 1) (by simp [results, Tryz.results117, go_sem]) rfl (.inr ⟨1, _, _, ((HR.out.trans (Gm.ite_f (by simp [HA.out]))).trans (Gm.ite_t (by have h : (t.n != 0) = false := (by assumption); simp at h; have h3 : t.k = 3 := (by assumption); exact ⟨h3, h⟩))).trans (Gm.bind_next HC.out), rfl, H.out⟩)
  · exact ⟨rfl, .inl ⟨_, _, ((HR.out.trans (Gm.ite_f (by simp [HA.out]))).trans (Gm.ite_f (by have h : ¬ t.k = 3 := (by assumption); simp [h]))).trans HQ.out, rfl, HBU.out⟩⟩
  · exact bodyPost_ret (v := .int .i64 2) (by simp [results, Tryz.results117, go_sem]) rfl (.inr ⟨2, _, _, (HR.out.trans (Gm.ite_t HA.out)).trans (Gm.bind_next HC.out), rfl, H.out⟩)

end Go.Proofs.YtdpfmmbfidknfaaGreatDoor


