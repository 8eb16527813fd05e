import Derived.Test.YtppmcimcmcognaaGreatDoorG17
import Derived.Deep.RegionHeld2
/- fclause, class, cclause. -/
namespace Go.Proofs.YtppmcimcmcognaaGreatDoor
open Go.RowKit Go.Lib
attribute [local go_sem] store_float f64bits
attribute [local go_sem ↓] Go.wp_at_zero Go.wp_at_succ
attribute [local go_sem] nd_p tk_k tk_x tk_n tk_f tk_p
variable {B g b o : Nat} {e : PM Nat}

set_option maxHeartbeats 2000000 in
set_option maxRecDepth 100000 in
theorem pFclause (hE : EC B g b o e) {P : Nat → Prop} {w : World} {V : Value} {s : PS} (h : At B g b o P w V s) :
    Calls Tryz.prog 79 #[.pointer (some ⟨g, 0, none⟩)] w fun r w' => Rz B g b o P w V (Gm.fclause e s) iv r w' := by
  have H : Hid (St B g b o P w V w V s) := hidb h
  obtain ⟨R, hR⟩ : ∃ R, Gm.fclause e s = R := ⟨_, rfl⟩
  rw [hR]
  have HR := hidb hR.symm
  clear hR
  have HP := hidb h.plt
  have HE := hidb hE
  clear h hE
  go_enter Tryz.func79, Tryz.ntmps79
  go_wp2_with (first
    | (go_at_call 51; refine (sNeedK (k := 1) (by omega) H.out.at).mono ?_; rintro r1 w1 (⟨er, q, hq, rfl, hbu⟩ | ⟨t, s1, hq, rfl, hs⟩) <;> first | (have HL := hidb hs; have H := hidb (H.out.trans hs); (first | (with_reducible have HR := hidb (HR.out.trans hq)) | have HR := hidb (HR.out.trans (Gm.bind_ok hq)));  clear hs hq) | ((first | (with_reducible have HR := hidb (HR.out.trans hq)) | have HR := hidb (HR.out.trans (Gm.bind_err hq))); have HBU := hidb (but_then H.out.but H.out.own hbu); clear hq hbu)))
  · exact ⟨rfl, .inl ⟨_, _, HR.out, rfl, HBU.out⟩⟩
  have hX : ∀ ob : Obj, Below w1.heap.size w1 (w1.alloc ob).drew := fun ob => Below.drew (below_new w1 ob)
  have HX := hidb (H.out.below (hX (.cells #[.int .i64 t.k, .string t.x, .int .i64 t.n, .float .f64 t.f, .int .i64 (t.p : Int)] 41)))
  have BX := hidb ((Box.new w1 41 (.int .i64 t.k) (.string t.x) (.int .i64 t.n) (.float .f64 t.f) (.int .i64 (t.p : Int))).keep (Below.drew (Below.refl _ _)))
  have hg1 := H.out.glt
  have hv1 := H.out.at.fresh
  go_region_law (first
    | (refine step_rzL rfl (run_call ent_args #[.tmp 11] _ rfl #[.pointer (some ⟨g, 0, none⟩)] rfl) (pArgs HE.out HX.out.at) (fun er q w' hq hbu => ⟨rfl, .inl ⟨_, _, HR.out.trans (Gm.bind_err hq), rfl, but_then HX.out.but HX.out.own hbu⟩⟩) ?_; intro l s2 V2 v w2 hq hs hs2 hi hlen; obtain ⟨la, lc, rfl⟩ := hi.sl; have HI := hidb (hi.rebase HX.out.but.size); have HN := hidb hlen; have H2 := hidb (HX.out.trans hs2); have HR2 := hidb (HR.out.trans (Gm.bind_ok hq)); obtain ⟨d0, d1, d2, d3, d4, -⟩ := box_beside hs BX.out (by omega) hv1; clear hs hs2 hi hq hlen)
    | (refine step_rz rfl (run_call ent_tail #[.tmp 6, .tmp 8, .tmp 10, .tmp 12] _ rfl #[.pointer (some ⟨g, 0, none⟩), iv t.p, .string t.x, .slice la l.length lc] rfl) (pTail HE.out t.p t.x l H2.out HI.out HN.out HP.out) (fun er q w' hq hbu => ⟨rfl, .inl ⟨_, _, HR2.out.trans hq, rfl, hbu⟩⟩) ?_; intro z s3 V3 w3 hq hs; have H3 := hidb hs; have HR3 := hidb (HR2.out.trans hq); clear hs hq))
  all_goals (
    go_wp2_with fail
    exact bodyPost_ret (v := iv z) (by simp [results, Tryz.results79, go_sem]) rfl (.inr ⟨_, _, _, HR3.out, rfl, H3.out⟩))

set_option maxHeartbeats 2000000 in
set_option maxRecDepth 100000 in
theorem pLeaf {P : Nat → Prop} {w : World} {V : Value} {s : PS} (h : At B g b o P w V s) (hk : (Gm.hd s).k ≠ 8) :
    Calls Tryz.prog 157 #[.pointer (some ⟨g, 0, none⟩)] w fun r w' => Rz B g b o P w V (Gm.leaf s) iv r w' := by
  have H : Hid (St B g b o P w V w V s) := hidb h
  obtain ⟨R, hR⟩ : ∃ R, Gm.leaf s = R := ⟨_, rfl⟩
  rw [hR]
  have HR := hidb hR.symm
  clear hR
  have HK := hidb hk
  clear h hk
  go_enter Tryz.func157, Tryz.ntmps157
  go_wp2_with (first
    | (go_at_call 50; refine (sNext H.out.at HK.out).mono ?_; rintro r1 w1 ⟨t, s1, hq, rfl, hs⟩; have H := hidb (H.out.trans hs); have HR := hidb (HR.out.trans (Gm.bind_next hq)); have Tt := hidb hq.1; clear hs hq))
  have hX : ∀ ob : Obj, Below w1.heap.size w1 (w1.alloc ob).drew := fun ob => Below.drew (below_new w1 ob)
  have HX := hidb (H.out.below (hX (.cells #[.int .i64 t.k, .string t.x, .int .i64 t.n, .float .f64 t.f, .int .i64 (t.p : Int)] 41)))
  have hLK := pLeafKind_any t.k (w1.alloc (.cells #[.int .i64 t.k, .string t.x, .int .i64 t.n, .float .f64 t.f, .int .i64 (t.p : Int)] 41)).drew
  obtain ⟨lk, hlk⟩ : ∃ lk, Gm.leafKind t.k = lk := ⟨_, rfl⟩
  rw [hlk] at hLK
  have HR := hidb (HR.out.trans (by rw [hlk]) : R = Gm.lay ⟨lk, t.x, t.n, t.f, [], t.p⟩ s1)
  clear hlk
  have BX := hidb ((Box.new w1 41 (.int .i64 t.k) (.string t.x) (.int .i64 t.n) (.float .f64 t.f) (.int .i64 (t.p : Int))).keep (Below.drew (Below.refl _ _)))
  have hg1 := H.out.glt
  have hv1 := H.out.at.fresh
  obtain ⟨y0, y1, y2, y3, y4, -⟩ := BX.out
  go_region_held2 (fun w' => w'.cell? ⟨w1.heap.size, 0, none⟩ = some (.int .i64 t.k) ∧ w'.cell? ⟨w1.heap.size, 1, none⟩ = some (.string t.x) ∧ w'.cell? ⟨w1.heap.size, 2, none⟩ = some (.int .i64 t.n) ∧ w'.cell? ⟨w1.heap.size, 3, none⟩ = some (.float .f64 t.f) ∧ w'.cell? ⟨w1.heap.size, 4, none⟩ = some (.int .i64 (t.p : Int)))
    (first | with_reducible exact ⟨z0, z1, z2, z3, z4⟩ | with_reducible exact ⟨y0, y1, y2, y3, y4⟩ | go_keep)
    (first
      | (go_at_call 160; refine hLK.mono ?_; rintro r1 w2 ⟨rfl, rfl⟩)
      | (go_at_call 53; refine (sLayR HR.out HX.out.at (LR.none _ _ _ _)).mono ?_; rintro r1 w2 (⟨er, q, hq, rfl, hbu⟩ | ⟨z, s3, V3, hq, rfl, hs⟩) <;> first | (obtain ⟨z0, z1, z2, z3, z4, -⟩ := box_beside hs BX.out (by omega) hv1; have H3 := hidb (HX.out.trans hs); have HR3 := hidb hq; clear hs hq) | exact ⟨rfl, .inl ⟨_, _, hq, rfl, but_then HX.out.but HX.out.own hbu⟩⟩))
  all_goals (
    go_wp2_with fail
    exact bodyPost_ret (v := iv z) (by simp [results, Tryz.results157, go_sem]) rfl (.inr ⟨_, _, _, HR3.out, rfl, H3.out⟩))

theorem strs (x : ByteArray) (l : List UInt8) : (x.toList == l) = decide (x = ⟨l.toArray⟩) := by
  rw [ByteArray.toList_eq]
  by_cases h : x = ⟨l.toArray⟩
  · subst h; simp
  · have : x.data.toList ≠ l := fun e => h (by cases x; simp at e; simp [← e])
    simp [h, this]

set_option maxHeartbeats 2000000 in
theorem pIsClass_any (t : Tk) (w : World) : Calls Tryz.prog 176 #[t.val] w fun r w' => r = .returned (.bool (Gm.isClass t)) ∧ Below w.heap.size w w' := by
  obtain ⟨tk, tx, tn, tf, tp⟩ := t
  have q1 := strs tx [95]
  have q2 := strs tx [101, 114, 114, 111, 114]
  have q3 := strs tx [101, 120, 105, 116]
  have q4 := strs tx [116, 104, 114, 111, 119]
  obtain ⟨C, hC⟩ : ∃ C, Gm.isClass ⟨tk, tx, tn, tf, tp⟩ = C := ⟨_, rfl⟩
  rw [hC]
  simp only [Gm.isClass] at hC
  change (if tk = 2 then decide (tx = ⟨[95].toArray⟩) else decide (tx = ⟨[101, 114, 114, 111, 114].toArray⟩) || decide (tx = ⟨[101, 120, 105, 116].toArray⟩) || decide (tx = ⟨[116, 104, 114, 111, 119].toArray⟩)) = C at hC
  rw [← q1, ← q2, ← q3, ← q4] at hC
  clear q1 q2 q3 q4
  generalize e1 : (tx.toList == [95]) = b1 at hC
  generalize e2 : (tx.toList == [101, 114, 114, 111, 114]) = b2 at hC
  generalize e3 : (tx.toList == [101, 120, 105, 116]) = b3 at hC
  generalize e4 : (tx.toList == [116, 104, 114, 111, 119]) = b4 at hC
  have HC := hidb hC
  clear hC
  simp only [Tk.val]
  go_enter Tryz.func176, Tryz.ntmps176
  go_wp2_with fail
  · exact bodyPost_ret (v := .bool b1) (by simp [results, Tryz.results176, go_sem]) rfl ⟨by have := HC.out; simp_all, below_new _ _⟩
  · exact bodyPost_ret (v := .bool true) (by simp [results, Tryz.results176, go_sem]) rfl ⟨by have := HC.out; simp_all, below_new _ _⟩
  · exact bodyPost_ret (v := .bool true) (by simp [results, Tryz.results176, go_sem]) rfl ⟨by have := HC.out; simp_all, below_new _ _⟩
  · exact bodyPost_ret (v := .bool b4) (by simp [results, Tryz.results176, go_sem]) rfl ⟨by have := HC.out; simp_all, below_new _ _⟩
end Go.Proofs.YtppmcimcmcognaaGreatDoor


/- class, cclause. -/
namespace Go.Proofs.YtppmcimcmcognaaGreatDoor
open Go.RowKit Go.Lib
attribute [local go_sem] store_float f64bits
attribute [local go_sem ↓] Go.wp_at_zero Go.wp_at_succ
attribute [local go_sem] nd_p tk_k tk_x tk_n tk_f tk_p
variable {B g b o : Nat} {e : PM Nat}

theorem cls_t {s : PS} {t : Tk} (h : Gm.hd s = t) (hk : t.k = 1 ∨ t.k = 2) (hm : Gm.isM (Gm.hd2 s) ⟨#[58]⟩ = true) : Gm.cls s = (if Gm.isClass t then (Gm.leaf >>= fun x => Gm.need ⟨#[58]⟩ >>= fun _ => pure x) else Gm.giveUp 24 : PM Nat) s := by
  subst h
  exact Gm.ite_t ⟨hk, hm⟩
theorem cls_f {s : PS} {t : Tk} (h : Gm.hd s = t) (hk : ¬ ((t.k = 1 ∨ t.k = 2) ∧ Gm.isM (Gm.hd2 s) ⟨#[58]⟩ = true)) : Gm.cls s = Gm.lay ⟨3, ⟨#[116, 104, 114, 111, 119]⟩, 0, 0, [], t.p⟩ s := by
  subst h
  exact Gm.ite_f hk

set_option maxHeartbeats 2000000 in
set_option maxRecDepth 100000 in
theorem pClass {P : Nat → Prop} {w : World} {V : Value} {s : PS} (h : At B g b o P w V s) :
    Calls Tryz.prog 175 #[.pointer (some ⟨g, 0, none⟩)] w fun r w' => Rz B g b o P w V (Gm.cls s) iv r w' := by
  have H : Hid (St B g b o P w V w V s) := hidb h
  obtain ⟨R, hR⟩ : ∃ R, Gm.cls s = R := ⟨_, rfl⟩
  rw [hR]
  have HR := hidb hR.symm
  clear hR
  obtain ⟨t0, ht⟩ : ∃ t, Gm.hd s = t := ⟨_, rfl⟩
  obtain ⟨tk, tx, tn, tf, tp⟩ := t0
  have TK := hidb ht
  clear h ht
  by_cases h1 : tk = 1
  · subst h1
    go_enter Tryz.func175, Tryz.ntmps175
    go_wp2_with (first
      | (go_at_call 46; refine (sHere H.out.at).mono ?_; rintro r1 w1 ⟨t, hq, rfl, hs, hb⟩; obtain rfl : t = ⟨1, tx, tn, tf, tp⟩ := hq.symm.trans TK.out; have HR := hidb HR.out; have H := hidb (H.out.below hb); have BX := hidb (Box.new w1 41 (.int .i64 1) (.string tx) (.int .i64 tn) (.float .f64 tf) (.int .i64 (tp : Int))); have HX := hidb (H.out.below (below_new w1 (.cells #[.int .i64 1, .string tx, .int .i64 tn, .float .f64 tf, .int .i64 (tp : Int)] 41))); clear hs hb hq)
      | (go_at_call 152; refine (sAhead _ HX.out.at (hk_of TK.out (by simp))).mono ?_; rintro r1 w2 ⟨⟨hq, rfl⟩ | ⟨hq, rfl⟩, hb⟩ <;> first | (have HR := hidb (HR.out.trans (cls_t TK.out (.inl rfl) hq)); obtain ⟨d0, d1, d2, d3, d4, -⟩ := BX.out.keep hb; have HX := hidb (HX.out.below hb); clear hb hq) | (have HR := hidb (HR.out.trans (cls_f TK.out (by simp [hq]))); obtain ⟨d0, d1, d2, d3, d4, -⟩ := BX.out.keep hb; have HX := hidb (HX.out.below hb); clear hb hq))
      | (go_at_call 176; refine (pIsClass_any ⟨1, tx, tn, tf, tp⟩ _).mono ?_; rintro r1 w3 ⟨rfl, hb⟩; have HX := hidb (HX.out.below hb); clear hb; obtain ⟨c, hc⟩ : ∃ c, Gm.isClass ⟨1, tx, tn, tf, tp⟩ = c := ⟨_, rfl⟩; rw [hc]; have HC := hidb hc; clear hc; cases c)
      | (go_at_call 49; refine (sGiveUp (α := Nat) 24 HX.out.at).mono ?_; rintro r1 w1 ⟨q, hq, rfl, hbu⟩; have HBU := hidb (but_then HX.out.but HX.out.own hbu); have HR := hidb ((HR.out.trans (Gm.ite_f (by simp [HC.out]))).trans hq); clear hq hbu)
      | (go_at_call 157; refine (pLeaf HX.out.at (hk_of TK.out (by simp))).mono ?_; rintro r1 w1 (⟨er, q, hq, rfl, hbu⟩ | ⟨x, s1, V1, hq, rfl, hs⟩) <;> first | (have H := hidb (HX.out.trans hs); have HR := hidb ((HR.out.trans (Gm.ite_t HC.out)).trans (Gm.bind_ok hq)); clear hs hq) | (have HR := hidb ((HR.out.trans (Gm.ite_t HC.out)).trans (Gm.bind_err hq)); have HBU := hidb (but_then HX.out.but HX.out.own hbu); clear hq hbu))
      | (go_at_call 47; refine (sNeed _ H.out.at).mono ?_; rintro r1 w1 (⟨er, q, hq, rfl, hbu⟩ | ⟨s1, hq, rfl, hs⟩) <;> first | (have HL := hidb hs; have H := hidb (H.out.trans hs); (first | (with_reducible have HR := hidb (HR.out.trans hq)) | have HR := hidb (HR.out.trans (Gm.bind_ok hq)));  clear hs hq) | ((first | (with_reducible have HR := hidb (HR.out.trans hq)) | have HR := hidb (HR.out.trans (Gm.bind_err hq))); have HBU := hidb (but_then H.out.but H.out.own hbu); clear hq hbu))
      | (go_at_call 53; refine (sLayR HR.out HX.out.at (LR.none _ _ _ _)).mono ?_; rintro r1 w1 (⟨er, q, hq, rfl, hbu⟩ | ⟨z, s1, V1, hq, rfl, hs⟩) <;> first | (have H := hidb (HX.out.trans hs); have HR := hidb hq; clear hs hq) | (have HR := hidb hq; have HBU := hidb (but_then HX.out.but HX.out.own hbu); clear hq hbu)))
    · exact ⟨rfl, .inl ⟨_, _, HR.out, rfl, HBU.out⟩⟩
    · exact ⟨rfl, .inl ⟨_, _, HR.out, rfl, HBU.out⟩⟩
    · exact ⟨rfl, .inl ⟨_, _, HR.out, rfl, HBU.out⟩⟩
    · exact bodyPost_ret (v := iv x) (by simp [results, Tryz.results175, go_sem]) rfl (.inr ⟨_, _, _, HR.out, rfl, H.out⟩)
    · exact ⟨rfl, .inl ⟨_, _, HR.out, rfl, HBU.out⟩⟩
    · exact bodyPost_ret (v := iv z) (by simp [results, Tryz.results175, go_sem]) rfl (.inr ⟨_, _, _, HR.out, rfl, H.out⟩)
  by_cases h2 : tk = 2
  · subst h2
    go_enter Tryz.func175, Tryz.ntmps175
    go_wp2_with (first
      | (go_at_call 46; refine (sHere H.out.at).mono ?_; rintro r1 w1 ⟨t, hq, rfl, hs, hb⟩; obtain rfl : t = ⟨2, tx, tn, tf, tp⟩ := hq.symm.trans TK.out; have HR := hidb HR.out; have H := hidb (H.out.below hb); have BX := hidb (Box.new w1 41 (.int .i64 2) (.string tx) (.int .i64 tn) (.float .f64 tf) (.int .i64 (tp : Int))); have HX := hidb (H.out.below (below_new w1 (.cells #[.int .i64 2, .string tx, .int .i64 tn, .float .f64 tf, .int .i64 (tp : Int)] 41))); clear hs hb hq)
      | (go_at_call 152; refine (sAhead _ HX.out.at (hk_of TK.out (by simp))).mono ?_; rintro r1 w2 ⟨⟨hq, rfl⟩ | ⟨hq, rfl⟩, hb⟩ <;> first | (have HR := hidb (HR.out.trans (cls_t TK.out (.inr rfl) hq)); obtain ⟨d0, d1, d2, d3, d4, -⟩ := BX.out.keep hb; have HX := hidb (HX.out.below hb); clear hb hq) | (have HR := hidb (HR.out.trans (cls_f TK.out (by simp [hq]))); obtain ⟨d0, d1, d2, d3, d4, -⟩ := BX.out.keep hb; have HX := hidb (HX.out.below hb); clear hb hq))
      | (go_at_call 176; refine (pIsClass_any ⟨2, tx, tn, tf, tp⟩ _).mono ?_; rintro r1 w3 ⟨rfl, hb⟩; have HX := hidb (HX.out.below hb); clear hb; obtain ⟨c, hc⟩ : ∃ c, Gm.isClass ⟨2, tx, tn, tf, tp⟩ = c := ⟨_, rfl⟩; rw [hc]; have HC := hidb hc; clear hc; cases c)
      | (go_at_call 49; refine (sGiveUp (α := Nat) 24 HX.out.at).mono ?_; rintro r1 w1 ⟨q, hq, rfl, hbu⟩; have HBU := hidb (but_then HX.out.but HX.out.own hbu); have HR := hidb ((HR.out.trans (Gm.ite_f (by simp [HC.out]))).trans hq); clear hq hbu)
      | (go_at_call 157; refine (pLeaf HX.out.at (hk_of TK.out (by simp))).mono ?_; rintro r1 w1 (⟨er, q, hq, rfl, hbu⟩ | ⟨x, s1, V1, hq, rfl, hs⟩) <;> first | (have H := hidb (HX.out.trans hs); have HR := hidb ((HR.out.trans (Gm.ite_t HC.out)).trans (Gm.bind_ok hq)); clear hs hq) | (have HR := hidb ((HR.out.trans (Gm.ite_t HC.out)).trans (Gm.bind_err hq)); have HBU := hidb (but_then HX.out.but HX.out.own hbu); clear hq hbu))
      | (go_at_call 47; refine (sNeed _ H.out.at).mono ?_; rintro r1 w1 (⟨er, q, hq, rfl, hbu⟩ | ⟨s1, hq, rfl, hs⟩) <;> first | (have HL := hidb hs; have H := hidb (H.out.trans hs); (first | (with_reducible have HR := hidb (HR.out.trans hq)) | have HR := hidb (HR.out.trans (Gm.bind_ok hq)));  clear hs hq) | ((first | (with_reducible have HR := hidb (HR.out.trans hq)) | have HR := hidb (HR.out.trans (Gm.bind_err hq))); have HBU := hidb (but_then H.out.but H.out.own hbu); clear hq hbu))
      | (go_at_call 53; refine (sLayR HR.out HX.out.at (LR.none _ _ _ _)).mono ?_; rintro r1 w1 (⟨er, q, hq, rfl, hbu⟩ | ⟨z, s1, V1, hq, rfl, hs⟩) <;> first | (have H := hidb (HX.out.trans hs); have HR := hidb hq; clear hs hq) | (have HR := hidb hq; have HBU := hidb (but_then HX.out.but HX.out.own hbu); clear hq hbu)))
    · exact ⟨rfl, .inl ⟨_, _, HR.out, rfl, HBU.out⟩⟩
    · exact ⟨rfl, .inl ⟨_, _, HR.out, rfl, HBU.out⟩⟩
    · exact ⟨rfl, .inl ⟨_, _, HR.out, rfl, HBU.out⟩⟩
    · exact bodyPost_ret (v := iv x) (by simp [results, Tryz.results175, go_sem]) rfl (.inr ⟨_, _, _, HR.out, rfl, H.out⟩)
    · exact ⟨rfl, .inl ⟨_, _, HR.out, rfl, HBU.out⟩⟩
    · exact bodyPost_ret (v := iv z) (by simp [results, Tryz.results175, go_sem]) rfl (.inr ⟨_, _, _, HR.out, rfl, H.out⟩)
  have HN : Hid (¬ ((tk = 1 ∨ tk = 2) ∧ Gm.isM (Gm.hd2 s) ⟨#[58]⟩ = true)) := hidb (by simp [h1, h2])
  go_enter Tryz.func175, Tryz.ntmps175
  go_wp2_with (first
    | (go_at_call 46; refine (sHere H.out.at).mono ?_; rintro r1 w1 ⟨t, hq, rfl, hs, hb⟩; obtain rfl : t = ⟨tk, tx, tn, tf, tp⟩ := hq.symm.trans TK.out; have HR := hidb (HR.out.trans (cls_f TK.out HN.out)); have H := hidb (H.out.below hb); have BX := hidb (Box.new w1 41 (.int .i64 tk) (.string tx) (.int .i64 tn) (.float .f64 tf) (.int .i64 (tp : Int))); have HX := hidb (H.out.below (below_new w1 (.cells #[.int .i64 tk, .string tx, .int .i64 tn, .float .f64 tf, .int .i64 (tp : Int)] 41))); clear hs hb hq)
    | (go_at_call 53; refine (sLayR HR.out HX.out.at (LR.none _ _ _ _)).mono ?_; rintro r1 w1 (⟨er, q, hq, rfl, hbu⟩ | ⟨z, s1, V1, hq, rfl, hs⟩) <;> first | (have H := hidb (HX.out.trans hs); have HR := hidb hq; clear hs hq) | (have HR := hidb hq; have HBU := hidb (but_then HX.out.but HX.out.own hbu); clear hq hbu)))
  · exact ⟨rfl, .inl ⟨_, _, HR.out, rfl, HBU.out⟩⟩
  · exact bodyPost_ret (v := iv z) (by simp [results, Tryz.results175, go_sem]) rfl (.inr ⟨_, _, _, HR.out, rfl, H.out⟩)

set_option maxHeartbeats 2000000 in
set_option maxRecDepth 100000 in
theorem pCclause (hE : EC B g b o e) {P : Nat → Prop} {w : World} {V : Value} {s : PS} (h : At B g b o P w V s) :
    Calls Tryz.prog 172 #[.pointer (some ⟨g, 0, none⟩)] w fun r w' => Rz B g b o P w V (Gm.cclause e s) iv r w' := by
  have H : Hid (St B g b o P w V w V s) := hidb h
  obtain ⟨R, hR⟩ : ∃ R, Gm.cclause e s = R := ⟨_, rfl⟩
  rw [hR]
  have HR := hidb hR.symm
  clear hR
  have HP := hidb h.plt
  have HE := hidb hE
  clear h hE
  go_enter Tryz.func172, Tryz.ntmps172
  go_wp2_with (first
    | (go_at_call 46; refine (sHere H.out.at).mono ?_; rintro r1 w1 ⟨t, hq, rfl, hs, hb⟩; have H := hidb (H.out.below hb); have HR := hidb (HR.out.trans (Gm.bind_here hq)); have Tt := hidb hq; clear hs hb hq)
    | (go_at_call 175; refine (pClass H.out.at).mono ?_; rintro r1 w1 (⟨er, q, hq, rfl, hbu⟩ | ⟨c, s1, V1, hq, rfl, hs⟩) <;> first | (have HL := hidb hs; have H := hidb (H.out.trans hs); (first | (with_reducible have HR := hidb (HR.out.trans hq)) | have HR := hidb (HR.out.trans (Gm.bind_ok hq)));  clear hs hq) | ((first | (with_reducible have HR := hidb (HR.out.trans hq)) | have HR := hidb (HR.out.trans (Gm.bind_err hq))); have HBU := hidb (but_then H.out.but H.out.own hbu); clear hq hbu))
    | (go_at_call 121; refine (HE.out.run H.out.at).mono ?_; rintro r1 w1 (⟨er, q, hq, rfl, hbu⟩ | ⟨x, s1, V1, hq, rfl, hs⟩) <;> first | (have HL := hidb hs; have H := hidb (H.out.trans hs); (first | (with_reducible have HR := hidb (HR.out.trans hq)) | have HR := hidb (HR.out.trans (Gm.bind_ok hq)));  clear hs hq) | ((first | (with_reducible have HR := hidb (HR.out.trans hq)) | have HR := hidb (HR.out.trans (Gm.bind_err hq))); have HBU := hidb (but_then H.out.but H.out.own hbu); clear hq hbu))
    | (go_at_call 102; refine (pTail HE.out t.p ⟨#[]⟩ [c, x] (IR.lit H.out #[iv c, iv x] [c, x] rfl (by simp)).2 (IR.lit H.out #[iv c, iv x] [c, x] rfl (by simp)).1 (by simp) HP.out).mono ?_; rintro r1 w1 (⟨er, q, hq, rfl, hbu⟩ | ⟨z, s1, V1, hq, rfl, hs⟩) <;> first | (have H := hidb hs; (first | (with_reducible have HR := hidb (HR.out.trans hq)) | have HR := hidb (HR.out.trans (Gm.bind_ok hq))); clear hs hq) | ((first | (with_reducible have HR := hidb (HR.out.trans hq)) | have HR := hidb (HR.out.trans (Gm.bind_err hq))); have HBU := hidb (hbu); clear hq hbu)))
  · exact ⟨rfl, .inl ⟨_, _, HR.out, rfl, HBU.out⟩⟩
  · exact ⟨rfl, .inl ⟨_, _, HR.out, rfl, HBU.out⟩⟩
  · exact ⟨rfl, .inl ⟨_, _, HR.out, rfl, HBU.out⟩⟩
  · exact bodyPost_ret (v := iv z) (by simp [results, Tryz.results172, go_sem]) rfl (.inr ⟨_, _, _, HR.out, rfl, H.out⟩)

end Go.Proofs.YtppmcimcmcognaaGreatDoor


