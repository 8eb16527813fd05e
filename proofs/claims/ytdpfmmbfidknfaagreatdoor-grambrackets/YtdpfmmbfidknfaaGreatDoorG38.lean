import Derived.Test.YtdpfmmbfidknfaaGreatDoorG37
/- received, receive. -/
namespace Go.Proofs.YtdpfmmbfidknfaaGreatDoor
open Go.RowKit Go.Lib
attribute [local go_sem] store_float f64bits
attribute [local go_sem ↓] Go.wp_at_zero Go.wp_at_succ
attribute [local go_sem] nd_p tk_k tk_x tk_n tk_f tk_p
variable {B g b o : Nat} {e : PM Nat}

namespace Gm
variable {α β γ : Type} {s s' : PS}
theorem bind2_t {m : PM Bool} {A C : PM β} {G : β → PM γ} (h : m s = .ok (true, s')) : ((m >>= fun b => if b then A else C) >>= G) s = (A >>= G) s' := bind2_ok h
theorem bind2_f {m : PM Bool} {A C : PM β} {G : β → PM γ} (h : m s = .ok (false, s')) : ((m >>= fun b => if b then A else C) >>= G) s = (C >>= G) s' := bind2_ok h
theorem bind2_p {m : PM α} {f : α → β} {G : β → PM γ} {a : α} (h : m s = .ok (a, s')) : ((m >>= fun a => pure (f a)) >>= G) s = G (f a) s' := bind2_ok h
end Gm
theorem LR.poke {P : Nat → Prop} {w : World} {V v : Value} {l : List Nat} {k i : Nat} (h : LR w g P V v l) (hk : v.ownBlock ≠ some k) (u : Value) : LR (w.setCell ⟨k, i, .none⟩ u) g P V v l :=
  ⟨h.row.but ((But.refl (· = k) w).setCell (p := ⟨k, i, .none⟩) (fun _ => rfl) u) (fun _ hj he => hk (he ▸ hj)), h.ng, h.nv⟩

set_option maxHeartbeats 2000000 in
set_option maxRecDepth 100000 in
theorem pReceived (hE : EC B g b o e) {P : Nat → Prop} {w : World} {V : Value} {s : PS} (h : At B g b o P w V s) :
    Calls Tryz.prog 116 #[.pointer (some ⟨g, 0, none⟩)] w fun r w' => Rz B g b o P w V (Gm.received e s) iv r w' := by
  have H : Hid (St B g b o P w V w V s) := hidb h
  obtain ⟨R, hR⟩ : ∃ R, Gm.received e s = R := ⟨_, rfl⟩
  rw [hR]
  have HR := hidb hR.symm
  clear hR
  have HE := hidb hE
  clear h hE
  have hmf : ∀ (fn : Fn) (first cap : Array Value) (w : World), (Instr.makeFunc fn first cap).run Tryz.prog w = .ok (.func fn first cap) w := fun _ _ _ _ => rfl
  go_enter Tryz.func116, Tryz.ntmps116
  go_wp2_with (first
    | (go_at_call 69; refine (sIsU _ H.out.at).mono ?_; rintro r1 w1 ⟨u, hu, ⟨hq, rfl⟩ | ⟨hq, rfl⟩, hb⟩ <;> first | (have HR := hidb ((HR.out.trans (Gm.bind_here hu)).trans (Gm.ite_t hq)); have H := hidb (H.out.below hb); clear hb hq hu) | (have HR := hidb ((HR.out.trans (Gm.bind_here hu)).trans (Gm.ite_f (by simp [hq]))); have H := hidb (H.out.below hb); clear hb hq hu))
    | (go_at_call 82; refine (sLayNone 20 H.out.at).mono ?_; rintro r1 w1 (⟨er, q, hq, rfl, hbu⟩ | ⟨x, s1, V1, hq, rfl, hs⟩) <;> first | (have HL := hidb hs; have H := hidb (H.out.trans hs); (first | (with_reducible have HR := hidb (HR.out.trans hq)) | have HR := hidb (HR.out.trans (Gm.bind_ok hq)));  clear hs hq) | ((first | (with_reducible have HR := hidb (HR.out.trans hq)) | have HR := hidb (HR.out.trans (Gm.bind_err hq))); have HBU := hidb (but_then H.out.but H.out.own hbu); clear hq hbu))
    | (go_at_call 53; refine (pClauses (fc_clause HE.out) H.out.at).mono ?_; rintro r1 w1 (⟨er, q, hq, rfl, hbu⟩ | ⟨x, s1, V1, hq, rfl, hs⟩) <;> first | (have HL := hidb hs; have H := hidb (H.out.trans hs); (first | (with_reducible have HR := hidb (HR.out.trans hq)) | have HR := hidb (HR.out.trans (Gm.bind_ok hq)));  clear hs hq) | ((first | (with_reducible have HR := hidb (HR.out.trans hq)) | have HR := hidb (HR.out.trans (Gm.bind_err hq))); have HBU := hidb (but_then H.out.but H.out.own hbu); clear hq hbu)))
  all_goals first
    | exact ⟨rfl, .inl ⟨_, _, HR.out, rfl, HBU.out⟩⟩
    | exact bodyPost_ret (v := iv x) (by simp [results, Tryz.results116, go_sem]) rfl (.inr ⟨_, _, _, HR.out, rfl, H.out⟩)

set_option maxHeartbeats 8000000 in
set_option maxRecDepth 100000 in
theorem pReceive (hE : EC B g b o e) {P : Nat → Prop} {w : World} {V : Value} {s : PS} (h : At B g b o P w V s) (hk : (Gm.hd s).k ≠ 8) :
    Calls Tryz.prog 110 #[.pointer (some ⟨g, 0, none⟩)] w fun r w' => Rz B g b o P w V (Gm.receive e s) iv r w' := by
  have H : Hid (St B g b o P w V w V s) := hidb h
  obtain ⟨R, hR⟩ : ∃ R, Gm.receive e s = R := ⟨_, rfl⟩
  rw [hR]
  have HR := hidb hR.symm
  clear hR
  have HP := hidb h.plt
  have HK := hidb hk
  clear hk
  have HE := hidb hE
  clear h hE
  go_enter Tryz.func110, Tryz.ntmps110
  go_wp2_with (first
    | (go_at_call 36; refine (sNext H.out.at HK.out).mono ?_; rintro r1 wn ⟨t, s1, hq, rfl, hs⟩; have H := hidb (H.out.trans hs); have HR := hidb (HR.out.trans (Gm.bind_next hq)); have HW := hidb H.out.but.size; have HG := hidb H.out.glt; have HBB := hidb H.out.blt; have BX := hidb (Six.new wn NT (.int .i64 18) (.string ⟨#[]⟩) (.int .i64 0) (.float .f64 0) (.slice none 0 0) (.int .i64 (t.p : Int))); have H := hidb (H.out.hold (.cells #[.int .i64 18, .string ⟨#[]⟩, .int .i64 0, .float .f64 0, .slice none 0 0, .int .i64 (t.p : Int)] NT)); clear hs hq)
    | (go_at_call 116; refine (pReceived HE.out H.out.at).mono ?_; rintro r1 w1 (⟨er, q, hq, rfl, hbu⟩ | ⟨c, s1, V1, hq, rfl, hs⟩) <;> first | (have BX := hidb (BX.out.step hs (by have := HG.out; omega) (H.out.npv wn.heap.size (by first | exact pv_self | exact .inl pv_self)).1); obtain ⟨d0, d1, d2, d3, d4, d5, g0, g1, g2, g3, g4, g5, -⟩ := BX.out; have H := hidb (H.out.trans hs); (first | (with_reducible have HR := hidb (HR.out.trans hq)) | have HR := hidb (HR.out.trans (Gm.bind_ok hq)) | have HR := hidb (HR.out.trans (Gm.bind2_ok hq)));  clear hs hq) | ((first | (with_reducible have HR := hidb (HR.out.trans hq)) | have HR := hidb (HR.out.trans (Gm.bind_err hq)) | have HR := hidb (HR.out.trans (Gm.bind2_err hq))); have HBU := hidb (but_then H.out.but H.out.own hbu); clear hq hbu))
    | (go_at_call 51; refine (sTake _ H.out.at).mono ?_; rintro r1 w1 (⟨s1, hq, rfl, hs⟩ | ⟨hq, rfl, hs⟩) <;> first | (have HR := hidb (HR.out.trans (Gm.bind2_t hq.1)); have BX := hidb (BX.out.step hs (by have := HG.out; omega) (H.out.npv wn.heap.size (by first | exact pv_self | exact .inl pv_self)).1); obtain ⟨d0, d1, d2, d3, d4, d5, g0, g1, g2, g3, g4, g5, -⟩ := BX.out; (try have HI := hidb (HI.out.step hs)); have H := hidb (H.out.trans hs); clear hs hq) | (have HR := hidb (HR.out.trans (Gm.bind2_f hq)); have BX := hidb (BX.out.step hs (by have := HG.out; omega) (H.out.npv wn.heap.size (by first | exact pv_self | exact .inl pv_self)).1); obtain ⟨d0, d1, d2, d3, d4, d5, g0, g1, g2, g3, g4, g5, -⟩ := BX.out; (try have HI := hidb (HI.out.step hs)); have H := hidb (H.out.trans hs); clear hs hq))
    | (go_at_call 117; refine (pPatience H.out.at).mono ?_; rintro r1 w1 (⟨er, q, hq, rfl, hbu⟩ | ⟨n, s1, V1, hq, rfl, hs⟩) <;> first | (have BX := hidb (BX.out.step hs (by have := HG.out; omega) (H.out.npv wn.heap.size (by first | exact pv_self | exact .inl pv_self)).1); obtain ⟨d0, d1, d2, d3, d4, d5, g0, g1, g2, g3, g4, g5, -⟩ := BX.out; have H := hidb (H.out.trans hs); (first | (with_reducible have HR := hidb (HR.out.trans hq)) | have HR := hidb (HR.out.trans (Gm.bind_ok hq)) | have HR := hidb (HR.out.trans (Gm.bind2_ok hq))); have BX := hidb (BX.out.set2 (.int .i64 n)); have H := hidb (H.out.poke (k := wn.heap.size) pv_self (by have := HW.out; omega) (by have := HBB.out; omega) 2 (.int .i64 n)); clear hs hq) | ((first | (with_reducible have HR := hidb (HR.out.trans hq)) | have HR := hidb (HR.out.trans (Gm.bind_err hq)) | have HR := hidb (HR.out.trans (Gm.bind2_err hq))); have HBU := hidb (but_then H.out.but H.out.own hbu); clear hq hbu))
    | (go_at_call_of 33 (Value.string ⟨#[101, 110, 100]⟩); refine (sNeed _ H.out.at).mono ?_; rintro r1 w1 (⟨er, q, hq, rfl, hbu⟩ | ⟨s1, hq, rfl, hs⟩) <;> first | (have BX := hidb (BX.out.step hs (by have := HG.out; omega) (H.out.npv wn.heap.size (by first | exact pv_self | exact .inl pv_self)).1); obtain ⟨d0, d1, d2, d3, d4, d5, g0, g1, g2, g3, g4, g5, -⟩ := BX.out; (try have HI := hidb (HI.out.step hs)); have H := hidb (H.out.trans hs); (first | (with_reducible have HR := hidb (HR.out.trans hq)) | have HR := hidb (HR.out.trans (Gm.bind_ok hq)) | have HR := hidb (HR.out.trans (Gm.bind2_ok hq))); (try obtain ⟨l0, l1, l2, l3, l4, l5, q0, q1, q2, q3, q4, q5, -⟩ := BX.out.keep (below_new w1 (.cells #[.int .i64 (c : Int), .int .i64 (x : Int)] 3))); clear hs hq) | ((first | (with_reducible have HR := hidb (HR.out.trans hq)) | have HR := hidb (HR.out.trans (Gm.bind_err hq)) | have HR := hidb (HR.out.trans (Gm.bind2_err hq))); have HBU := hidb (but_then H.out.but H.out.own hbu); clear hq hbu))
    | (go_at_call 33; refine (sNeed _ H.out.at).mono ?_; rintro r1 w1 (⟨er, q, hq, rfl, hbu⟩ | ⟨s1, hq, rfl, hs⟩) <;> first | (have BX := hidb (BX.out.step hs (by have := HG.out; omega) (H.out.npv wn.heap.size (by first | exact pv_self | exact .inl pv_self)).1); obtain ⟨d0, d1, d2, d3, d4, d5, g0, g1, g2, g3, g4, g5, -⟩ := BX.out; (try have HI := hidb (HI.out.step hs)); have H := hidb (H.out.trans hs); (first | (with_reducible have HR := hidb (HR.out.trans hq)) | have HR := hidb (HR.out.trans (Gm.bind_ok hq)) | have HR := hidb (HR.out.trans (Gm.bind2_ok hq))); clear hs hq) | ((first | (with_reducible have HR := hidb (HR.out.trans hq)) | have HR := hidb (HR.out.trans (Gm.bind_err hq)) | have HR := hidb (HR.out.trans (Gm.bind2_err hq))); have HBU := hidb (but_then H.out.but H.out.own hbu); clear hq hbu))
    | (go_at_call 79; refine (pBody HE.out H.out.at).mono ?_; rintro r1 w1 (⟨er, q, hq, rfl, hbu⟩ | ⟨x, s1, V1, hq, rfl, hs⟩) <;> first | (have BX := hidb (BX.out.step hs (by have := HG.out; omega) (H.out.npv wn.heap.size (by first | exact pv_self | exact .inl pv_self)).1); obtain ⟨d0, d1, d2, d3, d4, d5, g0, g1, g2, g3, g4, g5, -⟩ := BX.out; have H := hidb (H.out.trans hs); (have HR := hidb (HR.out.trans (Gm.bind2_p hq)));  clear hs hq) | ((have HR := hidb (HR.out.trans (Gm.bind2_err hq))); have HBU := hidb (but_then H.out.but H.out.own hbu); clear hq hbu))
    | (go_at_call 82; refine (sLayNone 19 H.out.at).mono ?_; rintro r1 w1 (⟨er, q, hq, rfl, hbu⟩ | ⟨x, s1, V1, hq, rfl, hs⟩) <;> first | (have BX := hidb (BX.out.step hs (by have := HG.out; omega) (H.out.npv wn.heap.size (by first | exact pv_self | exact .inl pv_self)).1); obtain ⟨d0, d1, d2, d3, d4, d5, g0, g1, g2, g3, g4, g5, -⟩ := BX.out; have H := hidb (H.out.trans hs); (have HR := hidb (HR.out.trans (Gm.bind2_p hq)));  clear hs hq) | ((have HR := hidb (HR.out.trans (Gm.bind2_err hq))); have HBU := hidb (but_then H.out.but H.out.own hbu); clear hq hbu))
    | (go_at_call 39; have hne : (Value.slice (some ⟨w1.heap.size, 0, none⟩) 2 2).ownBlock ≠ some wn.heap.size := (fun e => by have := BX.out.lt; simp [Value.ownBlock] at e; omega); refine (sLayR HR.out ((H.out.below (below_new _ (.cells #[iv c, iv x] IT))).poke (k := wn.heap.size) pv_self (by have := HW.out; omega) (by have := HBB.out; omega) 4 (.slice (some ⟨w1.heap.size, 0, none⟩) 2 2)).drop.at ((LR.lit H.out.drop.at #[iv c, iv x] [c, x] rfl (by simp)).poke hne _)).mono ?_; clear hne; rintro r1 w2 (⟨er, q, hq, rfl, hbu⟩ | ⟨z, s1, V1, hq, rfl, hs⟩) <;> first | (have H := hidb (((H.out.below (below_new _ (.cells #[iv c, iv x] IT))).poke (k := wn.heap.size) pv_self (by have := HW.out; omega) (by have := HBB.out; omega) 4 (.slice (some ⟨w1.heap.size, 0, none⟩) 2 2)).drop.trans hs); have HR := hidb hq; clear hs hq) | (have HR := hidb hq; have HBU := hidb (but_then ((H.out.below (below_new _ (.cells #[iv c, iv x] IT))).poke (k := wn.heap.size) pv_self (by have := HW.out; omega) (by have := HBB.out; omega) 4 (.slice (some ⟨w1.heap.size, 0, none⟩) 2 2)).but ((H.out.below (below_new _ (.cells #[iv c, iv x] IT))).poke (k := wn.heap.size) pv_self (by have := HW.out; omega) (by have := HBB.out; omega) 4 (.slice (some ⟨w1.heap.size, 0, none⟩) 2 2)).own hbu); clear hq hbu)))
  all_goals first
    | exact ⟨rfl, .inl ⟨_, _, HR.out, rfl, HBU.out⟩⟩
    | exact bodyPost_ret (v := iv z) (by simp [results, Tryz.results110, go_sem]) rfl (.inr ⟨_, _, _, HR.out, rfl, H.out⟩)

end Go.Proofs.YtdpfmmbfidknfaaGreatDoor


/- try. -/
namespace Go.Proofs.YtdpfmmbfidknfaaGreatDoor
open Go.RowKit Go.Lib
attribute [local go_sem] store_float f64bits
attribute [local go_sem ↓] Go.wp_at_zero Go.wp_at_succ
attribute [local go_sem] nd_p tk_k tk_x tk_n tk_f tk_p
variable {B g b o : Nat} {e : PM Nat}

set_option maxHeartbeats 8000000 in
set_option maxRecDepth 100000 in
theorem pTry (hE : EC B g b o e) {P : Nat → Prop} {w : World} {V : Value} {s : PS} (h : At B g b o P w V s) (hk : (Gm.hd s).k ≠ 8) :
    Calls Tryz.prog 109 #[.pointer (some ⟨g, 0, none⟩)] w fun r w' => Rz B g b o P w V (Gm.tryOf e s) iv r w' := by
  have H : Hid (St B g b o P w V w V s) := hidb h
  obtain ⟨R, hR⟩ : ∃ R, Gm.tryOf e s = R := ⟨_, rfl⟩
  rw [hR]
  have HR := hidb hR.symm
  clear hR
  have HP := hidb h.plt
  have HK := hidb hk
  clear hk
  have HE := hidb hE
  clear h hE
  have hmf : ∀ (fn : Fn) (first cap : Array Value) (w : World), (Instr.makeFunc fn first cap).run Tryz.prog w = .ok (.func fn first cap) w := fun _ _ _ _ => rfl
  have M0 : Hid True := hidb trivial
  go_enter Tryz.func109, Tryz.ntmps109
  go_wp2_with (first
    | (go_at_call 36; refine (sNext H.out.at HK.out).mono ?_; rintro r1 wn ⟨t, s1, hq, rfl, hs⟩; have H := hidb (H.out.trans hs); have HR := hidb (HR.out.trans (Gm.bind_next hq)); have HW := hidb H.out.but.size; have HG := hidb H.out.glt; have HBB := hidb H.out.blt; have BX := hidb (Six.new wn NT (.int .i64 16) (.string ⟨#[]⟩) (.int .i64 0) (.float .f64 0) (.slice none 0 0) (.int .i64 (t.p : Int))); have H := hidb (H.out.hold (.cells #[.int .i64 16, .string ⟨#[]⟩, .int .i64 0, .float .f64 0, .slice none 0 0, .int .i64 (t.p : Int)] NT)); clear hs hq)
    | (go_at_call 79; clear M0; refine (pBody HE.out H.out.at).mono ?_; rintro r1 w1 (⟨er, q, hq, rfl, hbu⟩ | ⟨bd, s1, V1, hq, rfl, hs⟩) <;> first | (have BX := hidb (BX.out.step hs (by have := HG.out; omega) (H.out.npv wn.heap.size (by first | exact pv_self | exact .inl pv_self)).1); obtain ⟨d0, d1, d2, d3, d4, d5, g0, g1, g2, g3, g4, g5, -⟩ := BX.out; have H := hidb (H.out.trans hs); (first | (with_reducible have HR := hidb (HR.out.trans hq)) | have HR := hidb (HR.out.trans (Gm.bind_ok hq)));  clear hs hq) | ((first | (with_reducible have HR := hidb (HR.out.trans hq)) | have HR := hidb (HR.out.trans (Gm.bind_err hq))); have HBU := hidb (but_then H.out.but H.out.own hbu); clear hq hbu))
    | (go_at_call 79; refine (pBody HE.out H.out.at).mono ?_; rintro r1 w1 (⟨er, q, hq, rfl, hbu⟩ | ⟨x, s1, V1, hq, rfl, hs⟩) <;> first | (have BX := hidb (BX.out.step hs (by have := HG.out; omega) (H.out.npv wn.heap.size (by first | exact pv_self | exact .inl pv_self)).1); obtain ⟨d0, d1, d2, d3, d4, d5, g0, g1, g2, g3, g4, g5, -⟩ := BX.out; have H := hidb (H.out.trans hs); (have HR := hidb (HR.out.trans (Gm.bind2_p hq)));  clear hs hq) | ((have HR := hidb (HR.out.trans (Gm.bind2_err hq))); have HBU := hidb (but_then H.out.but H.out.own hbu); clear hq hbu))
    | (go_at_call_of 114 (Value.string ⟨#[111, 102]⟩); refine (pClausesBehind (fc_clause HE.out) _ H.out.at).mono ?_; rintro r1 w1 (⟨er, q, hq, rfl, hbu⟩ | ⟨oc, s1, V1, hq, rfl, hs⟩) <;> first | (have BX := hidb (BX.out.step hs (by have := HG.out; omega) (H.out.npv wn.heap.size (by first | exact pv_self | exact .inl pv_self)).1); obtain ⟨d0, d1, d2, d3, d4, d5, g0, g1, g2, g3, g4, g5, -⟩ := BX.out; have H := hidb (H.out.trans hs); (first | (with_reducible have HR := hidb (HR.out.trans hq)) | have HR := hidb (HR.out.trans (Gm.bind_ok hq)));  clear hs hq) | ((first | (with_reducible have HR := hidb (HR.out.trans hq)) | have HR := hidb (HR.out.trans (Gm.bind_err hq))); have HBU := hidb (but_then H.out.but H.out.own hbu); clear hq hbu))
    | (go_at_call_of 114 (Value.string ⟨#[99, 97, 116, 99, 104]⟩); refine (pClausesBehind (fc_cclause HE.out) _ H.out.at).mono ?_; rintro r1 w1 (⟨er, q, hq, rfl, hbu⟩ | ⟨cc, s1, V1, hq, rfl, hs⟩) <;> first | (have BX := hidb (BX.out.step hs (by have := HG.out; omega) (H.out.npv wn.heap.size (by first | exact pv_self | exact .inl pv_self)).1); obtain ⟨d0, d1, d2, d3, d4, d5, g0, g1, g2, g3, g4, g5, -⟩ := BX.out; have H := hidb (H.out.trans hs); (first | (with_reducible have HR := hidb (HR.out.trans hq)) | have HR := hidb (HR.out.trans (Gm.bind_ok hq)));  clear hs hq) | ((first | (with_reducible have HR := hidb (HR.out.trans hq)) | have HR := hidb (HR.out.trans (Gm.bind_err hq))); have HBU := hidb (but_then H.out.but H.out.own hbu); clear hq hbu))
    | (go_at_call_of 69 (Value.string ⟨#[99, 97, 116, 99, 104]⟩); refine (sIsU _ H.out.at).mono ?_; rintro r1 w1 ⟨u, hu, ⟨hq, rfl⟩ | ⟨hq, rfl⟩, hb⟩ <;> (have HR := hidb (HR.out.trans (Gm.bind_here hu)); have HU := hidb hq; have BX := hidb (BX.out.keep hb); obtain ⟨d0, d1, d2, d3, d4, d5, g0, g1, g2, g3, g4, g5, -⟩ := BX.out; have H := hidb (H.out.below hb); clear hb hq hu))
    | (go_at_call_of 69 (Value.string ⟨#[97, 102, 116, 101, 114]⟩); refine (sIsU _ H.out.at).mono ?_; rintro r1 w1 ⟨u2, hu, ⟨hq, rfl⟩ | ⟨hq, rfl⟩, hb⟩ <;> first | (have HR := hidb ((HR.out.trans (Gm.bind_here hu)).trans (Gm.ite_t (.inr hq))); have BX := hidb (BX.out.keep hb); obtain ⟨d0, d1, d2, d3, d4, d5, g0, g1, g2, g3, g4, g5, -⟩ := BX.out; have H := hidb (H.out.below hb); clear hb hq hu) | (have HR := hidb ((HR.out.trans (Gm.bind_here hu)).trans (Gm.ite_f (by simp [hq, HU.out]))); have BX := hidb (BX.out.keep hb); obtain ⟨d0, d1, d2, d3, d4, d5, g0, g1, g2, g3, g4, g5, -⟩ := BX.out; have H := hidb (H.out.below hb); clear hb hq hu))
    | (go_at_call 51; refine (sTake _ H.out.at).mono ?_; rintro r1 w1 (⟨s1, hq, rfl, hs⟩ | ⟨hq, rfl, hs⟩) <;> first | (have HR := hidb (((HR.out.trans (Gm.bind_here rfl)).trans (Gm.ite_t (.inl HU.out))).trans (Gm.bind2_t hq.1)); have BX := hidb (BX.out.step hs (by have := HG.out; omega) (H.out.npv wn.heap.size (by first | exact pv_self | exact .inl pv_self)).1); obtain ⟨d0, d1, d2, d3, d4, d5, g0, g1, g2, g3, g4, g5, -⟩ := BX.out; have H := hidb (H.out.trans hs); have BX := hidb (BX.out.set2 (.int .i64 1)); have H := hidb (H.out.poke (k := wn.heap.size) pv_self (by have := HW.out; omega) (by have := HBB.out; omega) 2 (.int .i64 1)); clear hs hq) | (have HR := hidb (((HR.out.trans (Gm.bind_here rfl)).trans (Gm.ite_t (.inl HU.out))).trans (Gm.bind2_f hq)); have BX := hidb (BX.out.step hs (by have := HG.out; omega) (H.out.npv wn.heap.size (by first | exact pv_self | exact .inl pv_self)).1); obtain ⟨d0, d1, d2, d3, d4, d5, g0, g1, g2, g3, g4, g5, -⟩ := BX.out; have H := hidb (H.out.trans hs); clear hs hq) | (have HR := hidb (HR.out.trans (Gm.bind2_t hq.1)); have BX := hidb (BX.out.step hs (by have := HG.out; omega) (H.out.npv wn.heap.size (by first | exact pv_self | exact .inl pv_self)).1); obtain ⟨d0, d1, d2, d3, d4, d5, g0, g1, g2, g3, g4, g5, -⟩ := BX.out; have H := hidb (H.out.trans hs); have BX := hidb (BX.out.set2 (.int .i64 1)); have H := hidb (H.out.poke (k := wn.heap.size) pv_self (by have := HW.out; omega) (by have := HBB.out; omega) 2 (.int .i64 1)); clear hs hq) | (have HR := hidb (HR.out.trans (Gm.bind2_f hq)); have BX := hidb (BX.out.step hs (by have := HG.out; omega) (H.out.npv wn.heap.size (by first | exact pv_self | exact .inl pv_self)).1); obtain ⟨d0, d1, d2, d3, d4, d5, g0, g1, g2, g3, g4, g5, -⟩ := BX.out; have H := hidb (H.out.trans hs); clear hs hq))
    | (go_at_call 33; refine (sNeed _ H.out.at).mono ?_; rintro r1 w1 (⟨er, q, hq, rfl, hbu⟩ | ⟨s1, hq, rfl, hs⟩) <;> first | (have BX := hidb (BX.out.step hs (by have := HG.out; omega) (H.out.npv wn.heap.size (by first | exact pv_self | exact .inl pv_self)).1); obtain ⟨d0, d1, d2, d3, d4, d5, g0, g1, g2, g3, g4, g5, -⟩ := BX.out; (try have HI := hidb (HI.out.step hs)); have H := hidb (H.out.trans hs); (first | (with_reducible have HR := hidb (HR.out.trans hq)) | have HR := hidb (HR.out.trans (Gm.bind_ok hq)) | have HR := hidb (HR.out.trans (Gm.bind2_ok hq))); (try obtain ⟨l0, l1, l2, l3, l4, l5, q0, q1, q2, q3, q4, q5, -⟩ := BX.out.keep (below_new w1 (.cells #[.int .i64 (bd : Int), .int .i64 (oc : Int), .int .i64 (cc : Int), .int .i64 (x : Int)] 3))); clear hs hq) | ((first | (with_reducible have HR := hidb (HR.out.trans hq)) | have HR := hidb (HR.out.trans (Gm.bind_err hq)) | have HR := hidb (HR.out.trans (Gm.bind2_err hq))); have HBU := hidb (but_then H.out.but H.out.own hbu); clear hq hbu))
    | (go_at_call 82; refine (sLayNone 19 H.out.at).mono ?_; rintro r1 w1 (⟨er, q, hq, rfl, hbu⟩ | ⟨x, s1, V1, hq, rfl, hs⟩) <;> first | (have BX := hidb (BX.out.step hs (by have := HG.out; omega) (H.out.npv wn.heap.size (by first | exact pv_self | exact .inl pv_self)).1); obtain ⟨d0, d1, d2, d3, d4, d5, g0, g1, g2, g3, g4, g5, -⟩ := BX.out; have H := hidb (H.out.trans hs); (have HR := hidb (HR.out.trans (Gm.bind2_p hq)));  clear hs hq) | ((have HR := hidb (HR.out.trans (Gm.bind2_err hq))); have HBU := hidb (but_then H.out.but H.out.own hbu); clear hq hbu))
    | (go_at_call 39; have hne : (Value.slice (some ⟨w1.heap.size, 0, none⟩) 4 4).ownBlock ≠ some wn.heap.size := (fun e => by have := BX.out.lt; simp [Value.ownBlock] at e; omega); refine (sLayR HR.out ((H.out.below (below_new _ (.cells #[iv bd, iv oc, iv cc, iv x] IT))).poke (k := wn.heap.size) pv_self (by have := HW.out; omega) (by have := HBB.out; omega) 4 (.slice (some ⟨w1.heap.size, 0, none⟩) 4 4)).drop.at ((LR.lit H.out.drop.at #[iv bd, iv oc, iv cc, iv x] [bd, oc, cc, x] rfl (by simp)).poke hne _)).mono ?_; clear hne; rintro r1 w2 (⟨er, q, hq, rfl, hbu⟩ | ⟨z, s1, V1, hq, rfl, hs⟩) <;> first | (have H := hidb (((H.out.below (below_new _ (.cells #[iv bd, iv oc, iv cc, iv x] IT))).poke (k := wn.heap.size) pv_self (by have := HW.out; omega) (by have := HBB.out; omega) 4 (.slice (some ⟨w1.heap.size, 0, none⟩) 4 4)).drop.trans hs); have HR := hidb hq; clear hs hq) | (have HR := hidb hq; have HBU := hidb (but_then ((H.out.below (below_new _ (.cells #[iv bd, iv oc, iv cc, iv x] IT))).poke (k := wn.heap.size) pv_self (by have := HW.out; omega) (by have := HBB.out; omega) 4 (.slice (some ⟨w1.heap.size, 0, none⟩) 4 4)).but ((H.out.below (below_new _ (.cells #[iv bd, iv oc, iv cc, iv x] IT))).poke (k := wn.heap.size) pv_self (by have := HW.out; omega) (by have := HBB.out; omega) 4 (.slice (some ⟨w1.heap.size, 0, none⟩) 4 4)).own hbu); clear hq hbu))
    | (go_at_call 35; refine (sGiveUp (α := Nat) 24 H.out.at).mono ?_; rintro r1 w1 ⟨q, hq, rfl, hbu⟩; have HBU := hidb (but_then H.out.but H.out.own hbu); have HR := hidb (HR.out.trans hq); clear hq hbu))
  all_goals first
    | exact ⟨rfl, .inl ⟨_, _, HR.out, rfl, HBU.out⟩⟩
    | exact bodyPost_ret (v := iv z) (by simp [results, Tryz.results109, go_sem]) rfl (.inr ⟨_, _, _, HR.out, rfl, H.out⟩)

end Go.Proofs.YtdpfmmbfidknfaaGreatDoor


