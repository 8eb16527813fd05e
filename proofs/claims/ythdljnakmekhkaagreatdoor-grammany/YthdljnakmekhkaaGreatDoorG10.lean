import Derived.Test.YthdljnakmekhkaaGreatDoorG09
/- received, receive. -/
namespace Go.Proofs.YthdljnakmekhkaaGreatDoor
open Go.RowKit Go.Lib
attribute [local go_sem] store_float f64bits
attribute [local go_sem ↓] Go.wp_at_zero Go.wp_at_succ
attribute [local go_sem] nd_p tk_k tk_x tk_n tk_f tk_p
variable {B g b o : Nat} {e : PM Nat}

namespace Gm
variable {α β γ : Type} {s s' : PS}
theorem bind2_t {m : PM Bool} {A C : PM β} {G : β → PM γ} (h : m s = .ok (true, s')) : ((m >>= fun b => if b then A else C) >>= G) s = (A >>= G) s' := bind2_ok h
theorem bind2_f {m : PM Bool} {A C : PM β} {G : β → PM γ} (h : m s = .ok (false, s')) : ((m >>= fun b => if b then A else C) >>= G) s = (C >>= G) s' := bind2_ok h
theorem bind2_p {m : PM α} {f : α → β} {G : β → PM γ} {a : α} (h : m s = .ok (a, s')) : ((m >>= fun a => pure (f a)) >>= G) s = G (f a) s' := bind2_ok h
end Gm
theorem LR.poke {P : Nat → Prop} {w : World} {V v : Value} {l : List Nat} {k i : Nat} (h : LR w g P V v l) (hk : v.ownBlock ≠ some k) (u : Value) : LR (w.setCell ⟨k, i, .none⟩ u) g P V v l :=
  ⟨h.row.but ((But.refl (· = k) w).setCell (p := ⟨k, i, .none⟩) (fun _ => rfl) u) (fun _ hj he => hk (he ▸ hj)), h.ng, h.nv⟩

set_option maxHeartbeats 2000000 in
set_option maxRecDepth 100000 in
theorem pReceived (hE : EC B g b o e) {P : Nat → Prop} {w : World} {V : Value} {s : PS} (h : At B g b o P w V s) :
    Calls Tryz.prog 173 #[.pointer (some ⟨g, 0, none⟩)] w fun r w' => Rz B g b o P w V (Gm.received e s) iv r w' := by
  have H : Hid (St B g b o P w V w V s) := hidb h
  obtain ⟨R, hR⟩ : ∃ R, Gm.received e s = R := ⟨_, rfl⟩
  rw [hR]
  have HR := hidb hR.symm
  clear hR
  have HE := hidb hE
  clear h hE
  have hmf : ∀ (fn : Fn) (first cap : Array Value) (w : World), (Instr.makeFunc fn first cap).run Tryz.prog w = .ok (.func fn first cap) w := fun _ _ _ _ => rfl
  go_enter Tryz.func173, Tryz.ntmps173
  go_wp2_with (first
    | (go_at_call 101; refine (sIsU _ H.out.at).mono ?_; rintro r1 w1 ⟨u, hu, ⟨hq, rfl⟩ | ⟨hq, rfl⟩, hb⟩ <;> first | (have HR := hidb ((HR.out.trans (Gm.bind_here hu)).trans (Gm.ite_t hq)); have H := hidb (H.out.below hb); clear hb hq hu) | (have HR := hidb ((HR.out.trans (Gm.bind_here hu)).trans (Gm.ite_f (by simp [hq]))); have H := hidb (H.out.below hb); clear hb hq hu))
    | (go_at_call 119; refine (sLayNone 20 H.out.at).mono ?_; rintro r1 w1 (⟨er, q, hq, rfl, hbu⟩ | ⟨x, s1, V1, hq, rfl, hs⟩) <;> first | (have HL := hidb hs; have H := hidb (H.out.trans hs); (first | (with_reducible have HR := hidb (HR.out.trans hq)) | have HR := hidb (HR.out.trans (Gm.bind_ok hq)));  clear hs hq) | ((first | (with_reducible have HR := hidb (HR.out.trans hq)) | have HR := hidb (HR.out.trans (Gm.bind_err hq))); have HBU := hidb (but_then H.out.but H.out.own hbu); clear hq hbu))
    | (go_at_call 78; refine (pClauses (fc_clause HE.out) H.out.at).mono ?_; rintro r1 w1 (⟨er, q, hq, rfl, hbu⟩ | ⟨x, s1, V1, hq, rfl, hs⟩) <;> first | (have HL := hidb hs; have H := hidb (H.out.trans hs); (first | (with_reducible have HR := hidb (HR.out.trans hq)) | have HR := hidb (HR.out.trans (Gm.bind_ok hq)));  clear hs hq) | ((first | (with_reducible have HR := hidb (HR.out.trans hq)) | have HR := hidb (HR.out.trans (Gm.bind_err hq))); have HBU := hidb (but_then H.out.but H.out.own hbu); clear hq hbu)))
  all_goals first
    | exact ⟨rfl, .inl ⟨_, _, HR.out, rfl, HBU.out⟩⟩
    | exact bodyPost_ret (v := iv x) (by simp [results, Tryz.results173, go_sem]) rfl (.inr ⟨_, _, _, HR.out, rfl, H.out⟩)

set_option maxHeartbeats 8000000 in
set_option maxRecDepth 100000 in
theorem pReceive (hE : EC B g b o e) {P : Nat → Prop} {w : World} {V : Value} {s : PS} (h : At B g b o P w V s) (hk : (Gm.hd s).k ≠ 8) :
    Calls Tryz.prog 167 #[.pointer (some ⟨g, 0, none⟩)] w fun r w' => Rz B g b o P w V (Gm.receive e s) iv r w' := by
  have H : Hid (St B g b o P w V w V s) := hidb h
  obtain ⟨R, hR⟩ : ∃ R, Gm.receive e s = R := ⟨_, rfl⟩
  rw [hR]
  have HR := hidb hR.symm
  clear hR
  have HP := hidb h.plt
  have HK := hidb hk
  clear hk
  have HE := hidb hE
  clear h hE
  go_enter Tryz.func167, Tryz.ntmps167
  go_wp2_with (first
    | (go_at_call 50; refine (sNext H.out.at HK.out).mono ?_; rintro r1 wn ⟨t, s1, hq, rfl, hs⟩; have H := hidb (H.out.trans hs); have HR := hidb (HR.out.trans (Gm.bind_next hq)); have HW := hidb H.out.but.size; have HG := hidb H.out.glt; have HBB := hidb H.out.blt; have BX := hidb (Six.new wn NT (.int .i64 18) (.string ⟨#[]⟩) (.int .i64 0) (.float .f64 0) (.slice none 0 0) (.int .i64 (t.p : Int))); have H := hidb (H.out.hold (.cells #[.int .i64 18, .string ⟨#[]⟩, .int .i64 0, .float .f64 0, .slice none 0 0, .int .i64 (t.p : Int)] NT)); clear hs hq)
    | (go_at_call 173; refine (pReceived HE.out H.out.at).mono ?_; rintro r1 w1 (⟨er, q, hq, rfl, hbu⟩ | ⟨c, s1, V1, hq, rfl, hs⟩) <;> first | (have BX := hidb (BX.out.step hs (by have := HG.out; omega) (H.out.npv wn.heap.size (by first | exact pv_self | exact .inl pv_self)).1); obtain ⟨d0, d1, d2, d3, d4, d5, g0, g1, g2, g3, g4, g5, -⟩ := BX.out; have H := hidb (H.out.trans hs); (first | (with_reducible have HR := hidb (HR.out.trans hq)) | have HR := hidb (HR.out.trans (Gm.bind_ok hq)) | have HR := hidb (HR.out.trans (Gm.bind2_ok hq)));  clear hs hq) | ((first | (with_reducible have HR := hidb (HR.out.trans hq)) | have HR := hidb (HR.out.trans (Gm.bind_err hq)) | have HR := hidb (HR.out.trans (Gm.bind2_err hq))); have HBU := hidb (but_then H.out.but H.out.own hbu); clear hq hbu))
    | (go_at_call 76; refine (sTake _ H.out.at).mono ?_; rintro r1 w1 (⟨s1, hq, rfl, hs⟩ | ⟨hq, rfl, hs⟩) <;> first | (have HR := hidb (HR.out.trans (Gm.bind2_t hq.1)); have BX := hidb (BX.out.step hs (by have := HG.out; omega) (H.out.npv wn.heap.size (by first | exact pv_self | exact .inl pv_self)).1); obtain ⟨d0, d1, d2, d3, d4, d5, g0, g1, g2, g3, g4, g5, -⟩ := BX.out; (try have HI := hidb (HI.out.step hs)); have H := hidb (H.out.trans hs); clear hs hq) | (have HR := hidb (HR.out.trans (Gm.bind2_f hq)); have BX := hidb (BX.out.step hs (by have := HG.out; omega) (H.out.npv wn.heap.size (by first | exact pv_self | exact .inl pv_self)).1); obtain ⟨d0, d1, d2, d3, d4, d5, g0, g1, g2, g3, g4, g5, -⟩ := BX.out; (try have HI := hidb (HI.out.step hs)); have H := hidb (H.out.trans hs); clear hs hq))
    | (go_at_call 174; refine (pPatience H.out.at).mono ?_; rintro r1 w1 (⟨er, q, hq, rfl, hbu⟩ | ⟨n, s1, V1, hq, rfl, hs⟩) <;> first | (have BX := hidb (BX.out.step hs (by have := HG.out; omega) (H.out.npv wn.heap.size (by first | exact pv_self | exact .inl pv_self)).1); obtain ⟨d0, d1, d2, d3, d4, d5, g0, g1, g2, g3, g4, g5, -⟩ := BX.out; have H := hidb (H.out.trans hs); (first | (with_reducible have HR := hidb (HR.out.trans hq)) | have HR := hidb (HR.out.trans (Gm.bind_ok hq)) | have HR := hidb (HR.out.trans (Gm.bind2_ok hq))); have BX := hidb (BX.out.set2 (.int .i64 n)); have H := hidb (H.out.poke (k := wn.heap.size) pv_self (by have := HW.out; omega) (by have := HBB.out; omega) 2 (.int .i64 n)); clear hs hq) | ((first | (with_reducible have HR := hidb (HR.out.trans hq)) | have HR := hidb (HR.out.trans (Gm.bind_err hq)) | have HR := hidb (HR.out.trans (Gm.bind2_err hq))); have HBU := hidb (but_then H.out.but H.out.own hbu); clear hq hbu))
    | (go_at_call_of 47 (Value.string ⟨#[101, 110, 100]⟩); refine (sNeed _ H.out.at).mono ?_; rintro r1 w1 (⟨er, q, hq, rfl, hbu⟩ | ⟨s1, hq, rfl, hs⟩) <;> first | (have BX := hidb (BX.out.step hs (by have := HG.out; omega) (H.out.npv wn.heap.size (by first | exact pv_self | exact .inl pv_self)).1); obtain ⟨d0, d1, d2, d3, d4, d5, g0, g1, g2, g3, g4, g5, -⟩ := BX.out; (try have HI := hidb (HI.out.step hs)); have H := hidb (H.out.trans hs); (first | (with_reducible have HR := hidb (HR.out.trans hq)) | have HR := hidb (HR.out.trans (Gm.bind_ok hq)) | have HR := hidb (HR.out.trans (Gm.bind2_ok hq))); (try obtain ⟨l0, l1, l2, l3, l4, l5, q0, q1, q2, q3, q4, q5, -⟩ := BX.out.keep (below_new w1 (.cells #[.int .i64 (c : Int), .int .i64 (x : Int)] 3))); clear hs hq) | ((first | (with_reducible have HR := hidb (HR.out.trans hq)) | have HR := hidb (HR.out.trans (Gm.bind_err hq)) | have HR := hidb (HR.out.trans (Gm.bind2_err hq))); have HBU := hidb (but_then H.out.but H.out.own hbu); clear hq hbu))
    | (go_at_call 47; refine (sNeed _ H.out.at).mono ?_; rintro r1 w1 (⟨er, q, hq, rfl, hbu⟩ | ⟨s1, hq, rfl, hs⟩) <;> first | (have BX := hidb (BX.out.step hs (by have := HG.out; omega) (H.out.npv wn.heap.size (by first | exact pv_self | exact .inl pv_self)).1); obtain ⟨d0, d1, d2, d3, d4, d5, g0, g1, g2, g3, g4, g5, -⟩ := BX.out; (try have HI := hidb (HI.out.step hs)); have H := hidb (H.out.trans hs); (first | (with_reducible have HR := hidb (HR.out.trans hq)) | have HR := hidb (HR.out.trans (Gm.bind_ok hq)) | have HR := hidb (HR.out.trans (Gm.bind2_ok hq))); clear hs hq) | ((first | (with_reducible have HR := hidb (HR.out.trans hq)) | have HR := hidb (HR.out.trans (Gm.bind_err hq)) | have HR := hidb (HR.out.trans (Gm.bind2_err hq))); have HBU := hidb (but_then H.out.but H.out.own hbu); clear hq hbu))
    | (go_at_call 115; refine (pBody HE.out H.out.at).mono ?_; rintro r1 w1 (⟨er, q, hq, rfl, hbu⟩ | ⟨x, s1, V1, hq, rfl, hs⟩) <;> first | (have BX := hidb (BX.out.step hs (by have := HG.out; omega) (H.out.npv wn.heap.size (by first | exact pv_self | exact .inl pv_self)).1); obtain ⟨d0, d1, d2, d3, d4, d5, g0, g1, g2, g3, g4, g5, -⟩ := BX.out; have H := hidb (H.out.trans hs); (have HR := hidb (HR.out.trans (Gm.bind2_p hq)));  clear hs hq) | ((have HR := hidb (HR.out.trans (Gm.bind2_err hq))); have HBU := hidb (but_then H.out.but H.out.own hbu); clear hq hbu))
    | (go_at_call 119; refine (sLayNone 19 H.out.at).mono ?_; rintro r1 w1 (⟨er, q, hq, rfl, hbu⟩ | ⟨x, s1, V1, hq, rfl, hs⟩) <;> first | (have BX := hidb (BX.out.step hs (by have := HG.out; omega) (H.out.npv wn.heap.size (by first | exact pv_self | exact .inl pv_self)).1); obtain ⟨d0, d1, d2, d3, d4, d5, g0, g1, g2, g3, g4, g5, -⟩ := BX.out; have H := hidb (H.out.trans hs); (have HR := hidb (HR.out.trans (Gm.bind2_p hq)));  clear hs hq) | ((have HR := hidb (HR.out.trans (Gm.bind2_err hq))); have HBU := hidb (but_then H.out.but H.out.own hbu); clear hq hbu))
    | (go_at_call 53; have hne : (Value.slice (some ⟨w1.heap.size, 0, none⟩) 2 2).ownBlock ≠ some wn.heap.size := (fun e => by have := BX.out.lt; simp [Value.ownBlock] at e; omega); refine (sLayR HR.out ((H.out.below (below_new _ (.cells #[iv c, iv x] IT))).poke (k := wn.heap.size) pv_self (by have := HW.out; omega) (by have := HBB.out; omega) 4 (.slice (some ⟨w1.heap.size, 0, none⟩) 2 2)).drop.at ((LR.lit H.out.drop.at #[iv c, iv x] [c, x] rfl (by simp)).poke hne _)).mono ?_; clear hne; rintro r1 w2 (⟨er, q, hq, rfl, hbu⟩ | ⟨z, s1, V1, hq, rfl, hs⟩) <;> first | (have H := hidb (((H.out.below (below_new _ (.cells #[iv c, iv x] IT))).poke (k := wn.heap.size) pv_self (by have := HW.out; omega) (by have := HBB.out; omega) 4 (.slice (some ⟨w1.heap.size, 0, none⟩) 2 2)).drop.trans hs); have HR := hidb hq; clear hs hq) | (have HR := hidb hq; have HBU := hidb (but_then ((H.out.below (below_new _ (.cells #[iv c, iv x] IT))).poke (k := wn.heap.size) pv_self (by have := HW.out; omega) (by have := HBB.out; omega) 4 (.slice (some ⟨w1.heap.size, 0, none⟩) 2 2)).but ((H.out.below (below_new _ (.cells #[iv c, iv x] IT))).poke (k := wn.heap.size) pv_self (by have := HW.out; omega) (by have := HBB.out; omega) 4 (.slice (some ⟨w1.heap.size, 0, none⟩) 2 2)).own hbu); clear hq hbu)))
  all_goals first
    | exact ⟨rfl, .inl ⟨_, _, HR.out, rfl, HBU.out⟩⟩
    | exact bodyPost_ret (v := iv z) (by simp [results, Tryz.results167, go_sem]) rfl (.inr ⟨_, _, _, HR.out, rfl, H.out⟩)

end Go.Proofs.YthdljnakmekhkaaGreatDoor


/- try. -/
namespace Go.Proofs.YthdljnakmekhkaaGreatDoor
open Go.RowKit Go.Lib
attribute [local go_sem] store_float f64bits
attribute [local go_sem ↓] Go.wp_at_zero Go.wp_at_succ
attribute [local go_sem] nd_p tk_k tk_x tk_n tk_f tk_p
variable {B g b o : Nat} {e : PM Nat}

set_option maxHeartbeats 8000000 in
set_option maxRecDepth 100000 in
theorem pTry (hE : EC B g b o e) {P : Nat → Prop} {w : World} {V : Value} {s : PS} (h : At B g b o P w V s) (hk : (Gm.hd s).k ≠ 8) :
    Calls Tryz.prog 166 #[.pointer (some ⟨g, 0, none⟩)] w fun r w' => Rz B g b o P w V (Gm.tryOf e s) iv r w' := by
  have H : Hid (St B g b o P w V w V s) := hidb h
  obtain ⟨R, hR⟩ : ∃ R, Gm.tryOf e s = R := ⟨_, rfl⟩
  rw [hR]
  have HR := hidb hR.symm
  clear hR
  have HP := hidb h.plt
  have HK := hidb hk
  clear hk
  have HE := hidb hE
  clear h hE
  have hmf : ∀ (fn : Fn) (first cap : Array Value) (w : World), (Instr.makeFunc fn first cap).run Tryz.prog w = .ok (.func fn first cap) w := fun _ _ _ _ => rfl
  have M0 : Hid True := hidb trivial
  go_enter Tryz.func166, Tryz.ntmps166
  go_wp2_with (first
    | (go_at_call 50; refine (sNext H.out.at HK.out).mono ?_; rintro r1 wn ⟨t, s1, hq, rfl, hs⟩; have H := hidb (H.out.trans hs); have HR := hidb (HR.out.trans (Gm.bind_next hq)); have HW := hidb H.out.but.size; have HG := hidb H.out.glt; have HBB := hidb H.out.blt; have BX := hidb (Six.new wn NT (.int .i64 16) (.string ⟨#[]⟩) (.int .i64 0) (.float .f64 0) (.slice none 0 0) (.int .i64 (t.p : Int))); have H := hidb (H.out.hold (.cells #[.int .i64 16, .string ⟨#[]⟩, .int .i64 0, .float .f64 0, .slice none 0 0, .int .i64 (t.p : Int)] NT)); clear hs hq)
    | (go_at_call 115; clear M0; refine (pBody HE.out H.out.at).mono ?_; rintro r1 w1 (⟨er, q, hq, rfl, hbu⟩ | ⟨bd, s1, V1, hq, rfl, hs⟩) <;> first | (have BX := hidb (BX.out.step hs (by have := HG.out; omega) (H.out.npv wn.heap.size (by first | exact pv_self | exact .inl pv_self)).1); obtain ⟨d0, d1, d2, d3, d4, d5, g0, g1, g2, g3, g4, g5, -⟩ := BX.out; have H := hidb (H.out.trans hs); (first | (with_reducible have HR := hidb (HR.out.trans hq)) | have HR := hidb (HR.out.trans (Gm.bind_ok hq)));  clear hs hq) | ((first | (with_reducible have HR := hidb (HR.out.trans hq)) | have HR := hidb (HR.out.trans (Gm.bind_err hq))); have HBU := hidb (but_then H.out.but H.out.own hbu); clear hq hbu))
    | (go_at_call 115; refine (pBody HE.out H.out.at).mono ?_; rintro r1 w1 (⟨er, q, hq, rfl, hbu⟩ | ⟨x, s1, V1, hq, rfl, hs⟩) <;> first | (have BX := hidb (BX.out.step hs (by have := HG.out; omega) (H.out.npv wn.heap.size (by first | exact pv_self | exact .inl pv_self)).1); obtain ⟨d0, d1, d2, d3, d4, d5, g0, g1, g2, g3, g4, g5, -⟩ := BX.out; have H := hidb (H.out.trans hs); (have HR := hidb (HR.out.trans (Gm.bind2_p hq)));  clear hs hq) | ((have HR := hidb (HR.out.trans (Gm.bind2_err hq))); have HBU := hidb (but_then H.out.but H.out.own hbu); clear hq hbu))
    | (go_at_call_of 171 (Value.string ⟨#[111, 102]⟩); refine (pClausesBehind (fc_clause HE.out) _ H.out.at).mono ?_; rintro r1 w1 (⟨er, q, hq, rfl, hbu⟩ | ⟨oc, s1, V1, hq, rfl, hs⟩) <;> first | (have BX := hidb (BX.out.step hs (by have := HG.out; omega) (H.out.npv wn.heap.size (by first | exact pv_self | exact .inl pv_self)).1); obtain ⟨d0, d1, d2, d3, d4, d5, g0, g1, g2, g3, g4, g5, -⟩ := BX.out; have H := hidb (H.out.trans hs); (first | (with_reducible have HR := hidb (HR.out.trans hq)) | have HR := hidb (HR.out.trans (Gm.bind_ok hq)));  clear hs hq) | ((first | (with_reducible have HR := hidb (HR.out.trans hq)) | have HR := hidb (HR.out.trans (Gm.bind_err hq))); have HBU := hidb (but_then H.out.but H.out.own hbu); clear hq hbu))
    | (go_at_call_of 171 (Value.string ⟨#[99, 97, 116, 99, 104]⟩); refine (pClausesBehind (fc_cclause HE.out) _ H.out.at).mono ?_; rintro r1 w1 (⟨er, q, hq, rfl, hbu⟩ | ⟨cc, s1, V1, hq, rfl, hs⟩) <;> first | (have BX := hidb (BX.out.step hs (by have := HG.out; omega) (H.out.npv wn.heap.size (by first | exact pv_self | exact .inl pv_self)).1); obtain ⟨d0, d1, d2, d3, d4, d5, g0, g1, g2, g3, g4, g5, -⟩ := BX.out; have H := hidb (H.out.trans hs); (first | (with_reducible have HR := hidb (HR.out.trans hq)) | have HR := hidb (HR.out.trans (Gm.bind_ok hq)));  clear hs hq) | ((first | (with_reducible have HR := hidb (HR.out.trans hq)) | have HR := hidb (HR.out.trans (Gm.bind_err hq))); have HBU := hidb (but_then H.out.but H.out.own hbu); clear hq hbu))
    | (go_at_call_of 101 (Value.string ⟨#[99, 97, 116, 99, 104]⟩); refine (sIsU _ H.out.at).mono ?_; rintro r1 w1 ⟨u, hu, ⟨hq, rfl⟩ | ⟨hq, rfl⟩, hb⟩ <;> (have HR := hidb (HR.out.trans (Gm.bind_here hu)); have HU := hidb hq; have BX := hidb (BX.out.keep hb); obtain ⟨d0, d1, d2, d3, d4, d5, g0, g1, g2, g3, g4, g5, -⟩ := BX.out; have H := hidb (H.out.below hb); clear hb hq hu))
    | (go_at_call_of 101 (Value.string ⟨#[97, 102, 116, 101, 114]⟩); refine (sIsU _ H.out.at).mono ?_; rintro r1 w1 ⟨u2, hu, ⟨hq, rfl⟩ | ⟨hq, rfl⟩, hb⟩ <;> first | (have HR := hidb ((HR.out.trans (Gm.bind_here hu)).trans (Gm.ite_t (.inr hq))); have BX := hidb (BX.out.keep hb); obtain ⟨d0, d1, d2, d3, d4, d5, g0, g1, g2, g3, g4, g5, -⟩ := BX.out; have H := hidb (H.out.below hb); clear hb hq hu) | (have HR := hidb ((HR.out.trans (Gm.bind_here hu)).trans (Gm.ite_f (by simp [hq, HU.out]))); have BX := hidb (BX.out.keep hb); obtain ⟨d0, d1, d2, d3, d4, d5, g0, g1, g2, g3, g4, g5, -⟩ := BX.out; have H := hidb (H.out.below hb); clear hb hq hu))
    | (go_at_call 76; refine (sTake _ H.out.at).mono ?_; rintro r1 w1 (⟨s1, hq, rfl, hs⟩ | ⟨hq, rfl, hs⟩) <;> first | (have HR := hidb (((HR.out.trans (Gm.bind_here rfl)).trans (Gm.ite_t (.inl HU.out))).trans (Gm.bind2_t hq.1)); have BX := hidb (BX.out.step hs (by have := HG.out; omega) (H.out.npv wn.heap.size (by first | exact pv_self | exact .inl pv_self)).1); obtain ⟨d0, d1, d2, d3, d4, d5, g0, g1, g2, g3, g4, g5, -⟩ := BX.out; have H := hidb (H.out.trans hs); have BX := hidb (BX.out.set2 (.int .i64 1)); have H := hidb (H.out.poke (k := wn.heap.size) pv_self (by have := HW.out; omega) (by have := HBB.out; omega) 2 (.int .i64 1)); clear hs hq) | (have HR := hidb (((HR.out.trans (Gm.bind_here rfl)).trans (Gm.ite_t (.inl HU.out))).trans (Gm.bind2_f hq)); have BX := hidb (BX.out.step hs (by have := HG.out; omega) (H.out.npv wn.heap.size (by first | exact pv_self | exact .inl pv_self)).1); obtain ⟨d0, d1, d2, d3, d4, d5, g0, g1, g2, g3, g4, g5, -⟩ := BX.out; have H := hidb (H.out.trans hs); clear hs hq) | (have HR := hidb (HR.out.trans (Gm.bind2_t hq.1)); have BX := hidb (BX.out.step hs (by have := HG.out; omega) (H.out.npv wn.heap.size (by first | exact pv_self | exact .inl pv_self)).1); obtain ⟨d0, d1, d2, d3, d4, d5, g0, g1, g2, g3, g4, g5, -⟩ := BX.out; have H := hidb (H.out.trans hs); have BX := hidb (BX.out.set2 (.int .i64 1)); have H := hidb (H.out.poke (k := wn.heap.size) pv_self (by have := HW.out; omega) (by have := HBB.out; omega) 2 (.int .i64 1)); clear hs hq) | (have HR := hidb (HR.out.trans (Gm.bind2_f hq)); have BX := hidb (BX.out.step hs (by have := HG.out; omega) (H.out.npv wn.heap.size (by first | exact pv_self | exact .inl pv_self)).1); obtain ⟨d0, d1, d2, d3, d4, d5, g0, g1, g2, g3, g4, g5, -⟩ := BX.out; have H := hidb (H.out.trans hs); clear hs hq))
    | (go_at_call 47; refine (sNeed _ H.out.at).mono ?_; rintro r1 w1 (⟨er, q, hq, rfl, hbu⟩ | ⟨s1, hq, rfl, hs⟩) <;> first | (have BX := hidb (BX.out.step hs (by have := HG.out; omega) (H.out.npv wn.heap.size (by first | exact pv_self | exact .inl pv_self)).1); obtain ⟨d0, d1, d2, d3, d4, d5, g0, g1, g2, g3, g4, g5, -⟩ := BX.out; (try have HI := hidb (HI.out.step hs)); have H := hidb (H.out.trans hs); (first | (with_reducible have HR := hidb (HR.out.trans hq)) | have HR := hidb (HR.out.trans (Gm.bind_ok hq)) | have HR := hidb (HR.out.trans (Gm.bind2_ok hq))); (try obtain ⟨l0, l1, l2, l3, l4, l5, q0, q1, q2, q3, q4, q5, -⟩ := BX.out.keep (below_new w1 (.cells #[.int .i64 (bd : Int), .int .i64 (oc : Int), .int .i64 (cc : Int), .int .i64 (x : Int)] 3))); clear hs hq) | ((first | (with_reducible have HR := hidb (HR.out.trans hq)) | have HR := hidb (HR.out.trans (Gm.bind_err hq)) | have HR := hidb (HR.out.trans (Gm.bind2_err hq))); have HBU := hidb (but_then H.out.but H.out.own hbu); clear hq hbu))
    | (go_at_call 119; refine (sLayNone 19 H.out.at).mono ?_; rintro r1 w1 (⟨er, q, hq, rfl, hbu⟩ | ⟨x, s1, V1, hq, rfl, hs⟩) <;> first | (have BX := hidb (BX.out.step hs (by have := HG.out; omega) (H.out.npv wn.heap.size (by first | exact pv_self | exact .inl pv_self)).1); obtain ⟨d0, d1, d2, d3, d4, d5, g0, g1, g2, g3, g4, g5, -⟩ := BX.out; have H := hidb (H.out.trans hs); (have HR := hidb (HR.out.trans (Gm.bind2_p hq)));  clear hs hq) | ((have HR := hidb (HR.out.trans (Gm.bind2_err hq))); have HBU := hidb (but_then H.out.but H.out.own hbu); clear hq hbu))
    | (go_at_call 53; have hne : (Value.slice (some ⟨w1.heap.size, 0, none⟩) 4 4).ownBlock ≠ some wn.heap.size := (fun e => by have := BX.out.lt; simp [Value.ownBlock] at e; omega); refine (sLayR HR.out ((H.out.below (below_new _ (.cells #[iv bd, iv oc, iv cc, iv x] IT))).poke (k := wn.heap.size) pv_self (by have := HW.out; omega) (by have := HBB.out; omega) 4 (.slice (some ⟨w1.heap.size, 0, none⟩) 4 4)).drop.at ((LR.lit H.out.drop.at #[iv bd, iv oc, iv cc, iv x] [bd, oc, cc, x] rfl (by simp)).poke hne _)).mono ?_; clear hne; rintro r1 w2 (⟨er, q, hq, rfl, hbu⟩ | ⟨z, s1, V1, hq, rfl, hs⟩) <;> first | (have H := hidb (((H.out.below (below_new _ (.cells #[iv bd, iv oc, iv cc, iv x] IT))).poke (k := wn.heap.size) pv_self (by have := HW.out; omega) (by have := HBB.out; omega) 4 (.slice (some ⟨w1.heap.size, 0, none⟩) 4 4)).drop.trans hs); have HR := hidb hq; clear hs hq) | (have HR := hidb hq; have HBU := hidb (but_then ((H.out.below (below_new _ (.cells #[iv bd, iv oc, iv cc, iv x] IT))).poke (k := wn.heap.size) pv_self (by have := HW.out; omega) (by have := HBB.out; omega) 4 (.slice (some ⟨w1.heap.size, 0, none⟩) 4 4)).but ((H.out.below (below_new _ (.cells #[iv bd, iv oc, iv cc, iv x] IT))).poke (k := wn.heap.size) pv_self (by have := HW.out; omega) (by have := HBB.out; omega) 4 (.slice (some ⟨w1.heap.size, 0, none⟩) 4 4)).own hbu); clear hq hbu))
    | (go_at_call 49; refine (sGiveUp (α := Nat) 24 H.out.at).mono ?_; rintro r1 w1 ⟨q, hq, rfl, hbu⟩; have HBU := hidb (but_then H.out.but H.out.own hbu); have HR := hidb (HR.out.trans hq); clear hq hbu))
  all_goals first
    | exact ⟨rfl, .inl ⟨_, _, HR.out, rfl, HBU.out⟩⟩
    | exact bodyPost_ret (v := iv z) (by simp [results, Tryz.results166, go_sem]) rfl (.inr ⟨_, _, _, HR.out, rfl, H.out⟩)

end Go.Proofs.YthdljnakmekhkaaGreatDoor


/- worded, bracketed, primary. -/
namespace Go.Proofs.YthdljnakmekhkaaGreatDoor
open Go.RowKit Go.Lib
attribute [local go_sem] store_float f64bits
attribute [local go_sem ↓] Go.wp_at_zero Go.wp_at_succ
attribute [local go_sem] nd_p tk_k tk_x tk_n tk_f tk_p
variable {B g b o : Nat} {e : PM Nat}

set_option maxHeartbeats 2000000 in
set_option maxRecDepth 100000 in
theorem pWorded (hE : EC B g b o e) {P : Nat → Prop} {w : World} {V : Value} {s : PS} (h : At B g b o P w V s) (hk : (Gm.hd s).k ≠ 8) :
    Calls Tryz.prog 159 #[.pointer (some ⟨g, 0, none⟩)] w fun r w' => Rz B g b o P w V (Gm.worded e s) iv r w' := by
  have H : Hid (St B g b o P w V w V s) := hidb h
  obtain ⟨R, hR⟩ : ∃ R, Gm.worded e s = R := ⟨_, rfl⟩
  rw [hR]
  have HR := hidb hR.symm
  clear hR
  have HK := hidb hk
  clear hk
  have HE := hidb hE
  clear h hE
  obtain ⟨t0, ht⟩ : ∃ t, Gm.hd s = t := ⟨_, rfl⟩
  have q0 := strs t0.x [98, 101, 103, 105, 110]
  have q1 := strs t0.x [99, 97, 115, 101]
  have q2 := strs t0.x [102, 117, 110]
  have q3 := strs t0.x [116, 114, 121]
  have q4 := strs t0.x [114, 101, 99, 101, 105, 118, 101]
  have HR := hidb (HR.out.trans (Gm.bind_here ht))
  have T0 := hidb ht
  clear ht
  obtain ⟨b0, hb0⟩ : ∃ c, decide (t0.x = ⟨[98, 101, 103, 105, 110].toArray⟩) = c := ⟨_, rfl⟩
  rw [hb0] at q0
  have HB0 := hidb hb0
  clear hb0
  obtain ⟨b1, hb1⟩ : ∃ c, decide (t0.x = ⟨[99, 97, 115, 101].toArray⟩) = c := ⟨_, rfl⟩
  rw [hb1] at q1
  have HB1 := hidb hb1
  clear hb1
  obtain ⟨b2, hb2⟩ : ∃ c, decide (t0.x = ⟨[102, 117, 110].toArray⟩) = c := ⟨_, rfl⟩
  rw [hb2] at q2
  have HB2 := hidb hb2
  clear hb2
  obtain ⟨b3, hb3⟩ : ∃ c, decide (t0.x = ⟨[116, 114, 121].toArray⟩) = c := ⟨_, rfl⟩
  rw [hb3] at q3
  have HB3 := hidb hb3
  clear hb3
  obtain ⟨b4, hb4⟩ : ∃ c, decide (t0.x = ⟨[114, 101, 99, 101, 105, 118, 101].toArray⟩) = c := ⟨_, rfl⟩
  rw [hb4] at q4
  have HB4 := hidb hb4
  clear hb4
  cases b0 with
  | true =>
    have HR := hidb (HR.out.trans (Gm.ite_t (of_decide_eq_true HB0.out)))
    go_enter Tryz.func159, Tryz.ntmps159
    go_wp2_with (first
      | (go_at_call 46; refine (sHere H.out.at).mono ?_; rintro r1 w1 ⟨t, hq, rfl, hs, hb⟩; obtain rfl : t0 = t := T0.out.symm.trans hq; have H := hidb (H.out.below hb); clear hs hb hq)
      | (go_at_call 163; refine (pBegin HE.out H.out.at HK.out).mono ?_; rintro r1 w1 (⟨er, q, hq, rfl, hbu⟩ | ⟨z, s1, V1, hq, rfl, hs⟩) <;> first | (have HL := hidb hs; have H := hidb (H.out.trans hs); (first | (with_reducible have HR := hidb (HR.out.trans hq)) | have HR := hidb (HR.out.trans (Gm.bind_ok hq)));  clear hs hq) | ((first | (with_reducible have HR := hidb (HR.out.trans hq)) | have HR := hidb (HR.out.trans (Gm.bind_err hq))); have HBU := hidb (but_then H.out.but H.out.own hbu); clear hq hbu)))
    all_goals first
      | exact ⟨rfl, .inl ⟨_, _, HR.out, rfl, HBU.out⟩⟩
      | exact bodyPost_ret (v := iv z) (by simp [results, Tryz.results159, go_sem]) rfl (.inr ⟨_, _, _, HR.out, rfl, H.out⟩)
  | false =>
    have HR := hidb (HR.out.trans (Gm.ite_f (of_decide_eq_false HB0.out)))
    cases b1 with
    | true =>
      have HR := hidb (HR.out.trans (Gm.ite_t (of_decide_eq_true HB1.out)))
      go_enter Tryz.func159, Tryz.ntmps159
      go_wp2_with (first
        | (go_at_call 46; refine (sHere H.out.at).mono ?_; rintro r1 w1 ⟨t, hq, rfl, hs, hb⟩; obtain rfl : t0 = t := T0.out.symm.trans hq; have H := hidb (H.out.below hb); clear hs hb hq)
        | (go_at_call 164; refine (pChoice HE.out H.out.at HK.out).mono ?_; rintro r1 w1 (⟨er, q, hq, rfl, hbu⟩ | ⟨z, s1, V1, hq, rfl, hs⟩) <;> first | (have HL := hidb hs; have H := hidb (H.out.trans hs); (first | (with_reducible have HR := hidb (HR.out.trans hq)) | have HR := hidb (HR.out.trans (Gm.bind_ok hq)));  clear hs hq) | ((first | (with_reducible have HR := hidb (HR.out.trans hq)) | have HR := hidb (HR.out.trans (Gm.bind_err hq))); have HBU := hidb (but_then H.out.but H.out.own hbu); clear hq hbu)))
      all_goals first
        | exact ⟨rfl, .inl ⟨_, _, HR.out, rfl, HBU.out⟩⟩
        | exact bodyPost_ret (v := iv z) (by simp [results, Tryz.results159, go_sem]) rfl (.inr ⟨_, _, _, HR.out, rfl, H.out⟩)
    | false =>
      have HR := hidb (HR.out.trans (Gm.ite_f (of_decide_eq_false HB1.out)))
      cases b2 with
      | true =>
        have HR := hidb (HR.out.trans (Gm.ite_t (of_decide_eq_true HB2.out)))
        go_enter Tryz.func159, Tryz.ntmps159
        go_wp2_with (first
          | (go_at_call 46; refine (sHere H.out.at).mono ?_; rintro r1 w1 ⟨t, hq, rfl, hs, hb⟩; obtain rfl : t0 = t := T0.out.symm.trans hq; have H := hidb (H.out.below hb); clear hs hb hq)
          | (go_at_call 165; refine (pFun HE.out H.out.at HK.out).mono ?_; rintro r1 w1 (⟨er, q, hq, rfl, hbu⟩ | ⟨z, s1, V1, hq, rfl, hs⟩) <;> first | (have HL := hidb hs; have H := hidb (H.out.trans hs); (first | (with_reducible have HR := hidb (HR.out.trans hq)) | have HR := hidb (HR.out.trans (Gm.bind_ok hq)));  clear hs hq) | ((first | (with_reducible have HR := hidb (HR.out.trans hq)) | have HR := hidb (HR.out.trans (Gm.bind_err hq))); have HBU := hidb (but_then H.out.but H.out.own hbu); clear hq hbu)))
        all_goals first
          | exact ⟨rfl, .inl ⟨_, _, HR.out, rfl, HBU.out⟩⟩
          | exact bodyPost_ret (v := iv z) (by simp [results, Tryz.results159, go_sem]) rfl (.inr ⟨_, _, _, HR.out, rfl, H.out⟩)
      | false =>
        have HR := hidb (HR.out.trans (Gm.ite_f (of_decide_eq_false HB2.out)))
        cases b3 with
        | true =>
          have HR := hidb (HR.out.trans (Gm.ite_t (of_decide_eq_true HB3.out)))
          go_enter Tryz.func159, Tryz.ntmps159
          go_wp2_with (first
            | (go_at_call 46; refine (sHere H.out.at).mono ?_; rintro r1 w1 ⟨t, hq, rfl, hs, hb⟩; obtain rfl : t0 = t := T0.out.symm.trans hq; have H := hidb (H.out.below hb); clear hs hb hq)
            | (go_at_call 166; refine (pTry HE.out H.out.at HK.out).mono ?_; rintro r1 w1 (⟨er, q, hq, rfl, hbu⟩ | ⟨z, s1, V1, hq, rfl, hs⟩) <;> first | (have HL := hidb hs; have H := hidb (H.out.trans hs); (first | (with_reducible have HR := hidb (HR.out.trans hq)) | have HR := hidb (HR.out.trans (Gm.bind_ok hq)));  clear hs hq) | ((first | (with_reducible have HR := hidb (HR.out.trans hq)) | have HR := hidb (HR.out.trans (Gm.bind_err hq))); have HBU := hidb (but_then H.out.but H.out.own hbu); clear hq hbu)))
          all_goals first
            | exact ⟨rfl, .inl ⟨_, _, HR.out, rfl, HBU.out⟩⟩
            | exact bodyPost_ret (v := iv z) (by simp [results, Tryz.results159, go_sem]) rfl (.inr ⟨_, _, _, HR.out, rfl, H.out⟩)
        | false =>
          have HR := hidb (HR.out.trans (Gm.ite_f (of_decide_eq_false HB3.out)))
          cases b4 with
          | true =>
            have HR := hidb (HR.out.trans (Gm.ite_t (of_decide_eq_true HB4.out)))
            go_enter Tryz.func159, Tryz.ntmps159
            go_wp2_with (first
              | (go_at_call 46; refine (sHere H.out.at).mono ?_; rintro r1 w1 ⟨t, hq, rfl, hs, hb⟩; obtain rfl : t0 = t := T0.out.symm.trans hq; have H := hidb (H.out.below hb); clear hs hb hq)
              | (go_at_call 167; refine (pReceive HE.out H.out.at HK.out).mono ?_; rintro r1 w1 (⟨er, q, hq, rfl, hbu⟩ | ⟨z, s1, V1, hq, rfl, hs⟩) <;> first | (have HL := hidb hs; have H := hidb (H.out.trans hs); (first | (with_reducible have HR := hidb (HR.out.trans hq)) | have HR := hidb (HR.out.trans (Gm.bind_ok hq)));  clear hs hq) | ((first | (with_reducible have HR := hidb (HR.out.trans hq)) | have HR := hidb (HR.out.trans (Gm.bind_err hq))); have HBU := hidb (but_then H.out.but H.out.own hbu); clear hq hbu)))
            all_goals first
              | exact ⟨rfl, .inl ⟨_, _, HR.out, rfl, HBU.out⟩⟩
              | exact bodyPost_ret (v := iv z) (by simp [results, Tryz.results159, go_sem]) rfl (.inr ⟨_, _, _, HR.out, rfl, H.out⟩)
          | false =>
            have HR := hidb (HR.out.trans (Gm.ite_f (of_decide_eq_false HB4.out)))
            go_enter Tryz.func159, Tryz.ntmps159
            go_wp2_with (first
              | (go_at_call 46; refine (sHere H.out.at).mono ?_; rintro r1 w1 ⟨t, hq, rfl, hs, hb⟩; obtain rfl : t0 = t := T0.out.symm.trans hq; have H := hidb (H.out.below hb); clear hs hb hq)
              | (go_at_call 49; refine (sGiveUp (α := Nat) 24 H.out.at).mono ?_; rintro r1 w1 ⟨q, hq, rfl, hbu⟩; have HBU := hidb (but_then H.out.but H.out.own hbu); have HR := hidb (HR.out.trans hq); clear hq hbu))
            all_goals first
              | exact ⟨rfl, .inl ⟨_, _, HR.out, rfl, HBU.out⟩⟩
              | exact bodyPost_ret (v := iv z) (by simp [results, Tryz.results159, go_sem]) rfl (.inr ⟨_, _, _, HR.out, rfl, H.out⟩)

set_option maxHeartbeats 2000000 in
set_option maxRecDepth 100000 in
theorem pBracketed (hE : EC B g b o e) {P : Nat → Prop} {w : World} {V : Value} {s : PS} (h : At B g b o P w V s) (hk : (Gm.hd s).k ≠ 8) :
    Calls Tryz.prog 158 #[.pointer (some ⟨g, 0, none⟩)] w fun r w' => Rz B g b o P w V (Gm.bracketed e s) iv r w' := by
  have H : Hid (St B g b o P w V w V s) := hidb h
  obtain ⟨R, hR⟩ : ∃ R, Gm.bracketed e s = R := ⟨_, rfl⟩
  rw [hR]
  have HR := hidb hR.symm
  clear hR
  have HK := hidb hk
  clear hk
  have HE := hidb hE
  clear h hE
  obtain ⟨t0, ht⟩ : ∃ t, Gm.hd s = t := ⟨_, rfl⟩
  have q0 := strs t0.x [40]
  have q1 := strs t0.x [123]
  have q2 := strs t0.x [91]
  have HR := hidb (HR.out.trans (Gm.bind_here ht))
  have T0 := hidb ht
  clear ht
  obtain ⟨b0, hb0⟩ : ∃ c, decide (t0.x = ⟨[40].toArray⟩) = c := ⟨_, rfl⟩
  rw [hb0] at q0
  have HB0 := hidb hb0
  clear hb0
  obtain ⟨b1, hb1⟩ : ∃ c, decide (t0.x = ⟨[123].toArray⟩) = c := ⟨_, rfl⟩
  rw [hb1] at q1
  have HB1 := hidb hb1
  clear hb1
  obtain ⟨b2, hb2⟩ : ∃ c, decide (t0.x = ⟨[91].toArray⟩) = c := ⟨_, rfl⟩
  rw [hb2] at q2
  have HB2 := hidb hb2
  clear hb2
  cases b0 with
  | true =>
    have HR := hidb (HR.out.trans (Gm.ite_t (of_decide_eq_true HB0.out)))
    go_enter Tryz.func158, Tryz.ntmps158
    go_wp2_with (first
      | (go_at_call 46; refine (sHere H.out.at).mono ?_; rintro r1 w1 ⟨t, hq, rfl, hs, hb⟩; obtain rfl : t0 = t := T0.out.symm.trans hq; have H := hidb (H.out.below hb); clear hs hb hq)
      | (go_at_call 50; refine (sNext H.out.at HK.out).mono ?_; rintro r1 w1 ⟨t1, s1, hq, rfl, hs⟩; have H := hidb (H.out.trans hs); have HR := hidb (HR.out.trans (Gm.bind_next hq)); have Tt1 := hidb hq.1; clear hs hq)
      | (go_at_call 121; refine (HE.out.run H.out.at).mono ?_; rintro r1 w1 (⟨er, q, hq, rfl, hbu⟩ | ⟨x, s1, V1, hq, rfl, hs⟩) <;> first | (have HL := hidb hs; have H := hidb (H.out.trans hs); (first | (with_reducible have HR := hidb (HR.out.trans hq)) | have HR := hidb (HR.out.trans (Gm.bind_ok hq)));  clear hs hq) | ((first | (with_reducible have HR := hidb (HR.out.trans hq)) | have HR := hidb (HR.out.trans (Gm.bind_err hq))); have HBU := hidb (but_then H.out.but H.out.own hbu); clear hq hbu))
      | (go_at_call 47; refine (sNeed _ H.out.at).mono ?_; rintro r1 w1 (⟨er, q, hq, rfl, hbu⟩ | ⟨s1, hq, rfl, hs⟩) <;> first | (have HL := hidb hs; have H := hidb (H.out.trans hs); (first | (with_reducible have HR := hidb (HR.out.trans hq)) | have HR := hidb (HR.out.trans (Gm.bind_ok hq)));  clear hs hq) | ((first | (with_reducible have HR := hidb (HR.out.trans hq)) | have HR := hidb (HR.out.trans (Gm.bind_err hq))); have HBU := hidb (but_then H.out.but H.out.own hbu); clear hq hbu)))
    all_goals first
      | exact ⟨rfl, .inl ⟨_, _, HR.out, rfl, HBU.out⟩⟩
      | exact bodyPost_ret (v := iv x) (by simp [results, Tryz.results158, go_sem]) rfl (.inr ⟨_, _, _, HR.out, rfl, H.out⟩)
  | false =>
    have HR := hidb (HR.out.trans (Gm.ite_f (of_decide_eq_false HB0.out)))
    cases b1 with
    | true =>
      have HR := hidb (HR.out.trans (Gm.ite_t (of_decide_eq_true HB1.out)))
      go_enter Tryz.func158, Tryz.ntmps158
      go_wp2_with (first
        | (go_at_call 46; refine (sHere H.out.at).mono ?_; rintro r1 w1 ⟨t, hq, rfl, hs, hb⟩; obtain rfl : t0 = t := T0.out.symm.trans hq; have H := hidb (H.out.below hb); clear hs hb hq)
        | (go_at_call 161; refine (pTuple HE.out H.out.at HK.out).mono ?_; rintro r1 w1 (⟨er, q, hq, rfl, hbu⟩ | ⟨z, s1, V1, hq, rfl, hs⟩) <;> first | (have HL := hidb hs; have H := hidb (H.out.trans hs); (first | (with_reducible have HR := hidb (HR.out.trans hq)) | have HR := hidb (HR.out.trans (Gm.bind_ok hq)));  clear hs hq) | ((first | (with_reducible have HR := hidb (HR.out.trans hq)) | have HR := hidb (HR.out.trans (Gm.bind_err hq))); have HBU := hidb (but_then H.out.but H.out.own hbu); clear hq hbu)))
      all_goals first
        | exact ⟨rfl, .inl ⟨_, _, HR.out, rfl, HBU.out⟩⟩
        | exact bodyPost_ret (v := iv z) (by simp [results, Tryz.results158, go_sem]) rfl (.inr ⟨_, _, _, HR.out, rfl, H.out⟩)
    | false =>
      have HR := hidb (HR.out.trans (Gm.ite_f (of_decide_eq_false HB1.out)))
      cases b2 with
      | true =>
        have HR := hidb (HR.out.trans (Gm.ite_t (of_decide_eq_true HB2.out)))
        go_enter Tryz.func158, Tryz.ntmps158
        go_wp2_with (first
          | (go_at_call 46; refine (sHere H.out.at).mono ?_; rintro r1 w1 ⟨t, hq, rfl, hs, hb⟩; obtain rfl : t0 = t := T0.out.symm.trans hq; have H := hidb (H.out.below hb); clear hs hb hq)
          | (go_at_call 162; refine (pList HE.out H.out.at HK.out).mono ?_; rintro r1 w1 (⟨er, q, hq, rfl, hbu⟩ | ⟨z, s1, V1, hq, rfl, hs⟩) <;> first | (have HL := hidb hs; have H := hidb (H.out.trans hs); (first | (with_reducible have HR := hidb (HR.out.trans hq)) | have HR := hidb (HR.out.trans (Gm.bind_ok hq)));  clear hs hq) | ((first | (with_reducible have HR := hidb (HR.out.trans hq)) | have HR := hidb (HR.out.trans (Gm.bind_err hq))); have HBU := hidb (but_then H.out.but H.out.own hbu); clear hq hbu)))
        all_goals first
          | exact ⟨rfl, .inl ⟨_, _, HR.out, rfl, HBU.out⟩⟩
          | exact bodyPost_ret (v := iv z) (by simp [results, Tryz.results158, go_sem]) rfl (.inr ⟨_, _, _, HR.out, rfl, H.out⟩)
      | false =>
        have HR := hidb (HR.out.trans (Gm.ite_f (of_decide_eq_false HB2.out)))
        go_enter Tryz.func158, Tryz.ntmps158
        go_wp2_with (first
          | (go_at_call 46; refine (sHere H.out.at).mono ?_; rintro r1 w1 ⟨t, hq, rfl, hs, hb⟩; obtain rfl : t0 = t := T0.out.symm.trans hq; have H := hidb (H.out.below hb); clear hs hb hq)
          | (go_at_call 49; refine (sGiveUp (α := Nat) 24 H.out.at).mono ?_; rintro r1 w1 ⟨q, hq, rfl, hbu⟩; have HBU := hidb (but_then H.out.but H.out.own hbu); have HR := hidb (HR.out.trans hq); clear hq hbu))
        all_goals first
          | exact ⟨rfl, .inl ⟨_, _, HR.out, rfl, HBU.out⟩⟩
          | exact bodyPost_ret (v := iv z) (by simp [results, Tryz.results158, go_sem]) rfl (.inr ⟨_, _, _, HR.out, rfl, H.out⟩)

set_option maxHeartbeats 2000000 in
set_option maxRecDepth 100000 in
theorem pPrimary (hE : EC B g b o e) {P : Nat → Prop} {w : World} {V : Value} {s : PS} (h : At B g b o P w V s) :
    Calls Tryz.prog 153 #[.pointer (some ⟨g, 0, none⟩)] w fun r w' => Rz B g b o P w V (Gm.primary e s) iv r w' := by
  have H : Hid (St B g b o P w V w V s) := hidb h
  obtain ⟨R, hR⟩ : ∃ R, Gm.primary e s = R := ⟨_, rfl⟩
  rw [hR]
  have HR := hidb hR.symm
  clear hR
  have HE := hidb hE
  clear h hE
  obtain ⟨t0, ht⟩ : ∃ t, Gm.hd s = t := ⟨_, rfl⟩
  obtain ⟨tk, tx, tn, tf, tp⟩ := t0
  replace HR := hidb (HR.out.trans (Gm.bind_here ht))
  have TK := hidb ht
  clear ht
  by_cases h1 : tk = 1
  · subst h1
    replace HR := hidb (HR.out.trans (Gm.ite_t (by simp)))
    go_enter Tryz.func153, Tryz.ntmps153
    go_wp2_with (first
      | (go_at_call 46; refine (sHere H.out.at).mono ?_; rintro r1 w1 ⟨t, hq, rfl, hs, hb⟩; obtain rfl : t = ⟨1, tx, tn, tf, tp⟩ := hq.symm.trans TK.out; have H := hidb (H.out.below hb); clear hs hb hq)
      | (go_at_call 157; refine (pLeaf H.out.at (hk_of TK.out (by simp))).mono ?_; rintro r1 w1 (⟨er, q, hq, rfl, hbu⟩ | ⟨z, s1, V1, hq, rfl, hs⟩) <;> first | (have HL := hidb hs; have H := hidb (H.out.trans hs); (first | (with_reducible have HR := hidb (HR.out.trans hq)) | have HR := hidb (HR.out.trans (Gm.bind_ok hq)));  clear hs hq) | ((first | (with_reducible have HR := hidb (HR.out.trans hq)) | have HR := hidb (HR.out.trans (Gm.bind_err hq))); have HBU := hidb (but_then H.out.but H.out.own hbu); clear hq hbu)))
    all_goals first
      | exact ⟨rfl, .inl ⟨_, _, HR.out, rfl, HBU.out⟩⟩
      | exact bodyPost_ret (v := iv z) (by simp [results, Tryz.results153, go_sem]) rfl (.inr ⟨_, _, _, HR.out, rfl, H.out⟩)
  by_cases h2 : tk = 2
  · subst h2
    replace HR := hidb (HR.out.trans (Gm.ite_t (by simp)))
    go_enter Tryz.func153, Tryz.ntmps153
    go_wp2_with (first
      | (go_at_call 46; refine (sHere H.out.at).mono ?_; rintro r1 w1 ⟨t, hq, rfl, hs, hb⟩; obtain rfl : t = ⟨2, tx, tn, tf, tp⟩ := hq.symm.trans TK.out; have H := hidb (H.out.below hb); clear hs hb hq)
      | (go_at_call 157; refine (pLeaf H.out.at (hk_of TK.out (by simp))).mono ?_; rintro r1 w1 (⟨er, q, hq, rfl, hbu⟩ | ⟨z, s1, V1, hq, rfl, hs⟩) <;> first | (have HL := hidb hs; have H := hidb (H.out.trans hs); (first | (with_reducible have HR := hidb (HR.out.trans hq)) | have HR := hidb (HR.out.trans (Gm.bind_ok hq)));  clear hs hq) | ((first | (with_reducible have HR := hidb (HR.out.trans hq)) | have HR := hidb (HR.out.trans (Gm.bind_err hq))); have HBU := hidb (but_then H.out.but H.out.own hbu); clear hq hbu)))
    all_goals first
      | exact ⟨rfl, .inl ⟨_, _, HR.out, rfl, HBU.out⟩⟩
      | exact bodyPost_ret (v := iv z) (by simp [results, Tryz.results153, go_sem]) rfl (.inr ⟨_, _, _, HR.out, rfl, H.out⟩)
  by_cases h3 : tk = 3
  · subst h3
    replace HR := hidb (HR.out.trans (Gm.ite_t (by simp)))
    go_enter Tryz.func153, Tryz.ntmps153
    go_wp2_with (first
      | (go_at_call 46; refine (sHere H.out.at).mono ?_; rintro r1 w1 ⟨t, hq, rfl, hs, hb⟩; obtain rfl : t = ⟨3, tx, tn, tf, tp⟩ := hq.symm.trans TK.out; have H := hidb (H.out.below hb); clear hs hb hq)
      | (go_at_call 157; refine (pLeaf H.out.at (hk_of TK.out (by simp))).mono ?_; rintro r1 w1 (⟨er, q, hq, rfl, hbu⟩ | ⟨z, s1, V1, hq, rfl, hs⟩) <;> first | (have HL := hidb hs; have H := hidb (H.out.trans hs); (first | (with_reducible have HR := hidb (HR.out.trans hq)) | have HR := hidb (HR.out.trans (Gm.bind_ok hq)));  clear hs hq) | ((first | (with_reducible have HR := hidb (HR.out.trans hq)) | have HR := hidb (HR.out.trans (Gm.bind_err hq))); have HBU := hidb (but_then H.out.but H.out.own hbu); clear hq hbu)))
    all_goals first
      | exact ⟨rfl, .inl ⟨_, _, HR.out, rfl, HBU.out⟩⟩
      | exact bodyPost_ret (v := iv z) (by simp [results, Tryz.results153, go_sem]) rfl (.inr ⟨_, _, _, HR.out, rfl, H.out⟩)
  by_cases h4 : tk = 4
  · subst h4
    replace HR := hidb (HR.out.trans (Gm.ite_t (by simp)))
    go_enter Tryz.func153, Tryz.ntmps153
    go_wp2_with (first
      | (go_at_call 46; refine (sHere H.out.at).mono ?_; rintro r1 w1 ⟨t, hq, rfl, hs, hb⟩; obtain rfl : t = ⟨4, tx, tn, tf, tp⟩ := hq.symm.trans TK.out; have H := hidb (H.out.below hb); clear hs hb hq)
      | (go_at_call 157; refine (pLeaf H.out.at (hk_of TK.out (by simp))).mono ?_; rintro r1 w1 (⟨er, q, hq, rfl, hbu⟩ | ⟨z, s1, V1, hq, rfl, hs⟩) <;> first | (have HL := hidb hs; have H := hidb (H.out.trans hs); (first | (with_reducible have HR := hidb (HR.out.trans hq)) | have HR := hidb (HR.out.trans (Gm.bind_ok hq)));  clear hs hq) | ((first | (with_reducible have HR := hidb (HR.out.trans hq)) | have HR := hidb (HR.out.trans (Gm.bind_err hq))); have HBU := hidb (but_then H.out.but H.out.own hbu); clear hq hbu)))
    all_goals first
      | exact ⟨rfl, .inl ⟨_, _, HR.out, rfl, HBU.out⟩⟩
      | exact bodyPost_ret (v := iv z) (by simp [results, Tryz.results153, go_sem]) rfl (.inr ⟨_, _, _, HR.out, rfl, H.out⟩)
  by_cases h5 : tk = 5
  · subst h5
    replace HR := hidb (HR.out.trans (Gm.ite_t (by simp)))
    go_enter Tryz.func153, Tryz.ntmps153
    go_wp2_with (first
      | (go_at_call 46; refine (sHere H.out.at).mono ?_; rintro r1 w1 ⟨t, hq, rfl, hs, hb⟩; obtain rfl : t = ⟨5, tx, tn, tf, tp⟩ := hq.symm.trans TK.out; have H := hidb (H.out.below hb); clear hs hb hq)
      | (go_at_call 157; refine (pLeaf H.out.at (hk_of TK.out (by simp))).mono ?_; rintro r1 w1 (⟨er, q, hq, rfl, hbu⟩ | ⟨z, s1, V1, hq, rfl, hs⟩) <;> first | (have HL := hidb hs; have H := hidb (H.out.trans hs); (first | (with_reducible have HR := hidb (HR.out.trans hq)) | have HR := hidb (HR.out.trans (Gm.bind_ok hq)));  clear hs hq) | ((first | (with_reducible have HR := hidb (HR.out.trans hq)) | have HR := hidb (HR.out.trans (Gm.bind_err hq))); have HBU := hidb (but_then H.out.but H.out.own hbu); clear hq hbu)))
    all_goals first
      | exact ⟨rfl, .inl ⟨_, _, HR.out, rfl, HBU.out⟩⟩
      | exact bodyPost_ret (v := iv z) (by simp [results, Tryz.results153, go_sem]) rfl (.inr ⟨_, _, _, HR.out, rfl, H.out⟩)
  replace HR := hidb (HR.out.trans (Gm.ite_f (by simp [h1, h2, h3, h4, h5])))
  by_cases h6 : tk = 6
  · subst h6
    replace HR := hidb (HR.out.trans (Gm.ite_t (by simp)))
    go_enter Tryz.func153, Tryz.ntmps153
    go_wp2_with (first
      | (go_at_call 46; refine (sHere H.out.at).mono ?_; rintro r1 w1 ⟨t, hq, rfl, hs, hb⟩; obtain rfl : t = ⟨6, tx, tn, tf, tp⟩ := hq.symm.trans TK.out; have H := hidb (H.out.below hb); clear hs hb hq)
      | (go_at_call 158; refine (pBracketed HE.out H.out.at (hk_of TK.out (by simp))).mono ?_; rintro r1 w1 (⟨er, q, hq, rfl, hbu⟩ | ⟨z, s1, V1, hq, rfl, hs⟩) <;> first | (have HL := hidb hs; have H := hidb (H.out.trans hs); (first | (with_reducible have HR := hidb (HR.out.trans hq)) | have HR := hidb (HR.out.trans (Gm.bind_ok hq)));  clear hs hq) | ((first | (with_reducible have HR := hidb (HR.out.trans hq)) | have HR := hidb (HR.out.trans (Gm.bind_err hq))); have HBU := hidb (but_then H.out.but H.out.own hbu); clear hq hbu)))
    all_goals first
      | exact ⟨rfl, .inl ⟨_, _, HR.out, rfl, HBU.out⟩⟩
      | exact bodyPost_ret (v := iv z) (by simp [results, Tryz.results153, go_sem]) rfl (.inr ⟨_, _, _, HR.out, rfl, H.out⟩)
  replace HR := hidb (HR.out.trans (Gm.ite_f h6))
  by_cases h7 : tk = 7
  · subst h7
    replace HR := hidb (HR.out.trans (Gm.ite_t (by simp)))
    go_enter Tryz.func153, Tryz.ntmps153
    go_wp2_with (first
      | (go_at_call 46; refine (sHere H.out.at).mono ?_; rintro r1 w1 ⟨t, hq, rfl, hs, hb⟩; obtain rfl : t = ⟨7, tx, tn, tf, tp⟩ := hq.symm.trans TK.out; have H := hidb (H.out.below hb); clear hs hb hq)
      | (go_at_call 159; refine (pWorded HE.out H.out.at (hk_of TK.out (by simp))).mono ?_; rintro r1 w1 (⟨er, q, hq, rfl, hbu⟩ | ⟨z, s1, V1, hq, rfl, hs⟩) <;> first | (have HL := hidb hs; have H := hidb (H.out.trans hs); (first | (with_reducible have HR := hidb (HR.out.trans hq)) | have HR := hidb (HR.out.trans (Gm.bind_ok hq)));  clear hs hq) | ((first | (with_reducible have HR := hidb (HR.out.trans hq)) | have HR := hidb (HR.out.trans (Gm.bind_err hq))); have HBU := hidb (but_then H.out.but H.out.own hbu); clear hq hbu)))
    all_goals first
      | exact ⟨rfl, .inl ⟨_, _, HR.out, rfl, HBU.out⟩⟩
      | exact bodyPost_ret (v := iv z) (by simp [results, Tryz.results153, go_sem]) rfl (.inr ⟨_, _, _, HR.out, rfl, H.out⟩)
  replace HR := hidb (HR.out.trans (Gm.ite_f h7))
  go_enter Tryz.func153, Tryz.ntmps153
  go_wp2_with (first
    | (go_at_call 46; refine (sHere H.out.at).mono ?_; rintro r1 w1 ⟨t, hq, rfl, hs, hb⟩; obtain rfl : t = ⟨tk, tx, tn, tf, tp⟩ := hq.symm.trans TK.out; have H := hidb (H.out.below hb); clear hs hb hq)
    | (go_at_call 49; refine (sGiveUp (α := Nat) 24 H.out.at).mono ?_; rintro r1 w1 ⟨q, hq, rfl, hbu⟩; have HBU := hidb (but_then H.out.but H.out.own hbu); have HR := hidb (HR.out.trans hq); clear hq hbu))
  all_goals first
    | exact ⟨rfl, .inl ⟨_, _, HR.out, rfl, HBU.out⟩⟩
    | exact bodyPost_ret (v := iv z) (by simp [results, Tryz.results153, go_sem]) rfl (.inr ⟨_, _, _, HR.out, rfl, H.out⟩)

end Go.Proofs.YthdljnakmekhkaaGreatDoor


