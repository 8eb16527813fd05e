import Derived.Test.YtdpfmmbfidknfaaGreatDoorG34
import Derived.Deep.RegionHeld2
/- Calls in a region whose order is drawn. -/
namespace Go.Proofs.YtdpfmmbfidknfaaGreatDoor
open Go.RowKit Go.Lib
attribute [local go_sem] store_float f64bits
attribute [local go_sem ↓] Go.wp_at_zero Go.wp_at_succ
variable {B g b : Nat} {e : PM Nat}

abbrev Ent (f : Nat) : Prop := ∀ args w, (callFunc f args).run Tryz.prog w = .ok (.enter f args) w

theorem ent_args : Ent 71 := by
  intro args w
  kernel_rfl
theorem run_call {f : Nat} (ent : Ent f) {o : Oper} {a : Act} {w : World} (xs : Array Operand) (ts : Array TypeId) (hop : o.op = Op.call { callee := .value (.func f), args := xs, argTypes := ts }) (vs : Array Value) (hx' : xs.toList.map a.eval = vs.toList) :
    (execOp a.eval o).run Tryz.prog w = .ok (.enter f vs) w := by
  have hx : xs.map a.eval = vs := by apply Array.ext'; simpa using hx'
  unfold execOp
  rw [hop]
  have hf : a.eval (.func f) = ({ tmps := #[], defers := [] } : Act).eval (.func f) := rfl
  have ent2 := ent vs w
  simp only [resolve, hx, hf]
  go_simp
theorem ent_tail : Ent 70 := by
  intro args w
  kernel_rfl
theorem ent_lay : Ent 39 := by
  intro args w
  kernel_rfl
theorem ent_leafKind : Ent 103 := by
  intro args w
  kernel_rfl
theorem ent_expr : Ent 84 := by
  intro args w
  kernel_rfl
theorem ent_operation : Ent 87 := by
  intro args w
  kernel_rfl

theorem step_rzL {f oo : Nat} {vs : Array Value} {P : Nat → Prop} {V : Value} {r : Except (Int × Nat) (List Nat × PS)} {ops : Array Oper} {o : Oper} {a : Act} {w : World} {K : Act → World → Prop} {Q : Exit → Act → World → Prop} {E : Prop} (hg : o.guard = none) (hrun : (execOp a.eval o).run Tryz.prog w = .ok (.enter f vs) w)
    (hc : Calls Tryz.prog f vs w fun e w' => RzL B g b oo P w V r e w') (her : ∀ er p w', r = .error (er, p) → But (fun k => k = g ∨ V.ownBlock = some k) w w' → Q (.panic [{ v := .iface FT (.agg #[.int .i64 er, .int .i64 ((p : Nat) : Int)]), recovered := false }]) a w')
    (hok : ∀ l s' V' v w', r = .ok (l, s') → St B g b oo P w V w' V' s' → St B g b oo (PV P v) w V w' V' s' → IR w' w.heap.size g b V' v l → l.length ≤ 100001 → K (a.put o.dst v) w') :
    if Region.wanted o (yielded ops a.tmps) = true then Oper.wp Tryz.prog o a w K Q else E :=
  step_call hg hrun hc fun e w' hh => by
    rcases hh with ⟨er, p, hr, rfl, hbu⟩ | ⟨l, s', V', v, hr, rfl, h1, h2, h3, h4⟩
    · exact her er p w' hr hbu
    · exact hok l s' V' v w' hr h1 h2 h3 h4
theorem step_rz {f oo : Nat} {vs : Array Value} {P : Nat → Prop} {w0 : World} {V : Value} {r : Except (Int × Nat) (Nat × PS)} {ops : Array Oper} {o : Oper} {a : Act} {w : World} {K : Act → World → Prop} {Q : Exit → Act → World → Prop} {E : Prop} (hg : o.guard = none) (hrun : (execOp a.eval o).run Tryz.prog w = .ok (.enter f vs) w)
    (hc : Calls Tryz.prog f vs w fun e w' => Rz B g b oo P w0 V r iv e w') (her : ∀ er p w', r = .error (er, p) → But (fun k => k = g ∨ V.ownBlock = some k) w0 w' → Q (.panic [{ v := .iface FT (.agg #[.int .i64 er, .int .i64 ((p : Nat) : Int)]), recovered := false }]) a w')
    (hok : ∀ x s' V' w', r = .ok (x, s') → St B g b oo P w0 V w' V' s' → K (a.put o.dst (iv x)) w') :
    if Region.wanted o (yielded ops a.tmps) = true then Oper.wp Tryz.prog o a w K Q else E :=
  step_call hg hrun hc fun e w' hh => by
    rcases hh with ⟨er, p, hr, rfl, hbu⟩ | ⟨x, s', V', hr, rfl, h1⟩
    · exact her er p w' hr hbu
    · exact hok x s' V' w' hr h1
theorem step_tells {f : Nat} {vs : Array Value} {v : Value} {ops : Array Oper} {o : Oper} {a : Act} {w : World} {K : Act → World → Prop} {Q : Exit → Act → World → Prop} {E : Prop} (hg : o.guard = none) (hrun : (execOp a.eval o).run Tryz.prog w = .ok (.enter f vs) w)
    (hc : Calls Tryz.prog f vs w fun e w' => e = .returned v ∧ w' = w) (hok : K (a.put o.dst v) w) :
    if Region.wanted o (yielded ops a.tmps) = true then Oper.wp Tryz.prog o a w K Q else E :=
  step_call hg hrun hc fun e w' hh => by
    obtain ⟨rfl, rfl⟩ := hh
    exact hok
/-- A token's box beside the parser's memory. -/
theorem box_beside {oo : Nat} {P : Nat → Prop} {w w' : World} {V V' : Value} {s' : PS} {k : Nat} {v0 v1 v2 v3 v4 : Value} (h : St B g b oo P w V w' V' s') (hb : Box w k v0 v1 v2 v3 v4) (hg : k ≠ g) (hV : V.ownBlock ≠ some k) : Box w' k v0 v1 v2 v3 v4 :=
  hb.but h.but (fun e => e.elim hg hV)
end Go.Proofs.YtdpfmmbfidknfaaGreatDoor


/- fclause, class, cclause. -/
namespace Go.Proofs.YtdpfmmbfidknfaaGreatDoor
open Go.RowKit Go.Lib
attribute [local go_sem] store_float f64bits
attribute [local go_sem ↓] Go.wp_at_zero Go.wp_at_succ
attribute [local go_sem] nd_p tk_k tk_x tk_n tk_f tk_p
variable {B g b o : Nat} {e : PM Nat}

set_option maxHeartbeats 2000000 in
set_option maxRecDepth 100000 in
theorem pFclause (hE : EC B g b o e) {P : Nat → Prop} {w : World} {V : Value} {s : PS} (h : At B g b o P w V s) :
    Calls Tryz.prog 54 #[.pointer (some ⟨g, 0, none⟩)] w fun r w' => Rz B g b o P w V (Gm.fclause e s) iv r w' := by
  have H : Hid (St B g b o P w V w V s) := hidb h
  obtain ⟨R, hR⟩ : ∃ R, Gm.fclause e s = R := ⟨_, rfl⟩
  rw [hR]
  have HR := hidb hR.symm
  clear hR
  have HP := hidb h.plt
  have HE := hidb hE
  clear h hE
  go_enter Tryz.func54, Tryz.ntmps54
  go_wp2_with (first
    | (go_at_call 37; refine (sNeedK (k := 1) (by omega) H.out.at).mono ?_; rintro r1 w1 (⟨er, q, hq, rfl, hbu⟩ | ⟨t, s1, hq, rfl, hs⟩) <;> first | (have HL := hidb hs; have H := hidb (H.out.trans hs); (first | (with_reducible have HR := hidb (HR.out.trans hq)) | have HR := hidb (HR.out.trans (Gm.bind_ok hq)));  clear hs hq) | ((first | (with_reducible have HR := hidb (HR.out.trans hq)) | have HR := hidb (HR.out.trans (Gm.bind_err hq))); have HBU := hidb (but_then H.out.but H.out.own hbu); clear hq hbu)))
  · exact ⟨rfl, .inl ⟨_, _, HR.out, rfl, HBU.out⟩⟩
  have hX : ∀ ob : Obj, Below w1.heap.size w1 (w1.alloc ob).drew := fun ob => Below.drew (below_new w1 ob)
  have HX := hidb (H.out.below (hX (.cells #[.int .i64 t.k, .string t.x, .int .i64 t.n, .float .f64 t.f, .int .i64 (t.p : Int)] 59)))
  have BX := hidb ((Box.new w1 59 (.int .i64 t.k) (.string t.x) (.int .i64 t.n) (.float .f64 t.f) (.int .i64 (t.p : Int))).keep (Below.drew (Below.refl _ _)))
  have hg1 := H.out.glt
  have hv1 := H.out.at.fresh
  go_region_law (first
    | (refine step_rzL rfl (run_call ent_args #[.tmp 11] _ rfl #[.pointer (some ⟨g, 0, none⟩)] rfl) (pArgs HE.out HX.out.at) (fun er q w' hq hbu => ⟨rfl, .inl ⟨_, _, HR.out.trans (Gm.bind_err hq), rfl, but_then HX.out.but HX.out.own hbu⟩⟩) ?_; intro l s2 V2 v w2 hq hs hs2 hi hlen; obtain ⟨la, lc, rfl⟩ := hi.sl; have HI := hidb (hi.rebase HX.out.but.size); have HN := hidb hlen; have H2 := hidb (HX.out.trans hs2); have HR2 := hidb (HR.out.trans (Gm.bind_ok hq)); obtain ⟨d0, d1, d2, d3, d4, -⟩ := box_beside hs BX.out (by omega) hv1; clear hs hs2 hi hq hlen)
    | (refine step_rz rfl (run_call ent_tail #[.tmp 6, .tmp 8, .tmp 10, .tmp 12] _ rfl #[.pointer (some ⟨g, 0, none⟩), iv t.p, .string t.x, .slice la l.length lc] rfl) (pTail HE.out t.p t.x l H2.out HI.out HN.out HP.out) (fun er q w' hq hbu => ⟨rfl, .inl ⟨_, _, HR2.out.trans hq, rfl, hbu⟩⟩) ?_; intro z s3 V3 w3 hq hs; have H3 := hidb hs; have HR3 := hidb (HR2.out.trans hq); clear hs hq))
  all_goals (
    go_wp2_with fail
    exact bodyPost_ret (v := iv z) (by simp [results, Tryz.results54, go_sem]) rfl (.inr ⟨_, _, _, HR3.out, rfl, H3.out⟩))

set_option maxHeartbeats 2000000 in
set_option maxRecDepth 100000 in
theorem pLeaf {P : Nat → Prop} {w : World} {V : Value} {s : PS} (h : At B g b o P w V s) (hk : (Gm.hd s).k ≠ 8) :
    Calls Tryz.prog 100 #[.pointer (some ⟨g, 0, none⟩)] w fun r w' => Rz B g b o P w V (Gm.leaf s) iv r w' := by
  have H : Hid (St B g b o P w V w V s) := hidb h
  obtain ⟨R, hR⟩ : ∃ R, Gm.leaf s = R := ⟨_, rfl⟩
  rw [hR]
  have HR := hidb hR.symm
  clear hR
  have HK := hidb hk
  clear h hk
  go_enter Tryz.func100, Tryz.ntmps100
  go_wp2_with (first
    | (go_at_call 36; refine (sNext H.out.at HK.out).mono ?_; rintro r1 w1 ⟨t, s1, hq, rfl, hs⟩; have H := hidb (H.out.trans hs); have HR := hidb (HR.out.trans (Gm.bind_next hq)); have Tt := hidb hq.1; clear hs hq))
  have hX : ∀ ob : Obj, Below w1.heap.size w1 (w1.alloc ob).drew := fun ob => Below.drew (below_new w1 ob)
  have HX := hidb (H.out.below (hX (.cells #[.int .i64 t.k, .string t.x, .int .i64 t.n, .float .f64 t.f, .int .i64 (t.p : Int)] 59)))
  have hLK := pLeafKind_any t.k (w1.alloc (.cells #[.int .i64 t.k, .string t.x, .int .i64 t.n, .float .f64 t.f, .int .i64 (t.p : Int)] 59)).drew
  obtain ⟨lk, hlk⟩ : ∃ lk, Gm.leafKind t.k = lk := ⟨_, rfl⟩
  rw [hlk] at hLK
  have HR := hidb (HR.out.trans (by rw [hlk]) : R = Gm.lay ⟨lk, t.x, t.n, t.f, [], t.p⟩ s1)
  clear hlk
  have BX := hidb ((Box.new w1 59 (.int .i64 t.k) (.string t.x) (.int .i64 t.n) (.float .f64 t.f) (.int .i64 (t.p : Int))).keep (Below.drew (Below.refl _ _)))
  have hg1 := H.out.glt
  have hv1 := H.out.at.fresh
  obtain ⟨y0, y1, y2, y3, y4, -⟩ := BX.out
  go_region_held2 (fun w' => w'.cell? ⟨w1.heap.size, 0, none⟩ = some (.int .i64 t.k) ∧ w'.cell? ⟨w1.heap.size, 1, none⟩ = some (.string t.x) ∧ w'.cell? ⟨w1.heap.size, 2, none⟩ = some (.int .i64 t.n) ∧ w'.cell? ⟨w1.heap.size, 3, none⟩ = some (.float .f64 t.f) ∧ w'.cell? ⟨w1.heap.size, 4, none⟩ = some (.int .i64 (t.p : Int)))
    (first | with_reducible exact ⟨z0, z1, z2, z3, z4⟩ | with_reducible exact ⟨y0, y1, y2, y3, y4⟩ | go_keep)
    (first
      | (go_at_call 103; refine hLK.mono ?_; rintro r1 w2 ⟨rfl, rfl⟩)
      | (go_at_call 39; refine (sLayR HR.out HX.out.at (LR.none _ _ _ _)).mono ?_; rintro r1 w2 (⟨er, q, hq, rfl, hbu⟩ | ⟨z, s3, V3, hq, rfl, hs⟩) <;> first | (obtain ⟨z0, z1, z2, z3, z4, -⟩ := box_beside hs BX.out (by omega) hv1; have H3 := hidb (HX.out.trans hs); have HR3 := hidb hq; clear hs hq) | exact ⟨rfl, .inl ⟨_, _, hq, rfl, but_then HX.out.but HX.out.own hbu⟩⟩))
  all_goals (
    go_wp2_with fail
    exact bodyPost_ret (v := iv z) (by simp [results, Tryz.results100, go_sem]) rfl (.inr ⟨_, _, _, HR3.out, rfl, H3.out⟩))

theorem strs (x : ByteArray) (l : List UInt8) : (x.toList == l) = decide (x = ⟨l.toArray⟩) := by
  rw [ByteArray.toList_eq]
  by_cases h : x = ⟨l.toArray⟩
  · subst h; simp
  · have : x.data.toList ≠ l := fun e => h (by cases x; simp at e; simp [← e])
    simp [h, this]

set_option maxHeartbeats 2000000 in
theorem pIsClass_any (t : Tk) (w : World) : Calls Tryz.prog 119 #[t.val] w fun r w' => r = .returned (.bool (Gm.isClass t)) ∧ Below w.heap.size w w' := by
  obtain ⟨tk, tx, tn, tf, tp⟩ := t
  have q1 := strs tx [95]
  have q2 := strs tx [101, 114, 114, 111, 114]
  have q3 := strs tx [101, 120, 105, 116]
  have q4 := strs tx [116, 104, 114, 111, 119]
  obtain ⟨C, hC⟩ : ∃ C, Gm.isClass ⟨tk, tx, tn, tf, tp⟩ = C := ⟨_, rfl⟩
  rw [hC]
  simp only [Gm.isClass] at hC
  change (if tk = 2 then decide (tx = ⟨[95].toArray⟩) else decide (tx = ⟨[101, 114, 114, 111, 114].toArray⟩) || decide (tx = ⟨[101, 120, 105, 116].toArray⟩) || decide (tx = ⟨[116, 104, 114, 111, 119].toArray⟩)) = C at hC
  rw [← q1, ← q2, ← q3, ← q4] at hC
  clear q1 q2 q3 q4
  generalize e1 : (tx.toList == [95]) = b1 at hC
  generalize e2 : (tx.toList == [101, 114, 114, 111, 114]) = b2 at hC
  generalize e3 : (tx.toList == [101, 120, 105, 116]) = b3 at hC
  generalize e4 : (tx.toList == [116, 104, 114, 111, 119]) = b4 at hC
  have HC := hidb hC
  clear hC
  simp only [Tk.val]
  go_enter Tryz.func119, Tryz.ntmps119
  go_wp2_with fail
  · exact bodyPost_ret (v := .bool b1) (by simp [results, Tryz.results119, go_sem]) rfl ⟨by have := HC.out; simp_all, below_new _ _⟩
  · exact bodyPost_ret (v := .bool true) (by simp [results, Tryz.results119, go_sem]) rfl ⟨by have := HC.out; simp_all, below_new _ _⟩
  · exact bodyPost_ret (v := .bool true) (by simp [results, Tryz.results119, go_sem]) rfl ⟨by have := HC.out; simp_all, below_new _ _⟩
  · exact bodyPost_ret (v := .bool b4) (by simp [results, Tryz.results119, go_sem]) rfl ⟨by have := HC.out; simp_all, below_new _ _⟩
end Go.Proofs.YtdpfmmbfidknfaaGreatDoor


