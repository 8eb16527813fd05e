import Derived.Test.YtajadhkpadkikaaGreatDoorG37
/- BifPlaces: setelement asked. -/
namespace Go.Proofs.YtajadhkpadkikaaGreatDoor
open Go.RowKit Go.Lib Go.Deep
attribute [local go_sem] store_float f64bits store_func store_nilFunc
attribute [local go_sem ↓] Go.wp_at_zero Go.wp_at_succ

section
variable {t0 t1 t2 t3 t4 t5 t6 t7 t8 t9 t10 t11 t12 t13 t14 t15 t16 t17 t18 t19 t20 t21 t22 t23 t24 t25 t26 t27 t28 t29 t30 t31 t32 t33 t34 t35 t36 t37 t38 t39 t40 t41 t42 t43 t44 t45 t46 t47 t48 t49 t50 t51 t52 t53 t54 t55 t56 t57 t58 t59 t60 t61 t62 t63 t64 t65 t66 t67 t68 t69 t70 t71 t72 t73 t74 t75 t76 t77 t78 t79 t80 t81 t82 t83 t84 t85 t86 t87 t88 t89 t90 t91 t92 t93 t94 t95 t96 t97 t98 t99 t100 t101 t102 t103 t104 t105 t106 t107 t108 t109 t110 t111 t112 t113 t114 t115 t116 t117 t118 : Value}
set_option maxHeartbeats 16000000 in
set_option maxRecDepth 100000 in
theorem plReg1 {w w1 w2 : World} {dfs : List Deferred} {n : Int} {a : Option Addr} {L c : Nat} {ks : List Tr} {kx nx : Int} {fx : Nat} {sx : ByteArray} {ax : Option Addr} {Lx cx : Nat} {ksx : List Tr} (HSA : Hid (∀ W9, Below w2.heap.size w2 W9 → (fun W9 => W9.cell? ⟨w.heap.size, 0, none⟩ = some (.int .i64 kx) ∧ W9.cell? ⟨w.heap.size, 1, none⟩ = some (.int .i64 nx) ∧ W9.cell? ⟨w.heap.size, 2, none⟩ = some (.float .f64 fx) ∧ W9.cell? ⟨w.heap.size, 3, none⟩ = some (.string sx) ∧ W9.cell? ⟨w.heap.size, 4, none⟩ = some (.slice ax Lx cx) ∧ W9.cell? ⟨w1.heap.size, 0, none⟩ = some (.int .i64 7) ∧ W9.cell? ⟨w1.heap.size, 1, none⟩ = some (.int .i64 0) ∧ W9.cell? ⟨w1.heap.size, 2, none⟩ = some (.float .f64 0) ∧ W9.cell? ⟨w1.heap.size, 3, none⟩ = some (.string ⟨#[]⟩) ∧ W9.cell? ⟨w1.heap.size, 4, none⟩ = some (.slice a L c)) W9)) (HAI3 : Hid (∀ W, Below w2.heap.size w2 W → ArgsIn (W.alloc (.cells #[.int .i64 1, .int .i64 n, .float .f64 0, .string ⟨#[]⟩, .slice none 0 0, .int .i64 7, .int .i64 0, .float .f64 0, .string ⟨#[]⟩, .slice a L c, .int .i64 kx, .int .i64 nx, .float .f64 fx, .string sx, .slice ax Lx cx] 25)) (some ⟨W.heap.size, 0, none⟩) 3 [nuT n, .mk 7 0 0 ⟨#[]⟩ a c ks, .mk kx nx fx sx ax cx ksx])) (LC3 : Hid (∀ W rb, ArgsIn W (some ⟨rb, 0, none⟩) 3 [nuT n, .mk 7 0 0 ⟨#[]⟩ a c ks, .mk kx nx fx sx ax cx ksx] → Calls Tryz.prog 9 #[.string seN, .slice (some ⟨rb, 0, none⟩) 3 3] W (LawA (SeP n ks (.mk kx nx fx sx ax cx ksx)) (fun er => er = 13) W))) (a0 : Act) (h0 : a0 = ⟨#[t0, .int .i64 n, t2, t3, t4, .pointer (some ⟨w.heap.size, 0, none⟩), t6, .pointer (some ⟨w1.heap.size, 0, none⟩), t8, t9, t10, t11, t12, t13, t14, t15, t16, t17, t18, t19, t20, t21, t22, t23, t24, t25, t26, t27, t28, t29, t30, t31, t32, t33, t34, t35, t36, t37, t38, t39, t40, t41, t42, t43, t44, t45, t46, t47, t48, t49, t50, t51, t52, t53, t54, t55, t56, t57, t58, t59, t60, t61, t62, t63, t64, t65, t66, t67, t68, t69, t70, t71, t72, t73, t74, t75, t76, t77, t78, t79, t80, t81, t82, t83, t84, t85, t86, t87, t88, t89, t90, t91, t92, t93, t94, t95, t96, t97, t98, t99, t100, t101, t102, t103, t104, t105, t106, t107, t108, t109, t110, t111, t112, t113, t114, t115, t116, t117, t118], dfs⟩) :
    (Code.region 8 #[{ dst := some 35, op := Op.move (Operand.tmp 1), type := 3, pos := "more.go:50", after := #[], guard := none }, { dst := some 36, op := Op.call { callee := Callee.value (Operand.func 19), args := #[Operand.tmp 35], argTypes := #[2] }, type := 25, pos := "more.go:50", after := #[{ on := 0, ground := Ground.data }], guard := none }, { dst := some 37, op := Op.load 25 (Operand.tmp 7), type := 25, pos := "more.go:50", after := #[], guard := none }, { dst := some 38, op := Op.load 25 (Operand.tmp 5), type := 25, pos := "more.go:50", after := #[], guard := none }, { dst := some 39, op := Op.buildSlice 23 3 #[(0, Operand.tmp 36), (1, Operand.tmp 37), (2, Operand.tmp 38)], type := 23, pos := "more.go:50", after := #[{ on := 1, ground := Ground.data }, { on := 2, ground := Ground.data }, { on := 3, ground := Ground.data }], guard := none }, { dst := some 40, op := Op.call { callee := Callee.value (Operand.func 9), args := #[Operand.const (Value.string { data := #[115, 101, 116, 101, 108, 101, 109, 101, 110, 116] }), Operand.tmp 39], argTypes := #[9, 23] }, type := 28, pos := "more.go:50", after := #[{ on := 4, ground := Ground.data }, { on := 1, ground := Ground.chain }], guard := none }, { dst := some 34, op := Op.move (Operand.tmp 40), type := 28, pos := "more.go:50", after := #[{ on := 5, ground := Ground.data }], guard := none }, { dst := some 41, op := Op.extract (Operand.tmp 34) 0, type := 25, pos := "more.go:50", after := #[{ on := 6, ground := Ground.data }], guard := none }, { dst := some 42, op := Op.extract (Operand.tmp 34) 1, type := 4, pos := "more.go:50", after := #[{ on := 6, ground := Ground.data }, { on := 10, ground := Ground.gcOnly Departure.lateStores }], guard := none }, { dst := some 8, op := Op.alloc 25, type := 0, pos := "more.go:50", after := #[], guard := none }, { dst := none, op := Op.store 25 (Operand.tmp 8) (Operand.tmp 41), type := 0, pos := "more.go:50", after := #[{ on := 9, ground := Ground.data }, { on := 7, ground := Ground.data }, { on := 5, ground := Ground.chain }, { on := 0, ground := Ground.phase }, { on := 1, ground := Ground.phase }, { on := 2, ground := Ground.phase }, { on := 3, ground := Ground.phase }, { on := 4, ground := Ground.phase }, { on := 5, ground := Ground.phase }, { on := 6, ground := Ground.phase }, { on := 7, ground := Ground.phase }, { on := 8, ground := Ground.textOnly Departure.lateStores }, { on := 9, ground := Ground.phase }], guard := none }, { dst := some 9, op := Op.assign (Operand.tmp 42), type := 4, pos := "more.go:50", after := #[{ on := 8, ground := Ground.data }, { on := 10, ground := Ground.chain }, { on := 0, ground := Ground.phase }, { on := 1, ground := Ground.phase }, { on := 2, ground := Ground.phase }, { on := 3, ground := Ground.phase }, { on := 4, ground := Ground.phase }, { on := 5, ground := Ground.phase }, { on := 6, ground := Ground.phase }, { on := 7, ground := Ground.phase }, { on := 8, ground := Ground.phase }, { on := 9, ground := Ground.phase }, { on := 10, ground := Ground.phase }], guard := none }] true).wp Tryz.prog ((fun a0 ex a9 w9 => ex = .normal ∧ ∃ rb xb sk sn sf ss sa sl sc ok, a9 = (((((((((((a0.put (some 35) (.int .i64 n)).put (some 36) (.agg #[.int .i64 1, .int .i64 n, .float .f64 0, .string ⟨#[]⟩, .slice none 0 0])).put (some 37) (.agg #[.int .i64 7, .int .i64 0, .float .f64 0, .string ⟨#[]⟩, .slice a L c])).put (some 38) (.agg #[.int .i64 kx, .int .i64 nx, .float .f64 fx, .string sx, .slice ax Lx cx])).put (some 39) (.slice (some ⟨rb, 0, none⟩) 3 3)).put (some 40) (.tuple #[.agg #[.int .i64 sk, .int .i64 sn, .float .f64 sf, .string ss, .slice sa sl sc], .bool ok])).put (some 34) (.tuple #[.agg #[.int .i64 sk, .int .i64 sn, .float .f64 sf, .string ss, .slice sa sl sc], .bool ok])).put (some 41) (.agg #[.int .i64 sk, .int .i64 sn, .float .f64 sf, .string ss, .slice sa sl sc])).put (some 42) (.bool ok)).put (some 8) (.pointer (some ⟨xb, 0, none⟩))).put (some 9) (.bool ok)) ∧ Box w9 xb (.int .i64 sk) (.int .i64 sn) (.float .f64 sf) (.string ss) (.slice sa sl sc) ∧ Below w2.heap.size w2 w9 ∧ w2.heap.size ≤ xb ∧ ResP (SeP n ks (.mk kx nx fx sx ax cx ksx)) (fun er => er = 13) sk sn sf ss sa sl sc ok w9) a0) a0 w2 := by
  subst h0
  refine wp_region_D (fun W9 => W9.cell? ⟨w.heap.size, 0, none⟩ = some (.int .i64 kx) ∧ W9.cell? ⟨w.heap.size, 1, none⟩ = some (.int .i64 nx) ∧ W9.cell? ⟨w.heap.size, 2, none⟩ = some (.float .f64 fx) ∧ W9.cell? ⟨w.heap.size, 3, none⟩ = some (.string sx) ∧ W9.cell? ⟨w.heap.size, 4, none⟩ = some (.slice ax Lx cx) ∧ W9.cell? ⟨w1.heap.size, 0, none⟩ = some (.int .i64 7) ∧ W9.cell? ⟨w1.heap.size, 1, none⟩ = some (.int .i64 0) ∧ W9.cell? ⟨w1.heap.size, 2, none⟩ = some (.float .f64 0) ∧ W9.cell? ⟨w1.heap.size, 3, none⟩ = some (.string ⟨#[]⟩) ∧ W9.cell? ⟨w1.heap.size, 4, none⟩ = some (.slice a L c)) [] (by kernel_rfl) ?_
  have hbd : Below w2.heap.size w2 w2.drew := (Below.refl _ _).drew
  generalize w2.drew = wd at hbd ⊢
  have HBwd := hidb hbd
  have HS0 := hidb (HSA.out wd hbd)
  clear hbd
  refine wpAnyD_takeL (i := 0) (v := ?vvp1) rfl (by kernel_rfl) (by kernel_rfl) (by kernel_rfl) (by kernel_rfl) (fun _ _ _ h => Exit.noConfusion h.1) HS0.out rfl ?hyp1 ?_
  case hyp1 => intro wy hSw; obtain ⟨z0, z1, z2, z3, z4, z5, z6, z7, z8, z9⟩ := hSw; go_simp; try with_reducible rfl
  simp only [Act.put, List.setIfInBounds_toArray, List.set_cons_zero, List.set_cons_succ]
  refine wpAnyD_takeL (i := 2) (v := ?vvp2) rfl (by kernel_rfl) (by kernel_rfl) (by kernel_rfl) (by kernel_rfl) (fun _ _ _ h => Exit.noConfusion h.1) HS0.out rfl ?hyp2 ?_
  case hyp2 => intro wy hSw; obtain ⟨z0, z1, z2, z3, z4, z5, z6, z7, z8, z9⟩ := hSw; go_simp; try with_reducible rfl
  simp only [Act.put, List.setIfInBounds_toArray, List.set_cons_zero, List.set_cons_succ]
  refine wpAnyD_takeL (i := 3) (v := ?vvp3) rfl (by kernel_rfl) (by kernel_rfl) (by kernel_rfl) (by kernel_rfl) (fun _ _ _ h => Exit.noConfusion h.1) HS0.out rfl ?hyp3 ?_
  case hyp3 => intro wy hSw; obtain ⟨z0, z1, z2, z3, z4, z5, z6, z7, z8, z9⟩ := hSw; go_simp; try with_reducible rfl
  simp only [Act.put, List.setIfInBounds_toArray, List.set_cons_zero, List.set_cons_succ]
  refine wpAnyD_twoL (i := 1) (j := 9) (by kernel_rfl) rfl rfl (fun K hK => ?oIp) (fun K hK => ?oAp)
  case oAp =>
    go_simp
    refine hK _ _ (fun _ => HSA.out _ (HBwd.out.alloc HBwd.out.size _)) ?_
    clear hK K
    obtain ⟨wa, hwa⟩ : ∃ wa, wd.alloc (.cells #[.int .i64 0, .int .i64 0, .float .f64 0, .string ⟨#[]⟩, .slice none 0 0] 25) = wa := ⟨_, rfl⟩
    have HXBwa : Hid (Box wa wd.heap.size (.int .i64 0) (.int .i64 0) (.float .f64 0) (.string ⟨#[]⟩) (.slice none 0 0)) := hidb (by rw [← hwa]; exact Box.new wd _ _ _ _ _ _)
    have HBwa : Hid (Below w2.heap.size w2 wa) := hidb (by rw [← hwa]; exact HBwd.out.alloc HBwd.out.size _)
    have HXG : Hid (w2.heap.size ≤ wd.heap.size) := hidb HBwd.out.size
    rw [hwa]
    clear hwa
    refine wpAnyD_stepL (i := 1) (by kernel_rfl) rfl (fun K hK => ?_)
    refine step_callB (by simp [Region.wanted]) (run_call ent_i9 #[.tmp 35] _ rfl #[.int .i64 n] rfl) (i9_any n wa) ?_
    rintro e wb ⟨rfl, hbwb⟩
    have HBwb := hidb (HBwa.out.trans (hbwb.mono HBwa.out.size))
    have HXBwb := hidb (HXBwa.out.keep hbwb)
    refine hK _ _ (fun _ => HSA.out _ HBwb.out) ?_
    clear hK K hbwb
    simp only [Act.put, List.setIfInBounds_toArray, List.set_cons_zero, List.set_cons_succ]
    refine wpAnyD_stepL (i := 4) (by kernel_rfl) rfl (fun K hK => ?_)
    go_simp
    refine hK _ _ (fun _ => HSA.out _ (HBwb.out.alloc HBwb.out.size _)) ?_
    clear hK K
    obtain ⟨wc, hwc⟩ : ∃ wc, wb.alloc (.cells #[.int .i64 1, .int .i64 n, .float .f64 0, .string ⟨#[]⟩, .slice none 0 0, .int .i64 7, .int .i64 0, .float .f64 0, .string ⟨#[]⟩, .slice a L c, .int .i64 kx, .int .i64 nx, .float .f64 fx, .string sx, .slice ax Lx cx] 25) = wc := ⟨_, rfl⟩
    have HBwc : Hid (Below w2.heap.size w2 wc) := hidb (by rw [← hwc]; exact HBwb.out.alloc HBwb.out.size _)
    have HAwc : Hid (ArgsIn wc (some ⟨wb.heap.size, 0, none⟩) 3 [nuT n, .mk 7 0 0 ⟨#[]⟩ a c ks, .mk kx nx fx sx ax cx ksx]) := hidb (by rw [← hwc]; exact HAI3.out wb (HBwb.out))
    have HXBwc : Hid (Box wc wd.heap.size (.int .i64 0) (.int .i64 0) (.float .f64 0) (.string ⟨#[]⟩) (.slice none 0 0)) := hidb (by rw [← hwc]; exact HXBwb.out.keep (below_new _ _))
    rw [hwc]
    clear hwc
    refine wpAnyD_stepL (i := 5) (by kernel_rfl) rfl (fun K hK => ?_)
    refine step_callB (by simp [Region.wanted]) (run_call ent_lawcall #[.const (.string seN), .tmp 39] _ rfl #[.string seN, .slice (some ⟨wb.heap.size, 0, none⟩) 3 3] rfl) (LC3.out wc wb.heap.size HAwc.out) ?_
    rintro e w6 hlaw
    obtain ⟨sk, sn, sf, ss, sa, sl, sc, ok, rfl, hbw6, hres⟩ := law_one hlaw
    have HBw6 := hidb (HBwc.out.trans (hbw6.mono HBwc.out.size))
    have HRES := hidb hres
    have HXBw6 := hidb (HXBwc.out.keep hbw6)
    have HNX : Hid (∀ t' : Tr, t'.In w6 0 → t'.On (fun k => wc.heap.size ≤ k) → t'.On (fun k => k < wd.heap.size ∨ wd.heap.size + 1 ≤ k)) := hidb (fun t' _ h => on_mono (fun q hq => by have := HXBwc.out.lt; omega) _ h)
    refine hK _ _ (fun _ => HSA.out _ HBw6.out) ?_
    clear hK K hbw6 hres hlaw
    have HS0 := hidb (HSA.out w6 HBw6.out)
    simp only [Act.put, List.setIfInBounds_toArray, List.set_cons_zero, List.set_cons_succ]
    refine wpAnyD_takeL (i := 6) (v := ?vvp4) rfl (by kernel_rfl) (by kernel_rfl) (by kernel_rfl) (by kernel_rfl) (fun _ _ _ h => Exit.noConfusion h.1) HS0.out rfl ?hyp4 ?_
    case hyp4 => intro wy hSw; obtain ⟨z0, z1, z2, z3, z4, z5, z6, z7, z8, z9⟩ := hSw; go_simp; try with_reducible rfl
    simp only [Act.put, List.setIfInBounds_toArray, List.set_cons_zero, List.set_cons_succ]
    refine wpAnyD_takeL (i := 7) (v := ?vvp5) rfl (by kernel_rfl) (by kernel_rfl) (by kernel_rfl) (by kernel_rfl) (fun _ _ _ h => Exit.noConfusion h.1) HS0.out rfl ?hyp5 ?_
    case hyp5 => intro wy hSw; obtain ⟨z0, z1, z2, z3, z4, z5, z6, z7, z8, z9⟩ := hSw; go_simp; try with_reducible rfl
    simp only [Act.put, List.setIfInBounds_toArray, List.set_cons_zero, List.set_cons_succ]
    refine wpAnyD_takeL (i := 8) (v := ?vvp6) rfl (by kernel_rfl) (by kernel_rfl) (by kernel_rfl) (by kernel_rfl) (fun _ _ _ h => Exit.noConfusion h.1) HS0.out rfl ?hyp6 ?_
    case hyp6 => intro wy hSw; obtain ⟨z0, z1, z2, z3, z4, z5, z6, z7, z8, z9⟩ := hSw; go_simp; try with_reducible rfl
    simp only [Act.put, List.setIfInBounds_toArray, List.set_cons_zero, List.set_cons_succ]
    obtain ⟨⟨x0, x1, x2, x3, x4⟩, ⟨y0, y1, y2, y3, y4⟩, xl⟩ := Box.six HXBw6.out
    have hxv : w2.heap.size ≤ wd.heap.size := HXG.out
    refine wpAnyD_stepL (i := 10) (by kernel_rfl) rfl (fun K hK => ?_)
    go_simp
    refine hK _ _ (fun _ => HSA.out _ (((((HBw6.out.setCell hxv _).setCell hxv _).setCell hxv _).setCell hxv _).setCell hxv _)) ?_
    clear hK K
    have HX9 := hidb (HXBw6.out.set (.int .i64 sk) (.int .i64 sn) (.float .f64 sf) (.string ss) (.slice sa sl sc))
    have HB9 := hidb (((((HBw6.out.setCell (p := ⟨wd.heap.size, 0, none⟩) hxv (.int .i64 sk)).setCell (p := ⟨wd.heap.size, 1, none⟩) hxv (.int .i64 sn)).setCell (p := ⟨wd.heap.size, 2, none⟩) hxv (.float .f64 sf)).setCell (p := ⟨wd.heap.size, 3, none⟩) hxv (.string ss)).setCell (p := ⟨wd.heap.size, 4, none⟩) hxv (.slice sa sl sc))
    have HR9 := hidb (res_on5 HRES.out (fun t' h1 h2 => (show t'.In w6 0 from h1)) HNX.out (.int .i64 sk) (.int .i64 sn) (.float .f64 sf) (.string ss) (.slice sa sl sc))
    simp only [set5] at HX9 HR9
    generalize hW9 : (((((w6.setCell ⟨wd.heap.size, 0, none⟩ (.int .i64 sk)).setCell ⟨wd.heap.size, 1, none⟩ (.int .i64 sn)).setCell ⟨wd.heap.size, 2, none⟩ (.float .f64 sf)).setCell ⟨wd.heap.size, 3, none⟩ (.string ss)).setCell ⟨wd.heap.size, 4, none⟩ (.slice sa sl sc)) = W9 at *
    clear hW9 x0 x1 x2 x3 x4 y0 y1 y2 y3 y4 xl HS0
    have HS0 := hidb (HSA.out W9 HB9.out)
    refine wpAnyD_takeL (i := 11) (v := ?vvp7) rfl (by kernel_rfl) (by kernel_rfl) (by kernel_rfl) (by kernel_rfl) (fun _ _ _ h => Exit.noConfusion h.1) HS0.out rfl ?hyp7 ?_
    case hyp7 => intro wy hSw; obtain ⟨z0, z1, z2, z3, z4, z5, z6, z7, z8, z9⟩ := hSw; go_simp; try with_reducible rfl
    simp only [Act.put, List.setIfInBounds_toArray, List.set_cons_zero, List.set_cons_succ]
    refine wpAnyD_done (by kernel_rfl) ?_ _
    exact ⟨rfl, wb.heap.size, wd.heap.size, sk, sn, sf, ss, sa, sl, sc, ok, rfl, HX9.out, HB9.out, HXG.out, HR9.out⟩
  case oIp =>
    refine step_callB (by simp [Region.wanted]) (run_call ent_i9 #[.tmp 35] _ rfl #[.int .i64 n] rfl) (i9_any n wd) ?_
    rintro e wb ⟨rfl, hbwb⟩
    have HBwb := hidb (HBwd.out.trans (hbwb.mono HBwd.out.size))
    refine hK _ _ (fun _ => HSA.out _ HBwb.out) ?_
    clear hK K hbwb
    simp only [Act.put, List.setIfInBounds_toArray, List.set_cons_zero, List.set_cons_succ]
    refine wpAnyD_twoL (i := 4) (j := 9) (by kernel_rfl) rfl rfl (fun K hK => ?oJp) (fun K hK => ?oBp)
    case oBp =>
      go_simp
      refine hK _ _ (fun _ => HSA.out _ (HBwb.out.alloc HBwb.out.size _)) ?_
      clear hK K
      obtain ⟨wa, hwa⟩ : ∃ wa, wb.alloc (.cells #[.int .i64 0, .int .i64 0, .float .f64 0, .string ⟨#[]⟩, .slice none 0 0] 25) = wa := ⟨_, rfl⟩
      have HXBwa : Hid (Box wa wb.heap.size (.int .i64 0) (.int .i64 0) (.float .f64 0) (.string ⟨#[]⟩) (.slice none 0 0)) := hidb (by rw [← hwa]; exact Box.new wb _ _ _ _ _ _)
      have HBwa : Hid (Below w2.heap.size w2 wa) := hidb (by rw [← hwa]; exact HBwb.out.alloc HBwb.out.size _)
      have HXG : Hid (w2.heap.size ≤ wb.heap.size) := hidb HBwb.out.size
      rw [hwa]
      clear hwa
      refine wpAnyD_stepL (i := 4) (by kernel_rfl) rfl (fun K hK => ?_)
      go_simp
      refine hK _ _ (fun _ => HSA.out _ (HBwa.out.alloc HBwa.out.size _)) ?_
      clear hK K
      obtain ⟨wc, hwc⟩ : ∃ wc, wa.alloc (.cells #[.int .i64 1, .int .i64 n, .float .f64 0, .string ⟨#[]⟩, .slice none 0 0, .int .i64 7, .int .i64 0, .float .f64 0, .string ⟨#[]⟩, .slice a L c, .int .i64 kx, .int .i64 nx, .float .f64 fx, .string sx, .slice ax Lx cx] 25) = wc := ⟨_, rfl⟩
      have HBwc : Hid (Below w2.heap.size w2 wc) := hidb (by rw [← hwc]; exact HBwa.out.alloc HBwa.out.size _)
      have HAwc : Hid (ArgsIn wc (some ⟨wa.heap.size, 0, none⟩) 3 [nuT n, .mk 7 0 0 ⟨#[]⟩ a c ks, .mk kx nx fx sx ax cx ksx]) := hidb (by rw [← hwc]; exact HAI3.out wa (HBwa.out))
      have HXBwc : Hid (Box wc wb.heap.size (.int .i64 0) (.int .i64 0) (.float .f64 0) (.string ⟨#[]⟩) (.slice none 0 0)) := hidb (by rw [← hwc]; exact HXBwa.out.keep (below_new _ _))
      rw [hwc]
      clear hwc
      refine wpAnyD_stepL (i := 5) (by kernel_rfl) rfl (fun K hK => ?_)
      refine step_callB (by simp [Region.wanted]) (run_call ent_lawcall #[.const (.string seN), .tmp 39] _ rfl #[.string seN, .slice (some ⟨wa.heap.size, 0, none⟩) 3 3] rfl) (LC3.out wc wa.heap.size HAwc.out) ?_
      rintro e w6 hlaw
      obtain ⟨sk, sn, sf, ss, sa, sl, sc, ok, rfl, hbw6, hres⟩ := law_one hlaw
      have HBw6 := hidb (HBwc.out.trans (hbw6.mono HBwc.out.size))
      have HRES := hidb hres
      have HXBw6 := hidb (HXBwc.out.keep hbw6)
      have HNX : Hid (∀ t' : Tr, t'.In w6 0 → t'.On (fun k => wc.heap.size ≤ k) → t'.On (fun k => k < wb.heap.size ∨ wb.heap.size + 1 ≤ k)) := hidb (fun t' _ h => on_mono (fun q hq => by have := HXBwc.out.lt; omega) _ h)
      refine hK _ _ (fun _ => HSA.out _ HBw6.out) ?_
      clear hK K hbw6 hres hlaw
      have HS0 := hidb (HSA.out w6 HBw6.out)
      simp only [Act.put, List.setIfInBounds_toArray, List.set_cons_zero, List.set_cons_succ]
      refine wpAnyD_takeL (i := 6) (v := ?vvp8) rfl (by kernel_rfl) (by kernel_rfl) (by kernel_rfl) (by kernel_rfl) (fun _ _ _ h => Exit.noConfusion h.1) HS0.out rfl ?hyp8 ?_
      case hyp8 => intro wy hSw; obtain ⟨z0, z1, z2, z3, z4, z5, z6, z7, z8, z9⟩ := hSw; go_simp; try with_reducible rfl
      simp only [Act.put, List.setIfInBounds_toArray, List.set_cons_zero, List.set_cons_succ]
      refine wpAnyD_takeL (i := 7) (v := ?vvp9) rfl (by kernel_rfl) (by kernel_rfl) (by kernel_rfl) (by kernel_rfl) (fun _ _ _ h => Exit.noConfusion h.1) HS0.out rfl ?hyp9 ?_
      case hyp9 => intro wy hSw; obtain ⟨z0, z1, z2, z3, z4, z5, z6, z7, z8, z9⟩ := hSw; go_simp; try with_reducible rfl
      simp only [Act.put, List.setIfInBounds_toArray, List.set_cons_zero, List.set_cons_succ]
      refine wpAnyD_takeL (i := 8) (v := ?vvp10) rfl (by kernel_rfl) (by kernel_rfl) (by kernel_rfl) (by kernel_rfl) (fun _ _ _ h => Exit.noConfusion h.1) HS0.out rfl ?hyp10 ?_
      case hyp10 => intro wy hSw; obtain ⟨z0, z1, z2, z3, z4, z5, z6, z7, z8, z9⟩ := hSw; go_simp; try with_reducible rfl
      simp only [Act.put, List.setIfInBounds_toArray, List.set_cons_zero, List.set_cons_succ]
      obtain ⟨⟨x0, x1, x2, x3, x4⟩, ⟨y0, y1, y2, y3, y4⟩, xl⟩ := Box.six HXBw6.out
      have hxv : w2.heap.size ≤ wb.heap.size := HXG.out
      refine wpAnyD_stepL (i := 10) (by kernel_rfl) rfl (fun K hK => ?_)
      go_simp
      refine hK _ _ (fun _ => HSA.out _ (((((HBw6.out.setCell hxv _).setCell hxv _).setCell hxv _).setCell hxv _).setCell hxv _)) ?_
      clear hK K
      have HX9 := hidb (HXBw6.out.set (.int .i64 sk) (.int .i64 sn) (.float .f64 sf) (.string ss) (.slice sa sl sc))
      have HB9 := hidb (((((HBw6.out.setCell (p := ⟨wb.heap.size, 0, none⟩) hxv (.int .i64 sk)).setCell (p := ⟨wb.heap.size, 1, none⟩) hxv (.int .i64 sn)).setCell (p := ⟨wb.heap.size, 2, none⟩) hxv (.float .f64 sf)).setCell (p := ⟨wb.heap.size, 3, none⟩) hxv (.string ss)).setCell (p := ⟨wb.heap.size, 4, none⟩) hxv (.slice sa sl sc))
      have HR9 := hidb (res_on5 HRES.out (fun t' h1 h2 => (show t'.In w6 0 from h1)) HNX.out (.int .i64 sk) (.int .i64 sn) (.float .f64 sf) (.string ss) (.slice sa sl sc))
      simp only [set5] at HX9 HR9
      generalize hW9 : (((((w6.setCell ⟨wb.heap.size, 0, none⟩ (.int .i64 sk)).setCell ⟨wb.heap.size, 1, none⟩ (.int .i64 sn)).setCell ⟨wb.heap.size, 2, none⟩ (.float .f64 sf)).setCell ⟨wb.heap.size, 3, none⟩ (.string ss)).setCell ⟨wb.heap.size, 4, none⟩ (.slice sa sl sc)) = W9 at *
      clear hW9 x0 x1 x2 x3 x4 y0 y1 y2 y3 y4 xl HS0
      have HS0 := hidb (HSA.out W9 HB9.out)
      refine wpAnyD_takeL (i := 11) (v := ?vvp11) rfl (by kernel_rfl) (by kernel_rfl) (by kernel_rfl) (by kernel_rfl) (fun _ _ _ h => Exit.noConfusion h.1) HS0.out rfl ?hyp11 ?_
      case hyp11 => intro wy hSw; obtain ⟨z0, z1, z2, z3, z4, z5, z6, z7, z8, z9⟩ := hSw; go_simp; try with_reducible rfl
      simp only [Act.put, List.setIfInBounds_toArray, List.set_cons_zero, List.set_cons_succ]
      refine wpAnyD_done (by kernel_rfl) ?_ _
      exact ⟨rfl, wa.heap.size, wb.heap.size, sk, sn, sf, ss, sa, sl, sc, ok, rfl, HX9.out, HB9.out, HXG.out, HR9.out⟩
    case oJp =>
      go_simp
      refine hK _ _ (fun _ => HSA.out _ (HBwb.out.alloc HBwb.out.size _)) ?_
      clear hK K
      obtain ⟨wc, hwc⟩ : ∃ wc, wb.alloc (.cells #[.int .i64 1, .int .i64 n, .float .f64 0, .string ⟨#[]⟩, .slice none 0 0, .int .i64 7, .int .i64 0, .float .f64 0, .string ⟨#[]⟩, .slice a L c, .int .i64 kx, .int .i64 nx, .float .f64 fx, .string sx, .slice ax Lx cx] 25) = wc := ⟨_, rfl⟩
      have HBwc : Hid (Below w2.heap.size w2 wc) := hidb (by rw [← hwc]; exact HBwb.out.alloc HBwb.out.size _)
      have HAwc : Hid (ArgsIn wc (some ⟨wb.heap.size, 0, none⟩) 3 [nuT n, .mk 7 0 0 ⟨#[]⟩ a c ks, .mk kx nx fx sx ax cx ksx]) := hidb (by rw [← hwc]; exact HAI3.out wb (HBwb.out))
      rw [hwc]
      clear hwc
      refine wpAnyD_twoL (i := 5) (j := 9) (by kernel_rfl) rfl rfl (fun K hK => ?oLp) (fun K hK => ?oCp)
      case oCp =>
        go_simp
        refine hK _ _ (fun _ => HSA.out _ (HBwc.out.alloc HBwc.out.size _)) ?_
        clear hK K
        obtain ⟨wa, hwa⟩ : ∃ wa, wc.alloc (.cells #[.int .i64 0, .int .i64 0, .float .f64 0, .string ⟨#[]⟩, .slice none 0 0] 25) = wa := ⟨_, rfl⟩
        have HXBwa : Hid (Box wa wc.heap.size (.int .i64 0) (.int .i64 0) (.float .f64 0) (.string ⟨#[]⟩) (.slice none 0 0)) := hidb (by rw [← hwa]; exact Box.new wc _ _ _ _ _ _)
        have HBwa : Hid (Below w2.heap.size w2 wa) := hidb (by rw [← hwa]; exact HBwc.out.alloc HBwc.out.size _)
        have HXG : Hid (w2.heap.size ≤ wc.heap.size) := hidb HBwc.out.size
        have HAwa : Hid (ArgsIn wa (some ⟨wb.heap.size, 0, none⟩) 3 [nuT n, .mk 7 0 0 ⟨#[]⟩ a c ks, .mk kx nx fx sx ax cx ksx]) := hidb (by rw [← hwa]; exact in_below (below_new _ _) HAwc.out)
        rw [hwa]
        clear hwa
        refine wpAnyD_stepL (i := 5) (by kernel_rfl) rfl (fun K hK => ?_)
        refine step_callB (by simp [Region.wanted]) (run_call ent_lawcall #[.const (.string seN), .tmp 39] _ rfl #[.string seN, .slice (some ⟨wb.heap.size, 0, none⟩) 3 3] rfl) (LC3.out wa wb.heap.size HAwa.out) ?_
        rintro e w6 hlaw
        obtain ⟨sk, sn, sf, ss, sa, sl, sc, ok, rfl, hbw6, hres⟩ := law_one hlaw
        have HBw6 := hidb (HBwa.out.trans (hbw6.mono HBwa.out.size))
        have HRES := hidb hres
        have HXBw6 := hidb (HXBwa.out.keep hbw6)
        have HNX : Hid (∀ t' : Tr, t'.In w6 0 → t'.On (fun k => wa.heap.size ≤ k) → t'.On (fun k => k < wc.heap.size ∨ wc.heap.size + 1 ≤ k)) := hidb (fun t' _ h => on_mono (fun q hq => by have := HXBwa.out.lt; omega) _ h)
        refine hK _ _ (fun _ => HSA.out _ HBw6.out) ?_
        clear hK K hbw6 hres hlaw
        have HS0 := hidb (HSA.out w6 HBw6.out)
        simp only [Act.put, List.setIfInBounds_toArray, List.set_cons_zero, List.set_cons_succ]
        refine wpAnyD_takeL (i := 6) (v := ?vvp12) rfl (by kernel_rfl) (by kernel_rfl) (by kernel_rfl) (by kernel_rfl) (fun _ _ _ h => Exit.noConfusion h.1) HS0.out rfl ?hyp12 ?_
        case hyp12 => intro wy hSw; obtain ⟨z0, z1, z2, z3, z4, z5, z6, z7, z8, z9⟩ := hSw; go_simp; try with_reducible rfl
        simp only [Act.put, List.setIfInBounds_toArray, List.set_cons_zero, List.set_cons_succ]
        refine wpAnyD_takeL (i := 7) (v := ?vvp13) rfl (by kernel_rfl) (by kernel_rfl) (by kernel_rfl) (by kernel_rfl) (fun _ _ _ h => Exit.noConfusion h.1) HS0.out rfl ?hyp13 ?_
        case hyp13 => intro wy hSw; obtain ⟨z0, z1, z2, z3, z4, z5, z6, z7, z8, z9⟩ := hSw; go_simp; try with_reducible rfl
        simp only [Act.put, List.setIfInBounds_toArray, List.set_cons_zero, List.set_cons_succ]
        refine wpAnyD_takeL (i := 8) (v := ?vvp14) rfl (by kernel_rfl) (by kernel_rfl) (by kernel_rfl) (by kernel_rfl) (fun _ _ _ h => Exit.noConfusion h.1) HS0.out rfl ?hyp14 ?_
        case hyp14 => intro wy hSw; obtain ⟨z0, z1, z2, z3, z4, z5, z6, z7, z8, z9⟩ := hSw; go_simp; try with_reducible rfl
        simp only [Act.put, List.setIfInBounds_toArray, List.set_cons_zero, List.set_cons_succ]
        obtain ⟨⟨x0, x1, x2, x3, x4⟩, ⟨y0, y1, y2, y3, y4⟩, xl⟩ := Box.six HXBw6.out
        have hxv : w2.heap.size ≤ wc.heap.size := HXG.out
        refine wpAnyD_stepL (i := 10) (by kernel_rfl) rfl (fun K hK => ?_)
        go_simp
        refine hK _ _ (fun _ => HSA.out _ (((((HBw6.out.setCell hxv _).setCell hxv _).setCell hxv _).setCell hxv _).setCell hxv _)) ?_
        clear hK K
        have HX9 := hidb (HXBw6.out.set (.int .i64 sk) (.int .i64 sn) (.float .f64 sf) (.string ss) (.slice sa sl sc))
        have HB9 := hidb (((((HBw6.out.setCell (p := ⟨wc.heap.size, 0, none⟩) hxv (.int .i64 sk)).setCell (p := ⟨wc.heap.size, 1, none⟩) hxv (.int .i64 sn)).setCell (p := ⟨wc.heap.size, 2, none⟩) hxv (.float .f64 sf)).setCell (p := ⟨wc.heap.size, 3, none⟩) hxv (.string ss)).setCell (p := ⟨wc.heap.size, 4, none⟩) hxv (.slice sa sl sc))
        have HR9 := hidb (res_on5 HRES.out (fun t' h1 h2 => (show t'.In w6 0 from h1)) HNX.out (.int .i64 sk) (.int .i64 sn) (.float .f64 sf) (.string ss) (.slice sa sl sc))
        simp only [set5] at HX9 HR9
        generalize hW9 : (((((w6.setCell ⟨wc.heap.size, 0, none⟩ (.int .i64 sk)).setCell ⟨wc.heap.size, 1, none⟩ (.int .i64 sn)).setCell ⟨wc.heap.size, 2, none⟩ (.float .f64 sf)).setCell ⟨wc.heap.size, 3, none⟩ (.string ss)).setCell ⟨wc.heap.size, 4, none⟩ (.slice sa sl sc)) = W9 at *
        clear hW9 x0 x1 x2 x3 x4 y0 y1 y2 y3 y4 xl HS0
        have HS0 := hidb (HSA.out W9 HB9.out)
        refine wpAnyD_takeL (i := 11) (v := ?vvp15) rfl (by kernel_rfl) (by kernel_rfl) (by kernel_rfl) (by kernel_rfl) (fun _ _ _ h => Exit.noConfusion h.1) HS0.out rfl ?hyp15 ?_
        case hyp15 => intro wy hSw; obtain ⟨z0, z1, z2, z3, z4, z5, z6, z7, z8, z9⟩ := hSw; go_simp; try with_reducible rfl
        simp only [Act.put, List.setIfInBounds_toArray, List.set_cons_zero, List.set_cons_succ]
        refine wpAnyD_done (by kernel_rfl) ?_ _
        exact ⟨rfl, wb.heap.size, wc.heap.size, sk, sn, sf, ss, sa, sl, sc, ok, rfl, HX9.out, HB9.out, HXG.out, HR9.out⟩
      case oLp =>
        refine step_callB (by simp [Region.wanted]) (run_call ent_lawcall #[.const (.string seN), .tmp 39] _ rfl #[.string seN, .slice (some ⟨wb.heap.size, 0, none⟩) 3 3] rfl) (LC3.out wc wb.heap.size HAwc.out) ?_
        rintro e w6 hlaw
        obtain ⟨sk, sn, sf, ss, sa, sl, sc, ok, rfl, hbw6, hres⟩ := law_one hlaw
        have HBw6 := hidb (HBwc.out.trans (hbw6.mono HBwc.out.size))
        have HRES := hidb hres
        refine hK _ _ (fun _ => HSA.out _ HBw6.out) ?_
        clear hK K hbw6 hres hlaw
        have HS0 := hidb (HSA.out w6 HBw6.out)
        simp only [Act.put, List.setIfInBounds_toArray, List.set_cons_zero, List.set_cons_succ]
        refine wpAnyD_takeL (i := 6) (v := ?vvp16) rfl (by kernel_rfl) (by kernel_rfl) (by kernel_rfl) (by kernel_rfl) (fun _ _ _ h => Exit.noConfusion h.1) HS0.out rfl ?hyp16 ?_
        case hyp16 => intro wy hSw; obtain ⟨z0, z1, z2, z3, z4, z5, z6, z7, z8, z9⟩ := hSw; go_simp; try with_reducible rfl
        simp only [Act.put, List.setIfInBounds_toArray, List.set_cons_zero, List.set_cons_succ]
        refine wpAnyD_takeL (i := 7) (v := ?vvp17) rfl (by kernel_rfl) (by kernel_rfl) (by kernel_rfl) (by kernel_rfl) (fun _ _ _ h => Exit.noConfusion h.1) HS0.out rfl ?hyp17 ?_
        case hyp17 => intro wy hSw; obtain ⟨z0, z1, z2, z3, z4, z5, z6, z7, z8, z9⟩ := hSw; go_simp; try with_reducible rfl
        simp only [Act.put, List.setIfInBounds_toArray, List.set_cons_zero, List.set_cons_succ]
        refine wpAnyD_takeL (i := 8) (v := ?vvp18) rfl (by kernel_rfl) (by kernel_rfl) (by kernel_rfl) (by kernel_rfl) (fun _ _ _ h => Exit.noConfusion h.1) HS0.out rfl ?hyp18 ?_
        case hyp18 => intro wy hSw; obtain ⟨z0, z1, z2, z3, z4, z5, z6, z7, z8, z9⟩ := hSw; go_simp; try with_reducible rfl
        simp only [Act.put, List.setIfInBounds_toArray, List.set_cons_zero, List.set_cons_succ]
        refine wpAnyD_stepL (i := 9) (by kernel_rfl) rfl (fun K hK => ?_)
        go_simp
        refine hK _ _ (fun _ => HSA.out _ (HBw6.out.alloc HBw6.out.size _)) ?_
        clear hK K
        obtain ⟨wa, hwa⟩ : ∃ wa, w6.alloc (.cells #[.int .i64 0, .int .i64 0, .float .f64 0, .string ⟨#[]⟩, .slice none 0 0] 25) = wa := ⟨_, rfl⟩
        have HXBwa : Hid (Box wa w6.heap.size (.int .i64 0) (.int .i64 0) (.float .f64 0) (.string ⟨#[]⟩) (.slice none 0 0)) := hidb (by rw [← hwa]; exact Box.new w6 _ _ _ _ _ _)
        have HBwa : Hid (Below w2.heap.size w2 wa) := hidb (by rw [← hwa]; exact HBw6.out.alloc HBw6.out.size _)
        have HXG : Hid (w2.heap.size ≤ w6.heap.size) := hidb HBw6.out.size
        have HCW : Hid (Below w6.heap.size w6 wa) := hidb (by rw [← hwa]; exact below_new _ _)
        rw [hwa]
        clear hwa
        have HNX : Hid (∀ t' : Tr, t'.In w6 0 → t'.On (fun k => wc.heap.size ≤ k) → t'.On (fun k => k < w6.heap.size ∨ w6.heap.size + 1 ≤ k)) := hidb (fun t' h _ => on_mono (fun q hq => .inl hq.1) _ (on_in _ h))
        obtain ⟨⟨x0, x1, x2, x3, x4⟩, ⟨y0, y1, y2, y3, y4⟩, xl⟩ := Box.six HXBwa.out
        have hxv : w2.heap.size ≤ w6.heap.size := HXG.out
        refine wpAnyD_stepL (i := 10) (by kernel_rfl) rfl (fun K hK => ?_)
        go_simp
        refine hK _ _ (fun _ => HSA.out _ (((((HBwa.out.setCell hxv _).setCell hxv _).setCell hxv _).setCell hxv _).setCell hxv _)) ?_
        clear hK K
        have HX9 := hidb (HXBwa.out.set (.int .i64 sk) (.int .i64 sn) (.float .f64 sf) (.string ss) (.slice sa sl sc))
        have HB9 := hidb (((((HBwa.out.setCell (p := ⟨w6.heap.size, 0, none⟩) hxv (.int .i64 sk)).setCell (p := ⟨w6.heap.size, 1, none⟩) hxv (.int .i64 sn)).setCell (p := ⟨w6.heap.size, 2, none⟩) hxv (.float .f64 sf)).setCell (p := ⟨w6.heap.size, 3, none⟩) hxv (.string ss)).setCell (p := ⟨w6.heap.size, 4, none⟩) hxv (.slice sa sl sc))
        have HR9 := hidb (res_on5 HRES.out (fun t' h1 h2 => (show t'.In wa 0 from in_below HCW.out h1)) HNX.out (.int .i64 sk) (.int .i64 sn) (.float .f64 sf) (.string ss) (.slice sa sl sc))
        simp only [set5] at HX9 HR9
        generalize hW9 : (((((wa.setCell ⟨w6.heap.size, 0, none⟩ (.int .i64 sk)).setCell ⟨w6.heap.size, 1, none⟩ (.int .i64 sn)).setCell ⟨w6.heap.size, 2, none⟩ (.float .f64 sf)).setCell ⟨w6.heap.size, 3, none⟩ (.string ss)).setCell ⟨w6.heap.size, 4, none⟩ (.slice sa sl sc)) = W9 at *
        clear hW9 x0 x1 x2 x3 x4 y0 y1 y2 y3 y4 xl HS0
        have HS0 := hidb (HSA.out W9 HB9.out)
        refine wpAnyD_takeL (i := 11) (v := ?vvp19) rfl (by kernel_rfl) (by kernel_rfl) (by kernel_rfl) (by kernel_rfl) (fun _ _ _ h => Exit.noConfusion h.1) HS0.out rfl ?hyp19 ?_
        case hyp19 => intro wy hSw; obtain ⟨z0, z1, z2, z3, z4, z5, z6, z7, z8, z9⟩ := hSw; go_simp; try with_reducible rfl
        simp only [Act.put, List.setIfInBounds_toArray, List.set_cons_zero, List.set_cons_succ]
        refine wpAnyD_done (by kernel_rfl) ?_ _
        exact ⟨rfl, wb.heap.size, w6.heap.size, sk, sn, sf, ss, sa, sl, sc, ok, rfl, HX9.out, HB9.out, HXG.out, HR9.out⟩
end
end Go.Proofs.YtajadhkpadkikaaGreatDoor


