import Derived.Test.YtajadhkpadkikaaGreatDoorG37
/- BifPlaces: element asked. -/
namespace Go.Proofs.YtajadhkpadkikaaGreatDoor
open Go.RowKit Go.Lib Go.Deep
attribute [local go_sem] store_float f64bits store_func store_nilFunc
attribute [local go_sem ↓] Go.wp_at_zero Go.wp_at_succ

section
variable {t0 t1 t2 t3 t4 t5 t6 t7 t8 t9 t10 t11 t12 t13 t14 t15 t16 t17 t18 t19 t20 t21 t22 t23 t24 t25 t26 t27 t28 t29 t30 t31 t32 t33 t34 t35 t36 t37 t38 t39 t40 t41 t42 t43 t44 t45 t46 t47 t48 t49 t50 t51 t52 t53 t54 t55 t56 t57 t58 t59 t60 t61 t62 t63 t64 t65 t66 t67 t68 t69 t70 t71 t72 t73 t74 t75 t76 t77 t78 t79 t80 t81 t82 t83 t84 t85 t86 t87 t88 t89 t90 t91 t92 t93 t94 t95 t96 t97 t98 t99 t100 t101 t102 t103 t104 t105 t106 t107 t108 t109 t110 t111 t112 t113 t114 t115 t116 t117 t118 : Value}
set_option maxHeartbeats 16000000 in
set_option maxRecDepth 100000 in
theorem plReg2 {w w1 w2 w3 : World} {dfs : List Deferred} {n : Int} {a : Option Addr} {L c : Nat} {ks : List Tr} {kx nx : Int} {fx : Nat} {sx : ByteArray} {ax : Option Addr} {Lx cx : Nat} (HBV : Hid (Below w2.heap.size w2 w3)) (HSA : Hid (∀ W9, Below w3.heap.size w3 W9 → (fun W9 => W9.cell? ⟨w.heap.size, 0, none⟩ = some (.int .i64 kx) ∧ W9.cell? ⟨w.heap.size, 1, none⟩ = some (.int .i64 nx) ∧ W9.cell? ⟨w.heap.size, 2, none⟩ = some (.float .f64 fx) ∧ W9.cell? ⟨w.heap.size, 3, none⟩ = some (.string sx) ∧ W9.cell? ⟨w.heap.size, 4, none⟩ = some (.slice ax Lx cx) ∧ W9.cell? ⟨w1.heap.size, 0, none⟩ = some (.int .i64 7) ∧ W9.cell? ⟨w1.heap.size, 1, none⟩ = some (.int .i64 0) ∧ W9.cell? ⟨w1.heap.size, 2, none⟩ = some (.float .f64 0) ∧ W9.cell? ⟨w1.heap.size, 3, none⟩ = some (.string ⟨#[]⟩) ∧ W9.cell? ⟨w1.heap.size, 4, none⟩ = some (.slice a L c)) W9)) (HAI2 : Hid (∀ W, Below w2.heap.size w2 W → ArgsIn (W.alloc (.cells #[.int .i64 1, .int .i64 n, .float .f64 0, .string ⟨#[]⟩, .slice none 0 0, .int .i64 7, .int .i64 0, .float .f64 0, .string ⟨#[]⟩, .slice a L c] 25)) (some ⟨W.heap.size, 0, none⟩) 2 [nuT n, .mk 7 0 0 ⟨#[]⟩ a c ks])) (LC2 : Hid (∀ W rb, ArgsIn W (some ⟨rb, 0, none⟩) 2 [nuT n, .mk 7 0 0 ⟨#[]⟩ a c ks] → Calls Tryz.prog 9 #[.string elN, .slice (some ⟨rb, 0, none⟩) 2 2] W (LawA (ElP n ks) (ElE n ks) W))) (a0 : Act) (h0 : a0 = ⟨#[t0, .int .i64 n, t2, t3, t4, .pointer (some ⟨w.heap.size, 0, none⟩), t6, .pointer (some ⟨w1.heap.size, 0, none⟩), t8, t9, t10, t11, t12, t13, t14, t15, t16, t17, t18, t19, t20, t21, t22, t23, t24, t25, t26, t27, t28, t29, t30, t31, t32, t33, t34, t35, t36, t37, t38, t39, t40, t41, t42, t43, t44, t45, t46, t47, t48, t49, t50, t51, t52, t53, t54, t55, t56, t57, t58, t59, t60, t61, t62, t63, t64, t65, t66, t67, t68, t69, t70, t71, t72, t73, t74, t75, t76, t77, t78, t79, t80, t81, t82, t83, t84, t85, t86, t87, t88, t89, t90, t91, t92, t93, t94, t95, t96, t97, t98, t99, t100, t101, t102, t103, t104, t105, t106, t107, t108, t109, t110, t111, t112, t113, t114, t115, t116, t117, t118], dfs⟩) :
    (Code.region 9 #[{ dst := some 44, op := Op.move (Operand.tmp 1), type := 3, pos := "more.go:51", after := #[], guard := none }, { dst := some 45, op := Op.call { callee := Callee.value (Operand.func 19), args := #[Operand.tmp 44], argTypes := #[2] }, type := 25, pos := "more.go:51", after := #[{ on := 0, ground := Ground.data }], guard := none }, { dst := some 46, op := Op.load 25 (Operand.tmp 7), type := 25, pos := "more.go:51", after := #[], guard := none }, { dst := some 47, op := Op.buildSlice 23 2 #[(0, Operand.tmp 45), (1, Operand.tmp 46)], type := 23, pos := "more.go:51", after := #[{ on := 1, ground := Ground.data }, { on := 2, ground := Ground.data }], guard := none }, { dst := some 48, op := Op.call { callee := Callee.value (Operand.func 9), args := #[Operand.const (Value.string { data := #[101, 108, 101, 109, 101, 110, 116] }), Operand.tmp 47], argTypes := #[9, 23] }, type := 28, pos := "more.go:51", after := #[{ on := 3, ground := Ground.data }, { on := 1, ground := Ground.chain }], guard := none }, { dst := some 43, op := Op.move (Operand.tmp 48), type := 28, pos := "more.go:51", after := #[{ on := 4, ground := Ground.data }], guard := none }, { dst := some 49, op := Op.extract (Operand.tmp 43) 0, type := 25, pos := "more.go:51", after := #[{ on := 5, ground := Ground.data }], guard := none }, { dst := some 50, op := Op.extract (Operand.tmp 43) 1, type := 4, pos := "more.go:51", after := #[{ on := 5, ground := Ground.data }, { on := 9, ground := Ground.gcOnly Departure.lateStores }], guard := none }, { dst := some 10, op := Op.alloc 25, type := 0, pos := "more.go:51", after := #[], guard := none }, { dst := none, op := Op.store 25 (Operand.tmp 10) (Operand.tmp 49), type := 0, pos := "more.go:51", after := #[{ on := 8, ground := Ground.data }, { on := 6, ground := Ground.data }, { on := 4, ground := Ground.chain }, { on := 0, ground := Ground.phase }, { on := 1, ground := Ground.phase }, { on := 2, ground := Ground.phase }, { on := 3, ground := Ground.phase }, { on := 4, ground := Ground.phase }, { on := 5, ground := Ground.phase }, { on := 6, ground := Ground.phase }, { on := 7, ground := Ground.textOnly Departure.lateStores }, { on := 8, ground := Ground.phase }], guard := none }, { dst := some 11, op := Op.assign (Operand.tmp 50), type := 4, pos := "more.go:51", after := #[{ on := 7, ground := Ground.data }, { on := 9, ground := Ground.chain }, { on := 0, ground := Ground.phase }, { on := 1, ground := Ground.phase }, { on := 2, ground := Ground.phase }, { on := 3, ground := Ground.phase }, { on := 4, ground := Ground.phase }, { on := 5, ground := Ground.phase }, { on := 6, ground := Ground.phase }, { on := 7, ground := Ground.phase }, { on := 8, ground := Ground.phase }, { on := 9, ground := Ground.phase }], guard := none }] true).wp Tryz.prog ((fun a0 ex a9 w9 => ex = .normal ∧ ∃ rb xb sk sn sf ss sa sl sc ok, a9 = ((((((((((a0.put (some 44) (.int .i64 n)).put (some 45) (.agg #[.int .i64 1, .int .i64 n, .float .f64 0, .string ⟨#[]⟩, .slice none 0 0])).put (some 46) (.agg #[.int .i64 7, .int .i64 0, .float .f64 0, .string ⟨#[]⟩, .slice a L c])).put (some 47) (.slice (some ⟨rb, 0, none⟩) 2 2)).put (some 48) (.tuple #[.agg #[.int .i64 sk, .int .i64 sn, .float .f64 sf, .string ss, .slice sa sl sc], .bool ok])).put (some 43) (.tuple #[.agg #[.int .i64 sk, .int .i64 sn, .float .f64 sf, .string ss, .slice sa sl sc], .bool ok])).put (some 49) (.agg #[.int .i64 sk, .int .i64 sn, .float .f64 sf, .string ss, .slice sa sl sc])).put (some 50) (.bool ok)).put (some 10) (.pointer (some ⟨xb, 0, none⟩))).put (some 11) (.bool ok)) ∧ Box w9 xb (.int .i64 sk) (.int .i64 sn) (.float .f64 sf) (.string ss) (.slice sa sl sc) ∧ Below w3.heap.size w3 w9 ∧ w3.heap.size ≤ xb ∧ ResP (ElP n ks) (ElE n ks) sk sn sf ss sa sl sc ok w9) a0) a0 w3 := by
  subst h0
  refine wp_region_D (fun W9 => W9.cell? ⟨w.heap.size, 0, none⟩ = some (.int .i64 kx) ∧ W9.cell? ⟨w.heap.size, 1, none⟩ = some (.int .i64 nx) ∧ W9.cell? ⟨w.heap.size, 2, none⟩ = some (.float .f64 fx) ∧ W9.cell? ⟨w.heap.size, 3, none⟩ = some (.string sx) ∧ W9.cell? ⟨w.heap.size, 4, none⟩ = some (.slice ax Lx cx) ∧ W9.cell? ⟨w1.heap.size, 0, none⟩ = some (.int .i64 7) ∧ W9.cell? ⟨w1.heap.size, 1, none⟩ = some (.int .i64 0) ∧ W9.cell? ⟨w1.heap.size, 2, none⟩ = some (.float .f64 0) ∧ W9.cell? ⟨w1.heap.size, 3, none⟩ = some (.string ⟨#[]⟩) ∧ W9.cell? ⟨w1.heap.size, 4, none⟩ = some (.slice a L c)) [] (by kernel_rfl) ?_
  have hbd : Below w3.heap.size w3 w3.drew := (Below.refl _ _).drew
  generalize w3.drew = wd at hbd ⊢
  have HBwd := hidb hbd
  have HS0 := hidb (HSA.out wd hbd)
  clear hbd
  refine wpAnyD_takeL (i := 0) (v := ?vvq1) rfl (by kernel_rfl) (by kernel_rfl) (by kernel_rfl) (by kernel_rfl) (fun _ _ _ h => Exit.noConfusion h.1) HS0.out rfl ?hyq1 ?_
  case hyq1 => intro wy hSw; obtain ⟨z0, z1, z2, z3, z4, z5, z6, z7, z8, z9⟩ := hSw; go_simp; try with_reducible rfl
  simp only [Act.put, List.setIfInBounds_toArray, List.set_cons_zero, List.set_cons_succ]
  refine wpAnyD_takeL (i := 2) (v := ?vvq2) rfl (by kernel_rfl) (by kernel_rfl) (by kernel_rfl) (by kernel_rfl) (fun _ _ _ h => Exit.noConfusion h.1) HS0.out rfl ?hyq2 ?_
  case hyq2 => intro wy hSw; obtain ⟨z0, z1, z2, z3, z4, z5, z6, z7, z8, z9⟩ := hSw; go_simp; try with_reducible rfl
  simp only [Act.put, List.setIfInBounds_toArray, List.set_cons_zero, List.set_cons_succ]
  refine wpAnyD_twoL (i := 1) (j := 8) (by kernel_rfl) rfl rfl (fun K hK => ?oIq) (fun K hK => ?oAq)
  case oAq =>
    go_simp
    refine hK _ _ (fun _ => HSA.out _ (HBwd.out.alloc HBwd.out.size _)) ?_
    clear hK K
    obtain ⟨wa, hwa⟩ : ∃ wa, wd.alloc (.cells #[.int .i64 0, .int .i64 0, .float .f64 0, .string ⟨#[]⟩, .slice none 0 0] 25) = wa := ⟨_, rfl⟩
    have HXBwa : Hid (Box wa wd.heap.size (.int .i64 0) (.int .i64 0) (.float .f64 0) (.string ⟨#[]⟩) (.slice none 0 0)) := hidb (by rw [← hwa]; exact Box.new wd _ _ _ _ _ _)
    have HBwa : Hid (Below w3.heap.size w3 wa) := hidb (by rw [← hwa]; exact HBwd.out.alloc HBwd.out.size _)
    have HXG : Hid (w3.heap.size ≤ wd.heap.size) := hidb HBwd.out.size
    rw [hwa]
    clear hwa
    refine wpAnyD_stepL (i := 1) (by kernel_rfl) rfl (fun K hK => ?_)
    refine step_callB (by simp [Region.wanted]) (run_call ent_i9 #[.tmp 44] _ rfl #[.int .i64 n] rfl) (i9_any n wa) ?_
    rintro e wb ⟨rfl, hbwb⟩
    have HBwb := hidb (HBwa.out.trans (hbwb.mono HBwa.out.size))
    have HXBwb := hidb (HXBwa.out.keep hbwb)
    refine hK _ _ (fun _ => HSA.out _ HBwb.out) ?_
    clear hK K hbwb
    simp only [Act.put, List.setIfInBounds_toArray, List.set_cons_zero, List.set_cons_succ]
    refine wpAnyD_stepL (i := 3) (by kernel_rfl) rfl (fun K hK => ?_)
    go_simp
    refine hK _ _ (fun _ => HSA.out _ (HBwb.out.alloc HBwb.out.size _)) ?_
    clear hK K
    obtain ⟨wc, hwc⟩ : ∃ wc, wb.alloc (.cells #[.int .i64 1, .int .i64 n, .float .f64 0, .string ⟨#[]⟩, .slice none 0 0, .int .i64 7, .int .i64 0, .float .f64 0, .string ⟨#[]⟩, .slice a L c] 25) = wc := ⟨_, rfl⟩
    have HBwc : Hid (Below w3.heap.size w3 wc) := hidb (by rw [← hwc]; exact HBwb.out.alloc HBwb.out.size _)
    have HAwc : Hid (ArgsIn wc (some ⟨wb.heap.size, 0, none⟩) 2 [nuT n, .mk 7 0 0 ⟨#[]⟩ a c ks]) := hidb (by rw [← hwc]; exact HAI2.out wb (HBV.out.trans (HBwb.out.mono HBV.out.size)))
    have HXBwc : Hid (Box wc wd.heap.size (.int .i64 0) (.int .i64 0) (.float .f64 0) (.string ⟨#[]⟩) (.slice none 0 0)) := hidb (by rw [← hwc]; exact HXBwb.out.keep (below_new _ _))
    rw [hwc]
    clear hwc
    refine wpAnyD_stepL (i := 4) (by kernel_rfl) rfl (fun K hK => ?_)
    refine step_callB (by simp [Region.wanted]) (run_call ent_lawcall #[.const (.string elN), .tmp 47] _ rfl #[.string elN, .slice (some ⟨wb.heap.size, 0, none⟩) 2 2] rfl) (LC2.out wc wb.heap.size HAwc.out) ?_
    rintro e w6 hlaw
    obtain ⟨sk, sn, sf, ss, sa, sl, sc, ok, rfl, hbw6, hres⟩ := law_one hlaw
    have HBw6 := hidb (HBwc.out.trans (hbw6.mono HBwc.out.size))
    have HRES := hidb hres
    have HXBw6 := hidb (HXBwc.out.keep hbw6)
    have HNX : Hid (∀ t' : Tr, t'.In w6 0 → t'.On (fun k => wc.heap.size ≤ k) → t'.On (fun k => k < wd.heap.size ∨ wd.heap.size + 1 ≤ k)) := hidb (fun t' _ h => on_mono (fun q hq => by have := HXBwc.out.lt; omega) _ h)
    refine hK _ _ (fun _ => HSA.out _ HBw6.out) ?_
    clear hK K hbw6 hres hlaw
    have HS0 := hidb (HSA.out w6 HBw6.out)
    simp only [Act.put, List.setIfInBounds_toArray, List.set_cons_zero, List.set_cons_succ]
    refine wpAnyD_takeL (i := 5) (v := ?vvq3) rfl (by kernel_rfl) (by kernel_rfl) (by kernel_rfl) (by kernel_rfl) (fun _ _ _ h => Exit.noConfusion h.1) HS0.out rfl ?hyq3 ?_
    case hyq3 => intro wy hSw; obtain ⟨z0, z1, z2, z3, z4, z5, z6, z7, z8, z9⟩ := hSw; go_simp; try with_reducible rfl
    simp only [Act.put, List.setIfInBounds_toArray, List.set_cons_zero, List.set_cons_succ]
    refine wpAnyD_takeL (i := 6) (v := ?vvq4) rfl (by kernel_rfl) (by kernel_rfl) (by kernel_rfl) (by kernel_rfl) (fun _ _ _ h => Exit.noConfusion h.1) HS0.out rfl ?hyq4 ?_
    case hyq4 => intro wy hSw; obtain ⟨z0, z1, z2, z3, z4, z5, z6, z7, z8, z9⟩ := hSw; go_simp; try with_reducible rfl
    simp only [Act.put, List.setIfInBounds_toArray, List.set_cons_zero, List.set_cons_succ]
    refine wpAnyD_takeL (i := 7) (v := ?vvq5) rfl (by kernel_rfl) (by kernel_rfl) (by kernel_rfl) (by kernel_rfl) (fun _ _ _ h => Exit.noConfusion h.1) HS0.out rfl ?hyq5 ?_
    case hyq5 => intro wy hSw; obtain ⟨z0, z1, z2, z3, z4, z5, z6, z7, z8, z9⟩ := hSw; go_simp; try with_reducible rfl
    simp only [Act.put, List.setIfInBounds_toArray, List.set_cons_zero, List.set_cons_succ]
    obtain ⟨⟨x0, x1, x2, x3, x4⟩, ⟨y0, y1, y2, y3, y4⟩, xl⟩ := Box.six HXBw6.out
    have hxv : w3.heap.size ≤ wd.heap.size := HXG.out
    refine wpAnyD_stepL (i := 9) (by kernel_rfl) rfl (fun K hK => ?_)
    go_simp
    refine hK _ _ (fun _ => HSA.out _ (((((HBw6.out.setCell hxv _).setCell hxv _).setCell hxv _).setCell hxv _).setCell hxv _)) ?_
    clear hK K
    have HX9 := hidb (HXBw6.out.set (.int .i64 sk) (.int .i64 sn) (.float .f64 sf) (.string ss) (.slice sa sl sc))
    have HB9 := hidb (((((HBw6.out.setCell (p := ⟨wd.heap.size, 0, none⟩) hxv (.int .i64 sk)).setCell (p := ⟨wd.heap.size, 1, none⟩) hxv (.int .i64 sn)).setCell (p := ⟨wd.heap.size, 2, none⟩) hxv (.float .f64 sf)).setCell (p := ⟨wd.heap.size, 3, none⟩) hxv (.string ss)).setCell (p := ⟨wd.heap.size, 4, none⟩) hxv (.slice sa sl sc))
    have HR9 := hidb (res_on5 HRES.out (fun t' h1 h2 => (show t'.In w6 0 from h1)) HNX.out (.int .i64 sk) (.int .i64 sn) (.float .f64 sf) (.string ss) (.slice sa sl sc))
    simp only [set5] at HX9 HR9
    generalize hW9 : (((((w6.setCell ⟨wd.heap.size, 0, none⟩ (.int .i64 sk)).setCell ⟨wd.heap.size, 1, none⟩ (.int .i64 sn)).setCell ⟨wd.heap.size, 2, none⟩ (.float .f64 sf)).setCell ⟨wd.heap.size, 3, none⟩ (.string ss)).setCell ⟨wd.heap.size, 4, none⟩ (.slice sa sl sc)) = W9 at *
    clear hW9 x0 x1 x2 x3 x4 y0 y1 y2 y3 y4 xl HS0
    have HS0 := hidb (HSA.out W9 HB9.out)
    refine wpAnyD_takeL (i := 10) (v := ?vvq6) rfl (by kernel_rfl) (by kernel_rfl) (by kernel_rfl) (by kernel_rfl) (fun _ _ _ h => Exit.noConfusion h.1) HS0.out rfl ?hyq6 ?_
    case hyq6 => intro wy hSw; obtain ⟨z0, z1, z2, z3, z4, z5, z6, z7, z8, z9⟩ := hSw; go_simp; try with_reducible rfl
    simp only [Act.put, List.setIfInBounds_toArray, List.set_cons_zero, List.set_cons_succ]
    refine wpAnyD_done (by kernel_rfl) ?_ _
    exact ⟨rfl, wb.heap.size, wd.heap.size, sk, sn, sf, ss, sa, sl, sc, ok, rfl, HX9.out, HB9.out, HXG.out, HR9.out⟩
  case oIq =>
    refine step_callB (by simp [Region.wanted]) (run_call ent_i9 #[.tmp 44] _ rfl #[.int .i64 n] rfl) (i9_any n wd) ?_
    rintro e wb ⟨rfl, hbwb⟩
    have HBwb := hidb (HBwd.out.trans (hbwb.mono HBwd.out.size))
    refine hK _ _ (fun _ => HSA.out _ HBwb.out) ?_
    clear hK K hbwb
    simp only [Act.put, List.setIfInBounds_toArray, List.set_cons_zero, List.set_cons_succ]
    refine wpAnyD_twoL (i := 3) (j := 8) (by kernel_rfl) rfl rfl (fun K hK => ?oJq) (fun K hK => ?oBq)
    case oBq =>
      go_simp
      refine hK _ _ (fun _ => HSA.out _ (HBwb.out.alloc HBwb.out.size _)) ?_
      clear hK K
      obtain ⟨wa, hwa⟩ : ∃ wa, wb.alloc (.cells #[.int .i64 0, .int .i64 0, .float .f64 0, .string ⟨#[]⟩, .slice none 0 0] 25) = wa := ⟨_, rfl⟩
      have HXBwa : Hid (Box wa wb.heap.size (.int .i64 0) (.int .i64 0) (.float .f64 0) (.string ⟨#[]⟩) (.slice none 0 0)) := hidb (by rw [← hwa]; exact Box.new wb _ _ _ _ _ _)
      have HBwa : Hid (Below w3.heap.size w3 wa) := hidb (by rw [← hwa]; exact HBwb.out.alloc HBwb.out.size _)
      have HXG : Hid (w3.heap.size ≤ wb.heap.size) := hidb HBwb.out.size
      rw [hwa]
      clear hwa
      refine wpAnyD_stepL (i := 3) (by kernel_rfl) rfl (fun K hK => ?_)
      go_simp
      refine hK _ _ (fun _ => HSA.out _ (HBwa.out.alloc HBwa.out.size _)) ?_
      clear hK K
      obtain ⟨wc, hwc⟩ : ∃ wc, wa.alloc (.cells #[.int .i64 1, .int .i64 n, .float .f64 0, .string ⟨#[]⟩, .slice none 0 0, .int .i64 7, .int .i64 0, .float .f64 0, .string ⟨#[]⟩, .slice a L c] 25) = wc := ⟨_, rfl⟩
      have HBwc : Hid (Below w3.heap.size w3 wc) := hidb (by rw [← hwc]; exact HBwa.out.alloc HBwa.out.size _)
      have HAwc : Hid (ArgsIn wc (some ⟨wa.heap.size, 0, none⟩) 2 [nuT n, .mk 7 0 0 ⟨#[]⟩ a c ks]) := hidb (by rw [← hwc]; exact HAI2.out wa (HBV.out.trans (HBwa.out.mono HBV.out.size)))
      have HXBwc : Hid (Box wc wb.heap.size (.int .i64 0) (.int .i64 0) (.float .f64 0) (.string ⟨#[]⟩) (.slice none 0 0)) := hidb (by rw [← hwc]; exact HXBwa.out.keep (below_new _ _))
      rw [hwc]
      clear hwc
      refine wpAnyD_stepL (i := 4) (by kernel_rfl) rfl (fun K hK => ?_)
      refine step_callB (by simp [Region.wanted]) (run_call ent_lawcall #[.const (.string elN), .tmp 47] _ rfl #[.string elN, .slice (some ⟨wa.heap.size, 0, none⟩) 2 2] rfl) (LC2.out wc wa.heap.size HAwc.out) ?_
      rintro e w6 hlaw
      obtain ⟨sk, sn, sf, ss, sa, sl, sc, ok, rfl, hbw6, hres⟩ := law_one hlaw
      have HBw6 := hidb (HBwc.out.trans (hbw6.mono HBwc.out.size))
      have HRES := hidb hres
      have HXBw6 := hidb (HXBwc.out.keep hbw6)
      have HNX : Hid (∀ t' : Tr, t'.In w6 0 → t'.On (fun k => wc.heap.size ≤ k) → t'.On (fun k => k < wb.heap.size ∨ wb.heap.size + 1 ≤ k)) := hidb (fun t' _ h => on_mono (fun q hq => by have := HXBwc.out.lt; omega) _ h)
      refine hK _ _ (fun _ => HSA.out _ HBw6.out) ?_
      clear hK K hbw6 hres hlaw
      have HS0 := hidb (HSA.out w6 HBw6.out)
      simp only [Act.put, List.setIfInBounds_toArray, List.set_cons_zero, List.set_cons_succ]
      refine wpAnyD_takeL (i := 5) (v := ?vvq7) rfl (by kernel_rfl) (by kernel_rfl) (by kernel_rfl) (by kernel_rfl) (fun _ _ _ h => Exit.noConfusion h.1) HS0.out rfl ?hyq7 ?_
      case hyq7 => intro wy hSw; obtain ⟨z0, z1, z2, z3, z4, z5, z6, z7, z8, z9⟩ := hSw; go_simp; try with_reducible rfl
      simp only [Act.put, List.setIfInBounds_toArray, List.set_cons_zero, List.set_cons_succ]
      refine wpAnyD_takeL (i := 6) (v := ?vvq8) rfl (by kernel_rfl) (by kernel_rfl) (by kernel_rfl) (by kernel_rfl) (fun _ _ _ h => Exit.noConfusion h.1) HS0.out rfl ?hyq8 ?_
      case hyq8 => intro wy hSw; obtain ⟨z0, z1, z2, z3, z4, z5, z6, z7, z8, z9⟩ := hSw; go_simp; try with_reducible rfl
      simp only [Act.put, List.setIfInBounds_toArray, List.set_cons_zero, List.set_cons_succ]
      refine wpAnyD_takeL (i := 7) (v := ?vvq9) rfl (by kernel_rfl) (by kernel_rfl) (by kernel_rfl) (by kernel_rfl) (fun _ _ _ h => Exit.noConfusion h.1) HS0.out rfl ?hyq9 ?_
      case hyq9 => intro wy hSw; obtain ⟨z0, z1, z2, z3, z4, z5, z6, z7, z8, z9⟩ := hSw; go_simp; try with_reducible rfl
      simp only [Act.put, List.setIfInBounds_toArray, List.set_cons_zero, List.set_cons_succ]
      obtain ⟨⟨x0, x1, x2, x3, x4⟩, ⟨y0, y1, y2, y3, y4⟩, xl⟩ := Box.six HXBw6.out
      have hxv : w3.heap.size ≤ wb.heap.size := HXG.out
      refine wpAnyD_stepL (i := 9) (by kernel_rfl) rfl (fun K hK => ?_)
      go_simp
      refine hK _ _ (fun _ => HSA.out _ (((((HBw6.out.setCell hxv _).setCell hxv _).setCell hxv _).setCell hxv _).setCell hxv _)) ?_
      clear hK K
      have HX9 := hidb (HXBw6.out.set (.int .i64 sk) (.int .i64 sn) (.float .f64 sf) (.string ss) (.slice sa sl sc))
      have HB9 := hidb (((((HBw6.out.setCell (p := ⟨wb.heap.size, 0, none⟩) hxv (.int .i64 sk)).setCell (p := ⟨wb.heap.size, 1, none⟩) hxv (.int .i64 sn)).setCell (p := ⟨wb.heap.size, 2, none⟩) hxv (.float .f64 sf)).setCell (p := ⟨wb.heap.size, 3, none⟩) hxv (.string ss)).setCell (p := ⟨wb.heap.size, 4, none⟩) hxv (.slice sa sl sc))
      have HR9 := hidb (res_on5 HRES.out (fun t' h1 h2 => (show t'.In w6 0 from h1)) HNX.out (.int .i64 sk) (.int .i64 sn) (.float .f64 sf) (.string ss) (.slice sa sl sc))
      simp only [set5] at HX9 HR9
      generalize hW9 : (((((w6.setCell ⟨wb.heap.size, 0, none⟩ (.int .i64 sk)).setCell ⟨wb.heap.size, 1, none⟩ (.int .i64 sn)).setCell ⟨wb.heap.size, 2, none⟩ (.float .f64 sf)).setCell ⟨wb.heap.size, 3, none⟩ (.string ss)).setCell ⟨wb.heap.size, 4, none⟩ (.slice sa sl sc)) = W9 at *
      clear hW9 x0 x1 x2 x3 x4 y0 y1 y2 y3 y4 xl HS0
      have HS0 := hidb (HSA.out W9 HB9.out)
      refine wpAnyD_takeL (i := 10) (v := ?vvq10) rfl (by kernel_rfl) (by kernel_rfl) (by kernel_rfl) (by kernel_rfl) (fun _ _ _ h => Exit.noConfusion h.1) HS0.out rfl ?hyq10 ?_
      case hyq10 => intro wy hSw; obtain ⟨z0, z1, z2, z3, z4, z5, z6, z7, z8, z9⟩ := hSw; go_simp; try with_reducible rfl
      simp only [Act.put, List.setIfInBounds_toArray, List.set_cons_zero, List.set_cons_succ]
      refine wpAnyD_done (by kernel_rfl) ?_ _
      exact ⟨rfl, wa.heap.size, wb.heap.size, sk, sn, sf, ss, sa, sl, sc, ok, rfl, HX9.out, HB9.out, HXG.out, HR9.out⟩
    case oJq =>
      go_simp
      refine hK _ _ (fun _ => HSA.out _ (HBwb.out.alloc HBwb.out.size _)) ?_
      clear hK K
      obtain ⟨wc, hwc⟩ : ∃ wc, wb.alloc (.cells #[.int .i64 1, .int .i64 n, .float .f64 0, .string ⟨#[]⟩, .slice none 0 0, .int .i64 7, .int .i64 0, .float .f64 0, .string ⟨#[]⟩, .slice a L c] 25) = wc := ⟨_, rfl⟩
      have HBwc : Hid (Below w3.heap.size w3 wc) := hidb (by rw [← hwc]; exact HBwb.out.alloc HBwb.out.size _)
      have HAwc : Hid (ArgsIn wc (some ⟨wb.heap.size, 0, none⟩) 2 [nuT n, .mk 7 0 0 ⟨#[]⟩ a c ks]) := hidb (by rw [← hwc]; exact HAI2.out wb (HBV.out.trans (HBwb.out.mono HBV.out.size)))
      rw [hwc]
      clear hwc
      refine wpAnyD_twoL (i := 4) (j := 8) (by kernel_rfl) rfl rfl (fun K hK => ?oLq) (fun K hK => ?oCq)
      case oCq =>
        go_simp
        refine hK _ _ (fun _ => HSA.out _ (HBwc.out.alloc HBwc.out.size _)) ?_
        clear hK K
        obtain ⟨wa, hwa⟩ : ∃ wa, wc.alloc (.cells #[.int .i64 0, .int .i64 0, .float .f64 0, .string ⟨#[]⟩, .slice none 0 0] 25) = wa := ⟨_, rfl⟩
        have HXBwa : Hid (Box wa wc.heap.size (.int .i64 0) (.int .i64 0) (.float .f64 0) (.string ⟨#[]⟩) (.slice none 0 0)) := hidb (by rw [← hwa]; exact Box.new wc _ _ _ _ _ _)
        have HBwa : Hid (Below w3.heap.size w3 wa) := hidb (by rw [← hwa]; exact HBwc.out.alloc HBwc.out.size _)
        have HXG : Hid (w3.heap.size ≤ wc.heap.size) := hidb HBwc.out.size
        have HAwa : Hid (ArgsIn wa (some ⟨wb.heap.size, 0, none⟩) 2 [nuT n, .mk 7 0 0 ⟨#[]⟩ a c ks]) := hidb (by rw [← hwa]; exact in_below (below_new _ _) HAwc.out)
        rw [hwa]
        clear hwa
        refine wpAnyD_stepL (i := 4) (by kernel_rfl) rfl (fun K hK => ?_)
        refine step_callB (by simp [Region.wanted]) (run_call ent_lawcall #[.const (.string elN), .tmp 47] _ rfl #[.string elN, .slice (some ⟨wb.heap.size, 0, none⟩) 2 2] rfl) (LC2.out wa wb.heap.size HAwa.out) ?_
        rintro e w6 hlaw
        obtain ⟨sk, sn, sf, ss, sa, sl, sc, ok, rfl, hbw6, hres⟩ := law_one hlaw
        have HBw6 := hidb (HBwa.out.trans (hbw6.mono HBwa.out.size))
        have HRES := hidb hres
        have HXBw6 := hidb (HXBwa.out.keep hbw6)
        have HNX : Hid (∀ t' : Tr, t'.In w6 0 → t'.On (fun k => wa.heap.size ≤ k) → t'.On (fun k => k < wc.heap.size ∨ wc.heap.size + 1 ≤ k)) := hidb (fun t' _ h => on_mono (fun q hq => by have := HXBwa.out.lt; omega) _ h)
        refine hK _ _ (fun _ => HSA.out _ HBw6.out) ?_
        clear hK K hbw6 hres hlaw
        have HS0 := hidb (HSA.out w6 HBw6.out)
        simp only [Act.put, List.setIfInBounds_toArray, List.set_cons_zero, List.set_cons_succ]
        refine wpAnyD_takeL (i := 5) (v := ?vvq11) rfl (by kernel_rfl) (by kernel_rfl) (by kernel_rfl) (by kernel_rfl) (fun _ _ _ h => Exit.noConfusion h.1) HS0.out rfl ?hyq11 ?_
        case hyq11 => intro wy hSw; obtain ⟨z0, z1, z2, z3, z4, z5, z6, z7, z8, z9⟩ := hSw; go_simp; try with_reducible rfl
        simp only [Act.put, List.setIfInBounds_toArray, List.set_cons_zero, List.set_cons_succ]
        refine wpAnyD_takeL (i := 6) (v := ?vvq12) rfl (by kernel_rfl) (by kernel_rfl) (by kernel_rfl) (by kernel_rfl) (fun _ _ _ h => Exit.noConfusion h.1) HS0.out rfl ?hyq12 ?_
        case hyq12 => intro wy hSw; obtain ⟨z0, z1, z2, z3, z4, z5, z6, z7, z8, z9⟩ := hSw; go_simp; try with_reducible rfl
        simp only [Act.put, List.setIfInBounds_toArray, List.set_cons_zero, List.set_cons_succ]
        refine wpAnyD_takeL (i := 7) (v := ?vvq13) rfl (by kernel_rfl) (by kernel_rfl) (by kernel_rfl) (by kernel_rfl) (fun _ _ _ h => Exit.noConfusion h.1) HS0.out rfl ?hyq13 ?_
        case hyq13 => intro wy hSw; obtain ⟨z0, z1, z2, z3, z4, z5, z6, z7, z8, z9⟩ := hSw; go_simp; try with_reducible rfl
        simp only [Act.put, List.setIfInBounds_toArray, List.set_cons_zero, List.set_cons_succ]
        obtain ⟨⟨x0, x1, x2, x3, x4⟩, ⟨y0, y1, y2, y3, y4⟩, xl⟩ := Box.six HXBw6.out
        have hxv : w3.heap.size ≤ wc.heap.size := HXG.out
        refine wpAnyD_stepL (i := 9) (by kernel_rfl) rfl (fun K hK => ?_)
        go_simp
        refine hK _ _ (fun _ => HSA.out _ (((((HBw6.out.setCell hxv _).setCell hxv _).setCell hxv _).setCell hxv _).setCell hxv _)) ?_
        clear hK K
        have HX9 := hidb (HXBw6.out.set (.int .i64 sk) (.int .i64 sn) (.float .f64 sf) (.string ss) (.slice sa sl sc))
        have HB9 := hidb (((((HBw6.out.setCell (p := ⟨wc.heap.size, 0, none⟩) hxv (.int .i64 sk)).setCell (p := ⟨wc.heap.size, 1, none⟩) hxv (.int .i64 sn)).setCell (p := ⟨wc.heap.size, 2, none⟩) hxv (.float .f64 sf)).setCell (p := ⟨wc.heap.size, 3, none⟩) hxv (.string ss)).setCell (p := ⟨wc.heap.size, 4, none⟩) hxv (.slice sa sl sc))
        have HR9 := hidb (res_on5 HRES.out (fun t' h1 h2 => (show t'.In w6 0 from h1)) HNX.out (.int .i64 sk) (.int .i64 sn) (.float .f64 sf) (.string ss) (.slice sa sl sc))
        simp only [set5] at HX9 HR9
        generalize hW9 : (((((w6.setCell ⟨wc.heap.size, 0, none⟩ (.int .i64 sk)).setCell ⟨wc.heap.size, 1, none⟩ (.int .i64 sn)).setCell ⟨wc.heap.size, 2, none⟩ (.float .f64 sf)).setCell ⟨wc.heap.size, 3, none⟩ (.string ss)).setCell ⟨wc.heap.size, 4, none⟩ (.slice sa sl sc)) = W9 at *
        clear hW9 x0 x1 x2 x3 x4 y0 y1 y2 y3 y4 xl HS0
        have HS0 := hidb (HSA.out W9 HB9.out)
        refine wpAnyD_takeL (i := 10) (v := ?vvq14) rfl (by kernel_rfl) (by kernel_rfl) (by kernel_rfl) (by kernel_rfl) (fun _ _ _ h => Exit.noConfusion h.1) HS0.out rfl ?hyq14 ?_
        case hyq14 => intro wy hSw; obtain ⟨z0, z1, z2, z3, z4, z5, z6, z7, z8, z9⟩ := hSw; go_simp; try with_reducible rfl
        simp only [Act.put, List.setIfInBounds_toArray, List.set_cons_zero, List.set_cons_succ]
        refine wpAnyD_done (by kernel_rfl) ?_ _
        exact ⟨rfl, wb.heap.size, wc.heap.size, sk, sn, sf, ss, sa, sl, sc, ok, rfl, HX9.out, HB9.out, HXG.out, HR9.out⟩
      case oLq =>
        refine step_callB (by simp [Region.wanted]) (run_call ent_lawcall #[.const (.string elN), .tmp 47] _ rfl #[.string elN, .slice (some ⟨wb.heap.size, 0, none⟩) 2 2] rfl) (LC2.out wc wb.heap.size HAwc.out) ?_
        rintro e w6 hlaw
        obtain ⟨sk, sn, sf, ss, sa, sl, sc, ok, rfl, hbw6, hres⟩ := law_one hlaw
        have HBw6 := hidb (HBwc.out.trans (hbw6.mono HBwc.out.size))
        have HRES := hidb hres
        refine hK _ _ (fun _ => HSA.out _ HBw6.out) ?_
        clear hK K hbw6 hres hlaw
        have HS0 := hidb (HSA.out w6 HBw6.out)
        simp only [Act.put, List.setIfInBounds_toArray, List.set_cons_zero, List.set_cons_succ]
        refine wpAnyD_takeL (i := 5) (v := ?vvq15) rfl (by kernel_rfl) (by kernel_rfl) (by kernel_rfl) (by kernel_rfl) (fun _ _ _ h => Exit.noConfusion h.1) HS0.out rfl ?hyq15 ?_
        case hyq15 => intro wy hSw; obtain ⟨z0, z1, z2, z3, z4, z5, z6, z7, z8, z9⟩ := hSw; go_simp; try with_reducible rfl
        simp only [Act.put, List.setIfInBounds_toArray, List.set_cons_zero, List.set_cons_succ]
        refine wpAnyD_takeL (i := 6) (v := ?vvq16) rfl (by kernel_rfl) (by kernel_rfl) (by kernel_rfl) (by kernel_rfl) (fun _ _ _ h => Exit.noConfusion h.1) HS0.out rfl ?hyq16 ?_
        case hyq16 => intro wy hSw; obtain ⟨z0, z1, z2, z3, z4, z5, z6, z7, z8, z9⟩ := hSw; go_simp; try with_reducible rfl
        simp only [Act.put, List.setIfInBounds_toArray, List.set_cons_zero, List.set_cons_succ]
        refine wpAnyD_takeL (i := 7) (v := ?vvq17) rfl (by kernel_rfl) (by kernel_rfl) (by kernel_rfl) (by kernel_rfl) (fun _ _ _ h => Exit.noConfusion h.1) HS0.out rfl ?hyq17 ?_
        case hyq17 => intro wy hSw; obtain ⟨z0, z1, z2, z3, z4, z5, z6, z7, z8, z9⟩ := hSw; go_simp; try with_reducible rfl
        simp only [Act.put, List.setIfInBounds_toArray, List.set_cons_zero, List.set_cons_succ]
        refine wpAnyD_stepL (i := 8) (by kernel_rfl) rfl (fun K hK => ?_)
        go_simp
        refine hK _ _ (fun _ => HSA.out _ (HBw6.out.alloc HBw6.out.size _)) ?_
        clear hK K
        obtain ⟨wa, hwa⟩ : ∃ wa, w6.alloc (.cells #[.int .i64 0, .int .i64 0, .float .f64 0, .string ⟨#[]⟩, .slice none 0 0] 25) = wa := ⟨_, rfl⟩
        have HXBwa : Hid (Box wa w6.heap.size (.int .i64 0) (.int .i64 0) (.float .f64 0) (.string ⟨#[]⟩) (.slice none 0 0)) := hidb (by rw [← hwa]; exact Box.new w6 _ _ _ _ _ _)
        have HBwa : Hid (Below w3.heap.size w3 wa) := hidb (by rw [← hwa]; exact HBw6.out.alloc HBw6.out.size _)
        have HXG : Hid (w3.heap.size ≤ w6.heap.size) := hidb HBw6.out.size
        have HCW : Hid (Below w6.heap.size w6 wa) := hidb (by rw [← hwa]; exact below_new _ _)
        rw [hwa]
        clear hwa
        have HNX : Hid (∀ t' : Tr, t'.In w6 0 → t'.On (fun k => wc.heap.size ≤ k) → t'.On (fun k => k < w6.heap.size ∨ w6.heap.size + 1 ≤ k)) := hidb (fun t' h _ => on_mono (fun q hq => .inl hq.1) _ (on_in _ h))
        obtain ⟨⟨x0, x1, x2, x3, x4⟩, ⟨y0, y1, y2, y3, y4⟩, xl⟩ := Box.six HXBwa.out
        have hxv : w3.heap.size ≤ w6.heap.size := HXG.out
        refine wpAnyD_stepL (i := 9) (by kernel_rfl) rfl (fun K hK => ?_)
        go_simp
        refine hK _ _ (fun _ => HSA.out _ (((((HBwa.out.setCell hxv _).setCell hxv _).setCell hxv _).setCell hxv _).setCell hxv _)) ?_
        clear hK K
        have HX9 := hidb (HXBwa.out.set (.int .i64 sk) (.int .i64 sn) (.float .f64 sf) (.string ss) (.slice sa sl sc))
        have HB9 := hidb (((((HBwa.out.setCell (p := ⟨w6.heap.size, 0, none⟩) hxv (.int .i64 sk)).setCell (p := ⟨w6.heap.size, 1, none⟩) hxv (.int .i64 sn)).setCell (p := ⟨w6.heap.size, 2, none⟩) hxv (.float .f64 sf)).setCell (p := ⟨w6.heap.size, 3, none⟩) hxv (.string ss)).setCell (p := ⟨w6.heap.size, 4, none⟩) hxv (.slice sa sl sc))
        have HR9 := hidb (res_on5 HRES.out (fun t' h1 h2 => (show t'.In wa 0 from in_below HCW.out h1)) HNX.out (.int .i64 sk) (.int .i64 sn) (.float .f64 sf) (.string ss) (.slice sa sl sc))
        simp only [set5] at HX9 HR9
        generalize hW9 : (((((wa.setCell ⟨w6.heap.size, 0, none⟩ (.int .i64 sk)).setCell ⟨w6.heap.size, 1, none⟩ (.int .i64 sn)).setCell ⟨w6.heap.size, 2, none⟩ (.float .f64 sf)).setCell ⟨w6.heap.size, 3, none⟩ (.string ss)).setCell ⟨w6.heap.size, 4, none⟩ (.slice sa sl sc)) = W9 at *
        clear hW9 x0 x1 x2 x3 x4 y0 y1 y2 y3 y4 xl HS0
        have HS0 := hidb (HSA.out W9 HB9.out)
        refine wpAnyD_takeL (i := 10) (v := ?vvq18) rfl (by kernel_rfl) (by kernel_rfl) (by kernel_rfl) (by kernel_rfl) (fun _ _ _ h => Exit.noConfusion h.1) HS0.out rfl ?hyq18 ?_
        case hyq18 => intro wy hSw; obtain ⟨z0, z1, z2, z3, z4, z5, z6, z7, z8, z9⟩ := hSw; go_simp; try with_reducible rfl
        simp only [Act.put, List.setIfInBounds_toArray, List.set_cons_zero, List.set_cons_succ]
        refine wpAnyD_done (by kernel_rfl) ?_ _
        exact ⟨rfl, wb.heap.size, w6.heap.size, sk, sn, sf, ss, sa, sl, sc, ok, rfl, HX9.out, HB9.out, HXG.out, HR9.out⟩
end
end Go.Proofs.YtajadhkpadkikaaGreatDoor


