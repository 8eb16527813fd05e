import Derived.Test.YtajadhkpadkikaaGreatDoorG37
/- BifPlaces: what element told held against the row. -/
namespace Go.Proofs.YtajadhkpadkikaaGreatDoor
open Go.RowKit Go.Lib Go.Deep
attribute [local go_sem] store_float f64bits store_func store_nilFunc
attribute [local go_sem ↓] Go.wp_at_zero Go.wp_at_succ

section
variable {t0 t1 t2 t3 t4 t5 t6 t7 t8 t9 t10 t11 t12 t13 t14 t15 t16 t17 t18 t19 t20 t21 t22 t23 t24 t25 t26 t27 t28 t29 t30 t31 t32 t33 t34 t35 t36 t37 t38 t39 t40 t41 t42 t43 t44 t45 t46 t47 t48 t49 t50 t51 t52 t53 t54 t55 t56 t57 t58 t59 t60 t61 t62 t63 t64 t65 t66 t67 t68 t69 t70 t71 t72 t73 t74 t75 t76 t77 t78 t79 t80 t81 t82 t83 t84 t85 t86 t87 t88 t89 t90 t91 t92 t93 t94 t95 t96 t97 t98 t99 t100 t101 t102 t103 t104 t105 t106 t107 t108 t109 t110 t111 t112 t113 t114 t115 t116 t117 t118 : Value}
set_option maxHeartbeats 16000000 in
set_option maxRecDepth 100000 in
theorem plReg3 {w4 : World} {dfs : List Deferred} {n : Int} {j L c b1 o1 xe : Nat} {ok : Bool} {ek en : Int} {ef : Nat} {es : ByteArray} {ea : Option Addr} {el ec : Nat} {k8 n8 : Int} {f8 : Nat} {s8 : ByteArray} {a8 : Option Addr} {l8 c8 : Nat} (HSA4 : Hid (∀ W9, Below w4.heap.size w4 W9 → (fun W9 => W9.cell? ⟨xe, 0, none⟩ = some (.int .i64 ek) ∧ W9.cell? ⟨xe, 1, none⟩ = some (.int .i64 en) ∧ W9.cell? ⟨xe, 2, none⟩ = some (.float .f64 ef) ∧ W9.cell? ⟨xe, 3, none⟩ = some (.string es) ∧ W9.cell? ⟨xe, 4, none⟩ = some (.slice ea el ec) ∧ W9.cell? ⟨b1, o1 + j * 5, none⟩ = some (.int .i64 k8) ∧ W9.cell? ⟨b1, o1 + j * 5 + 1, none⟩ = some (.int .i64 n8) ∧ W9.cell? ⟨b1, o1 + j * 5 + 2, none⟩ = some (.float .f64 f8) ∧ W9.cell? ⟨b1, o1 + j * 5 + 3, none⟩ = some (.string s8) ∧ W9.cell? ⟨b1, o1 + j * 5 + 4, none⟩ = some (.slice a8 l8 c8)) W9)) (TW : Hid (∀ W, Below w4.heap.size w4 W → Calls Tryz.prog 10 #[.agg #[.int .i64 ek, .int .i64 en, .float .f64 ef, .string es, .slice ea el ec], .agg #[.int .i64 k8, .int .i64 n8, .float .f64 f8, .string s8, .slice a8 l8 c8]] W fun e w' => e = .returned (.bool true) ∧ Below W.heap.size W w')) (hw2 : IntKind.i64.wrap (n - 1) = (j : Int)) (e1 : (j : Int) < (L : Int)) (e2 : (0 : Int) ≤ (j : Int)) :
    (Code.region 11 #[{ dst := some 59, op := Op.move (Operand.tmp 11), type := 4, pos := "more.go:53", after := #[], guard := none }, { dst := some 60, op := Op.move (Operand.tmp 12), type := 4, pos := "more.go:53", after := #[], guard := none }, { dst := some 61, op := Op.binOp BinOp.neq 4 (Operand.tmp 59) (Operand.tmp 60) 4, type := 4, pos := "more.go:53", after := #[{ on := 0, ground := Ground.data }, { on := 1, ground := Ground.data }], guard := none }, { dst := some 62, op := Op.move (Operand.tmp 61), type := 4, pos := "more.go:53", after := #[{ on := 2, ground := Ground.data }], guard := none }, { dst := some 63, op := Op.move (Operand.tmp 12), type := 4, pos := "more.go:53", after := #[{ on := 3, ground := Ground.guard }], guard := some (3, false) }, { dst := some 64, op := Op.move (Operand.tmp 63), type := 4, pos := "more.go:53", after := #[{ on := 4, ground := Ground.data }, { on := 3, ground := Ground.chain }, { on := 3, ground := Ground.guard }], guard := some (3, false) }, { dst := some 65, op := Op.load 25 (Operand.tmp 10), type := 25, pos := "more.go:53", after := #[{ on := 5, ground := Ground.guard }], guard := some (5, true) }, { dst := some 66, op := Op.move (Operand.tmp 0), type := 23, pos := "more.go:53", after := #[{ on := 5, ground := Ground.guard }], guard := some (5, true) }, { dst := some 67, op := Op.move (Operand.tmp 1), type := 3, pos := "more.go:53", after := #[{ on := 5, ground := Ground.guard }], guard := some (5, true) }, { dst := some 68, op := Op.binOp BinOp.sub 3 (Operand.tmp 67) (Operand.const (Value.int IntKind.i64 1)) 3, type := 3, pos := "more.go:53", after := #[{ on := 8, ground := Ground.data }, { on := 5, ground := Ground.guard }], guard := some (5, true) }, { dst := some 69, op := Op.indexAddr 23 (Operand.tmp 66) (Operand.tmp 68), type := 0, pos := "more.go:53", after := #[{ on := 7, ground := Ground.data }, { on := 9, ground := Ground.data }, { on := 5, ground := Ground.guard }], guard := some (5, true) }, { dst := some 70, op := Op.load 25 (Operand.tmp 69), type := 25, pos := "more.go:53", after := #[{ on := 10, ground := Ground.data }, { on := 5, ground := Ground.guard }], guard := some (5, true) }, { dst := some 71, op := Op.call { callee := Callee.value (Operand.func 10), args := #[Operand.tmp 65, Operand.tmp 70], argTypes := #[25, 25] }, type := 4, pos := "more.go:53", after := #[{ on := 6, ground := Ground.data }, { on := 11, ground := Ground.data }, { on := 5, ground := Ground.chain }, { on := 5, ground := Ground.guard }], guard := some (5, true) }, { dst := some 72, op := Op.unOp UnOp.not 4 (Operand.tmp 71), type := 4, pos := "more.go:53", after := #[{ on := 12, ground := Ground.data }, { on := 5, ground := Ground.guard }], guard := some (5, true) }, { dst := some 73, op := Op.pick (Operand.tmp 64) (Operand.tmp 72) (Operand.const (Value.bool false)), type := 4, pos := "more.go:53", after := #[{ on := 5, ground := Ground.data }, { on := 13, ground := Ground.data }, { on := 3, ground := Ground.guard }], guard := some (3, false) }, { dst := some 74, op := Op.pick (Operand.tmp 62) (Operand.const (Value.bool true)) (Operand.tmp 73), type := 4, pos := "more.go:53", after := #[{ on := 3, ground := Ground.data }, { on := 14, ground := Ground.data }], guard := none }, { dst := some 75, op := Op.move (Operand.tmp 74), type := 4, pos := "more.go:53", after := #[{ on := 15, ground := Ground.data }, { on := 12, ground := Ground.chain }], guard := none }, { dst := some 76, op := Op.move (Operand.tmp 9), type := 4, pos := "more.go:53", after := #[{ on := 16, ground := Ground.guard }], guard := some (16, false) }, { dst := some 77, op := Op.move (Operand.tmp 76), type := 4, pos := "more.go:53", after := #[{ on := 17, ground := Ground.data }, { on := 16, ground := Ground.chain }, { on := 16, ground := Ground.guard }], guard := some (16, false) }, { dst := some 78, op := Op.move (Operand.tmp 12), type := 4, pos := "more.go:53", after := #[{ on := 18, ground := Ground.guard }], guard := some (18, true) }, { dst := some 79, op := Op.unOp UnOp.not 4 (Operand.tmp 78), type := 4, pos := "more.go:53", after := #[{ on := 19, ground := Ground.data }, { on := 18, ground := Ground.guard }], guard := some (18, true) }, { dst := some 80, op := Op.pick (Operand.tmp 77) (Operand.tmp 79) (Operand.const (Value.bool false)), type := 4, pos := "more.go:53", after := #[{ on := 18, ground := Ground.data }, { on := 20, ground := Ground.data }, { on := 16, ground := Ground.guard }], guard := some (16, false) }, { dst := some 81, op := Op.pick (Operand.tmp 75) (Operand.const (Value.bool true)) (Operand.tmp 80), type := 4, pos := "more.go:53", after := #[{ on := 16, ground := Ground.data }, { on := 21, ground := Ground.data }], guard := none }] true).wp Tryz.prog (fun ex a9 w9 => ex = .normal ∧ ∃ u59 u60 u61 u62 u63 u64 u65 u66 u67 u68 u69 u70 u71 u72 u73 u74 u75 u76 u77 u78 u79 u80 : Value, a9 = ⟨#[.slice (some ⟨b1, o1, none⟩) L c, .int .i64 n, t2, t3, t4, t5, t6, t7, t8, .bool ok, .pointer (some ⟨xe, 0, none⟩), .bool true, .bool true, t13, t14, t15, t16, t17, t18, t19, t20, t21, t22, t23, t24, t25, t26, t27, t28, t29, t30, t31, t32, t33, t34, t35, t36, t37, t38, t39, t40, t41, t42, t43, t44, t45, t46, t47, t48, t49, t50, t51, t52, t53, t54, t55, t56, t57, t58, u59, u60, u61, u62, u63, u64, u65, u66, u67, u68, u69, u70, u71, u72, u73, u74, u75, u76, u77, u78, u79, u80, .bool false, t82, t83, t84, t85, t86, t87, t88, t89, t90, t91, t92, t93, t94, t95, t96, t97, t98, t99, t100, t101, t102, t103, t104, t105, t106, t107, t108, t109, t110, t111, t112, t113, t114, t115, t116, t117, t118], dfs⟩ ∧ Below w4.heap.size w4 w9) ⟨#[.slice (some ⟨b1, o1, none⟩) L c, .int .i64 n, t2, t3, t4, t5, t6, t7, t8, .bool ok, .pointer (some ⟨xe, 0, none⟩), .bool true, .bool true, t13, t14, t15, t16, t17, t18, t19, t20, t21, t22, t23, t24, t25, t26, t27, t28, t29, t30, t31, t32, t33, t34, t35, t36, t37, t38, t39, t40, t41, t42, t43, t44, t45, t46, t47, t48, t49, t50, t51, t52, t53, t54, t55, t56, t57, t58, t59, t60, t61, t62, t63, t64, t65, t66, t67, t68, t69, t70, t71, t72, t73, t74, t75, t76, t77, t78, t79, t80, t81, t82, t83, t84, t85, t86, t87, t88, t89, t90, t91, t92, t93, t94, t95, t96, t97, t98, t99, t100, t101, t102, t103, t104, t105, t106, t107, t108, t109, t110, t111, t112, t113, t114, t115, t116, t117, t118], dfs⟩ w4 := by
  cases ok
  · skip
    refine wp_region_D (fun W9 => W9.cell? ⟨xe, 0, none⟩ = some (.int .i64 ek) ∧ W9.cell? ⟨xe, 1, none⟩ = some (.int .i64 en) ∧ W9.cell? ⟨xe, 2, none⟩ = some (.float .f64 ef) ∧ W9.cell? ⟨xe, 3, none⟩ = some (.string es) ∧ W9.cell? ⟨xe, 4, none⟩ = some (.slice ea el ec) ∧ W9.cell? ⟨b1, o1 + j * 5, none⟩ = some (.int .i64 k8) ∧ W9.cell? ⟨b1, o1 + j * 5 + 1, none⟩ = some (.int .i64 n8) ∧ W9.cell? ⟨b1, o1 + j * 5 + 2, none⟩ = some (.float .f64 f8) ∧ W9.cell? ⟨b1, o1 + j * 5 + 3, none⟩ = some (.string s8) ∧ W9.cell? ⟨b1, o1 + j * 5 + 4, none⟩ = some (.slice a8 l8 c8)) [] (by kernel_rfl) ?_
    have hbd : Below w4.heap.size w4 w4.drew := (Below.refl _ _).drew
    generalize w4.drew = wd at hbd ⊢
    have HBwd := hidb hbd
    have HS0 := hidb (HSA4.out wd hbd)
    clear hbd
    refine wpAnyD_takeL (i := 0) (v := ?wvf0) rfl (by kernel_rfl) (by kernel_rfl) (by kernel_rfl) (by kernel_rfl) (fun _ _ _ h => Exit.noConfusion h.1) HS0.out rfl ?wyf0 ?_
    case wyf0 => intro wy hSw; obtain ⟨z0, z1, z2, z3, z4, z5, z6, z7, z8, z9⟩ := hSw; go_simp; try with_reducible rfl
    simp only [Act.put, List.setIfInBounds_toArray, List.set_cons_zero, List.set_cons_succ]
    refine wpAnyD_takeL (i := 1) (v := ?wvf1) rfl (by kernel_rfl) (by kernel_rfl) (by kernel_rfl) (by kernel_rfl) (fun _ _ _ h => Exit.noConfusion h.1) HS0.out rfl ?wyf1 ?_
    case wyf1 => intro wy hSw; obtain ⟨z0, z1, z2, z3, z4, z5, z6, z7, z8, z9⟩ := hSw; go_simp; try with_reducible rfl
    simp only [Act.put, List.setIfInBounds_toArray, List.set_cons_zero, List.set_cons_succ]
    refine wpAnyD_takeL (i := 2) (v := ?wvf2) rfl (by kernel_rfl) (by kernel_rfl) (by kernel_rfl) (by kernel_rfl) (fun _ _ _ h => Exit.noConfusion h.1) HS0.out rfl ?wyf2 ?_
    case wyf2 => intro wy hSw; obtain ⟨z0, z1, z2, z3, z4, z5, z6, z7, z8, z9⟩ := hSw; go_simp; try with_reducible rfl
    simp only [Act.put, List.setIfInBounds_toArray, List.set_cons_zero, List.set_cons_succ]
    refine wpAnyD_takeL (i := 3) (v := ?wvf3) rfl (by kernel_rfl) (by kernel_rfl) (by kernel_rfl) (by kernel_rfl) (fun _ _ _ h => Exit.noConfusion h.1) HS0.out rfl ?wyf3 ?_
    case wyf3 => intro wy hSw; obtain ⟨z0, z1, z2, z3, z4, z5, z6, z7, z8, z9⟩ := hSw; go_simp; try with_reducible rfl
    simp only [Act.put, List.setIfInBounds_toArray, List.set_cons_zero, List.set_cons_succ]
    refine wpAnyD_takeG (i := 4) (v := ?wvf4) rfl (by kernel_rfl) (by kernel_rfl) (by kernel_rfl) (by kernel_rfl) (fun _ _ _ h => Exit.noConfusion h.1) HS0.out (by kernel_rfl) ?wyf4 ?_
    case wyf4 => intro wy hSw; obtain ⟨z0, z1, z2, z3, z4, z5, z6, z7, z8, z9⟩ := hSw; go_simp; try with_reducible rfl
    simp only [Act.put, List.setIfInBounds_toArray, List.set_cons_zero, List.set_cons_succ]
    refine wpAnyD_takeG (i := 5) (v := ?wvf5) rfl (by kernel_rfl) (by kernel_rfl) (by kernel_rfl) (by kernel_rfl) (fun _ _ _ h => Exit.noConfusion h.1) HS0.out (by kernel_rfl) ?wyf5 ?_
    case wyf5 => intro wy hSw; obtain ⟨z0, z1, z2, z3, z4, z5, z6, z7, z8, z9⟩ := hSw; go_simp; try with_reducible rfl
    simp only [Act.put, List.setIfInBounds_toArray, List.set_cons_zero, List.set_cons_succ]
    refine wpAnyD_takeG (i := 6) (v := ?wvf6) rfl (by kernel_rfl) (by kernel_rfl) (by kernel_rfl) (by kernel_rfl) (fun _ _ _ h => Exit.noConfusion h.1) HS0.out (by kernel_rfl) ?wyf6 ?_
    case wyf6 => intro wy hSw; obtain ⟨z0, z1, z2, z3, z4, z5, z6, z7, z8, z9⟩ := hSw; go_simp; try with_reducible rfl
    simp only [Act.put, List.setIfInBounds_toArray, List.set_cons_zero, List.set_cons_succ]
    refine wpAnyD_takeG (i := 7) (v := ?wvf7) rfl (by kernel_rfl) (by kernel_rfl) (by kernel_rfl) (by kernel_rfl) (fun _ _ _ h => Exit.noConfusion h.1) HS0.out (by kernel_rfl) ?wyf7 ?_
    case wyf7 => intro wy hSw; obtain ⟨z0, z1, z2, z3, z4, z5, z6, z7, z8, z9⟩ := hSw; go_simp; try with_reducible rfl
    simp only [Act.put, List.setIfInBounds_toArray, List.set_cons_zero, List.set_cons_succ]
    refine wpAnyD_takeG (i := 8) (v := ?wvf8) rfl (by kernel_rfl) (by kernel_rfl) (by kernel_rfl) (by kernel_rfl) (fun _ _ _ h => Exit.noConfusion h.1) HS0.out (by kernel_rfl) ?wyf8 ?_
    case wyf8 => intro wy hSw; obtain ⟨z0, z1, z2, z3, z4, z5, z6, z7, z8, z9⟩ := hSw; go_simp; try with_reducible rfl
    simp only [Act.put, List.setIfInBounds_toArray, List.set_cons_zero, List.set_cons_succ]
    refine wpAnyD_takeG (i := 9) (v := ?wvf9) rfl (by kernel_rfl) (by kernel_rfl) (by kernel_rfl) (by kernel_rfl) (fun _ _ _ h => Exit.noConfusion h.1) HS0.out (by kernel_rfl) ?wyf9 ?_
    case wyf9 => intro wy hSw; obtain ⟨z0, z1, z2, z3, z4, z5, z6, z7, z8, z9⟩ := hSw; go_simp; try with_reducible rfl
    simp only [Act.put, List.setIfInBounds_toArray, List.set_cons_zero, List.set_cons_succ]
    refine wpAnyD_takeG (i := 10) (v := ?wvf10) rfl (by kernel_rfl) (by kernel_rfl) (by kernel_rfl) (by kernel_rfl) (fun _ _ _ h => Exit.noConfusion h.1) HS0.out (by kernel_rfl) ?wyf10 ?_
    case wyf10 => intro wy hSw; obtain ⟨z0, z1, z2, z3, z4, z5, z6, z7, z8, z9⟩ := hSw; go_simp; try with_reducible rfl
    simp only [Act.put, List.setIfInBounds_toArray, List.set_cons_zero, List.set_cons_succ]
    refine wpAnyD_takeG (i := 11) (v := ?wvf11) rfl (by kernel_rfl) (by kernel_rfl) (by kernel_rfl) (by kernel_rfl) (fun _ _ _ h => Exit.noConfusion h.1) HS0.out (by kernel_rfl) ?wyf11 ?_
    case wyf11 => intro wy hSw; obtain ⟨z0, z1, z2, z3, z4, z5, z6, z7, z8, z9⟩ := hSw; go_simp; try with_reducible rfl
    simp only [Act.put, List.setIfInBounds_toArray, List.set_cons_zero, List.set_cons_succ]
    refine wpAnyD_stepL (i := 12) (by kernel_rfl) rfl (fun K hK => ?_)
    refine step_callB (by kernel_rfl) (run_call ent_twin #[.tmp 65, .tmp 70] _ rfl #[.agg #[.int .i64 ek, .int .i64 en, .float .f64 ef, .string es, .slice ea el ec], .agg #[.int .i64 k8, .int .i64 n8, .float .f64 f8, .string s8, .slice a8 l8 c8]] rfl) (TW.out wd HBwd.out) ?_
    rintro e w5 ⟨rfl, hb5⟩
    have HB5 := hidb (HBwd.out.trans (hb5.mono HBwd.out.size))
    refine hK _ _ (fun _ => HSA4.out _ HB5.out) ?_
    clear hK K hb5 HS0
    have HS0 := hidb (HSA4.out w5 HB5.out)
    simp only [Act.put, List.setIfInBounds_toArray, List.set_cons_zero, List.set_cons_succ]
    refine wpAnyD_takeG (i := 13) (v := ?wvf13) rfl (by kernel_rfl) (by kernel_rfl) (by kernel_rfl) (by kernel_rfl) (fun _ _ _ h => Exit.noConfusion h.1) HS0.out (by kernel_rfl) ?wyf13 ?_
    case wyf13 => intro wy hSw; obtain ⟨z0, z1, z2, z3, z4, z5, z6, z7, z8, z9⟩ := hSw; go_simp; try with_reducible rfl
    simp only [Act.put, List.setIfInBounds_toArray, List.set_cons_zero, List.set_cons_succ]
    refine wpAnyD_takeG (i := 14) (v := ?wvf14) rfl (by kernel_rfl) (by kernel_rfl) (by kernel_rfl) (by kernel_rfl) (fun _ _ _ h => Exit.noConfusion h.1) HS0.out (by kernel_rfl) ?wyf14 ?_
    case wyf14 => intro wy hSw; obtain ⟨z0, z1, z2, z3, z4, z5, z6, z7, z8, z9⟩ := hSw; go_simp; try with_reducible rfl
    simp only [Act.put, List.setIfInBounds_toArray, List.set_cons_zero, List.set_cons_succ]
    refine wpAnyD_takeL (i := 15) (v := ?wvf15) rfl (by kernel_rfl) (by kernel_rfl) (by kernel_rfl) (by kernel_rfl) (fun _ _ _ h => Exit.noConfusion h.1) HS0.out rfl ?wyf15 ?_
    case wyf15 => intro wy hSw; obtain ⟨z0, z1, z2, z3, z4, z5, z6, z7, z8, z9⟩ := hSw; go_simp; try with_reducible rfl
    simp only [Act.put, List.setIfInBounds_toArray, List.set_cons_zero, List.set_cons_succ]
    refine wpAnyD_takeL (i := 16) (v := ?wvf16) rfl (by kernel_rfl) (by kernel_rfl) (by kernel_rfl) (by kernel_rfl) (fun _ _ _ h => Exit.noConfusion h.1) HS0.out rfl ?wyf16 ?_
    case wyf16 => intro wy hSw; obtain ⟨z0, z1, z2, z3, z4, z5, z6, z7, z8, z9⟩ := hSw; go_simp; try with_reducible rfl
    simp only [Act.put, List.setIfInBounds_toArray, List.set_cons_zero, List.set_cons_succ]
    refine wpAnyD_takeG (i := 17) (v := ?wvf17) rfl (by kernel_rfl) (by kernel_rfl) (by kernel_rfl) (by kernel_rfl) (fun _ _ _ h => Exit.noConfusion h.1) HS0.out (by kernel_rfl) ?wyf17 ?_
    case wyf17 => intro wy hSw; obtain ⟨z0, z1, z2, z3, z4, z5, z6, z7, z8, z9⟩ := hSw; go_simp; try with_reducible rfl
    simp only [Act.put, List.setIfInBounds_toArray, List.set_cons_zero, List.set_cons_succ]
    refine wpAnyD_takeG (i := 18) (v := ?wvf18) rfl (by kernel_rfl) (by kernel_rfl) (by kernel_rfl) (by kernel_rfl) (fun _ _ _ h => Exit.noConfusion h.1) HS0.out (by kernel_rfl) ?wyf18 ?_
    case wyf18 => intro wy hSw; obtain ⟨z0, z1, z2, z3, z4, z5, z6, z7, z8, z9⟩ := hSw; go_simp; try with_reducible rfl
    simp only [Act.put, List.setIfInBounds_toArray, List.set_cons_zero, List.set_cons_succ]
    refine wpAnyD_skipG (i := 19) rfl (by kernel_rfl) (by kernel_rfl) (by kernel_rfl) (by kernel_rfl) (fun _ _ _ h => Exit.noConfusion h.1) HS0.out (by kernel_rfl) ?_
    simp only [Act.put, List.setIfInBounds_toArray, List.set_cons_zero, List.set_cons_succ]
    refine wpAnyD_skipG (i := 20) rfl (by kernel_rfl) (by kernel_rfl) (by kernel_rfl) (by kernel_rfl) (fun _ _ _ h => Exit.noConfusion h.1) HS0.out (by kernel_rfl) ?_
    simp only [Act.put, List.setIfInBounds_toArray, List.set_cons_zero, List.set_cons_succ]
    refine wpAnyD_takeG (i := 21) (v := ?wvf21) rfl (by kernel_rfl) (by kernel_rfl) (by kernel_rfl) (by kernel_rfl) (fun _ _ _ h => Exit.noConfusion h.1) HS0.out (by kernel_rfl) ?wyf21 ?_
    case wyf21 => intro wy hSw; obtain ⟨z0, z1, z2, z3, z4, z5, z6, z7, z8, z9⟩ := hSw; go_simp; try with_reducible rfl
    simp only [Act.put, List.setIfInBounds_toArray, List.set_cons_zero, List.set_cons_succ]
    refine wpAnyD_takeL (i := 22) (v := ?wvf22) rfl (by kernel_rfl) (by kernel_rfl) (by kernel_rfl) (by kernel_rfl) (fun _ _ _ h => Exit.noConfusion h.1) HS0.out rfl ?wyf22 ?_
    case wyf22 => intro wy hSw; obtain ⟨z0, z1, z2, z3, z4, z5, z6, z7, z8, z9⟩ := hSw; go_simp; try with_reducible rfl
    simp only [Act.put, List.setIfInBounds_toArray, List.set_cons_zero, List.set_cons_succ]
    refine wpAnyD_done (by kernel_rfl) ?_ _
    clear HS0
    exact ⟨rfl, _, _, _, _, _, _, _, _, _, _, _, _, _, _, _, _, _, _, _, _, _, _, rfl, HB5.out⟩
  · skip
    refine wp_region_D (fun W9 => W9.cell? ⟨xe, 0, none⟩ = some (.int .i64 ek) ∧ W9.cell? ⟨xe, 1, none⟩ = some (.int .i64 en) ∧ W9.cell? ⟨xe, 2, none⟩ = some (.float .f64 ef) ∧ W9.cell? ⟨xe, 3, none⟩ = some (.string es) ∧ W9.cell? ⟨xe, 4, none⟩ = some (.slice ea el ec) ∧ W9.cell? ⟨b1, o1 + j * 5, none⟩ = some (.int .i64 k8) ∧ W9.cell? ⟨b1, o1 + j * 5 + 1, none⟩ = some (.int .i64 n8) ∧ W9.cell? ⟨b1, o1 + j * 5 + 2, none⟩ = some (.float .f64 f8) ∧ W9.cell? ⟨b1, o1 + j * 5 + 3, none⟩ = some (.string s8) ∧ W9.cell? ⟨b1, o1 + j * 5 + 4, none⟩ = some (.slice a8 l8 c8)) [] (by kernel_rfl) ?_
    have hbd : Below w4.heap.size w4 w4.drew := (Below.refl _ _).drew
    generalize w4.drew = wd at hbd ⊢
    have HBwd := hidb hbd
    have HS0 := hidb (HSA4.out wd hbd)
    clear hbd
    refine wpAnyD_takeL (i := 0) (v := ?wvt0) rfl (by kernel_rfl) (by kernel_rfl) (by kernel_rfl) (by kernel_rfl) (fun _ _ _ h => Exit.noConfusion h.1) HS0.out rfl ?wyt0 ?_
    case wyt0 => intro wy hSw; obtain ⟨z0, z1, z2, z3, z4, z5, z6, z7, z8, z9⟩ := hSw; go_simp; try with_reducible rfl
    simp only [Act.put, List.setIfInBounds_toArray, List.set_cons_zero, List.set_cons_succ]
    refine wpAnyD_takeL (i := 1) (v := ?wvt1) rfl (by kernel_rfl) (by kernel_rfl) (by kernel_rfl) (by kernel_rfl) (fun _ _ _ h => Exit.noConfusion h.1) HS0.out rfl ?wyt1 ?_
    case wyt1 => intro wy hSw; obtain ⟨z0, z1, z2, z3, z4, z5, z6, z7, z8, z9⟩ := hSw; go_simp; try with_reducible rfl
    simp only [Act.put, List.setIfInBounds_toArray, List.set_cons_zero, List.set_cons_succ]
    refine wpAnyD_takeL (i := 2) (v := ?wvt2) rfl (by kernel_rfl) (by kernel_rfl) (by kernel_rfl) (by kernel_rfl) (fun _ _ _ h => Exit.noConfusion h.1) HS0.out rfl ?wyt2 ?_
    case wyt2 => intro wy hSw; obtain ⟨z0, z1, z2, z3, z4, z5, z6, z7, z8, z9⟩ := hSw; go_simp; try with_reducible rfl
    simp only [Act.put, List.setIfInBounds_toArray, List.set_cons_zero, List.set_cons_succ]
    refine wpAnyD_takeL (i := 3) (v := ?wvt3) rfl (by kernel_rfl) (by kernel_rfl) (by kernel_rfl) (by kernel_rfl) (fun _ _ _ h => Exit.noConfusion h.1) HS0.out rfl ?wyt3 ?_
    case wyt3 => intro wy hSw; obtain ⟨z0, z1, z2, z3, z4, z5, z6, z7, z8, z9⟩ := hSw; go_simp; try with_reducible rfl
    simp only [Act.put, List.setIfInBounds_toArray, List.set_cons_zero, List.set_cons_succ]
    refine wpAnyD_takeG (i := 4) (v := ?wvt4) rfl (by kernel_rfl) (by kernel_rfl) (by kernel_rfl) (by kernel_rfl) (fun _ _ _ h => Exit.noConfusion h.1) HS0.out (by kernel_rfl) ?wyt4 ?_
    case wyt4 => intro wy hSw; obtain ⟨z0, z1, z2, z3, z4, z5, z6, z7, z8, z9⟩ := hSw; go_simp; try with_reducible rfl
    simp only [Act.put, List.setIfInBounds_toArray, List.set_cons_zero, List.set_cons_succ]
    refine wpAnyD_takeG (i := 5) (v := ?wvt5) rfl (by kernel_rfl) (by kernel_rfl) (by kernel_rfl) (by kernel_rfl) (fun _ _ _ h => Exit.noConfusion h.1) HS0.out (by kernel_rfl) ?wyt5 ?_
    case wyt5 => intro wy hSw; obtain ⟨z0, z1, z2, z3, z4, z5, z6, z7, z8, z9⟩ := hSw; go_simp; try with_reducible rfl
    simp only [Act.put, List.setIfInBounds_toArray, List.set_cons_zero, List.set_cons_succ]
    refine wpAnyD_takeG (i := 6) (v := ?wvt6) rfl (by kernel_rfl) (by kernel_rfl) (by kernel_rfl) (by kernel_rfl) (fun _ _ _ h => Exit.noConfusion h.1) HS0.out (by kernel_rfl) ?wyt6 ?_
    case wyt6 => intro wy hSw; obtain ⟨z0, z1, z2, z3, z4, z5, z6, z7, z8, z9⟩ := hSw; go_simp; try with_reducible rfl
    simp only [Act.put, List.setIfInBounds_toArray, List.set_cons_zero, List.set_cons_succ]
    refine wpAnyD_takeG (i := 7) (v := ?wvt7) rfl (by kernel_rfl) (by kernel_rfl) (by kernel_rfl) (by kernel_rfl) (fun _ _ _ h => Exit.noConfusion h.1) HS0.out (by kernel_rfl) ?wyt7 ?_
    case wyt7 => intro wy hSw; obtain ⟨z0, z1, z2, z3, z4, z5, z6, z7, z8, z9⟩ := hSw; go_simp; try with_reducible rfl
    simp only [Act.put, List.setIfInBounds_toArray, List.set_cons_zero, List.set_cons_succ]
    refine wpAnyD_takeG (i := 8) (v := ?wvt8) rfl (by kernel_rfl) (by kernel_rfl) (by kernel_rfl) (by kernel_rfl) (fun _ _ _ h => Exit.noConfusion h.1) HS0.out (by kernel_rfl) ?wyt8 ?_
    case wyt8 => intro wy hSw; obtain ⟨z0, z1, z2, z3, z4, z5, z6, z7, z8, z9⟩ := hSw; go_simp; try with_reducible rfl
    simp only [Act.put, List.setIfInBounds_toArray, List.set_cons_zero, List.set_cons_succ]
    refine wpAnyD_takeG (i := 9) (v := ?wvt9) rfl (by kernel_rfl) (by kernel_rfl) (by kernel_rfl) (by kernel_rfl) (fun _ _ _ h => Exit.noConfusion h.1) HS0.out (by kernel_rfl) ?wyt9 ?_
    case wyt9 => intro wy hSw; obtain ⟨z0, z1, z2, z3, z4, z5, z6, z7, z8, z9⟩ := hSw; go_simp; try with_reducible rfl
    simp only [Act.put, List.setIfInBounds_toArray, List.set_cons_zero, List.set_cons_succ]
    refine wpAnyD_takeG (i := 10) (v := ?wvt10) rfl (by kernel_rfl) (by kernel_rfl) (by kernel_rfl) (by kernel_rfl) (fun _ _ _ h => Exit.noConfusion h.1) HS0.out (by kernel_rfl) ?wyt10 ?_
    case wyt10 => intro wy hSw; obtain ⟨z0, z1, z2, z3, z4, z5, z6, z7, z8, z9⟩ := hSw; go_simp; try with_reducible rfl
    simp only [Act.put, List.setIfInBounds_toArray, List.set_cons_zero, List.set_cons_succ]
    refine wpAnyD_takeG (i := 11) (v := ?wvt11) rfl (by kernel_rfl) (by kernel_rfl) (by kernel_rfl) (by kernel_rfl) (fun _ _ _ h => Exit.noConfusion h.1) HS0.out (by kernel_rfl) ?wyt11 ?_
    case wyt11 => intro wy hSw; obtain ⟨z0, z1, z2, z3, z4, z5, z6, z7, z8, z9⟩ := hSw; go_simp; try with_reducible rfl
    simp only [Act.put, List.setIfInBounds_toArray, List.set_cons_zero, List.set_cons_succ]
    refine wpAnyD_stepL (i := 12) (by kernel_rfl) rfl (fun K hK => ?_)
    refine step_callB (by kernel_rfl) (run_call ent_twin #[.tmp 65, .tmp 70] _ rfl #[.agg #[.int .i64 ek, .int .i64 en, .float .f64 ef, .string es, .slice ea el ec], .agg #[.int .i64 k8, .int .i64 n8, .float .f64 f8, .string s8, .slice a8 l8 c8]] rfl) (TW.out wd HBwd.out) ?_
    rintro e w5 ⟨rfl, hb5⟩
    have HB5 := hidb (HBwd.out.trans (hb5.mono HBwd.out.size))
    refine hK _ _ (fun _ => HSA4.out _ HB5.out) ?_
    clear hK K hb5 HS0
    have HS0 := hidb (HSA4.out w5 HB5.out)
    simp only [Act.put, List.setIfInBounds_toArray, List.set_cons_zero, List.set_cons_succ]
    refine wpAnyD_takeG (i := 13) (v := ?wvt13) rfl (by kernel_rfl) (by kernel_rfl) (by kernel_rfl) (by kernel_rfl) (fun _ _ _ h => Exit.noConfusion h.1) HS0.out (by kernel_rfl) ?wyt13 ?_
    case wyt13 => intro wy hSw; obtain ⟨z0, z1, z2, z3, z4, z5, z6, z7, z8, z9⟩ := hSw; go_simp; try with_reducible rfl
    simp only [Act.put, List.setIfInBounds_toArray, List.set_cons_zero, List.set_cons_succ]
    refine wpAnyD_takeG (i := 14) (v := ?wvt14) rfl (by kernel_rfl) (by kernel_rfl) (by kernel_rfl) (by kernel_rfl) (fun _ _ _ h => Exit.noConfusion h.1) HS0.out (by kernel_rfl) ?wyt14 ?_
    case wyt14 => intro wy hSw; obtain ⟨z0, z1, z2, z3, z4, z5, z6, z7, z8, z9⟩ := hSw; go_simp; try with_reducible rfl
    simp only [Act.put, List.setIfInBounds_toArray, List.set_cons_zero, List.set_cons_succ]
    refine wpAnyD_takeL (i := 15) (v := ?wvt15) rfl (by kernel_rfl) (by kernel_rfl) (by kernel_rfl) (by kernel_rfl) (fun _ _ _ h => Exit.noConfusion h.1) HS0.out rfl ?wyt15 ?_
    case wyt15 => intro wy hSw; obtain ⟨z0, z1, z2, z3, z4, z5, z6, z7, z8, z9⟩ := hSw; go_simp; try with_reducible rfl
    simp only [Act.put, List.setIfInBounds_toArray, List.set_cons_zero, List.set_cons_succ]
    refine wpAnyD_takeL (i := 16) (v := ?wvt16) rfl (by kernel_rfl) (by kernel_rfl) (by kernel_rfl) (by kernel_rfl) (fun _ _ _ h => Exit.noConfusion h.1) HS0.out rfl ?wyt16 ?_
    case wyt16 => intro wy hSw; obtain ⟨z0, z1, z2, z3, z4, z5, z6, z7, z8, z9⟩ := hSw; go_simp; try with_reducible rfl
    simp only [Act.put, List.setIfInBounds_toArray, List.set_cons_zero, List.set_cons_succ]
    refine wpAnyD_takeG (i := 17) (v := ?wvt17) rfl (by kernel_rfl) (by kernel_rfl) (by kernel_rfl) (by kernel_rfl) (fun _ _ _ h => Exit.noConfusion h.1) HS0.out (by kernel_rfl) ?wyt17 ?_
    case wyt17 => intro wy hSw; obtain ⟨z0, z1, z2, z3, z4, z5, z6, z7, z8, z9⟩ := hSw; go_simp; try with_reducible rfl
    simp only [Act.put, List.setIfInBounds_toArray, List.set_cons_zero, List.set_cons_succ]
    refine wpAnyD_takeG (i := 18) (v := ?wvt18) rfl (by kernel_rfl) (by kernel_rfl) (by kernel_rfl) (by kernel_rfl) (fun _ _ _ h => Exit.noConfusion h.1) HS0.out (by kernel_rfl) ?wyt18 ?_
    case wyt18 => intro wy hSw; obtain ⟨z0, z1, z2, z3, z4, z5, z6, z7, z8, z9⟩ := hSw; go_simp; try with_reducible rfl
    simp only [Act.put, List.setIfInBounds_toArray, List.set_cons_zero, List.set_cons_succ]
    refine wpAnyD_takeG (i := 19) (v := ?wvt19) rfl (by kernel_rfl) (by kernel_rfl) (by kernel_rfl) (by kernel_rfl) (fun _ _ _ h => Exit.noConfusion h.1) HS0.out (by kernel_rfl) ?wyt19 ?_
    case wyt19 => intro wy hSw; obtain ⟨z0, z1, z2, z3, z4, z5, z6, z7, z8, z9⟩ := hSw; go_simp; try with_reducible rfl
    simp only [Act.put, List.setIfInBounds_toArray, List.set_cons_zero, List.set_cons_succ]
    refine wpAnyD_takeG (i := 20) (v := ?wvt20) rfl (by kernel_rfl) (by kernel_rfl) (by kernel_rfl) (by kernel_rfl) (fun _ _ _ h => Exit.noConfusion h.1) HS0.out (by kernel_rfl) ?wyt20 ?_
    case wyt20 => intro wy hSw; obtain ⟨z0, z1, z2, z3, z4, z5, z6, z7, z8, z9⟩ := hSw; go_simp; try with_reducible rfl
    simp only [Act.put, List.setIfInBounds_toArray, List.set_cons_zero, List.set_cons_succ]
    refine wpAnyD_takeG (i := 21) (v := ?wvt21) rfl (by kernel_rfl) (by kernel_rfl) (by kernel_rfl) (by kernel_rfl) (fun _ _ _ h => Exit.noConfusion h.1) HS0.out (by kernel_rfl) ?wyt21 ?_
    case wyt21 => intro wy hSw; obtain ⟨z0, z1, z2, z3, z4, z5, z6, z7, z8, z9⟩ := hSw; go_simp; try with_reducible rfl
    simp only [Act.put, List.setIfInBounds_toArray, List.set_cons_zero, List.set_cons_succ]
    refine wpAnyD_takeL (i := 22) (v := ?wvt22) rfl (by kernel_rfl) (by kernel_rfl) (by kernel_rfl) (by kernel_rfl) (fun _ _ _ h => Exit.noConfusion h.1) HS0.out rfl ?wyt22 ?_
    case wyt22 => intro wy hSw; obtain ⟨z0, z1, z2, z3, z4, z5, z6, z7, z8, z9⟩ := hSw; go_simp; try with_reducible rfl
    simp only [Act.put, List.setIfInBounds_toArray, List.set_cons_zero, List.set_cons_succ]
    refine wpAnyD_done (by kernel_rfl) ?_ _
    clear HS0
    exact ⟨rfl, _, _, _, _, _, _, _, _, _, _, _, _, _, _, _, _, _, _, _, _, _, _, rfl, HB5.out⟩
end
end Go.Proofs.YtajadhkpadkikaaGreatDoor


/- BifPlaces: two terms of the rows held against each other. -/
namespace Go.Proofs.YtajadhkpadkikaaGreatDoor
open Go.RowKit Go.Lib Go.Deep
attribute [local go_sem] store_float f64bits store_func store_nilFunc
attribute [local go_sem ↓] Go.wp_at_zero Go.wp_at_succ

section
variable {t0 t1 t2 t3 t4 t5 t6 t7 t8 t9 t10 t11 t12 t13 t14 t15 t16 t17 t18 t19 t20 t21 t22 t23 t24 t25 t26 t27 t28 t29 t30 t31 t32 t33 t34 t35 t36 t37 t38 t39 t40 t41 t42 t43 t44 t45 t46 t47 t48 t49 t50 t51 t52 t53 t54 t55 t56 t57 t58 t59 t60 t61 t62 t63 t64 t65 t66 t67 t68 t69 t70 t71 t72 t73 t74 t75 t76 t77 t78 t79 t80 t81 t82 t83 t84 t85 t86 t87 t88 t89 t90 t91 t92 t93 t94 t95 t96 t97 t98 t99 t100 t101 t102 t103 t104 t105 t106 t107 t108 t109 t110 t111 t112 t113 t114 t115 t116 t117 t118 : Value}
set_option maxHeartbeats 16000000 in
set_option maxRecDepth 100000 in
theorem plTwA {wr : World} {dfs : List Deferred} {m xb sl sc b2 o2 x5 : Nat} {k1 n1 : Int} {f1 : Nat} {s1 : ByteArray} {a1 : Option Addr} {M1 c1 : Nat} {k2 n2 : Int} {f2 : Nat} {s2 : ByteArray} {a2 : Option Addr} {M2 c2 : Nat} (HSA : Hid (∀ W9, Below wr.heap.size wr W9 → (fun W9 => W9.cell? ⟨xb, 4, none⟩ = some (.slice (some ⟨b2, o2, none⟩) sl sc) ∧ W9.cell? ⟨b2, o2 + m * 5, none⟩ = some (.int .i64 k1) ∧ W9.cell? ⟨b2, o2 + m * 5 + 1, none⟩ = some (.int .i64 n1) ∧ W9.cell? ⟨b2, o2 + m * 5 + 2, none⟩ = some (.float .f64 f1) ∧ W9.cell? ⟨b2, o2 + m * 5 + 3, none⟩ = some (.string s1) ∧ W9.cell? ⟨b2, o2 + m * 5 + 4, none⟩ = some (.slice a1 M1 c1) ∧ W9.cell? ⟨x5, 0, none⟩ = some (.int .i64 k2) ∧ W9.cell? ⟨x5, 1, none⟩ = some (.int .i64 n2) ∧ W9.cell? ⟨x5, 2, none⟩ = some (.float .f64 f2) ∧ W9.cell? ⟨x5, 3, none⟩ = some (.string s2) ∧ W9.cell? ⟨x5, 4, none⟩ = some (.slice a2 M2 c2)) W9)) (TX : Hid (∀ W, Below wr.heap.size wr W → Calls Tryz.prog 10 #[.agg #[.int .i64 k1, .int .i64 n1, .float .f64 f1, .string s1, .slice a1 M1 c1], .agg #[.int .i64 k2, .int .i64 n2, .float .f64 f2, .string s2, .slice a2 M2 c2]] W fun e w' => e = .returned (.bool true) ∧ Below W.heap.size W w')) (e1 : (m : Int) < (sl : Int)) (e2 : (0 : Int) ≤ (m : Int)) :
    (Code.region 21 #[{ dst := some 100, op := Op.fieldAddr 25 (Operand.tmp 8) 4, type := 0, pos := "more.go:64", after := #[], guard := none }, { dst := some 101, op := Op.load 23 (Operand.tmp 100), type := 23, pos := "more.go:64", after := #[{ on := 0, ground := Ground.data }], guard := none }, { dst := some 102, op := Op.move (Operand.tmp 13), type := 3, pos := "more.go:64", after := #[], guard := none }, { dst := some 103, op := Op.indexAddr 23 (Operand.tmp 101) (Operand.tmp 102), type := 0, pos := "more.go:64", after := #[{ on := 1, ground := Ground.data }, { on := 2, ground := Ground.data }], guard := none }, { dst := some 104, op := Op.load 25 (Operand.tmp 103), type := 25, pos := "more.go:64", after := #[{ on := 3, ground := Ground.data }], guard := none }, { dst := some 105, op := Op.load 25 (Operand.tmp 5), type := 25, pos := "more.go:64", after := #[], guard := none }, { dst := some 106, op := Op.call { callee := Callee.value (Operand.func 10), args := #[Operand.tmp 104, Operand.tmp 105], argTypes := #[25, 25] }, type := 4, pos := "more.go:64", after := #[{ on := 4, ground := Ground.data }, { on := 5, ground := Ground.data }], guard := none }, { dst := some 107, op := Op.unOp UnOp.not 4 (Operand.tmp 106), type := 4, pos := "more.go:64", after := #[{ on := 6, ground := Ground.data }], guard := none }] true).wp Tryz.prog (fun ex a9 w9 => ex = .normal ∧ ∃ u100 u101 u102 u103 u104 u105 u106 : Value, a9 = ⟨#[t0, t1, t2, t3, t4, .pointer (some ⟨x5, 0, none⟩), t6, t7, .pointer (some ⟨xb, 0, none⟩), t9, t10, t11, t12, .int .i64 (m : Int), t14, t15, t16, t17, t18, t19, t20, t21, t22, t23, t24, t25, t26, t27, t28, t29, t30, t31, t32, t33, t34, t35, t36, t37, t38, t39, t40, t41, t42, t43, t44, t45, t46, t47, t48, t49, t50, t51, t52, t53, t54, t55, t56, t57, t58, t59, t60, t61, t62, t63, t64, t65, t66, t67, t68, t69, t70, t71, t72, t73, t74, t75, t76, t77, t78, t79, t80, t81, t82, t83, t84, t85, t86, t87, t88, t89, t90, t91, t92, t93, t94, t95, t96, t97, t98, t99, u100, u101, u102, u103, u104, u105, u106, .bool false, t108, t109, t110, t111, t112, t113, t114, t115, t116, t117, t118], dfs⟩ ∧ Below wr.heap.size wr w9) ⟨#[t0, t1, t2, t3, t4, .pointer (some ⟨x5, 0, none⟩), t6, t7, .pointer (some ⟨xb, 0, none⟩), t9, t10, t11, t12, .int .i64 (m : Int), t14, t15, t16, t17, t18, t19, t20, t21, t22, t23, t24, t25, t26, t27, t28, t29, t30, t31, t32, t33, t34, t35, t36, t37, t38, t39, t40, t41, t42, t43, t44, t45, t46, t47, t48, t49, t50, t51, t52, t53, t54, t55, t56, t57, t58, t59, t60, t61, t62, t63, t64, t65, t66, t67, t68, t69, t70, t71, t72, t73, t74, t75, t76, t77, t78, t79, t80, t81, t82, t83, t84, t85, t86, t87, t88, t89, t90, t91, t92, t93, t94, t95, t96, t97, t98, t99, t100, t101, t102, t103, t104, t105, t106, t107, t108, t109, t110, t111, t112, t113, t114, t115, t116, t117, t118], dfs⟩ wr := by
  refine wp_region_D (fun W9 => W9.cell? ⟨xb, 4, none⟩ = some (.slice (some ⟨b2, o2, none⟩) sl sc) ∧ W9.cell? ⟨b2, o2 + m * 5, none⟩ = some (.int .i64 k1) ∧ W9.cell? ⟨b2, o2 + m * 5 + 1, none⟩ = some (.int .i64 n1) ∧ W9.cell? ⟨b2, o2 + m * 5 + 2, none⟩ = some (.float .f64 f1) ∧ W9.cell? ⟨b2, o2 + m * 5 + 3, none⟩ = some (.string s1) ∧ W9.cell? ⟨b2, o2 + m * 5 + 4, none⟩ = some (.slice a1 M1 c1) ∧ W9.cell? ⟨x5, 0, none⟩ = some (.int .i64 k2) ∧ W9.cell? ⟨x5, 1, none⟩ = some (.int .i64 n2) ∧ W9.cell? ⟨x5, 2, none⟩ = some (.float .f64 f2) ∧ W9.cell? ⟨x5, 3, none⟩ = some (.string s2) ∧ W9.cell? ⟨x5, 4, none⟩ = some (.slice a2 M2 c2)) [] (by kernel_rfl) ?_
  have hbd : Below wr.heap.size wr wr.drew := (Below.refl _ _).drew
  generalize wr.drew = wd at hbd ⊢
  have HBwd := hidb hbd
  have HS0 := hidb (HSA.out wd hbd)
  clear hbd
  refine wpAnyD_takeL (i := 0) (v := ?wvb0) rfl (by kernel_rfl) (by kernel_rfl) (by kernel_rfl) (by kernel_rfl) (fun _ _ _ h => Exit.noConfusion h.1) HS0.out rfl ?wyb0 ?_
  case wyb0 => intro wy hSw; obtain ⟨z0, z1, z2, z3, z4, z5, z6, z7, z8, z9, z10⟩ := hSw; go_simp; try with_reducible rfl
  simp only [Act.put, List.setIfInBounds_toArray, List.set_cons_zero, List.set_cons_succ]
  refine wpAnyD_takeL (i := 1) (v := ?wvb1) rfl (by kernel_rfl) (by kernel_rfl) (by kernel_rfl) (by kernel_rfl) (fun _ _ _ h => Exit.noConfusion h.1) HS0.out rfl ?wyb1 ?_
  case wyb1 => intro wy hSw; obtain ⟨z0, z1, z2, z3, z4, z5, z6, z7, z8, z9, z10⟩ := hSw; go_simp; try with_reducible rfl
  simp only [Act.put, List.setIfInBounds_toArray, List.set_cons_zero, List.set_cons_succ]
  refine wpAnyD_takeL (i := 2) (v := ?wvb2) rfl (by kernel_rfl) (by kernel_rfl) (by kernel_rfl) (by kernel_rfl) (fun _ _ _ h => Exit.noConfusion h.1) HS0.out rfl ?wyb2 ?_
  case wyb2 => intro wy hSw; obtain ⟨z0, z1, z2, z3, z4, z5, z6, z7, z8, z9, z10⟩ := hSw; go_simp; try with_reducible rfl
  simp only [Act.put, List.setIfInBounds_toArray, List.set_cons_zero, List.set_cons_succ]
  refine wpAnyD_takeL (i := 3) (v := ?wvb3) rfl (by kernel_rfl) (by kernel_rfl) (by kernel_rfl) (by kernel_rfl) (fun _ _ _ h => Exit.noConfusion h.1) HS0.out rfl ?wyb3 ?_
  case wyb3 => intro wy hSw; obtain ⟨z0, z1, z2, z3, z4, z5, z6, z7, z8, z9, z10⟩ := hSw; go_simp; try with_reducible rfl
  simp only [Act.put, List.setIfInBounds_toArray, List.set_cons_zero, List.set_cons_succ]
  refine wpAnyD_takeL (i := 4) (v := ?wvb4) rfl (by kernel_rfl) (by kernel_rfl) (by kernel_rfl) (by kernel_rfl) (fun _ _ _ h => Exit.noConfusion h.1) HS0.out rfl ?wyb4 ?_
  case wyb4 => intro wy hSw; obtain ⟨z0, z1, z2, z3, z4, z5, z6, z7, z8, z9, z10⟩ := hSw; go_simp; try with_reducible rfl
  simp only [Act.put, List.setIfInBounds_toArray, List.set_cons_zero, List.set_cons_succ]
  refine wpAnyD_takeL (i := 5) (v := ?wvb5) rfl (by kernel_rfl) (by kernel_rfl) (by kernel_rfl) (by kernel_rfl) (fun _ _ _ h => Exit.noConfusion h.1) HS0.out rfl ?wyb5 ?_
  case wyb5 => intro wy hSw; obtain ⟨z0, z1, z2, z3, z4, z5, z6, z7, z8, z9, z10⟩ := hSw; go_simp; try with_reducible rfl
  simp only [Act.put, List.setIfInBounds_toArray, List.set_cons_zero, List.set_cons_succ]
  refine wpAnyD_stepL (i := 6) (by kernel_rfl) rfl (fun K hK => ?_)
  refine step_callB (by kernel_rfl) (run_call ent_twin #[.tmp 104, .tmp 105] _ rfl #[.agg #[.int .i64 k1, .int .i64 n1, .float .f64 f1, .string s1, .slice a1 M1 c1], .agg #[.int .i64 k2, .int .i64 n2, .float .f64 f2, .string s2, .slice a2 M2 c2]] rfl) (TX.out wd HBwd.out) ?_
  rintro e w5 ⟨rfl, hb5⟩
  have HB5 := hidb (HBwd.out.trans (hb5.mono HBwd.out.size))
  refine hK _ _ (fun _ => HSA.out _ HB5.out) ?_
  clear hK K hb5 HS0
  have HS0 := hidb (HSA.out w5 HB5.out)
  simp only [Act.put, List.setIfInBounds_toArray, List.set_cons_zero, List.set_cons_succ]
  refine wpAnyD_takeL (i := 7) (v := ?wvc7) rfl (by kernel_rfl) (by kernel_rfl) (by kernel_rfl) (by kernel_rfl) (fun _ _ _ h => Exit.noConfusion h.1) HS0.out rfl ?wyc7 ?_
  case wyc7 => intro wy hSw; obtain ⟨z0, z1, z2, z3, z4, z5, z6, z7, z8, z9, z10⟩ := hSw; go_simp; try with_reducible rfl
  simp only [Act.put, List.setIfInBounds_toArray, List.set_cons_zero, List.set_cons_succ]
  refine wpAnyD_done (by kernel_rfl) ?_ _
  exact ⟨rfl, _, _, _, _, _, _, _, rfl, HB5.out⟩
end
end Go.Proofs.YtajadhkpadkikaaGreatDoor


