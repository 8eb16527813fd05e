import Derived.Test.YtajadhkpadkikaaGreatDoorG40
import Derived.Test.YtajadhkpadkikaaGreatDoorG37
/- BifPlaces: a round of the loop over the places. -/
namespace Go.Proofs.YtajadhkpadkikaaGreatDoor
open Go.RowKit Go.Lib Go.Deep
attribute [local go_sem] store_float f64bits store_func store_nilFunc
attribute [local go_sem ↓] Go.wp_at_zero Go.wp_at_succ

section
variable {t0 t1 t2 t3 t4 t5 t6 t7 t8 t9 t10 t11 t12 t13 t14 t15 t16 t17 t18 t19 t20 t21 t22 t23 t24 t25 t26 t27 t28 t29 t30 t31 t32 t33 t34 t35 t36 t37 t38 t39 t40 t41 t42 t43 t44 t45 t46 t47 t48 t49 t50 t51 t52 t53 t54 t55 t56 t57 t58 t59 t60 t61 t62 t63 t64 t65 t66 t67 t68 t69 t70 t71 t72 t73 t74 t75 t76 t77 t78 t79 t80 t81 t82 t83 t84 t85 t86 t87 t88 t89 t90 t91 t92 t93 t94 t95 t96 t97 t98 t99 t100 t101 t102 t103 t104 t105 t106 t107 t108 t109 t110 t111 t112 t113 t114 t115 t116 t117 t118 : Value}
set_option maxHeartbeats 16000000 in
set_option maxRecDepth 100000 in
theorem plCaseA {K : Act → World → Prop} {Q0 : Exit → Act → World → Prop} {w wr : World} {dfs : List Deferred} {n : Int} {m j c b1 o1 xb sl Lx : Nat} {ks KS : List Tr} {kx nx : Int} {fx : Nat} {sx : ByteArray} {ax : Option Addr} {cx : Nat} {ksx : List Tr} {sk sn : Int} {sf : Nat} {ss : ByteArray} {sa : Option Addr} {sc : Nat}
    (HIN : Hid ((Tr.mk 7 0 0 ⟨#[]⟩ (some ⟨b1, o1, none⟩) c ks).In w 0)) (HIX : Hid ((Tr.mk kx nx fx sx ax cx ksx).In w 0)) (HL : Hid (ks.length = sl)) (HLx : Hid (ksx.length = Lx)) (HLE : Hid (sl ≤ 200)) (HJ : Hid (n - 1 = (j : Int) ∧ j < sl)) (HKL : Hid (KS.length = sl)) (HKS : Hid (∀ (m : Nat) (t : Tr), KS[m]? = some t → ∃ u : Tr, (ks.set j (.mk kx nx fx sx ax cx ksx))[m]? = some u ∧ Sm t u)) (HKI : Hid ((Tr.mk sk sn sf ss sa sc KS).In wr 0)) (HXS : Hid (Box wr xb (.int .i64 sk) (.int .i64 sn) (.float .f64 sf) (.string ss) (.slice sa sl sc))) (HX : Hid (Box wr w.heap.size (.int .i64 kx) (.int .i64 nx) (.float .f64 fx) (.string sx) (.slice ax Lx cx))) (HBW : Hid (Below w.heap.size w wr)) (hml : m < sl) (hmj : m = j)
    (hk : ∀ (u6 u13 u90 u91 u92 u93 u94 u95 u96 u97 u98 u99 u100 u101 u102 u103 u104 u105 u106 u107 u108 u109 u110 u111 u112 u113 u114 u115 u116 u117 u118 : Value) (W : World), u13 = .int .i64 ((m + 1 : Nat) : Int) → Below wr.heap.size wr W → K ⟨#[.slice (some ⟨b1, o1, none⟩) sl c, .int .i64 n, t2, t3, t4, .pointer (some ⟨w.heap.size, 0, none⟩), u6, t7, .pointer (some ⟨xb, 0, none⟩), t9, t10, t11, t12, u13, t14, t15, t16, t17, t18, t19, t20, t21, t22, t23, t24, t25, t26, t27, t28, t29, t30, t31, t32, t33, t34, t35, t36, t37, t38, t39, t40, t41, t42, t43, t44, t45, t46, t47, t48, t49, t50, t51, t52, t53, t54, t55, t56, t57, t58, t59, t60, t61, t62, t63, t64, t65, t66, t67, t68, t69, t70, t71, t72, t73, t74, t75, t76, t77, t78, t79, t80, t81, t82, t83, t84, t85, t86, t87, t88, t89, u90, u91, u92, u93, u94, u95, u96, u97, u98, u99, u100, u101, u102, u103, u104, u105, u106, u107, u108, u109, u110, u111, u112, u113, u114, u115, u116, u117, u118], dfs⟩ W) :
    (((Code.region 18 #[{ dst := some 90, op := Op.move (Operand.tmp 13), type := 3, pos := "more.go:62", after := #[], guard := none }, { dst := some 91, op := Op.move (Operand.tmp 0), type := 23, pos := "more.go:62", after := #[], guard := none }, { dst := some 92, op := Op.call { callee := Callee.builtin Builtin.len, args := #[Operand.tmp 91], argTypes := #[23] }, type := 3, pos := "more.go:62", after := #[{ on := 1, ground := Ground.data }], guard := none }, { dst := some 93, op := Op.binOp BinOp.lss 3 (Operand.tmp 90) (Operand.tmp 92) 3, type := 4, pos := "more.go:62", after := #[{ on := 0, ground := Ground.data }, { on := 2, ground := Ground.data }], guard := none }] false).seq (Code.cond (Operand.tmp 93) Code.skip (Code.exit 0))).seq ((Code.block 1 ((Code.region 20 #[{ dst := some 96, op := Op.move (Operand.tmp 13), type := 3, pos := "more.go:63", after := #[], guard := none }, { dst := some 97, op := Op.binOp BinOp.add 3 (Operand.tmp 96) (Operand.const (Value.int IntKind.i64 1)) 3, type := 3, pos := "more.go:63", after := #[{ on := 0, ground := Ground.data }], guard := none }, { dst := some 98, op := Op.move (Operand.tmp 1), type := 3, pos := "more.go:63", after := #[], guard := none }, { dst := some 99, op := Op.binOp BinOp.eql 3 (Operand.tmp 97) (Operand.tmp 98) 3, type := 4, pos := "more.go:63", after := #[{ on := 1, ground := Ground.data }, { on := 2, ground := Ground.data }], guard := none }] false).seq (Code.cond (Operand.tmp 99) ((Code.region 21 #[{ dst := some 100, op := Op.fieldAddr 25 (Operand.tmp 8) 4, type := 0, pos := "more.go:64", after := #[], guard := none }, { dst := some 101, op := Op.load 23 (Operand.tmp 100), type := 23, pos := "more.go:64", after := #[{ on := 0, ground := Ground.data }], guard := none }, { dst := some 102, op := Op.move (Operand.tmp 13), type := 3, pos := "more.go:64", after := #[], guard := none }, { dst := some 103, op := Op.indexAddr 23 (Operand.tmp 101) (Operand.tmp 102), type := 0, pos := "more.go:64", after := #[{ on := 1, ground := Ground.data }, { on := 2, ground := Ground.data }], guard := none }, { dst := some 104, op := Op.load 25 (Operand.tmp 103), type := 25, pos := "more.go:64", after := #[{ on := 3, ground := Ground.data }], guard := none }, { dst := some 105, op := Op.load 25 (Operand.tmp 5), type := 25, pos := "more.go:64", after := #[], guard := none }, { dst := some 106, op := Op.call { callee := Callee.value (Operand.func 10), args := #[Operand.tmp 104, Operand.tmp 105], argTypes := #[25, 25] }, type := 4, pos := "more.go:64", after := #[{ on := 4, ground := Ground.data }, { on := 5, ground := Ground.data }], guard := none }, { dst := some 107, op := Op.unOp UnOp.not 4 (Operand.tmp 106), type := 4, pos := "more.go:64", after := #[{ on := 6, ground := Ground.data }], guard := none }] true).seq (Code.cond (Operand.tmp 107) ((Code.region 22 #[{ dst := some 6, op := Op.assign (Operand.const (Value.bool false)), type := 4, pos := "more.go:65", after := #[], guard := none }] false).seq Code.ret) Code.skip)) ((Code.region 23 #[{ dst := some 108, op := Op.fieldAddr 25 (Operand.tmp 8) 4, type := 0, pos := "more.go:67", after := #[], guard := none }, { dst := some 109, op := Op.load 23 (Operand.tmp 108), type := 23, pos := "more.go:67", after := #[{ on := 0, ground := Ground.data }], guard := none }, { dst := some 110, op := Op.move (Operand.tmp 13), type := 3, pos := "more.go:67", after := #[], guard := none }, { dst := some 111, op := Op.indexAddr 23 (Operand.tmp 109) (Operand.tmp 110), type := 0, pos := "more.go:67", after := #[{ on := 1, ground := Ground.data }, { on := 2, ground := Ground.data }], guard := none }, { dst := some 112, op := Op.load 25 (Operand.tmp 111), type := 25, pos := "more.go:67", after := #[{ on := 3, ground := Ground.data }], guard := none }, { dst := some 113, op := Op.move (Operand.tmp 0), type := 23, pos := "more.go:67", after := #[], guard := none }, { dst := some 114, op := Op.move (Operand.tmp 13), type := 3, pos := "more.go:67", after := #[], guard := none }, { dst := some 115, op := Op.indexAddr 23 (Operand.tmp 113) (Operand.tmp 114), type := 0, pos := "more.go:67", after := #[{ on := 5, ground := Ground.data }, { on := 6, ground := Ground.data }], guard := none }, { dst := some 116, op := Op.load 25 (Operand.tmp 115), type := 25, pos := "more.go:67", after := #[{ on := 7, ground := Ground.data }], guard := none }, { dst := some 117, op := Op.call { callee := Callee.value (Operand.func 10), args := #[Operand.tmp 112, Operand.tmp 116], argTypes := #[25, 25] }, type := 4, pos := "more.go:67", after := #[{ on := 4, ground := Ground.data }, { on := 8, ground := Ground.data }], guard := none }, { dst := some 118, op := Op.unOp UnOp.not 4 (Operand.tmp 117), type := 4, pos := "more.go:67", after := #[{ on := 9, ground := Ground.data }], guard := none }] true).seq (Code.cond (Operand.tmp 118) ((Code.region 24 #[{ dst := some 6, op := Op.assign (Operand.const (Value.bool false)), type := 4, pos := "more.go:68", after := #[], guard := none }] false).seq Code.ret) Code.skip))))).seq (Code.region 19 #[{ dst := some 94, op := Op.move (Operand.tmp 13), type := 3, pos := "more.go:62", after := #[], guard := none }, { dst := some 95, op := Op.binOp BinOp.add 3 (Operand.tmp 94) (Operand.const (Value.int IntKind.i64 1)) 3, type := 3, pos := "more.go:62", after := #[{ on := 0, ground := Ground.data }], guard := none }, { dst := some 13, op := Op.assign (Operand.tmp 95), type := 3, pos := "more.go:62", after := #[{ on := 1, ground := Ground.data }, { on := 0, ground := Ground.phase }, { on := 1, ground := Ground.phase }], guard := none }] false))).wp Tryz.prog (Exit.then K Q0) ⟨#[.slice (some ⟨b1, o1, none⟩) sl c, .int .i64 n, t2, t3, t4, .pointer (some ⟨w.heap.size, 0, none⟩), t6, t7, .pointer (some ⟨xb, 0, none⟩), t9, t10, t11, t12, .int .i64 (m : Int), t14, t15, t16, t17, t18, t19, t20, t21, t22, t23, t24, t25, t26, t27, t28, t29, t30, t31, t32, t33, t34, t35, t36, t37, t38, t39, t40, t41, t42, t43, t44, t45, t46, t47, t48, t49, t50, t51, t52, t53, t54, t55, t56, t57, t58, t59, t60, t61, t62, t63, t64, t65, t66, t67, t68, t69, t70, t71, t72, t73, t74, t75, t76, t77, t78, t79, t80, t81, t82, t83, t84, t85, t86, t87, t88, t89, t90, t91, t92, t93, t94, t95, t96, t97, t98, t99, t100, t101, t102, t103, t104, t105, t106, t107, t108, t109, t110, t111, t112, t113, t114, t115, t116, t117, t118], dfs⟩ wr := by
  have HK := hidb hk
  clear hk
  dsimp only
  subst hmj
  have _ := HIN
  have hmb : (m : Int) < (sl : Int) := by omega
  have hmz : (0 : Int) ≤ (m : Int) := by omega
  have hmw : wrap64 ((m : Int) + 1) = (m : Int) + 1 := by have := HLE.out; unfold wrap64; omega
  have hin5 := HKI.out
  obtain ⟨b2, o2, rfl, hat⟩ := kid_at hin5 (by have := HKL.out; omega)
  obtain ⟨k1, n1', f1, s1', a1, c1, ks1, hu1, hin1, v0, v1, v2, v3, v4⟩ := hat m (by have := HKL.out; omega)
  obtain ⟨u, hu, hsm⟩ := HKS.out m _ hu1
  obtain ⟨M1, hM1⟩ : ∃ M1, ks1.length = M1 := ⟨_, rfl⟩
  rw [hM1] at v4
  have hbd : Below wr.heap.size wr wr.drew := (Below.refl _ _).drew
  have hux : u = .mk kx nx fx sx ax cx ksx := by
    have h2 := HL.out
    rw [List.getElem?_set_self (by omega)] at hu
    exact (Option.some.inj hu).symm
  subst hux
  have HSA : Hid (∀ W9, Below wr.heap.size wr W9 → (fun W9 => W9.cell? ⟨xb, 4, none⟩ = some (.slice (some ⟨b2, o2, none⟩) sl sc) ∧ W9.cell? ⟨b2, o2 + m * 5, none⟩ = some (.int .i64 k1) ∧ W9.cell? ⟨b2, o2 + m * 5 + 1, none⟩ = some (.int .i64 n1') ∧ W9.cell? ⟨b2, o2 + m * 5 + 2, none⟩ = some (.float .f64 f1) ∧ W9.cell? ⟨b2, o2 + m * 5 + 3, none⟩ = some (.string s1') ∧ W9.cell? ⟨b2, o2 + m * 5 + 4, none⟩ = some (.slice a1 M1 c1) ∧ W9.cell? ⟨w.heap.size, 0, none⟩ = some (.int .i64 kx) ∧ W9.cell? ⟨w.heap.size, 1, none⟩ = some (.int .i64 nx) ∧ W9.cell? ⟨w.heap.size, 2, none⟩ = some (.float .f64 fx) ∧ W9.cell? ⟨w.heap.size, 3, none⟩ = some (.string sx) ∧ W9.cell? ⟨w.heap.size, 4, none⟩ = some (.slice ax Lx cx)) W9) := hidb (fun W9 hb => by
    have cl : ∀ (p : Addr) (v : Value), wr.cell? p = some v → W9.cell? p = some v := fun p v hv => (hb.cell (World.block_lt_of_cell? _ _ hv)).trans hv
    obtain ⟨⟨s0, s1, s2, s3, s4⟩, -, -⟩ := Box.six (HXS.out.keep hb)
    obtain ⟨⟨x0, x1, x2, x3, x4⟩, -, -⟩ := Box.six (HX.out.keep hb)
    exact ⟨s4, cl _ _ v0, cl _ _ v1, cl _ _ v2, cl _ _ v3, cl _ _ v4, x0, x1, x2, x3, x4⟩)
  have TX : Hid (∀ W, Below wr.heap.size wr W → Calls Tryz.prog 10 #[.agg #[.int .i64 k1, .int .i64 n1', .float .f64 f1, .string s1', .slice a1 M1 c1], .agg #[.int .i64 kx, .int .i64 nx, .float .f64 fx, .string sx, .slice ax Lx cx]] W fun e w' => e = .returned (.bool true) ∧ Below W.heap.size W w') := hidb (fun W hW => by
    have := twin_same _ _ hsm W (in_below hW hin1) (in_below (HBW.out.trans (hW.mono HBW.out.size)) HIX.out)
    simp only [Tr.val, Tr.cells] at this
    rw [hM1, HLx.out] at this
    exact this)
  obtain rfl : n = (m : Int) + 1 := by have := HJ.out.1; omega
  have hnb : ((m : Int) + 1 == (m : Int) + 1) = true := by simp
  clear hat hu1 hin1 hu hsm hbd hin5 hM1 v0 v1 v2 v3 v4
  go_wp2_with fail
  refine Code.wp_mono (fun ex a9 wz hr => ?_) (plTwA HSA TX hmb hmz)
  obtain ⟨rfl, u100, u101, u102, u103, u104, u105, u106, rfl, hbz⟩ := hr
  have HBQ := hidb hbz
  clear hbz HSA TX
  go_wp2_with fail
  exact HK.out _ _ _ _ _ _ _ _ _ _ _ _ _ _ _ _ _ _ _ _ _ _ _ _ _ _ _ _ _ _ _ _ (by go_num) HBQ.out
end
end Go.Proofs.YtajadhkpadkikaaGreatDoor


/- BifPlaces: two terms of the rows held against each other. -/
namespace Go.Proofs.YtajadhkpadkikaaGreatDoor
open Go.RowKit Go.Lib Go.Deep
attribute [local go_sem] store_float f64bits store_func store_nilFunc
attribute [local go_sem ↓] Go.wp_at_zero Go.wp_at_succ

section
variable {t0 t1 t2 t3 t4 t5 t6 t7 t8 t9 t10 t11 t12 t13 t14 t15 t16 t17 t18 t19 t20 t21 t22 t23 t24 t25 t26 t27 t28 t29 t30 t31 t32 t33 t34 t35 t36 t37 t38 t39 t40 t41 t42 t43 t44 t45 t46 t47 t48 t49 t50 t51 t52 t53 t54 t55 t56 t57 t58 t59 t60 t61 t62 t63 t64 t65 t66 t67 t68 t69 t70 t71 t72 t73 t74 t75 t76 t77 t78 t79 t80 t81 t82 t83 t84 t85 t86 t87 t88 t89 t90 t91 t92 t93 t94 t95 t96 t97 t98 t99 t100 t101 t102 t103 t104 t105 t106 t107 t108 t109 t110 t111 t112 t113 t114 t115 t116 t117 t118 : Value}
set_option maxHeartbeats 16000000 in
set_option maxRecDepth 100000 in
theorem plTwB {wr : World} {dfs : List Deferred} {m xb sl sc b2 o2 b1 o1 c : Nat} {k1 n1 : Int} {f1 : Nat} {s1 : ByteArray} {a1 : Option Addr} {M1 c1 : Nat} {k2 n2 : Int} {f2 : Nat} {s2 : ByteArray} {a2 : Option Addr} {M2 c2 : Nat} (HSA : Hid (∀ W9, Below wr.heap.size wr W9 → (fun W9 => W9.cell? ⟨xb, 4, none⟩ = some (.slice (some ⟨b2, o2, none⟩) sl sc) ∧ W9.cell? ⟨b2, o2 + m * 5, none⟩ = some (.int .i64 k1) ∧ W9.cell? ⟨b2, o2 + m * 5 + 1, none⟩ = some (.int .i64 n1) ∧ W9.cell? ⟨b2, o2 + m * 5 + 2, none⟩ = some (.float .f64 f1) ∧ W9.cell? ⟨b2, o2 + m * 5 + 3, none⟩ = some (.string s1) ∧ W9.cell? ⟨b2, o2 + m * 5 + 4, none⟩ = some (.slice a1 M1 c1) ∧ W9.cell? ⟨b1, o1 + m * 5, none⟩ = some (.int .i64 k2) ∧ W9.cell? ⟨b1, o1 + m * 5 + 1, none⟩ = some (.int .i64 n2) ∧ W9.cell? ⟨b1, o1 + m * 5 + 2, none⟩ = some (.float .f64 f2) ∧ W9.cell? ⟨b1, o1 + m * 5 + 3, none⟩ = some (.string s2) ∧ W9.cell? ⟨b1, o1 + m * 5 + 4, none⟩ = some (.slice a2 M2 c2)) W9)) (TX : Hid (∀ W, Below wr.heap.size wr W → Calls Tryz.prog 10 #[.agg #[.int .i64 k1, .int .i64 n1, .float .f64 f1, .string s1, .slice a1 M1 c1], .agg #[.int .i64 k2, .int .i64 n2, .float .f64 f2, .string s2, .slice a2 M2 c2]] W fun e w' => e = .returned (.bool true) ∧ Below W.heap.size W w')) (e1 : (m : Int) < (sl : Int)) (e2 : (0 : Int) ≤ (m : Int)) :
    (Code.region 23 #[{ dst := some 108, op := Op.fieldAddr 25 (Operand.tmp 8) 4, type := 0, pos := "more.go:67", after := #[], guard := none }, { dst := some 109, op := Op.load 23 (Operand.tmp 108), type := 23, pos := "more.go:67", after := #[{ on := 0, ground := Ground.data }], guard := none }, { dst := some 110, op := Op.move (Operand.tmp 13), type := 3, pos := "more.go:67", after := #[], guard := none }, { dst := some 111, op := Op.indexAddr 23 (Operand.tmp 109) (Operand.tmp 110), type := 0, pos := "more.go:67", after := #[{ on := 1, ground := Ground.data }, { on := 2, ground := Ground.data }], guard := none }, { dst := some 112, op := Op.load 25 (Operand.tmp 111), type := 25, pos := "more.go:67", after := #[{ on := 3, ground := Ground.data }], guard := none }, { dst := some 113, op := Op.move (Operand.tmp 0), type := 23, pos := "more.go:67", after := #[], guard := none }, { dst := some 114, op := Op.move (Operand.tmp 13), type := 3, pos := "more.go:67", after := #[], guard := none }, { dst := some 115, op := Op.indexAddr 23 (Operand.tmp 113) (Operand.tmp 114), type := 0, pos := "more.go:67", after := #[{ on := 5, ground := Ground.data }, { on := 6, ground := Ground.data }], guard := none }, { dst := some 116, op := Op.load 25 (Operand.tmp 115), type := 25, pos := "more.go:67", after := #[{ on := 7, ground := Ground.data }], guard := none }, { dst := some 117, op := Op.call { callee := Callee.value (Operand.func 10), args := #[Operand.tmp 112, Operand.tmp 116], argTypes := #[25, 25] }, type := 4, pos := "more.go:67", after := #[{ on := 4, ground := Ground.data }, { on := 8, ground := Ground.data }], guard := none }, { dst := some 118, op := Op.unOp UnOp.not 4 (Operand.tmp 117), type := 4, pos := "more.go:67", after := #[{ on := 9, ground := Ground.data }], guard := none }] true).wp Tryz.prog (fun ex a9 w9 => ex = .normal ∧ ∃ u108 u109 u110 u111 u112 u113 u114 u115 u116 u117 : Value, a9 = ⟨#[.slice (some ⟨b1, o1, none⟩) sl c, t1, t2, t3, t4, t5, t6, t7, .pointer (some ⟨xb, 0, none⟩), t9, t10, t11, t12, .int .i64 (m : Int), t14, t15, t16, t17, t18, t19, t20, t21, t22, t23, t24, t25, t26, t27, t28, t29, t30, t31, t32, t33, t34, t35, t36, t37, t38, t39, t40, t41, t42, t43, t44, t45, t46, t47, t48, t49, t50, t51, t52, t53, t54, t55, t56, t57, t58, t59, t60, t61, t62, t63, t64, t65, t66, t67, t68, t69, t70, t71, t72, t73, t74, t75, t76, t77, t78, t79, t80, t81, t82, t83, t84, t85, t86, t87, t88, t89, t90, t91, t92, t93, t94, t95, t96, t97, t98, t99, t100, t101, t102, t103, t104, t105, t106, t107, u108, u109, u110, u111, u112, u113, u114, u115, u116, u117, .bool false], dfs⟩ ∧ Below wr.heap.size wr w9) ⟨#[.slice (some ⟨b1, o1, none⟩) sl c, t1, t2, t3, t4, t5, t6, t7, .pointer (some ⟨xb, 0, none⟩), t9, t10, t11, t12, .int .i64 (m : Int), t14, t15, t16, t17, t18, t19, t20, t21, t22, t23, t24, t25, t26, t27, t28, t29, t30, t31, t32, t33, t34, t35, t36, t37, t38, t39, t40, t41, t42, t43, t44, t45, t46, t47, t48, t49, t50, t51, t52, t53, t54, t55, t56, t57, t58, t59, t60, t61, t62, t63, t64, t65, t66, t67, t68, t69, t70, t71, t72, t73, t74, t75, t76, t77, t78, t79, t80, t81, t82, t83, t84, t85, t86, t87, t88, t89, t90, t91, t92, t93, t94, t95, t96, t97, t98, t99, t100, t101, t102, t103, t104, t105, t106, t107, t108, t109, t110, t111, t112, t113, t114, t115, t116, t117, t118], dfs⟩ wr := by
  refine wp_region_D (fun W9 => W9.cell? ⟨xb, 4, none⟩ = some (.slice (some ⟨b2, o2, none⟩) sl sc) ∧ W9.cell? ⟨b2, o2 + m * 5, none⟩ = some (.int .i64 k1) ∧ W9.cell? ⟨b2, o2 + m * 5 + 1, none⟩ = some (.int .i64 n1) ∧ W9.cell? ⟨b2, o2 + m * 5 + 2, none⟩ = some (.float .f64 f1) ∧ W9.cell? ⟨b2, o2 + m * 5 + 3, none⟩ = some (.string s1) ∧ W9.cell? ⟨b2, o2 + m * 5 + 4, none⟩ = some (.slice a1 M1 c1) ∧ W9.cell? ⟨b1, o1 + m * 5, none⟩ = some (.int .i64 k2) ∧ W9.cell? ⟨b1, o1 + m * 5 + 1, none⟩ = some (.int .i64 n2) ∧ W9.cell? ⟨b1, o1 + m * 5 + 2, none⟩ = some (.float .f64 f2) ∧ W9.cell? ⟨b1, o1 + m * 5 + 3, none⟩ = some (.string s2) ∧ W9.cell? ⟨b1, o1 + m * 5 + 4, none⟩ = some (.slice a2 M2 c2)) [] (by kernel_rfl) ?_
  have hbd : Below wr.heap.size wr wr.drew := (Below.refl _ _).drew
  generalize wr.drew = wd at hbd ⊢
  have HBwd := hidb hbd
  have HS0 := hidb (HSA.out wd hbd)
  clear hbd
  refine wpAnyD_takeL (i := 0) (v := ?wvb0) rfl (by kernel_rfl) (by kernel_rfl) (by kernel_rfl) (by kernel_rfl) (fun _ _ _ h => Exit.noConfusion h.1) HS0.out rfl ?wyb0 ?_
  case wyb0 => intro wy hSw; obtain ⟨z0, z1, z2, z3, z4, z5, z6, z7, z8, z9, z10⟩ := hSw; go_simp; try with_reducible rfl
  simp only [Act.put, List.setIfInBounds_toArray, List.set_cons_zero, List.set_cons_succ]
  refine wpAnyD_takeL (i := 1) (v := ?wvb1) rfl (by kernel_rfl) (by kernel_rfl) (by kernel_rfl) (by kernel_rfl) (fun _ _ _ h => Exit.noConfusion h.1) HS0.out rfl ?wyb1 ?_
  case wyb1 => intro wy hSw; obtain ⟨z0, z1, z2, z3, z4, z5, z6, z7, z8, z9, z10⟩ := hSw; go_simp; try with_reducible rfl
  simp only [Act.put, List.setIfInBounds_toArray, List.set_cons_zero, List.set_cons_succ]
  refine wpAnyD_takeL (i := 2) (v := ?wvb2) rfl (by kernel_rfl) (by kernel_rfl) (by kernel_rfl) (by kernel_rfl) (fun _ _ _ h => Exit.noConfusion h.1) HS0.out rfl ?wyb2 ?_
  case wyb2 => intro wy hSw; obtain ⟨z0, z1, z2, z3, z4, z5, z6, z7, z8, z9, z10⟩ := hSw; go_simp; try with_reducible rfl
  simp only [Act.put, List.setIfInBounds_toArray, List.set_cons_zero, List.set_cons_succ]
  refine wpAnyD_takeL (i := 3) (v := ?wvb3) rfl (by kernel_rfl) (by kernel_rfl) (by kernel_rfl) (by kernel_rfl) (fun _ _ _ h => Exit.noConfusion h.1) HS0.out rfl ?wyb3 ?_
  case wyb3 => intro wy hSw; obtain ⟨z0, z1, z2, z3, z4, z5, z6, z7, z8, z9, z10⟩ := hSw; go_simp; try with_reducible rfl
  simp only [Act.put, List.setIfInBounds_toArray, List.set_cons_zero, List.set_cons_succ]
  refine wpAnyD_takeL (i := 4) (v := ?wvb4) rfl (by kernel_rfl) (by kernel_rfl) (by kernel_rfl) (by kernel_rfl) (fun _ _ _ h => Exit.noConfusion h.1) HS0.out rfl ?wyb4 ?_
  case wyb4 => intro wy hSw; obtain ⟨z0, z1, z2, z3, z4, z5, z6, z7, z8, z9, z10⟩ := hSw; go_simp; try with_reducible rfl
  simp only [Act.put, List.setIfInBounds_toArray, List.set_cons_zero, List.set_cons_succ]
  refine wpAnyD_takeL (i := 5) (v := ?wvb5) rfl (by kernel_rfl) (by kernel_rfl) (by kernel_rfl) (by kernel_rfl) (fun _ _ _ h => Exit.noConfusion h.1) HS0.out rfl ?wyb5 ?_
  case wyb5 => intro wy hSw; obtain ⟨z0, z1, z2, z3, z4, z5, z6, z7, z8, z9, z10⟩ := hSw; go_simp; try with_reducible rfl
  simp only [Act.put, List.setIfInBounds_toArray, List.set_cons_zero, List.set_cons_succ]
  refine wpAnyD_takeL (i := 6) (v := ?wvb6) rfl (by kernel_rfl) (by kernel_rfl) (by kernel_rfl) (by kernel_rfl) (fun _ _ _ h => Exit.noConfusion h.1) HS0.out rfl ?wyb6 ?_
  case wyb6 => intro wy hSw; obtain ⟨z0, z1, z2, z3, z4, z5, z6, z7, z8, z9, z10⟩ := hSw; go_simp; try with_reducible rfl
  simp only [Act.put, List.setIfInBounds_toArray, List.set_cons_zero, List.set_cons_succ]
  refine wpAnyD_takeL (i := 7) (v := ?wvb7) rfl (by kernel_rfl) (by kernel_rfl) (by kernel_rfl) (by kernel_rfl) (fun _ _ _ h => Exit.noConfusion h.1) HS0.out rfl ?wyb7 ?_
  case wyb7 => intro wy hSw; obtain ⟨z0, z1, z2, z3, z4, z5, z6, z7, z8, z9, z10⟩ := hSw; go_simp; try with_reducible rfl
  simp only [Act.put, List.setIfInBounds_toArray, List.set_cons_zero, List.set_cons_succ]
  refine wpAnyD_takeL (i := 8) (v := ?wvb8) rfl (by kernel_rfl) (by kernel_rfl) (by kernel_rfl) (by kernel_rfl) (fun _ _ _ h => Exit.noConfusion h.1) HS0.out rfl ?wyb8 ?_
  case wyb8 => intro wy hSw; obtain ⟨z0, z1, z2, z3, z4, z5, z6, z7, z8, z9, z10⟩ := hSw; go_simp; try with_reducible rfl
  simp only [Act.put, List.setIfInBounds_toArray, List.set_cons_zero, List.set_cons_succ]
  refine wpAnyD_stepL (i := 9) (by kernel_rfl) rfl (fun K hK => ?_)
  refine step_callB (by kernel_rfl) (run_call ent_twin #[.tmp 112, .tmp 116] _ rfl #[.agg #[.int .i64 k1, .int .i64 n1, .float .f64 f1, .string s1, .slice a1 M1 c1], .agg #[.int .i64 k2, .int .i64 n2, .float .f64 f2, .string s2, .slice a2 M2 c2]] rfl) (TX.out wd HBwd.out) ?_
  rintro e w5 ⟨rfl, hb5⟩
  have HB5 := hidb (HBwd.out.trans (hb5.mono HBwd.out.size))
  refine hK _ _ (fun _ => HSA.out _ HB5.out) ?_
  clear hK K hb5 HS0
  have HS0 := hidb (HSA.out w5 HB5.out)
  simp only [Act.put, List.setIfInBounds_toArray, List.set_cons_zero, List.set_cons_succ]
  refine wpAnyD_takeL (i := 10) (v := ?wvc10) rfl (by kernel_rfl) (by kernel_rfl) (by kernel_rfl) (by kernel_rfl) (fun _ _ _ h => Exit.noConfusion h.1) HS0.out rfl ?wyc10 ?_
  case wyc10 => intro wy hSw; obtain ⟨z0, z1, z2, z3, z4, z5, z6, z7, z8, z9, z10⟩ := hSw; go_simp; try with_reducible rfl
  simp only [Act.put, List.setIfInBounds_toArray, List.set_cons_zero, List.set_cons_succ]
  refine wpAnyD_done (by kernel_rfl) ?_ _
  exact ⟨rfl, _, _, _, _, _, _, _, _, _, _, rfl, HB5.out⟩
end
end Go.Proofs.YtajadhkpadkikaaGreatDoor


