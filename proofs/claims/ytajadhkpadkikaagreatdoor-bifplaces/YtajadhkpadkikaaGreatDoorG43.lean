import Derived.Test.YtajadhkpadkikaaGreatDoorG41
import Derived.Test.YtajadhkpadkikaaGreatDoorG42
import Derived.Test.YtajadhkpadkikaaGreatDoorG10
import Derived.Test.YtajadhkpadkikaaGreatDoorBp7
import Derived.Test.YtajadhkpadkikaaGreatDoorBp8
import Derived.Test.YtajadhkpadkikaaGreatDoorG40
/- BifPlaces: the loop over the places. -/
namespace Go.Proofs.YtajadhkpadkikaaGreatDoor
open Go.RowKit Go.Lib Go.Deep
attribute [local go_sem] store_float f64bits store_func store_nilFunc
attribute [local go_sem ↓] Go.wp_at_zero Go.wp_at_succ

section
variable {t0 t1 t2 t3 t4 t5 t6 t7 t8 t9 t10 t11 t12 t13 t14 t15 t16 t17 t18 t19 t20 t21 t22 t23 t24 t25 t26 t27 t28 t29 t30 t31 t32 t33 t34 t35 t36 t37 t38 t39 t40 t41 t42 t43 t44 t45 t46 t47 t48 t49 t50 t51 t52 t53 t54 t55 t56 t57 t58 t59 t60 t61 t62 t63 t64 t65 t66 t67 t68 t69 t70 t71 t72 t73 t74 t75 t76 t77 t78 t79 t80 t81 t82 t83 t84 t85 t86 t87 t88 t89 t90 t91 t92 t93 t94 t95 t96 t97 t98 t99 t100 t101 t102 t103 t104 t105 t106 t107 t108 t109 t110 t111 t112 t113 t114 t115 t116 t117 t118 : Value}
set_option maxHeartbeats 16000000 in
set_option maxRecDepth 100000 in
theorem plUn {Q : Exit → Act → World → Prop} {w5 : World} {w : World} {dfs : List Deferred} {n : Int} {j c b1 o1 xb sl Lx : Nat} {ks KS : List Tr} {kx nx : Int} {fx : Nat} {sx : ByteArray} {ax : Option Addr} {cx : Nat} {ksx : List Tr} {sk sn : Int} {sf : Nat} {ss : ByteArray} {sa : Option Addr} {sc : Nat}
    (HIN : Hid ((Tr.mk 7 0 0 ⟨#[]⟩ (some ⟨b1, o1, none⟩) c ks).In w 0)) (HIX : Hid ((Tr.mk kx nx fx sx ax cx ksx).In w 0)) (HL : Hid (ks.length = sl)) (HLx : Hid (ksx.length = Lx)) (HLE : Hid (sl ≤ 200)) (HJ : Hid (n - 1 = (j : Int) ∧ j < sl)) (HKL : Hid (KS.length = sl)) (HKS : Hid (∀ (m : Nat) (t : Tr), KS[m]? = some t → ∃ u : Tr, (ks.set j (.mk kx nx fx sx ax cx ksx))[m]? = some u ∧ Sm t u)) (HKI : Hid ((Tr.mk sk sn sf ss sa sc KS).In w5 0)) (HXS : Hid (Box w5 xb (.int .i64 sk) (.int .i64 sn) (.float .f64 sf) (.string ss) (.slice sa sl sc))) (HX : Hid (Box w5 w.heap.size (.int .i64 kx) (.int .i64 nx) (.float .f64 fx) (.string sx) (.slice ax Lx cx))) (HBW : Hid (Below w.heap.size w w5))
    (HD : Hid (∀ (u6 u13 u90 u91 u92 u93 u94 u95 u96 u97 u98 u99 u100 u101 u102 u103 u104 u105 u106 u107 u108 u109 u110 u111 u112 u113 u114 u115 u116 u117 u118 : Value) (W : World), Below w5.heap.size w5 W → Q (.exit 0) ⟨#[.slice (some ⟨b1, o1, none⟩) sl c, .int .i64 n, t2, t3, t4, .pointer (some ⟨w.heap.size, 0, none⟩), u6, t7, .pointer (some ⟨xb, 0, none⟩), t9, t10, t11, t12, u13, t14, t15, t16, t17, t18, t19, t20, t21, t22, t23, t24, t25, t26, t27, t28, t29, t30, t31, t32, t33, t34, t35, t36, t37, t38, t39, t40, t41, t42, t43, t44, t45, t46, t47, t48, t49, t50, t51, t52, t53, t54, t55, t56, t57, t58, t59, t60, t61, t62, t63, t64, t65, t66, t67, t68, t69, t70, t71, t72, t73, t74, t75, t76, t77, t78, t79, t80, t81, t82, t83, t84, t85, t86, t87, t88, t89, u90, u91, u92, u93, u94, u95, u96, u97, u98, u99, u100, u101, u102, u103, u104, u105, u106, u107, u108, u109, u110, u111, u112, u113, u114, u115, u116, u117, u118], dfs⟩ W)) :
    ∀ (d m : Nat) (u6 u13 u90 u91 u92 u93 u94 u95 u96 u97 u98 u99 u100 u101 u102 u103 u104 u105 u106 u107 u108 u109 u110 u111 u112 u113 u114 u115 u116 u117 u118 : Value) (wr : World), d + m = sl + 1 → u13 = .int .i64 (m : Int) → m ≤ sl → Below w5.heap.size w5 wr → Un Tryz.prog (((Code.region 18 #[{ dst := some 90, op := Op.move (Operand.tmp 13), type := 3, pos := "more.go:62", after := #[], guard := none }, { dst := some 91, op := Op.move (Operand.tmp 0), type := 23, pos := "more.go:62", after := #[], guard := none }, { dst := some 92, op := Op.call { callee := Callee.builtin Builtin.len, args := #[Operand.tmp 91], argTypes := #[23] }, type := 3, pos := "more.go:62", after := #[{ on := 1, ground := Ground.data }], guard := none }, { dst := some 93, op := Op.binOp BinOp.lss 3 (Operand.tmp 90) (Operand.tmp 92) 3, type := 4, pos := "more.go:62", after := #[{ on := 0, ground := Ground.data }, { on := 2, ground := Ground.data }], guard := none }] false).seq (Code.cond (Operand.tmp 93) Code.skip (Code.exit 0))).seq ((Code.block 1 ((Code.region 20 #[{ dst := some 96, op := Op.move (Operand.tmp 13), type := 3, pos := "more.go:63", after := #[], guard := none }, { dst := some 97, op := Op.binOp BinOp.add 3 (Operand.tmp 96) (Operand.const (Value.int IntKind.i64 1)) 3, type := 3, pos := "more.go:63", after := #[{ on := 0, ground := Ground.data }], guard := none }, { dst := some 98, op := Op.move (Operand.tmp 1), type := 3, pos := "more.go:63", after := #[], guard := none }, { dst := some 99, op := Op.binOp BinOp.eql 3 (Operand.tmp 97) (Operand.tmp 98) 3, type := 4, pos := "more.go:63", after := #[{ on := 1, ground := Ground.data }, { on := 2, ground := Ground.data }], guard := none }] false).seq (Code.cond (Operand.tmp 99) ((Code.region 21 #[{ dst := some 100, op := Op.fieldAddr 25 (Operand.tmp 8) 4, type := 0, pos := "more.go:64", after := #[], guard := none }, { dst := some 101, op := Op.load 23 (Operand.tmp 100), type := 23, pos := "more.go:64", after := #[{ on := 0, ground := Ground.data }], guard := none }, { dst := some 102, op := Op.move (Operand.tmp 13), type := 3, pos := "more.go:64", after := #[], guard := none }, { dst := some 103, op := Op.indexAddr 23 (Operand.tmp 101) (Operand.tmp 102), type := 0, pos := "more.go:64", after := #[{ on := 1, ground := Ground.data }, { on := 2, ground := Ground.data }], guard := none }, { dst := some 104, op := Op.load 25 (Operand.tmp 103), type := 25, pos := "more.go:64", after := #[{ on := 3, ground := Ground.data }], guard := none }, { dst := some 105, op := Op.load 25 (Operand.tmp 5), type := 25, pos := "more.go:64", after := #[], guard := none }, { dst := some 106, op := Op.call { callee := Callee.value (Operand.func 10), args := #[Operand.tmp 104, Operand.tmp 105], argTypes := #[25, 25] }, type := 4, pos := "more.go:64", after := #[{ on := 4, ground := Ground.data }, { on := 5, ground := Ground.data }], guard := none }, { dst := some 107, op := Op.unOp UnOp.not 4 (Operand.tmp 106), type := 4, pos := "more.go:64", after := #[{ on := 6, ground := Ground.data }], guard := none }] true).seq (Code.cond (Operand.tmp 107) ((Code.region 22 #[{ dst := some 6, op := Op.assign (Operand.const (Value.bool false)), type := 4, pos := "more.go:65", after := #[], guard := none }] false).seq Code.ret) Code.skip)) ((Code.region 23 #[{ dst := some 108, op := Op.fieldAddr 25 (Operand.tmp 8) 4, type := 0, pos := "more.go:67", after := #[], guard := none }, { dst := some 109, op := Op.load 23 (Operand.tmp 108), type := 23, pos := "more.go:67", after := #[{ on := 0, ground := Ground.data }], guard := none }, { dst := some 110, op := Op.move (Operand.tmp 13), type := 3, pos := "more.go:67", after := #[], guard := none }, { dst := some 111, op := Op.indexAddr 23 (Operand.tmp 109) (Operand.tmp 110), type := 0, pos := "more.go:67", after := #[{ on := 1, ground := Ground.data }, { on := 2, ground := Ground.data }], guard := none }, { dst := some 112, op := Op.load 25 (Operand.tmp 111), type := 25, pos := "more.go:67", after := #[{ on := 3, ground := Ground.data }], guard := none }, { dst := some 113, op := Op.move (Operand.tmp 0), type := 23, pos := "more.go:67", after := #[], guard := none }, { dst := some 114, op := Op.move (Operand.tmp 13), type := 3, pos := "more.go:67", after := #[], guard := none }, { dst := some 115, op := Op.indexAddr 23 (Operand.tmp 113) (Operand.tmp 114), type := 0, pos := "more.go:67", after := #[{ on := 5, ground := Ground.data }, { on := 6, ground := Ground.data }], guard := none }, { dst := some 116, op := Op.load 25 (Operand.tmp 115), type := 25, pos := "more.go:67", after := #[{ on := 7, ground := Ground.data }], guard := none }, { dst := some 117, op := Op.call { callee := Callee.value (Operand.func 10), args := #[Operand.tmp 112, Operand.tmp 116], argTypes := #[25, 25] }, type := 4, pos := "more.go:67", after := #[{ on := 4, ground := Ground.data }, { on := 8, ground := Ground.data }], guard := none }, { dst := some 118, op := Op.unOp UnOp.not 4 (Operand.tmp 117), type := 4, pos := "more.go:67", after := #[{ on := 9, ground := Ground.data }], guard := none }] true).seq (Code.cond (Operand.tmp 118) ((Code.region 24 #[{ dst := some 6, op := Op.assign (Operand.const (Value.bool false)), type := 4, pos := "more.go:68", after := #[], guard := none }] false).seq Code.ret) Code.skip))))).seq (Code.region 19 #[{ dst := some 94, op := Op.move (Operand.tmp 13), type := 3, pos := "more.go:62", after := #[], guard := none }, { dst := some 95, op := Op.binOp BinOp.add 3 (Operand.tmp 94) (Operand.const (Value.int IntKind.i64 1)) 3, type := 3, pos := "more.go:62", after := #[{ on := 0, ground := Ground.data }], guard := none }, { dst := some 13, op := Op.assign (Operand.tmp 95), type := 3, pos := "more.go:62", after := #[{ on := 1, ground := Ground.data }, { on := 0, ground := Ground.phase }, { on := 1, ground := Ground.phase }], guard := none }] false))) Q d ⟨#[.slice (some ⟨b1, o1, none⟩) sl c, .int .i64 n, t2, t3, t4, .pointer (some ⟨w.heap.size, 0, none⟩), u6, t7, .pointer (some ⟨xb, 0, none⟩), t9, t10, t11, t12, u13, t14, t15, t16, t17, t18, t19, t20, t21, t22, t23, t24, t25, t26, t27, t28, t29, t30, t31, t32, t33, t34, t35, t36, t37, t38, t39, t40, t41, t42, t43, t44, t45, t46, t47, t48, t49, t50, t51, t52, t53, t54, t55, t56, t57, t58, t59, t60, t61, t62, t63, t64, t65, t66, t67, t68, t69, t70, t71, t72, t73, t74, t75, t76, t77, t78, t79, t80, t81, t82, t83, t84, t85, t86, t87, t88, t89, u90, u91, u92, u93, u94, u95, u96, u97, u98, u99, u100, u101, u102, u103, u104, u105, u106, u107, u108, u109, u110, u111, u112, u113, u114, u115, u116, u117, u118], dfs⟩ wr := by
  intro d
  induction d with
  | zero => intro m u6 u13 u90 u91 u92 u93 u94 u95 u96 u97 u98 u99 u100 u101 u102 u103 u104 u105 u106 u107 u108 u109 u110 u111 u112 u113 u114 u115 u116 u117 u118 wr hd h13 hm hb; omega
  | succ d ih =>
    intro m u6 u13 u90 u91 u92 u93 u94 u95 u96 u97 u98 u99 u100 u101 u102 u103 u104 u105 u106 u107 u108 u109 u110 u111 u112 u113 u114 u115 u116 u117 u118 wr hd h13 hm hb
    subst h13
    have HBW9 := hidb (HBW.out.trans (hb.mono HBW.out.size))
    have HKI9 := hidb (in_below hb HKI.out)
    have HXS9 := hidb (HXS.out.keep hb)
    have HX9 := hidb (HX.out.keep hb)
    by_cases hml : m < sl
    · have hk : ∀ (u6 u13 u90 u91 u92 u93 u94 u95 u96 u97 u98 u99 u100 u101 u102 u103 u104 u105 u106 u107 u108 u109 u110 u111 u112 u113 u114 u115 u116 u117 u118 : Value) (W : World), u13 = .int .i64 ((m + 1 : Nat) : Int) → Below wr.heap.size wr W → Un Tryz.prog (((Code.region 18 #[{ dst := some 90, op := Op.move (Operand.tmp 13), type := 3, pos := "more.go:62", after := #[], guard := none }, { dst := some 91, op := Op.move (Operand.tmp 0), type := 23, pos := "more.go:62", after := #[], guard := none }, { dst := some 92, op := Op.call { callee := Callee.builtin Builtin.len, args := #[Operand.tmp 91], argTypes := #[23] }, type := 3, pos := "more.go:62", after := #[{ on := 1, ground := Ground.data }], guard := none }, { dst := some 93, op := Op.binOp BinOp.lss 3 (Operand.tmp 90) (Operand.tmp 92) 3, type := 4, pos := "more.go:62", after := #[{ on := 0, ground := Ground.data }, { on := 2, ground := Ground.data }], guard := none }] false).seq (Code.cond (Operand.tmp 93) Code.skip (Code.exit 0))).seq ((Code.block 1 ((Code.region 20 #[{ dst := some 96, op := Op.move (Operand.tmp 13), type := 3, pos := "more.go:63", after := #[], guard := none }, { dst := some 97, op := Op.binOp BinOp.add 3 (Operand.tmp 96) (Operand.const (Value.int IntKind.i64 1)) 3, type := 3, pos := "more.go:63", after := #[{ on := 0, ground := Ground.data }], guard := none }, { dst := some 98, op := Op.move (Operand.tmp 1), type := 3, pos := "more.go:63", after := #[], guard := none }, { dst := some 99, op := Op.binOp BinOp.eql 3 (Operand.tmp 97) (Operand.tmp 98) 3, type := 4, pos := "more.go:63", after := #[{ on := 1, ground := Ground.data }, { on := 2, ground := Ground.data }], guard := none }] false).seq (Code.cond (Operand.tmp 99) ((Code.region 21 #[{ dst := some 100, op := Op.fieldAddr 25 (Operand.tmp 8) 4, type := 0, pos := "more.go:64", after := #[], guard := none }, { dst := some 101, op := Op.load 23 (Operand.tmp 100), type := 23, pos := "more.go:64", after := #[{ on := 0, ground := Ground.data }], guard := none }, { dst := some 102, op := Op.move (Operand.tmp 13), type := 3, pos := "more.go:64", after := #[], guard := none }, { dst := some 103, op := Op.indexAddr 23 (Operand.tmp 101) (Operand.tmp 102), type := 0, pos := "more.go:64", after := #[{ on := 1, ground := Ground.data }, { on := 2, ground := Ground.data }], guard := none }, { dst := some 104, op := Op.load 25 (Operand.tmp 103), type := 25, pos := "more.go:64", after := #[{ on := 3, ground := Ground.data }], guard := none }, { dst := some 105, op := Op.load 25 (Operand.tmp 5), type := 25, pos := "more.go:64", after := #[], guard := none }, { dst := some 106, op := Op.call { callee := Callee.value (Operand.func 10), args := #[Operand.tmp 104, Operand.tmp 105], argTypes := #[25, 25] }, type := 4, pos := "more.go:64", after := #[{ on := 4, ground := Ground.data }, { on := 5, ground := Ground.data }], guard := none }, { dst := some 107, op := Op.unOp UnOp.not 4 (Operand.tmp 106), type := 4, pos := "more.go:64", after := #[{ on := 6, ground := Ground.data }], guard := none }] true).seq (Code.cond (Operand.tmp 107) ((Code.region 22 #[{ dst := some 6, op := Op.assign (Operand.const (Value.bool false)), type := 4, pos := "more.go:65", after := #[], guard := none }] false).seq Code.ret) Code.skip)) ((Code.region 23 #[{ dst := some 108, op := Op.fieldAddr 25 (Operand.tmp 8) 4, type := 0, pos := "more.go:67", after := #[], guard := none }, { dst := some 109, op := Op.load 23 (Operand.tmp 108), type := 23, pos := "more.go:67", after := #[{ on := 0, ground := Ground.data }], guard := none }, { dst := some 110, op := Op.move (Operand.tmp 13), type := 3, pos := "more.go:67", after := #[], guard := none }, { dst := some 111, op := Op.indexAddr 23 (Operand.tmp 109) (Operand.tmp 110), type := 0, pos := "more.go:67", after := #[{ on := 1, ground := Ground.data }, { on := 2, ground := Ground.data }], guard := none }, { dst := some 112, op := Op.load 25 (Operand.tmp 111), type := 25, pos := "more.go:67", after := #[{ on := 3, ground := Ground.data }], guard := none }, { dst := some 113, op := Op.move (Operand.tmp 0), type := 23, pos := "more.go:67", after := #[], guard := none }, { dst := some 114, op := Op.move (Operand.tmp 13), type := 3, pos := "more.go:67", after := #[], guard := none }, { dst := some 115, op := Op.indexAddr 23 (Operand.tmp 113) (Operand.tmp 114), type := 0, pos := "more.go:67", after := #[{ on := 5, ground := Ground.data }, { on := 6, ground := Ground.data }], guard := none }, { dst := some 116, op := Op.load 25 (Operand.tmp 115), type := 25, pos := "more.go:67", after := #[{ on := 7, ground := Ground.data }], guard := none }, { dst := some 117, op := Op.call { callee := Callee.value (Operand.func 10), args := #[Operand.tmp 112, Operand.tmp 116], argTypes := #[25, 25] }, type := 4, pos := "more.go:67", after := #[{ on := 4, ground := Ground.data }, { on := 8, ground := Ground.data }], guard := none }, { dst := some 118, op := Op.unOp UnOp.not 4 (Operand.tmp 117), type := 4, pos := "more.go:67", after := #[{ on := 9, ground := Ground.data }], guard := none }] true).seq (Code.cond (Operand.tmp 118) ((Code.region 24 #[{ dst := some 6, op := Op.assign (Operand.const (Value.bool false)), type := 4, pos := "more.go:68", after := #[], guard := none }] false).seq Code.ret) Code.skip))))).seq (Code.region 19 #[{ dst := some 94, op := Op.move (Operand.tmp 13), type := 3, pos := "more.go:62", after := #[], guard := none }, { dst := some 95, op := Op.binOp BinOp.add 3 (Operand.tmp 94) (Operand.const (Value.int IntKind.i64 1)) 3, type := 3, pos := "more.go:62", after := #[{ on := 0, ground := Ground.data }], guard := none }, { dst := some 13, op := Op.assign (Operand.tmp 95), type := 3, pos := "more.go:62", after := #[{ on := 1, ground := Ground.data }, { on := 0, ground := Ground.phase }, { on := 1, ground := Ground.phase }], guard := none }] false))) Q d ⟨#[.slice (some ⟨b1, o1, none⟩) sl c, .int .i64 n, t2, t3, t4, .pointer (some ⟨w.heap.size, 0, none⟩), u6, t7, .pointer (some ⟨xb, 0, none⟩), t9, t10, t11, t12, u13, t14, t15, t16, t17, t18, t19, t20, t21, t22, t23, t24, t25, t26, t27, t28, t29, t30, t31, t32, t33, t34, t35, t36, t37, t38, t39, t40, t41, t42, t43, t44, t45, t46, t47, t48, t49, t50, t51, t52, t53, t54, t55, t56, t57, t58, t59, t60, t61, t62, t63, t64, t65, t66, t67, t68, t69, t70, t71, t72, t73, t74, t75, t76, t77, t78, t79, t80, t81, t82, t83, t84, t85, t86, t87, t88, t89, u90, u91, u92, u93, u94, u95, u96, u97, u98, u99, u100, u101, u102, u103, u104, u105, u106, u107, u108, u109, u110, u111, u112, u113, u114, u115, u116, u117, u118], dfs⟩ W := fun u6 u13 u90 u91 u92 u93 u94 u95 u96 u97 u98 u99 u100 u101 u102 u103 u104 u105 u106 u107 u108 u109 u110 u111 u112 u113 u114 u115 u116 u117 u118 W h1 h2 => ih (m + 1) u6 u13 u90 u91 u92 u93 u94 u95 u96 u97 u98 u99 u100 u101 u102 u103 u104 u105 u106 u107 u108 u109 u110 u111 u112 u113 u114 u115 u116 u117 u118 W (by omega) h1 (by omega) (hb.trans (h2.mono hb.size))
      by_cases hmj : m = j
      · exact plCaseA HIN HIX HL HLx HLE HJ HKL HKS HKI9 HXS9 HX9 HBW9 hml hmj hk
      · exact plCaseB HIN HIX HL HLx HLE HJ HKL HKS HKI9 HXS9 HX9 HBW9 hml hmj hk
    · exact plCaseC (by omega) (fun u6 u13 u90 u91 u92 u93 u94 u95 u96 u97 u98 u99 u100 u101 u102 u103 u104 u105 u106 u107 u108 u109 u110 u111 u112 u113 u114 u115 u116 u117 u118 => HD.out u6 u13 u90 u91 u92 u93 u94 u95 u96 u97 u98 u99 u100 u101 u102 u103 u104 u105 u106 u107 u108 u109 u110 u111 u112 u113 u114 u115 u116 u117 u118 wr hb)
theorem plLoop {Q : Exit → Act → World → Prop} {w5 : World} {w : World} {dfs : List Deferred} {n : Int} {j c b1 o1 xb sl Lx : Nat} {ks KS : List Tr} {kx nx : Int} {fx : Nat} {sx : ByteArray} {ax : Option Addr} {cx : Nat} {ksx : List Tr} {sk sn : Int} {sf : Nat} {ss : ByteArray} {sa : Option Addr} {sc : Nat}
    (HIN : Hid ((Tr.mk 7 0 0 ⟨#[]⟩ (some ⟨b1, o1, none⟩) c ks).In w 0)) (HIX : Hid ((Tr.mk kx nx fx sx ax cx ksx).In w 0)) (HL : Hid (ks.length = sl)) (HLx : Hid (ksx.length = Lx)) (HLE : Hid (sl ≤ 200)) (HJ : Hid (n - 1 = (j : Int) ∧ j < sl)) (HKL : Hid (KS.length = sl)) (HKS : Hid (∀ (m : Nat) (t : Tr), KS[m]? = some t → ∃ u : Tr, (ks.set j (.mk kx nx fx sx ax cx ksx))[m]? = some u ∧ Sm t u)) (HKI : Hid ((Tr.mk sk sn sf ss sa sc KS).In w5 0)) (HXS : Hid (Box w5 xb (.int .i64 sk) (.int .i64 sn) (.float .f64 sf) (.string ss) (.slice sa sl sc))) (HX : Hid (Box w5 w.heap.size (.int .i64 kx) (.int .i64 nx) (.float .f64 fx) (.string sx) (.slice ax Lx cx))) (HBW : Hid (Below w.heap.size w w5))
    (hd : ∀ (u6 u13 u90 u91 u92 u93 u94 u95 u96 u97 u98 u99 u100 u101 u102 u103 u104 u105 u106 u107 u108 u109 u110 u111 u112 u113 u114 u115 u116 u117 u118 : Value) (W : World), Below w5.heap.size w5 W → Q (.exit 0) ⟨#[.slice (some ⟨b1, o1, none⟩) sl c, .int .i64 n, t2, t3, t4, .pointer (some ⟨w.heap.size, 0, none⟩), u6, t7, .pointer (some ⟨xb, 0, none⟩), t9, t10, t11, t12, u13, t14, t15, t16, t17, t18, t19, t20, t21, t22, t23, t24, t25, t26, t27, t28, t29, t30, t31, t32, t33, t34, t35, t36, t37, t38, t39, t40, t41, t42, t43, t44, t45, t46, t47, t48, t49, t50, t51, t52, t53, t54, t55, t56, t57, t58, t59, t60, t61, t62, t63, t64, t65, t66, t67, t68, t69, t70, t71, t72, t73, t74, t75, t76, t77, t78, t79, t80, t81, t82, t83, t84, t85, t86, t87, t88, t89, u90, u91, u92, u93, u94, u95, u96, u97, u98, u99, u100, u101, u102, u103, u104, u105, u106, u107, u108, u109, u110, u111, u112, u113, u114, u115, u116, u117, u118], dfs⟩ W) :
    (((Code.region 18 #[{ dst := some 90, op := Op.move (Operand.tmp 13), type := 3, pos := "more.go:62", after := #[], guard := none }, { dst := some 91, op := Op.move (Operand.tmp 0), type := 23, pos := "more.go:62", after := #[], guard := none }, { dst := some 92, op := Op.call { callee := Callee.builtin Builtin.len, args := #[Operand.tmp 91], argTypes := #[23] }, type := 3, pos := "more.go:62", after := #[{ on := 1, ground := Ground.data }], guard := none }, { dst := some 93, op := Op.binOp BinOp.lss 3 (Operand.tmp 90) (Operand.tmp 92) 3, type := 4, pos := "more.go:62", after := #[{ on := 0, ground := Ground.data }, { on := 2, ground := Ground.data }], guard := none }] false).seq (Code.cond (Operand.tmp 93) Code.skip (Code.exit 0))).seq ((Code.block 1 ((Code.region 20 #[{ dst := some 96, op := Op.move (Operand.tmp 13), type := 3, pos := "more.go:63", after := #[], guard := none }, { dst := some 97, op := Op.binOp BinOp.add 3 (Operand.tmp 96) (Operand.const (Value.int IntKind.i64 1)) 3, type := 3, pos := "more.go:63", after := #[{ on := 0, ground := Ground.data }], guard := none }, { dst := some 98, op := Op.move (Operand.tmp 1), type := 3, pos := "more.go:63", after := #[], guard := none }, { dst := some 99, op := Op.binOp BinOp.eql 3 (Operand.tmp 97) (Operand.tmp 98) 3, type := 4, pos := "more.go:63", after := #[{ on := 1, ground := Ground.data }, { on := 2, ground := Ground.data }], guard := none }] false).seq (Code.cond (Operand.tmp 99) ((Code.region 21 #[{ dst := some 100, op := Op.fieldAddr 25 (Operand.tmp 8) 4, type := 0, pos := "more.go:64", after := #[], guard := none }, { dst := some 101, op := Op.load 23 (Operand.tmp 100), type := 23, pos := "more.go:64", after := #[{ on := 0, ground := Ground.data }], guard := none }, { dst := some 102, op := Op.move (Operand.tmp 13), type := 3, pos := "more.go:64", after := #[], guard := none }, { dst := some 103, op := Op.indexAddr 23 (Operand.tmp 101) (Operand.tmp 102), type := 0, pos := "more.go:64", after := #[{ on := 1, ground := Ground.data }, { on := 2, ground := Ground.data }], guard := none }, { dst := some 104, op := Op.load 25 (Operand.tmp 103), type := 25, pos := "more.go:64", after := #[{ on := 3, ground := Ground.data }], guard := none }, { dst := some 105, op := Op.load 25 (Operand.tmp 5), type := 25, pos := "more.go:64", after := #[], guard := none }, { dst := some 106, op := Op.call { callee := Callee.value (Operand.func 10), args := #[Operand.tmp 104, Operand.tmp 105], argTypes := #[25, 25] }, type := 4, pos := "more.go:64", after := #[{ on := 4, ground := Ground.data }, { on := 5, ground := Ground.data }], guard := none }, { dst := some 107, op := Op.unOp UnOp.not 4 (Operand.tmp 106), type := 4, pos := "more.go:64", after := #[{ on := 6, ground := Ground.data }], guard := none }] true).seq (Code.cond (Operand.tmp 107) ((Code.region 22 #[{ dst := some 6, op := Op.assign (Operand.const (Value.bool false)), type := 4, pos := "more.go:65", after := #[], guard := none }] false).seq Code.ret) Code.skip)) ((Code.region 23 #[{ dst := some 108, op := Op.fieldAddr 25 (Operand.tmp 8) 4, type := 0, pos := "more.go:67", after := #[], guard := none }, { dst := some 109, op := Op.load 23 (Operand.tmp 108), type := 23, pos := "more.go:67", after := #[{ on := 0, ground := Ground.data }], guard := none }, { dst := some 110, op := Op.move (Operand.tmp 13), type := 3, pos := "more.go:67", after := #[], guard := none }, { dst := some 111, op := Op.indexAddr 23 (Operand.tmp 109) (Operand.tmp 110), type := 0, pos := "more.go:67", after := #[{ on := 1, ground := Ground.data }, { on := 2, ground := Ground.data }], guard := none }, { dst := some 112, op := Op.load 25 (Operand.tmp 111), type := 25, pos := "more.go:67", after := #[{ on := 3, ground := Ground.data }], guard := none }, { dst := some 113, op := Op.move (Operand.tmp 0), type := 23, pos := "more.go:67", after := #[], guard := none }, { dst := some 114, op := Op.move (Operand.tmp 13), type := 3, pos := "more.go:67", after := #[], guard := none }, { dst := some 115, op := Op.indexAddr 23 (Operand.tmp 113) (Operand.tmp 114), type := 0, pos := "more.go:67", after := #[{ on := 5, ground := Ground.data }, { on := 6, ground := Ground.data }], guard := none }, { dst := some 116, op := Op.load 25 (Operand.tmp 115), type := 25, pos := "more.go:67", after := #[{ on := 7, ground := Ground.data }], guard := none }, { dst := some 117, op := Op.call { callee := Callee.value (Operand.func 10), args := #[Operand.tmp 112, Operand.tmp 116], argTypes := #[25, 25] }, type := 4, pos := "more.go:67", after := #[{ on := 4, ground := Ground.data }, { on := 8, ground := Ground.data }], guard := none }, { dst := some 118, op := Op.unOp UnOp.not 4 (Operand.tmp 117), type := 4, pos := "more.go:67", after := #[{ on := 9, ground := Ground.data }], guard := none }] true).seq (Code.cond (Operand.tmp 118) ((Code.region 24 #[{ dst := some 6, op := Op.assign (Operand.const (Value.bool false)), type := 4, pos := "more.go:68", after := #[], guard := none }] false).seq Code.ret) Code.skip))))).seq (Code.region 19 #[{ dst := some 94, op := Op.move (Operand.tmp 13), type := 3, pos := "more.go:62", after := #[], guard := none }, { dst := some 95, op := Op.binOp BinOp.add 3 (Operand.tmp 94) (Operand.const (Value.int IntKind.i64 1)) 3, type := 3, pos := "more.go:62", after := #[{ on := 0, ground := Ground.data }], guard := none }, { dst := some 13, op := Op.assign (Operand.tmp 95), type := 3, pos := "more.go:62", after := #[{ on := 1, ground := Ground.data }, { on := 0, ground := Ground.phase }, { on := 1, ground := Ground.phase }], guard := none }] false))).loop.wp Tryz.prog Q ⟨#[.slice (some ⟨b1, o1, none⟩) sl c, .int .i64 n, t2, t3, t4, .pointer (some ⟨w.heap.size, 0, none⟩), t6, t7, .pointer (some ⟨xb, 0, none⟩), t9, t10, t11, t12, .int .i64 0, t14, t15, t16, t17, t18, t19, t20, t21, t22, t23, t24, t25, t26, t27, t28, t29, t30, t31, t32, t33, t34, t35, t36, t37, t38, t39, t40, t41, t42, t43, t44, t45, t46, t47, t48, t49, t50, t51, t52, t53, t54, t55, t56, t57, t58, t59, t60, t61, t62, t63, t64, t65, t66, t67, t68, t69, t70, t71, t72, t73, t74, t75, t76, t77, t78, t79, t80, t81, t82, t83, t84, t85, t86, t87, t88, t89, t90, t91, t92, t93, t94, t95, t96, t97, t98, t99, t100, t101, t102, t103, t104, t105, t106, t107, t108, t109, t110, t111, t112, t113, t114, t115, t116, t117, t118], dfs⟩ w5 :=
  wp_loop_times (sl + 1) (plUn HIN HIX HL HLx HLE HJ HKL HKS HKI HXS HX HBW (hidb hd) (sl + 1) 0 t6 _ t90 t91 t92 t93 t94 t95 t96 t97 t98 t99 t100 t101 t102 t103 t104 t105 t106 t107 t108 t109 t110 t111 t112 t113 t114 t115 t116 t117 t118 w5 (by omega) rfl (by omega) (Below.refl _ _))
end
end Go.Proofs.YtajadhkpadkikaaGreatDoor


/- BifPlaces. -/
namespace Go.Proofs.YtajadhkpadkikaaGreatDoor
open Go.RowKit Go.Lib Go.Deep
attribute [local go_sem] store_float f64bits store_func store_nilFunc
attribute [local go_sem ↓] Go.wp_at_zero Go.wp_at_succ

set_option maxHeartbeats 4000000 in
set_option maxRecDepth 100000 in
theorem BifPlaces_of (a : Option Addr) (c : Nat) (ks : List Tr) (n : Int) (kx nx : Int) (fx : Nat) (sx : ByteArray) (ax : Option Addr) (cx : Nat) (ksx : List Tr) (w : World) (hin : (Tr.mk 0 0 0 ⟨#[]⟩ a c ks).In w 0) (hinx : (Tr.mk kx nx fx sx ax cx ksx).In w 0) (hn : Lit.wf (.int .i64 n) = true) (hsw : SmallW (.mk 7 0 0 ⟨#[]⟩ a c ks)) (hsx : SmallW (.mk kx nx fx sx ax cx ksx)) :
    Calls Tryz.prog 6 #[.slice a ks.length c, .int .i64 n, .agg #[.int .i64 kx, .int .i64 nx, .float .f64 fx, .string sx, .slice ax ksx.length cx]] w fun e w' => e = .returned (.bool true) ∧ Below w.heap.size w w' := by
  have hin7 : (Tr.mk 7 0 0 ⟨#[]⟩ a c ks).In w 0 := in_kind hin (by decide)
  have HIN := hidb hin7
  have HIX := hidb hinx
  have HSW := hidb hsw
  have HSX := hidb hsx
  have HN := hidb hn
  have hks := len_small hin
  obtain ⟨L, hL⟩ : ∃ L, ks.length = L := ⟨_, rfl⟩
  have HL := hidb hL
  rw [hL] at hks ⊢
  obtain ⟨Lx, hLx⟩ : ∃ Lx, ksx.length = Lx := ⟨_, rfl⟩
  have HLx := hidb hLx
  rw [hLx]
  have HLS := hidb hks
  clear hin hin7 hinx hsw hsx hn hL hLx hks
  have HX0 := hidb (Box.new w 25 (.int .i64 kx) (.int .i64 nx) (.float .f64 fx) (.string sx) (.slice ax Lx cx))
  go_enter Tryz.func6, Tryz.ntmps6
  go_wp2_with fail
  refine (known9_any _).mono ?_
  rintro e w1 ⟨rfl, hb1⟩
  have HX1 := hidb (HX0.out.keep hb1)
  have HB1 := hidb ((below_new w _).trans (hb1.mono (by simp)))
  obtain ⟨⟨x0, x1, x2, x3, x4⟩, -, xl⟩ := Box.six HX1.out
  clear hb1
  by_cases h200 : L ≤ 200
  · have h2 : ¬ (200 : Int) < (L : Int) := by omega
    go_wp2_with fail
    obtain ⟨WA, hWA⟩ : ∃ WA, w1.alloc (.cells #[.int .i64 7, .int .i64 0, .float .f64 0, .string ⟨#[]⟩, .slice a L c] 25) = WA := ⟨_, rfl⟩
    have HBA : Hid (Below w.heap.size w WA) := hidb (by rw [← hWA]; exact HB1.out.alloc HB1.out.size _)
    have HXA : Hid (Box WA w.heap.size (.int .i64 kx) (.int .i64 nx) (.float .f64 fx) (.string sx) (.slice ax Lx cx)) := hidb (by rw [← hWA]; exact HX1.out.alloc _)
    have HTA : Hid (Box WA w1.heap.size (.int .i64 7) (.int .i64 0) (.float .f64 0) (.string ⟨#[]⟩) (.slice a L c)) := hidb (by rw [← hWA]; exact Box.new _ _ _ _ _ _ _)
    have hzA : w1.heap.size + 1 = WA.heap.size := by rw [← hWA]; simp
    rw [hWA, hzA]
    have hai : ArgsIn (WA.alloc (.cells #[.int .i64 7, .int .i64 0, .float .f64 0, .string ⟨#[]⟩, .slice a L c, .int .i64 kx, .int .i64 nx, .float .f64 fx, .string sx, .slice ax Lx cx] 25)) (some ⟨WA.heap.size, 0, none⟩) 2 [.mk 7 0 0 ⟨#[]⟩ a c ks, .mk kx nx fx sx ax cx ksx] := by
      have := built_in WA [.mk 7 0 0 ⟨#[]⟩ a c ks, .mk kx nx fx sx ax cx ksx] (fun u hu => by
        rcases List.mem_cons.1 hu with h | h
        · rw [h]; exact in_below HBA.out HIN.out
        · rw [List.mem_singleton.1 h]; exact in_below HBA.out HIX.out) 25 (by simp)
      rw [← HL.out, ← HLx.out]
      exact this
    have RG := hidb (right9_any hai (fun u hu => by
        rcases List.mem_cons.1 hu with h | h
        · rw [h]; exact HSW.out
        · rw [List.mem_singleton.1 h]; exact HSX.out) (by simp))
    obtain ⟨R, hR⟩ : ∃ R, rgt9 (some ⟨WA.heap.size, 0, none⟩) 2 [.mk 7 0 0 ⟨#[]⟩ a c ks, .mk kx nx fx sx ax cx ksx] = R := ⟨_, rfl⟩
    have HR := hidb hR
    rw [hR] at RG
    clear hR hai hWA hzA
    refine RG.out.mono ?_
    rintro e w2 ⟨rfl, hb2⟩
    have hw2 : Below WA.heap.size WA w2 := (below_new WA _).trans (hb2.mono (by simp))
    have HX2 := hidb (HXA.out.keep hw2)
    have HT2 := hidb (HTA.out.keep hw2)
    have HB2 := hidb (HBA.out.trans (hw2.mono HBA.out.size))
    clear hb2 hw2 x0 x1 x2 x3 x4 xl RG
    cases R
    · go_wp2_with fail
      go_ret
      exact ⟨rfl, HB2.out⟩
    · have HOKt := hidb (rgt9_ok HR.out (.mk 7 0 0 ⟨#[]⟩ a c ks) (by simp))
      have HOKx := hidb (rgt9_ok HR.out (.mk kx nx fx sx ax cx ksx) (by simp))
      obtain ⟨⟨x0, x1, x2, x3, x4⟩, -, xl⟩ := Box.six HX2.out
      obtain ⟨⟨t0, t1, t2, t3, t4⟩, -, tl⟩ := Box.six HT2.out
      by_cases hlo : n < -1000
      · go_wp2_with fail
        go_ret
        exact ⟨rfl, HB2.out⟩
      · by_cases hhi : 1000 < n
        · go_wp2_with fail
          go_ret
          exact ⟨rfl, HB2.out⟩
        · have HLE : Hid (L ≤ 200) := hidb h200
          have HSMk : Hid (∀ t ∈ ks, Small t ∧ cnT t ≤ 1000000) := hidb (fun t ht => ⟨by have := HOKt.out.2.1; unfold Small at this; exact smallAll_get this.2 ht, by have := HOKt.out.2.2; have := cn_kid ht; unfold cnT at *; omega⟩)
          have HSMx : Hid (∀ t ∈ Tr.mk kx nx fx sx ax cx ksx :: ks, Small t ∧ cnT t ≤ 1000000) := hidb (fun t ht => by
            rcases List.mem_cons.1 ht with h | h
            · rw [h]; exact ⟨HOKx.out.2.1, by have := HOKx.out.2.2; omega⟩
            · exact HSMk.out t h)
          have LC3 : Hid (∀ W rb, ArgsIn W (some ⟨rb, 0, none⟩) 3 [nuT n, .mk 7 0 0 ⟨#[]⟩ a c ks, .mk kx nx fx sx ax cx ksx] → Calls Tryz.prog 9 #[.string seN, .slice (some ⟨rb, 0, none⟩) 3 3] W (LawA (SeP n ks (.mk kx nx fx sx ax cx ksx)) (fun er => er = 13) W)) := hidb (fun W rb h => se_law h HSMx.out (by have := HLE.out; have := HL.out; omega))
          have LC2 : Hid (∀ W rb, ArgsIn W (some ⟨rb, 0, none⟩) 2 [nuT n, .mk 7 0 0 ⟨#[]⟩ a c ks] → Calls Tryz.prog 9 #[.string elN, .slice (some ⟨rb, 0, none⟩) 2 2] W (LawA (ElP n ks) (ElE n ks) W)) := hidb (fun W rb h => el_law h HSMk.out (by have := HLE.out; have := HL.out; omega))
          have HAI3 : Hid (∀ W, Below w2.heap.size w2 W → ArgsIn (W.alloc (.cells #[.int .i64 1, .int .i64 n, .float .f64 0, .string ⟨#[]⟩, .slice none 0 0, .int .i64 7, .int .i64 0, .float .f64 0, .string ⟨#[]⟩, .slice a L c, .int .i64 kx, .int .i64 nx, .float .f64 fx, .string sx, .slice ax Lx cx] 25)) (some ⟨W.heap.size, 0, none⟩) 3 [nuT n, .mk 7 0 0 ⟨#[]⟩ a c ks, .mk kx nx fx sx ax cx ksx]) := hidb (fun W hW => by
            have hW' := HB2.out.trans (hW.mono HB2.out.size)
            have := built_in W [nuT n, .mk 7 0 0 ⟨#[]⟩ a c ks, .mk kx nx fx sx ax cx ksx] (fun u hu => by
              rcases List.mem_cons.1 hu with h | hu
              · rw [h]; exact nu_in n HN.out W
              rcases List.mem_cons.1 hu with h | hu
              · rw [h]; exact in_below hW' HIN.out
              rcases List.mem_cons.1 hu with h | hu
              · rw [h]; exact in_below hW' HIX.out
              cases hu) 25 (by simp)
            rw [← HL.out, ← HLx.out]
            exact this)
          have HAI2 : Hid (∀ W, Below w2.heap.size w2 W → ArgsIn (W.alloc (.cells #[.int .i64 1, .int .i64 n, .float .f64 0, .string ⟨#[]⟩, .slice none 0 0, .int .i64 7, .int .i64 0, .float .f64 0, .string ⟨#[]⟩, .slice a L c] 25)) (some ⟨W.heap.size, 0, none⟩) 2 [nuT n, .mk 7 0 0 ⟨#[]⟩ a c ks]) := hidb (fun W hW => by
            have hW' := HB2.out.trans (hW.mono HB2.out.size)
            have := built_in W [nuT n, .mk 7 0 0 ⟨#[]⟩ a c ks] (fun u hu => by
              rcases List.mem_cons.1 hu with h | hu
              · rw [h]; exact nu_in n HN.out W
              rcases List.mem_cons.1 hu with h | hu
              · rw [h]; exact in_below hW' HIN.out
              cases hu) 25 (by simp)
            rw [← HL.out]
            exact this)
          have HSA : Hid (∀ W9, Below w2.heap.size w2 W9 → (fun W9 => W9.cell? ⟨w.heap.size, 0, none⟩ = some (.int .i64 kx) ∧ W9.cell? ⟨w.heap.size, 1, none⟩ = some (.int .i64 nx) ∧ W9.cell? ⟨w.heap.size, 2, none⟩ = some (.float .f64 fx) ∧ W9.cell? ⟨w.heap.size, 3, none⟩ = some (.string sx) ∧ W9.cell? ⟨w.heap.size, 4, none⟩ = some (.slice ax Lx cx) ∧ W9.cell? ⟨w1.heap.size, 0, none⟩ = some (.int .i64 7) ∧ W9.cell? ⟨w1.heap.size, 1, none⟩ = some (.int .i64 0) ∧ W9.cell? ⟨w1.heap.size, 2, none⟩ = some (.float .f64 0) ∧ W9.cell? ⟨w1.heap.size, 3, none⟩ = some (.string ⟨#[]⟩) ∧ W9.cell? ⟨w1.heap.size, 4, none⟩ = some (.slice a L c)) W9) := hidb (fun W9 hb => by
            obtain ⟨⟨x0, x1, x2, x3, x4⟩, -, xl⟩ := Box.six (HX2.out.keep hb)
            obtain ⟨⟨t0, t1, t2, t3, t4⟩, -, tl⟩ := Box.six (HT2.out.keep hb)
            exact ⟨x0, x1, x2, x3, x4, t0, t1, t2, t3, t4⟩)
          go_wp2_with fail
          clear x0 x1 x2 x3 x4 xl t0 t1 t2 t3 t4 tl h2
          refine wp_via (fun a0 ex a9 w9 => ex = .normal ∧ ∃ rb xb sk sn sf ss sa sl sc ok, a9 = (((((((((((a0.put (some 35) (.int .i64 n)).put (some 36) (.agg #[.int .i64 1, .int .i64 n, .float .f64 0, .string ⟨#[]⟩, .slice none 0 0])).put (some 37) (.agg #[.int .i64 7, .int .i64 0, .float .f64 0, .string ⟨#[]⟩, .slice a L c])).put (some 38) (.agg #[.int .i64 kx, .int .i64 nx, .float .f64 fx, .string sx, .slice ax Lx cx])).put (some 39) (.slice (some ⟨rb, 0, none⟩) 3 3)).put (some 40) (.tuple #[.agg #[.int .i64 sk, .int .i64 sn, .float .f64 sf, .string ss, .slice sa sl sc], .bool ok])).put (some 34) (.tuple #[.agg #[.int .i64 sk, .int .i64 sn, .float .f64 sf, .string ss, .slice sa sl sc], .bool ok])).put (some 41) (.agg #[.int .i64 sk, .int .i64 sn, .float .f64 sf, .string ss, .slice sa sl sc])).put (some 42) (.bool ok)).put (some 8) (.pointer (some ⟨xb, 0, none⟩))).put (some 9) (.bool ok)) ∧ Box w9 xb (.int .i64 sk) (.int .i64 sn) (.float .f64 sf) (.string ss) (.slice sa sl sc) ∧ Below w2.heap.size w2 w9 ∧ w2.heap.size ≤ xb ∧ ResP (SeP n ks (.mk kx nx fx sx ax cx ksx)) (fun er => er = 13) sk sn sf ss sa sl sc ok w9) ?reg1 ?rest1
          case reg1 =>
            exact plReg1 HSA HAI3 LC3 _ rfl
          case rest1 =>
            rintro ex a9 w3 ⟨rfl, rb, xb, sk, sn, sf, ss, sa, sl, sc, ok, rfl, hxs, hb3, hxg, hres⟩
            simp only [Act.put, List.setIfInBounds_toArray, List.set_cons_zero, List.set_cons_succ]
            have HXS := hidb hxs
            have HBV := hidb hb3
            have HXG3 := hidb hxg
            have HRES3 := hidb hres
            obtain ⟨⟨x0, x1, x2, x3, x4⟩, -, xl⟩ := Box.six (HX2.out.keep hb3)
            obtain ⟨⟨t0, t1, t2, t3, t4⟩, -, tl⟩ := Box.six (HT2.out.keep hb3)
            clear hxs hb3 hxg hres
            have HSA : Hid (∀ W9, Below w3.heap.size w3 W9 → (fun W9 => W9.cell? ⟨w.heap.size, 0, none⟩ = some (.int .i64 kx) ∧ W9.cell? ⟨w.heap.size, 1, none⟩ = some (.int .i64 nx) ∧ W9.cell? ⟨w.heap.size, 2, none⟩ = some (.float .f64 fx) ∧ W9.cell? ⟨w.heap.size, 3, none⟩ = some (.string sx) ∧ W9.cell? ⟨w.heap.size, 4, none⟩ = some (.slice ax Lx cx) ∧ W9.cell? ⟨w1.heap.size, 0, none⟩ = some (.int .i64 7) ∧ W9.cell? ⟨w1.heap.size, 1, none⟩ = some (.int .i64 0) ∧ W9.cell? ⟨w1.heap.size, 2, none⟩ = some (.float .f64 0) ∧ W9.cell? ⟨w1.heap.size, 3, none⟩ = some (.string ⟨#[]⟩) ∧ W9.cell? ⟨w1.heap.size, 4, none⟩ = some (.slice a L c)) W9) := hidb (fun W9 hb => by
              obtain ⟨⟨x0, x1, x2, x3, x4⟩, -, xl⟩ := Box.six ((HX2.out.keep HBV.out).keep hb)
              obtain ⟨⟨t0, t1, t2, t3, t4⟩, -, tl⟩ := Box.six ((HT2.out.keep HBV.out).keep hb)
              exact ⟨x0, x1, x2, x3, x4, t0, t1, t2, t3, t4⟩)
            go_wp2_with fail
            clear x0 x1 x2 x3 x4 xl t0 t1 t2 t3 t4 tl
            refine wp_via (fun a0 ex a9 w9 => ex = .normal ∧ ∃ rb xb sk sn sf ss sa sl sc ok, a9 = ((((((((((a0.put (some 44) (.int .i64 n)).put (some 45) (.agg #[.int .i64 1, .int .i64 n, .float .f64 0, .string ⟨#[]⟩, .slice none 0 0])).put (some 46) (.agg #[.int .i64 7, .int .i64 0, .float .f64 0, .string ⟨#[]⟩, .slice a L c])).put (some 47) (.slice (some ⟨rb, 0, none⟩) 2 2)).put (some 48) (.tuple #[.agg #[.int .i64 sk, .int .i64 sn, .float .f64 sf, .string ss, .slice sa sl sc], .bool ok])).put (some 43) (.tuple #[.agg #[.int .i64 sk, .int .i64 sn, .float .f64 sf, .string ss, .slice sa sl sc], .bool ok])).put (some 49) (.agg #[.int .i64 sk, .int .i64 sn, .float .f64 sf, .string ss, .slice sa sl sc])).put (some 50) (.bool ok)).put (some 10) (.pointer (some ⟨xb, 0, none⟩))).put (some 11) (.bool ok)) ∧ Box w9 xb (.int .i64 sk) (.int .i64 sn) (.float .f64 sf) (.string ss) (.slice sa sl sc) ∧ Below w3.heap.size w3 w9 ∧ w3.heap.size ≤ xb ∧ ResP (ElP n ks) (ElE n ks) sk sn sf ss sa sl sc ok w9) ?reg2 ?rest2
            case reg2 =>
              exact plReg2 HBV HSA HAI2 LC2 _ rfl
            case rest2 =>
              rintro ex a9 w4 ⟨rfl, rb2, xe, ek, en, ef, es, ea, el, ec, also, rfl, hxe, hb4, hxg2, hres2⟩
              simp only [Act.put, List.setIfInBounds_toArray, List.set_cons_zero, List.set_cons_succ]
              have HXE := hidb hxe
              have HBX := hidb hb4
              have HXG4 := hidb hxg2
              have HB4 := hidb (HB2.out.trans ((HBV.out.trans (hb4.mono HBV.out.size)).mono HB2.out.size))
              have HXS4 := hidb (HXS.out.keep hb4)
              have HRES4 := hidb (HRES3.out.keep hb4)
              have HX4 := hidb ((HX2.out.keep HBV.out).keep hb4)
              have hal : also = plB 1 n ks.length ∧ (ok = true → plB 1 n ks.length = true) := by
                constructor
                · rcases hres2 with ⟨rfl, t, ks', -, hP, -⟩ | ⟨rfl, ⟨er, hE⟩ | ⟨t, hP, he⟩⟩
                  · exact hP.1.symm
                  · exact hE.2.symm
                  · exact absurd (err_kid HOKt.out.1 (List.mem_of_getElem? hP.2)) he
                · intro h
                  rcases HRES3.out with ⟨-, t, ks', -, hP, -⟩ | ⟨h0, -⟩
                  · exact hP.1
                  · rw [h] at h0; cases h0
              have HRE4 := hidb hres2
              obtain ⟨⟨x0, x1, x2, x3, x4⟩, -, xl⟩ := Box.six HX4.out
              obtain ⟨⟨s0, s1, s2, s3, s4⟩, -, s5⟩ := Box.six HXS4.out
              obtain ⟨⟨q0, q1, q2, q3, q4⟩, -, q5⟩ := Box.six HXE.out
              clear hxe hb4 hxg2 hres2
              by_cases hpl : plB 1 n ks.length = true
              · have hal1 : also = true := hal.1.trans hpl
                subst hal1
                have hnl : 1 ≤ n ∧ n ≤ (L : Int) := by have h := hpl; rw [HL.out] at h; simpa [plB] using h
                have n1 := hnl.1
                have n2 := hnl.2
                have HPLT := hidb hpl
                clear hal hpl hnl
                go_wp2_with fail
                obtain ⟨j, hj⟩ : ∃ j : Nat, n - 1 = (j : Int) := ⟨(n - 1).toNat, by omega⟩
                have hjl : j < L := by omega
                have hw : wrap64 (n - 1) = (j : Int) := by rw [hj]; have := HLE.out; unfold wrap64; omega
                have hw2 : IntKind.i64.wrap (n - 1) = (j : Int) := by rw [IntKind.wrap_i64]; unfold wrap64 at hw; exact hw
                have HJ := hidb (And.intro hj hjl)
                have hlk : j < ks.length := by have := HL.out; omega
                obtain ⟨b1, o1, hab, hat⟩ := kid_at HIN.out (by omega)
                subst hab
                obtain ⟨k8, n8, f8, s8, a8, c8, ks8, hu8, hin8, g0, g1, g2, g3, g4⟩ := hat j hlk
                have hb1l : b1 < w.heap.size := World.block_lt_of_cell? _ _ g0
                obtain ⟨l8, hl8⟩ : ∃ l8, ks8.length = l8 := ⟨_, rfl⟩
                rw [hl8] at g4
                have HL8 := hidb hl8
                have TW : Hid (∀ W, Below w4.heap.size w4 W → Calls Tryz.prog 10 #[.agg #[.int .i64 ek, .int .i64 en, .float .f64 ef, .string es, .slice ea el ec], .agg #[.int .i64 k8, .int .i64 n8, .float .f64 f8, .string s8, .slice a8 l8 c8]] W fun e w' => e = .returned (.bool true) ∧ Below W.heap.size W w') := hidb (fun W hW => by
                  rcases HRE4.out with ⟨-, t, ks', hl', hP, -, hs, hin'⟩ | ⟨h, -⟩
                  · have ht : t = .mk k8 n8 f8 s8 a8 c8 ks8 := by
                      have h1 := hP.2
                      rw [show (n - 1).toNat = j by omega, hu8] at h1
                      exact (Option.some.inj h1).symm
                    subst ht
                    have := twin_same _ _ (sm_symm _ _ hs) W (in_below hW hin') (in_below (HB4.out.trans (hW.mono HB4.out.size)) hin8)
                    simp only [Tr.val, Tr.cells] at this
                    rw [← hl', hl8] at this
                    exact this
                  · cases h)
                have HSA4 : Hid (∀ W9, Below w4.heap.size w4 W9 → (fun W9 => W9.cell? ⟨xe, 0, none⟩ = some (.int .i64 ek) ∧ W9.cell? ⟨xe, 1, none⟩ = some (.int .i64 en) ∧ W9.cell? ⟨xe, 2, none⟩ = some (.float .f64 ef) ∧ W9.cell? ⟨xe, 3, none⟩ = some (.string es) ∧ W9.cell? ⟨xe, 4, none⟩ = some (.slice ea el ec) ∧ W9.cell? ⟨b1, o1 + j * 5, none⟩ = some (.int .i64 k8) ∧ W9.cell? ⟨b1, o1 + j * 5 + 1, none⟩ = some (.int .i64 n8) ∧ W9.cell? ⟨b1, o1 + j * 5 + 2, none⟩ = some (.float .f64 f8) ∧ W9.cell? ⟨b1, o1 + j * 5 + 3, none⟩ = some (.string s8) ∧ W9.cell? ⟨b1, o1 + j * 5 + 4, none⟩ = some (.slice a8 l8 c8)) W9) := hidb (fun W9 hb => by
                  have hb9 := HB4.out.trans (hb.mono HB4.out.size)
                  obtain ⟨⟨q0, q1, q2, q3, q4⟩, -, -⟩ := Box.six (HXE.out.keep hb)
                  exact ⟨q0, q1, q2, q3, q4, (hb9.cell hb1l).trans g0, (hb9.cell hb1l).trans g1, (hb9.cell hb1l).trans g2, (hb9.cell hb1l).trans g3, (hb9.cell hb1l).trans g4⟩)
                have e1 : (j : Int) < (L : Int) := by omega
                have e2 : (0 : Int) ≤ (j : Int) := by omega
                clear hat hu8 hin8 g0 g1 g2 g3 g4 hl8 hlk hjl hj x0 x1 x2 x3 x4 xl s0 s1 s2 s3 s4 s5 q0 q1 q2 q3 q4 q5
                refine Code.wp_mono (fun ex a9 w5 hr => ?_) (plReg3 HSA4 TW hw2 e1 e2)
                obtain ⟨rfl, u59, u60, u61, u62, u63, u64, u65, u66, u67, u68, u69, u70, u71, u72, u73, u74, u75, u76, u77, u78, u79, u80, rfl, hb5⟩ := hr
                have HB5 := hidb hb5
                clear hb5
                cases ok
                · go_wp2_with fail
                  go_ret
                  exact ⟨rfl, HB4.out.trans (HB5.out.mono HB4.out.size)⟩
                · skip
                  obtain ⟨KS, hKS⟩ : ∃ KS, sl = KS.length ∧ KS.length = L ∧ (∀ m t, KS[m]? = some t → ∃ u, (ks.set j (.mk kx nx fx sx ax cx ksx))[m]? = some u ∧ Sm t u) ∧ (Tr.mk sk sn sf ss sa sc KS).In w4 0 := by
                    rcases HRES4.out with ⟨-, t, ks', hl', hP, -, hs, hin'⟩ | ⟨h, -⟩
                    · obtain ⟨-, a', c', rfl⟩ := hP
                      rw [show (n - 1).toNat = j by have := HJ.out.1; omega] at hs
                      unfold Sm at hs
                      have hsa := hs.2.2.2.2
                      have hln := smA_len hsa
                      rw [List.length_set] at hln
                      have hLL := HL.out
                      refine ⟨ks', hl', by omega, fun m t hm => ?_, hin'⟩
                      have hml := (List.getElem?_eq_some_iff.1 hm).1
                      obtain ⟨u, hu⟩ : ∃ u, (ks.set j (.mk kx nx fx sx ax cx ksx))[m]? = some u := ⟨_, List.getElem?_eq_getElem (by rw [List.length_set]; omega)⟩
                      exact ⟨u, hu, sm_symm _ _ (smA_get _ _ hsa m _ _ hu hm)⟩
                    · cases h
                  obtain ⟨hs1, hs2, hs3, hs4⟩ := hKS
                  rw [hs2] at hs1
                  subst hs1
                  have HKL := hidb hs2
                  have HKS := hidb hs3
                  have HKI := hidb hs4
                  clear hs2 hs3 hs4
                  obtain ⟨⟨s0, s1, s2, s3, s4⟩, -, s5⟩ := Box.six (HXS4.out.keep HB5.out)
                  have k6 : (((sl : Nat) : Int) != ((sl : Nat) : Int)) = false := by simp
                  go_wp2_with fail
                  clear k6 s0 s1 s2 s3 s4 s5
                  have HXS5 := hidb (HXS4.out.keep HB5.out)
                  have HX5 := hidb (HX4.out.keep HB5.out)
                  have HBw5 := hidb (HB4.out.trans (HB5.out.mono HB4.out.size))
                  refine plLoop HIN HIX HL HLx HLE HJ HKL HKS (hidb (in_below HB5.out HKI.out)) HXS5 HX5 HBw5 ?_
                  intro u6 u13 u90 u91 u92 u93 u94 u95 u96 u97 u98 u99 u100 u101 u102 u103 u104 u105 u106 u107 u108 u109 u110 u111 u112 u113 u114 u115 u116 u117 u118 W hbW
                  have HBW := hidb (HBw5.out.trans (hbW.mono HBw5.out.size))
                  clear hbW
                  go_wp2_with fail
                  go_ret
                  exact ⟨rfl, HBW.out⟩
              · have hpf : plB 1 n ks.length = false := by simpa using hpl
                have hal1 : also = false := hal.1.trans hpf
                have hok1 : ok = false := by cases ok <;> simp_all
                subst hal1 hok1
                have hnl : ¬ (1 ≤ n ∧ n ≤ (L : Int)) := by intro h; rw [HL.out] at hpl; exact hpl (by simpa [plB] using h)
                clear hal hpl hpf
                by_cases n1 : 1 ≤ n
                · have n2 : ¬ n ≤ (L : Int) := fun h => hnl ⟨n1, h⟩
                  clear hnl
                  go_wp2_with fail
                  go_big_quiet (fail)
                  go_wp2_with fail
                  go_ret
                  exact ⟨rfl, below_drewN HB4.out _⟩
                · clear hnl
                  go_wp2_with fail
                  go_big_quiet (fail)
                  go_wp2_with fail
                  go_ret
                  exact ⟨rfl, below_drewN HB4.out _⟩
  · have h2 : (200 : Int) < (L : Int) := by omega
    have HB2 := hidb (HB1.out.alloc HB1.out.size (.cells #[.int .i64 7, .int .i64 0, .float .f64 0, .string ⟨#[]⟩, .slice a L c] 25))
    clear h200
    go_wp2_with fail
    go_ret
    exact ⟨rfl, HB2.out⟩
end Go.Proofs.YtajadhkpadkikaaGreatDoor


