import Derived.Test.YtogahhbckfnllaaG42
import Derived.Test.YtogahhbckfnllaaIOL
/- InboxPlays' loop over the messages. -/
namespace Go.Proofs.Ytogahhbckfnllaa
open Go.RowKit Go.Shelf Go.Deep
attribute [local go_sem] store_float f64bits Oper.semAt_some
attribute [local go_sem ↓] Go.wp_at_zero Go.wp_at_succ

section
variable {t0 t1 t2 t3 t4 t5 t6 t7 t8 t9 t10 t11 t12 t13 t14 t15 t16 t17 t18 t19 t20 t21 t22 t23 t24 t25 t26 t27 t28 t29 t30 t31 t32 t33 t34 t35 t36 t37 t38 t39 t40 t41 t42 t43 t44 t45 t46 t47 t48 t49 t50 t51 t52 t53 t54 t55 t56 t57 t58 t59 t60 t61 t62 t63 t64 t65 t66 t67 t68 t69 t70 t71 t72 t73 t74 t75 t76 t77 t78 t79 t80 t81 t82 t83 t84 t85 t86 t87 t88 t89 t90 t91 t92 t93 t94 t95 t96 t97 t98 t99 t100 t101 t102 t103 t104 t105 t106 t107 t108 t109 : Value}
set_option maxRecDepth 100000 in
set_option maxHeartbeats 16000000 in
theorem ipLoop {Q : Exit → Act → World → Prop} {dfs : List Deferred} {wr wa : World} {B RV nv gr cap bb rb : Nat} {ga : Option Addr} {gc place most puts : Nat} {ms : List Msg} {ds : List Tr} {R T : Nat → Prop} (hpb : PB wr bb rb (.slice ga ds.length gc) ms ds place most puts R T) (hml : ms.length ≤ 1000) (hB : B = wr.heap.size) (hrv : wr.cell? ⟨RV, 0, none⟩ = some (.pointer (some ⟨rb, 0, none⟩)))
    (hba : Below wr.heap.size wr wa) (n0 : wa.cell? ⟨B, 0, none⟩ = some (.int .i64 0)) (nf : wa.frozen? ⟨B, 0, none⟩ = false) (hnv : B ≠ nv) (hgr : B ≠ gr) (hcn : wa.cell? ⟨nv, 0, none⟩ = some (.slice (some ⟨gr, 0, none⟩) ms.length cap)) (hgl : gr < wa.heap.size) (hrow : ∀ (j : Nat) (u : Value), (mcs ms)[j]? = some u → wa.cell? ⟨gr, j, none⟩ = some u)
    (hd : ∀ (De : Nat) (W : World), wa.heap.size ≤ De → W.heap[De]? = some (.deferred (some [])) → But (fun k => k = B) wa W → W.cell? ⟨B, 0, none⟩ = some (.int .i64 (ds.length : Int)) → Q .normal ⟨#[t0, t1, t2, t3, t4, t5, t6, .pointer (some ⟨RV, 0, none⟩), t8, t9, .pointer (some ⟨B, 0, none⟩), t11, t12, t13, t14, t15, t16, t17, t18, t19, t20, t21, t22, t23, t24, t25, t26, t27, t28, t29, t30, t31, t32, t33, t34, t35, t36, t37, t38, t39, t40, t41, t42, t43, t44, t45, t46, t47, t48, t49, t50, t51, t52, t53, t54, t55, t56, t57, t58, t59, t60, t61, t62, t63, t64, t65, t66, t67, t68, t69, t70, t71, t72, t73, (.func (.func 28) #[] #[.pointer (some ⟨nv, 0, none⟩)]), t75, t76, t77, t78, t79, t80, t81, t82, t83, t84, t85, t86, t87, t88, t89, t90, t91, t92, t93, t94, t95, t96, t97, t98, t99, t100, t101, t102, t103, t104, t105, t106, t107, t108, t109], mark De :: dfs⟩ W) :
    ((Code.rangeFunc (Operand.tmp 74) #[75, 76] ((Code.region 18 #[{ dst := some 11, op := Op.assign (Operand.tmp 75), type := 3, pos := "law.go:99", after := #[], guard := none }] false).seq (Code.region 19 #[{ dst := some 12, op := Op.alloc 36, type := 0, pos := "law.go:99", after := #[], guard := none }, { dst := none, op := Op.store 36 (Operand.tmp 12) (Operand.tmp 76), type := 0, pos := "law.go:99", after := #[{ on := 0, ground := Ground.data }, { on := 0, ground := Ground.phase }], guard := none }] false)) (Code.block 3 (((Code.region 20 #[{ dst := some 77, op := Op.move (Operand.tmp 11), type := 3, pos := "law.go:100", after := #[], guard := none }, { dst := some 78, op := Op.load 3 (Operand.tmp 10), type := 3, pos := "law.go:100", after := #[], guard := none }, { dst := some 79, op := Op.binOp BinOp.neq 3 (Operand.tmp 77) (Operand.tmp 78) 3, type := 4, pos := "law.go:100", after := #[{ on := 0, ground := Ground.data }, { on := 1, ground := Ground.data }], guard := none }, { dst := some 80, op := Op.move (Operand.tmp 79), type := 4, pos := "law.go:100", after := #[{ on := 2, ground := Ground.data }], guard := none }, { dst := some 81, op := Op.load 3 (Operand.tmp 10), type := 3, pos := "law.go:100", after := #[{ on := 3, ground := Ground.guard }], guard := some (3, false) }, { dst := some 82, op := Op.load 29 (Operand.tmp 7), type := 29, pos := "law.go:100", after := #[{ on := 3, ground := Ground.guard }], guard := some (3, false) }, { dst := some 83, op := Op.nilCheck (Operand.tmp 82), type := 0, pos := "law.go:100", after := #[{ on := 5, ground := Ground.data }, { on := 3, ground := Ground.guard }], guard := some (3, false) }, { dst := some 84, op := Op.fieldAddr 41 (Operand.tmp 83) 0, type := 0, pos := "law.go:100", after := #[{ on := 6, ground := Ground.data }, { on := 3, ground := Ground.guard }], guard := some (3, false) }, { dst := some 85, op := Op.load 34 (Operand.tmp 84), type := 34, pos := "law.go:100", after := #[{ on := 7, ground := Ground.data }, { on := 3, ground := Ground.guard }], guard := some (3, false) }, { dst := some 86, op := Op.call { callee := Callee.builtin Builtin.len, args := #[Operand.tmp 85], argTypes := #[34] }, type := 3, pos := "law.go:100", after := #[{ on := 8, ground := Ground.data }, { on := 3, ground := Ground.guard }], guard := some (3, false) }, { dst := some 87, op := Op.binOp BinOp.geq 3 (Operand.tmp 81) (Operand.tmp 86) 3, type := 4, pos := "law.go:100", after := #[{ on := 4, ground := Ground.data }, { on := 9, ground := Ground.data }, { on := 3, ground := Ground.guard }], guard := some (3, false) }, { dst := some 88, op := Op.pick (Operand.tmp 80) (Operand.const (Value.bool true)) (Operand.tmp 87), type := 4, pos := "law.go:100", after := #[{ on := 3, ground := Ground.data }, { on := 10, ground := Ground.data }], guard := none }, { dst := some 89, op := Op.move (Operand.tmp 88), type := 4, pos := "law.go:100", after := #[{ on := 11, ground := Ground.data }, { on := 3, ground := Ground.chain }], guard := none }, { dst := some 90, op := Op.load 36 (Operand.tmp 12), type := 36, pos := "law.go:100", after := #[{ on := 12, ground := Ground.guard }], guard := some (12, false) }, { dst := some 91, op := Op.load 29 (Operand.tmp 7), type := 29, pos := "law.go:100", after := #[{ on := 12, ground := Ground.guard }], guard := some (12, false) }, { dst := some 92, op := Op.nilCheck (Operand.tmp 91), type := 0, pos := "law.go:100", after := #[{ on := 14, ground := Ground.data }, { on := 12, ground := Ground.guard }], guard := some (12, false) }, { dst := some 93, op := Op.fieldAddr 41 (Operand.tmp 92) 0, type := 0, pos := "law.go:100", after := #[{ on := 15, ground := Ground.data }, { on := 12, ground := Ground.guard }], guard := some (12, false) }, { dst := some 94, op := Op.load 34 (Operand.tmp 93), type := 34, pos := "law.go:100", after := #[{ on := 16, ground := Ground.data }, { on := 12, ground := Ground.guard }], guard := some (12, false) }, { dst := some 95, op := Op.load 3 (Operand.tmp 10), type := 3, pos := "law.go:100", after := #[{ on := 12, ground := Ground.guard }], guard := some (12, false) }, { dst := some 96, op := Op.indexAddr 34 (Operand.tmp 94) (Operand.tmp 95), type := 0, pos := "law.go:100", after := #[{ on := 17, ground := Ground.data }, { on := 18, ground := Ground.data }, { on := 12, ground := Ground.guard }], guard := some (12, false) }, { dst := some 97, op := Op.load 36 (Operand.tmp 96), type := 36, pos := "law.go:100", after := #[{ on := 19, ground := Ground.data }, { on := 12, ground := Ground.guard }], guard := some (12, false) }, { dst := some 98, op := Op.call { callee := Callee.value (Operand.func 12), args := #[Operand.tmp 90, Operand.tmp 97], argTypes := #[36, 36] }, type := 4, pos := "law.go:100", after := #[{ on := 13, ground := Ground.data }, { on := 20, ground := Ground.data }, { on := 12, ground := Ground.chain }, { on := 12, ground := Ground.guard }], guard := some (12, false) }, { dst := some 99, op := Op.unOp UnOp.not 4 (Operand.tmp 98), type := 4, pos := "law.go:100", after := #[{ on := 21, ground := Ground.data }, { on := 12, ground := Ground.guard }], guard := some (12, false) }, { dst := some 100, op := Op.pick (Operand.tmp 89) (Operand.const (Value.bool true)) (Operand.tmp 99), type := 4, pos := "law.go:100", after := #[{ on := 12, ground := Ground.data }, { on := 22, ground := Ground.data }], guard := none }] true).seq (Code.cond (Operand.tmp 100) ((Code.region 21 #[{ dst := none, op := Op.store 4 (Operand.tmp 4) (Operand.const (Value.bool false)), type := 0, pos := "law.go:101", after := #[], guard := none }] false).seq Code.ret) Code.skip)).seq (Code.region 22 #[{ dst := some 101, op := Op.load 3 (Operand.tmp 10), type := 3, pos := "law.go:103", after := #[], guard := none }, { dst := some 102, op := Op.binOp BinOp.add 3 (Operand.tmp 101) (Operand.const (Value.int IntKind.i64 1)) 3, type := 3, pos := "law.go:103", after := #[{ on := 0, ground := Ground.data }], guard := none }, { dst := none, op := Op.store 3 (Operand.tmp 10) (Operand.tmp 102), type := 0, pos := "law.go:103", after := #[{ on := 1, ground := Ground.data }, { on := 0, ground := Ground.phase }, { on := 1, ground := Ground.phase }], guard := none }] false))))).wp Try.prog Q ⟨#[t0, t1, t2, t3, t4, t5, t6, .pointer (some ⟨RV, 0, none⟩), t8, t9, .pointer (some ⟨B, 0, none⟩), t11, t12, t13, t14, t15, t16, t17, t18, t19, t20, t21, t22, t23, t24, t25, t26, t27, t28, t29, t30, t31, t32, t33, t34, t35, t36, t37, t38, t39, t40, t41, t42, t43, t44, t45, t46, t47, t48, t49, t50, t51, t52, t53, t54, t55, t56, t57, t58, t59, t60, t61, t62, t63, t64, t65, t66, t67, t68, t69, t70, t71, t72, t73, (.func (.func 28) #[] #[.pointer (some ⟨nv, 0, none⟩)]), t75, t76, t77, t78, t79, t80, t81, t82, t83, t84, t85, t86, t87, t88, t89, t90, t91, t92, t93, t94, t95, t96, t97, t98, t99, t100, t101, t102, t103, t104, t105, t106, t107, t108, t109], dfs⟩ wa := by
  have HD := hidb hd
  have HPW := hidb hpb
  have HWA := hidb hba
  have HRV := hidb hrv
  have hlen := hpb.len
  have hnl : nv < wa.heap.size := World.block_lt_of_cell? _ _ hcn
  have hzr := hba.size
  have hlr : ∀ q, q < wr.heap.size → ¬ (q = B ∨ wa.heap.size ≤ q) := fun q hq => by omega
  have HLT := hidb hlr
  have hseq := alls_o (w := wa) (nv := nv) (gr := gr) (cap := cap) (ts := ms.map Msg.t) (by simpa using hcn) (fun j u hu => hrow j u (by rw [mcs_flat]; exact hu)) (by simp; omega)
    (M := (fun k => k = B ∨ wa.heap.size ≤ k)) (by omega) (by omega)
    (fun W' hb t ht => by
      obtain ⟨y, hy, rfl⟩ := List.mem_map.1 ht
      have htr := hpb.hb.tr y hy
      exact in_on (S := R) (fun q hq => (hb.block q (by have := hpb.hb.lt (.inr hq); omega) (hlr q (hpb.hb.lt (.inr hq)))).trans (hba.block q (hpb.hb.lt (.inr hq)))) _ htr.1 htr.2)
    (fun t ht => by
      obtain ⟨y, hy, rfl⟩ := List.mem_map.1 ht
      have hg := hpb.gd y hy
      exact ⟨hg.2.2.1, by omega⟩)
  have hBa : B < wa.heap.size := World.block_lt_of_cell? _ _ n0
  clear hd hpb hba hrv hrow hcn hnv hgr hnl hgl hlr hB
  refine range_w (w := wa) (gf := 28) (lb := #[.pointer (some ⟨nv, 0, none⟩)]) rfl (enters_of Try.func28 (by kernel_rfl) rfl) hseq (fun k hk => .inr hk) (Below.refl _ _) (fun _ => rfl)
    (fun (pre : List (Nat × Tr)) (W : World) => ∃ p : Nat, (p = pre.length) ∧ (W.cell? ⟨B, 0, none⟩ = some (.int .i64 (p : Int)) ∧ W.frozen? ⟨B, 0, none⟩ = false) ∧ But (fun k => k = B) wa W) (fun _ _ _ => False)
    ?hI (fun _ _ _ _ _ h _ _ => h) ⟨0, rfl, ⟨n0, nf⟩, But.refl _ _⟩
    (fun q W => (∃ p : Nat, (p = q.1.length) ∧ (W.cell? ⟨B, 0, none⟩ = some (.int .i64 (p : Int)) ∧ W.frozen? ⟨B, 0, none⟩ = false) ∧ But (fun k => k = B) wa W) ∧ q.2.1.2.In W 0 ∧ ∀ xb, q.2.2.tmps[12]? = some (.pointer (some ⟨xb, 0, none⟩)) → wa.heap.size ≤ xb ∧ ∀ (j : Nat) (u : Value), q.2.1.2.cells[j]? = some u → W.cell? ⟨xb, j, none⟩ = some u)
    ?hH ?rnd ?done ?stop
  case hI =>
    rintro pre W1 W2 row ⟨p, h1, h2, h3⟩ hg hr
    exact ⟨p, h1, OwnFrom.cells _ (fun _ : Unit => .int .i64 (p : Int)) () W1 W2 row h2 hg hr, OwnFrom.but (β := Unit) (Nat.le_refl _) () W1 W2 row h3 hg hr⟩
  case hH =>
    rintro ⟨pre, x, a'⟩ W1 W2 row ⟨⟨p, h1, h2, h3⟩, h4, h5⟩ hg hr
    exact ⟨⟨p, h1, OwnFrom.cells _ (fun _ : Unit => .int .i64 (p : Int)) () W1 W2 row h2 hg hr, OwnFrom.but (β := Unit) (Nat.le_refl _) () W1 W2 row h3 hg hr⟩, in_over (fun _ _ _ hq => cell_kept hq hg (fun r e => (hr r e).2)) _ h4, fun xb hxb => ⟨(h5 xb hxb).1, fun j u hu => cell_kept ((h5 xb hxb).2 j u hu) hg (fun r e => (hr r e).2)⟩⟩
  case stop =>
    intro De c' pre W' hD' hp h hK'
    exact h.elim
  case done =>
    rintro De zs W' hD' hzs ⟨p, hp, ⟨p1, p2⟩, hB9⟩ hK'
    have e : p = ds.length := by rw [hp, hzs]; simp; omega
    subst e
    exact HD.out De W' hD' hK' hB9 p1
  case rnd =>
    rintro l2 pre ⟨xi, ⟨k2, n2, f2, s2, a2, c2, ks2⟩⟩ W ⟨hxi, t, ht, hst, hxin⟩ hlen2 hI hsz
    simp only at hxi ht hst hxin
    subst hxi
    have HI := hidb hI
    have HXI := hidb hxin
    have HSZ := hidb hsz
    have HT := hidb (And.intro ht (And.intro hst hlen2))
    clear hI hxin hsz ht hst hlen2
    simp only [alle, Tr.val, Tr.cells]
    gi_wp2
    obtain ⟨p', hp', ⟨y1, y2⟩, y3⟩ := HI.out
    subst hp'
    have hyb := World.block_lt_of_cell? _ _ y1
    refine ⟨below_new _ _, ⟨⟨⟨((below_new W _).cell hyb).trans y1, ((below_new W _).frozen hyb).trans y2⟩, y3.alloc _⟩, in_below (below_new W _) HXI.out, by have := HSZ.out; omega⟩, ?_⟩
    clear y1 y2 y3 hyb
    intro W1 p1 p2 hB9 hin1 hxw hxc hsz1
    have x0 := hxc 0 _ rfl
    have x1 := hxc 1 _ rfl
    have x2 := hxc 2 _ rfl
    have x3 := hxc 3 _ rfl
    have x4 := hxc 4 _ rfl
    have hpl : pre.length < ds.length := by have := HT.out.2.2; simp at this; omega
    obtain ⟨m, hm, hmt⟩ : ∃ m, ms[pre.length]? = some m ∧ m.t = t := by
      have h1 := HT.out.1
      rw [List.getElem?_map] at h1
      obtain ⟨m, hm, h2⟩ := Option.map_eq_some_iff.1 h1
      exact ⟨m, hm, h2⟩
    obtain ⟨k1, n1, f1, s1, a1, c1, kids1, hd1, hs1, hin0, hon0, -⟩ := HPW.out.pair hm
    have hbw : But (fun q => q = B ∨ wa.heap.size ≤ q) wr W1 := (But.of_below HWA.out).trans (hB9.mono (fun q _ e => .inl e))
    have cl : ∀ (p : Addr) (v : Value), wr.cell? p = some v → W1.cell? p = some v := fun p v hv => (hbw.cell (World.block_lt_of_cell? _ _ hv) (HLT.out _ (World.block_lt_of_cell? _ _ hv))).trans hv
    obtain ⟨g, gcap, hv, -, -, v0, v1, v2, v3, v4⟩ := HPW.out.hr.at hd1
    obtain ⟨rfl, rfl⟩ : ga = some ⟨g, 0, none⟩ ∧ gc = gcap := by simpa using hv
    have hin3 : (Tr.mk k1 n1 f1 s1 a1 c1 kids1).In W1 0 := in_on (S := T) (fun q hq => hbw.block q (HPW.out.hr.lt (.inr hq)) (HLT.out q (HPW.out.hr.lt (.inr hq)))) _ hin0 hon0
    have hsm : Sm (Tr.mk k2 n2 f2 s2 a2 c2 ks2) (Tr.mk k1 n1 f1 s1 a1 c1 kids1) := sm_trans _ _ _ (sm_symm _ _ HT.out.2.1) (hmt ▸ hs1)
    have TW := hidb (twin_same _ _ hsm W1.drew (in_below ((Below.refl _ _).drew) hin1) (in_below ((Below.refl _ _).drew) hin3))
    simp only [Tr.val, Tr.cells] at TW
    have s3 : (0 : Int) ≤ (pre.length : Int) := by omega
    have s2' : (pre.length : Int) < (ds.length : Int) := by omega
    have s1' : decide (ds.length ≤ pre.length) = false := by simp; omega
    have s4 : wrap64 ((pre.length : Int) + 1) = ((pre.length + 1 : Nat) : Int) := by unfold wrap64; omega
    have HPN := hidb (And.intro p1 p2)
    have HB9 := hidb hB9
    have HBL : Hid (B < W1.heap.size) := hidb (World.block_lt_of_cell? _ _ p1)
    have HS0 : Hid (W1.drew.cell? ⟨B, 0, none⟩ = some (.int .i64 (pre.length : Int)) ∧ W1.drew.cell? ⟨RV, 0, none⟩ = some (.pointer (some ⟨rb, 0, none⟩)) ∧ W1.drew.cell? ⟨rb, 0, none⟩ = some (.slice (some ⟨g, 0, none⟩) ds.length gc) ∧ W1.drew.cell? ⟨W.heap.size, 0, none⟩ = some (.int .i64 k2) ∧ W1.drew.cell? ⟨W.heap.size, 1, none⟩ = some (.int .i64 n2) ∧ W1.drew.cell? ⟨W.heap.size, 2, none⟩ = some (.float .f64 f2) ∧ W1.drew.cell? ⟨W.heap.size, 3, none⟩ = some (.string s2) ∧ W1.drew.cell? ⟨W.heap.size, 4, none⟩ = some (.slice a2 ks2.length c2) ∧ W1.drew.cell? ⟨g, pre.length * 5, none⟩ = some (.int .i64 k1) ∧ W1.drew.cell? ⟨g, pre.length * 5 + 1, none⟩ = some (.int .i64 n1) ∧ W1.drew.cell? ⟨g, pre.length * 5 + 2, none⟩ = some (.float .f64 f1) ∧ W1.drew.cell? ⟨g, pre.length * 5 + 3, none⟩ = some (.string s1) ∧ W1.drew.cell? ⟨g, pre.length * 5 + 4, none⟩ = some (.slice a1 kids1.length c1)) := hidb ⟨p1, cl _ _ HRV.out, cl _ _ (HPW.out.hr.box.1 0 _ rfl).1, x0, x1, x2, x3, x4, cl _ _ v0, cl _ _ v1, cl _ _ v2, cl _ _ v3, cl _ _ v4⟩
    clear hin1 hin3 hsm hbw cl hv v0 v1 v2 v3 v4 x0 x1 x2 x3 x4 hd1 hs1 hin0 hon0 hm hmt hxc p1 p2 hB9 hpl
    gi_wp2
    refine region_round_D l2 (fun Wz => Wz.cell? ⟨B, 0, none⟩ = some (.int .i64 (pre.length : Int)) ∧ Wz.cell? ⟨RV, 0, none⟩ = some (.pointer (some ⟨rb, 0, none⟩)) ∧ Wz.cell? ⟨rb, 0, none⟩ = some (.slice (some ⟨g, 0, none⟩) ds.length gc) ∧ Wz.cell? ⟨W.heap.size, 0, none⟩ = some (.int .i64 k2) ∧ Wz.cell? ⟨W.heap.size, 1, none⟩ = some (.int .i64 n2) ∧ Wz.cell? ⟨W.heap.size, 2, none⟩ = some (.float .f64 f2) ∧ Wz.cell? ⟨W.heap.size, 3, none⟩ = some (.string s2) ∧ Wz.cell? ⟨W.heap.size, 4, none⟩ = some (.slice a2 ks2.length c2) ∧ Wz.cell? ⟨g, pre.length * 5, none⟩ = some (.int .i64 k1) ∧ Wz.cell? ⟨g, pre.length * 5 + 1, none⟩ = some (.int .i64 n1) ∧ Wz.cell? ⟨g, pre.length * 5 + 2, none⟩ = some (.float .f64 f1) ∧ Wz.cell? ⟨g, pre.length * 5 + 3, none⟩ = some (.string s1) ∧ Wz.cell? ⟨g, pre.length * 5 + 4, none⟩ = some (.slice a1 kids1.length c1)) [] (by kernel_rfl) (by kernel_rfl) (fun ⟨_, _, hh⟩ => hh) ?_
    refine wpAnyD_takeL (i := 0) (v := ?vv0x0) rfl (by kernel_rfl) (by kernel_rfl) (by kernel_rfl) (by kernel_rfl) (fun _ _ _ h => h) HS0.out rfl ?hy0x0 ?_
    case hy0x0 => intro wy hSw; obtain ⟨y0, y1, y2, y3, y4, y5, y6, y7, y8, y9, y10, y11, y12⟩ := hSw; go_simp; try with_reducible rfl
    simp only [Act.put, List.setIfInBounds_toArray, List.set_cons_zero, List.set_cons_succ]
    refine wpAnyD_takeL (i := 1) (v := ?vv1x0) rfl (by kernel_rfl) (by kernel_rfl) (by kernel_rfl) (by kernel_rfl) (fun _ _ _ h => h) HS0.out rfl ?hy1x0 ?_
    case hy1x0 => intro wy hSw; obtain ⟨y0, y1, y2, y3, y4, y5, y6, y7, y8, y9, y10, y11, y12⟩ := hSw; go_simp; try with_reducible rfl
    simp only [Act.put, List.setIfInBounds_toArray, List.set_cons_zero, List.set_cons_succ]
    refine wpAnyD_takeL (i := 2) (v := ?vv2x0) rfl (by kernel_rfl) (by kernel_rfl) (by kernel_rfl) (by kernel_rfl) (fun _ _ _ h => h) HS0.out rfl ?hy2x0 ?_
    case hy2x0 => intro wy hSw; obtain ⟨y0, y1, y2, y3, y4, y5, y6, y7, y8, y9, y10, y11, y12⟩ := hSw; go_simp; try with_reducible rfl
    simp only [Act.put, List.setIfInBounds_toArray, List.set_cons_zero, List.set_cons_succ]
    refine wpAnyD_takeL (i := 3) (v := ?vv3x0) rfl (by kernel_rfl) (by kernel_rfl) (by kernel_rfl) (by kernel_rfl) (fun _ _ _ h => h) HS0.out rfl ?hy3x0 ?_
    case hy3x0 => intro wy hSw; obtain ⟨y0, y1, y2, y3, y4, y5, y6, y7, y8, y9, y10, y11, y12⟩ := hSw; go_simp; try with_reducible rfl
    simp only [Act.put, List.setIfInBounds_toArray, List.set_cons_zero, List.set_cons_succ]
    refine wpAnyD_takeG (i := 4) (v := ?vv4x0) rfl (by kernel_rfl) (by kernel_rfl) (by kernel_rfl) (by kernel_rfl) (fun _ _ _ h => h) HS0.out (by simp [Region.wanted, yielded]) ?hy4x0 ?_
    case hy4x0 => intro wy hSw; obtain ⟨y0, y1, y2, y3, y4, y5, y6, y7, y8, y9, y10, y11, y12⟩ := hSw; go_simp; try with_reducible rfl
    simp only [Act.put, List.setIfInBounds_toArray, List.set_cons_zero, List.set_cons_succ]
    refine wpAnyD_takeG (i := 5) (v := ?vv5x0) rfl (by kernel_rfl) (by kernel_rfl) (by kernel_rfl) (by kernel_rfl) (fun _ _ _ h => h) HS0.out (by simp [Region.wanted, yielded]) ?hy5x0 ?_
    case hy5x0 => intro wy hSw; obtain ⟨y0, y1, y2, y3, y4, y5, y6, y7, y8, y9, y10, y11, y12⟩ := hSw; go_simp; try with_reducible rfl
    simp only [Act.put, List.setIfInBounds_toArray, List.set_cons_zero, List.set_cons_succ]
    refine wpAnyD_takeG (i := 6) (v := ?vv6x0) rfl (by kernel_rfl) (by kernel_rfl) (by kernel_rfl) (by kernel_rfl) (fun _ _ _ h => h) HS0.out (by simp [Region.wanted, yielded]) ?hy6x0 ?_
    case hy6x0 => intro wy hSw; obtain ⟨y0, y1, y2, y3, y4, y5, y6, y7, y8, y9, y10, y11, y12⟩ := hSw; go_simp; try with_reducible rfl
    simp only [Act.put, List.setIfInBounds_toArray, List.set_cons_zero, List.set_cons_succ]
    refine wpAnyD_takeG (i := 7) (v := ?vv7x0) rfl (by kernel_rfl) (by kernel_rfl) (by kernel_rfl) (by kernel_rfl) (fun _ _ _ h => h) HS0.out (by simp [Region.wanted, yielded]) ?hy7x0 ?_
    case hy7x0 => intro wy hSw; obtain ⟨y0, y1, y2, y3, y4, y5, y6, y7, y8, y9, y10, y11, y12⟩ := hSw; go_simp; try with_reducible rfl
    simp only [Act.put, List.setIfInBounds_toArray, List.set_cons_zero, List.set_cons_succ]
    refine wpAnyD_takeG (i := 8) (v := ?vv8x0) rfl (by kernel_rfl) (by kernel_rfl) (by kernel_rfl) (by kernel_rfl) (fun _ _ _ h => h) HS0.out (by simp [Region.wanted, yielded]) ?hy8x0 ?_
    case hy8x0 => intro wy hSw; obtain ⟨y0, y1, y2, y3, y4, y5, y6, y7, y8, y9, y10, y11, y12⟩ := hSw; go_simp; try with_reducible rfl
    simp only [Act.put, List.setIfInBounds_toArray, List.set_cons_zero, List.set_cons_succ]
    refine wpAnyD_takeG (i := 9) (v := ?vv9x0) rfl (by kernel_rfl) (by kernel_rfl) (by kernel_rfl) (by kernel_rfl) (fun _ _ _ h => h) HS0.out (by simp [Region.wanted, yielded]) ?hy9x0 ?_
    case hy9x0 => intro wy hSw; obtain ⟨y0, y1, y2, y3, y4, y5, y6, y7, y8, y9, y10, y11, y12⟩ := hSw; go_simp; try with_reducible rfl
    simp only [Act.put, List.setIfInBounds_toArray, List.set_cons_zero, List.set_cons_succ]
    refine wpAnyD_takeG (i := 10) (v := ?vv10x0) rfl (by kernel_rfl) (by kernel_rfl) (by kernel_rfl) (by kernel_rfl) (fun _ _ _ h => h) HS0.out (by simp [Region.wanted, yielded]) ?hy10x0 ?_
    case hy10x0 => intro wy hSw; obtain ⟨y0, y1, y2, y3, y4, y5, y6, y7, y8, y9, y10, y11, y12⟩ := hSw; go_simp; try with_reducible rfl
    simp only [Act.put, List.setIfInBounds_toArray, List.set_cons_zero, List.set_cons_succ]
    refine wpAnyD_takeL (i := 11) (v := ?vv11x0) rfl (by kernel_rfl) (by kernel_rfl) (by kernel_rfl) (by kernel_rfl) (fun _ _ _ h => h) HS0.out rfl ?hy11x0 ?_
    case hy11x0 => intro wy hSw; obtain ⟨y0, y1, y2, y3, y4, y5, y6, y7, y8, y9, y10, y11, y12⟩ := hSw; go_simp; try with_reducible rfl
    simp only [Act.put, List.setIfInBounds_toArray, List.set_cons_zero, List.set_cons_succ]
    refine wpAnyD_takeL (i := 12) (v := ?vv12x0) rfl (by kernel_rfl) (by kernel_rfl) (by kernel_rfl) (by kernel_rfl) (fun _ _ _ h => h) HS0.out rfl ?hy12x0 ?_
    case hy12x0 => intro wy hSw; obtain ⟨y0, y1, y2, y3, y4, y5, y6, y7, y8, y9, y10, y11, y12⟩ := hSw; go_simp; try with_reducible rfl
    simp only [Act.put, List.setIfInBounds_toArray, List.set_cons_zero, List.set_cons_succ]
    refine wpAnyD_takeG (i := 13) (v := ?vv13x0) rfl (by kernel_rfl) (by kernel_rfl) (by kernel_rfl) (by kernel_rfl) (fun _ _ _ h => h) HS0.out (by simp [Region.wanted, yielded]) ?hy13x0 ?_
    case hy13x0 => intro wy hSw; obtain ⟨y0, y1, y2, y3, y4, y5, y6, y7, y8, y9, y10, y11, y12⟩ := hSw; go_simp; try with_reducible rfl
    simp only [Act.put, List.setIfInBounds_toArray, List.set_cons_zero, List.set_cons_succ]
    refine wpAnyD_takeG (i := 14) (v := ?vv14x0) rfl (by kernel_rfl) (by kernel_rfl) (by kernel_rfl) (by kernel_rfl) (fun _ _ _ h => h) HS0.out (by simp [Region.wanted, yielded]) ?hy14x0 ?_
    case hy14x0 => intro wy hSw; obtain ⟨y0, y1, y2, y3, y4, y5, y6, y7, y8, y9, y10, y11, y12⟩ := hSw; go_simp; try with_reducible rfl
    simp only [Act.put, List.setIfInBounds_toArray, List.set_cons_zero, List.set_cons_succ]
    refine wpAnyD_takeG (i := 15) (v := ?vv15x0) rfl (by kernel_rfl) (by kernel_rfl) (by kernel_rfl) (by kernel_rfl) (fun _ _ _ h => h) HS0.out (by simp [Region.wanted, yielded]) ?hy15x0 ?_
    case hy15x0 => intro wy hSw; obtain ⟨y0, y1, y2, y3, y4, y5, y6, y7, y8, y9, y10, y11, y12⟩ := hSw; go_simp; try with_reducible rfl
    simp only [Act.put, List.setIfInBounds_toArray, List.set_cons_zero, List.set_cons_succ]
    refine wpAnyD_takeG (i := 16) (v := ?vv16x0) rfl (by kernel_rfl) (by kernel_rfl) (by kernel_rfl) (by kernel_rfl) (fun _ _ _ h => h) HS0.out (by simp [Region.wanted, yielded]) ?hy16x0 ?_
    case hy16x0 => intro wy hSw; obtain ⟨y0, y1, y2, y3, y4, y5, y6, y7, y8, y9, y10, y11, y12⟩ := hSw; go_simp; try with_reducible rfl
    simp only [Act.put, List.setIfInBounds_toArray, List.set_cons_zero, List.set_cons_succ]
    refine wpAnyD_takeG (i := 17) (v := ?vv17x0) rfl (by kernel_rfl) (by kernel_rfl) (by kernel_rfl) (by kernel_rfl) (fun _ _ _ h => h) HS0.out (by simp [Region.wanted, yielded]) ?hy17x0 ?_
    case hy17x0 => intro wy hSw; obtain ⟨y0, y1, y2, y3, y4, y5, y6, y7, y8, y9, y10, y11, y12⟩ := hSw; go_simp; try with_reducible rfl
    simp only [Act.put, List.setIfInBounds_toArray, List.set_cons_zero, List.set_cons_succ]
    refine wpAnyD_takeG (i := 18) (v := ?vv18x0) rfl (by kernel_rfl) (by kernel_rfl) (by kernel_rfl) (by kernel_rfl) (fun _ _ _ h => h) HS0.out (by simp [Region.wanted, yielded]) ?hy18x0 ?_
    case hy18x0 => intro wy hSw; obtain ⟨y0, y1, y2, y3, y4, y5, y6, y7, y8, y9, y10, y11, y12⟩ := hSw; go_simp; try with_reducible rfl
    simp only [Act.put, List.setIfInBounds_toArray, List.set_cons_zero, List.set_cons_succ]
    refine wpAnyD_takeG (i := 19) (v := ?vv19x0) rfl (by kernel_rfl) (by kernel_rfl) (by kernel_rfl) (by kernel_rfl) (fun _ _ _ h => h) HS0.out (by simp [Region.wanted, yielded]) ?hy19x0 ?_
    case hy19x0 => intro wy hSw; obtain ⟨y0, y1, y2, y3, y4, y5, y6, y7, y8, y9, y10, y11, y12⟩ := hSw; go_simp; try with_reducible rfl
    simp only [Act.put, List.setIfInBounds_toArray, List.set_cons_zero, List.set_cons_succ]
    refine wpAnyD_takeG (i := 20) (v := ?vv20x0) rfl (by kernel_rfl) (by kernel_rfl) (by kernel_rfl) (by kernel_rfl) (fun _ _ _ h => h) HS0.out (by simp [Region.wanted, yielded]) ?hy20x0 ?_
    case hy20x0 => intro wy hSw; obtain ⟨y0, y1, y2, y3, y4, y5, y6, y7, y8, y9, y10, y11, y12⟩ := hSw; go_simp; try with_reducible rfl
    simp only [Act.put, List.setIfInBounds_toArray, List.set_cons_zero, List.set_cons_succ]
    refine wpAnyD_stepL (i := 21) (by kernel_rfl) rfl (fun K hK => ?_)
    refine step_callG (by simp [Region.wanted, yielded]) (run_call ent_twin #[.tmp 90, .tmp 97] _ rfl #[.agg #[.int .i64 k2, .int .i64 n2, .float .f64 f2, .string s2, .slice a2 ks2.length c2], .agg #[.int .i64 k1, .int .i64 n1, .float .f64 f1, .string s1, .slice a1 kids1.length c1]] rfl) TW.out ?_
    rintro e W2 ⟨rfl, hb2⟩
    have HB2 := hidb (undrew hb2)
    have HS1 : Hid (W2.cell? ⟨B, 0, none⟩ = some (.int .i64 (pre.length : Int)) ∧ W2.cell? ⟨RV, 0, none⟩ = some (.pointer (some ⟨rb, 0, none⟩)) ∧ W2.cell? ⟨rb, 0, none⟩ = some (.slice (some ⟨g, 0, none⟩) ds.length gc) ∧ W2.cell? ⟨W.heap.size, 0, none⟩ = some (.int .i64 k2) ∧ W2.cell? ⟨W.heap.size, 1, none⟩ = some (.int .i64 n2) ∧ W2.cell? ⟨W.heap.size, 2, none⟩ = some (.float .f64 f2) ∧ W2.cell? ⟨W.heap.size, 3, none⟩ = some (.string s2) ∧ W2.cell? ⟨W.heap.size, 4, none⟩ = some (.slice a2 ks2.length c2) ∧ W2.cell? ⟨g, pre.length * 5, none⟩ = some (.int .i64 k1) ∧ W2.cell? ⟨g, pre.length * 5 + 1, none⟩ = some (.int .i64 n1) ∧ W2.cell? ⟨g, pre.length * 5 + 2, none⟩ = some (.float .f64 f1) ∧ W2.cell? ⟨g, pre.length * 5 + 3, none⟩ = some (.string s1) ∧ W2.cell? ⟨g, pre.length * 5 + 4, none⟩ = some (.slice a1 kids1.length c1)) := hidb (by
      have cl2 : ∀ (p : Addr) (v : Value), W1.cell? p = some v → W2.cell? p = some v := fun p v hv => (HB2.out.cell (World.block_lt_of_cell? _ _ hv)).trans hv
      obtain ⟨y0, y1, y2, y3, y4, y5, y6, y7, y8, y9, y10, y11, y12⟩ := HS0.out
      exact ⟨cl2 _ _ y0, cl2 _ _ y1, cl2 _ _ y2, cl2 _ _ y3, cl2 _ _ y4, cl2 _ _ y5, cl2 _ _ y6, cl2 _ _ y7, cl2 _ _ y8, cl2 _ _ y9, cl2 _ _ y10, cl2 _ _ y11, cl2 _ _ y12⟩)
    refine hK _ _ (fun _ => HS1.out) ?_
    clear hK K hb2 HS0
    simp only [Act.put, List.setIfInBounds_toArray, List.set_cons_zero, List.set_cons_succ]
    refine wpAnyD_takeG (i := 22) (v := ?vv22x1) rfl (by kernel_rfl) (by kernel_rfl) (by kernel_rfl) (by kernel_rfl) (fun _ _ _ h => h) HS1.out (by simp [Region.wanted, yielded]) ?hy22x1 ?_
    case hy22x1 => intro wy hSw; obtain ⟨y0, y1, y2, y3, y4, y5, y6, y7, y8, y9, y10, y11, y12⟩ := hSw; go_simp; try with_reducible rfl
    simp only [Act.put, List.setIfInBounds_toArray, List.set_cons_zero, List.set_cons_succ]
    refine wpAnyD_takeL (i := 23) (v := ?vv23x1) rfl (by kernel_rfl) (by kernel_rfl) (by kernel_rfl) (by kernel_rfl) (fun _ _ _ h => h) HS1.out rfl ?hy23x1 ?_
    case hy23x1 => intro wy hSw; obtain ⟨y0, y1, y2, y3, y4, y5, y6, y7, y8, y9, y10, y11, y12⟩ := hSw; go_simp; try with_reducible rfl
    simp only [Act.put, List.setIfInBounds_toArray, List.set_cons_zero, List.set_cons_succ]
    refine wpAnyD_done (by kernel_rfl) ?_ _
    have n1' : W2.cell? ⟨B, 0, none⟩ = some (.int .i64 (pre.length : Int)) := HS1.out.1
    have n2' : W2.frozen? ⟨B, 0, none⟩ = false := (HB2.out.frozen (p := ⟨B, 0, none⟩) HBL.out).trans HPN.out.2
    clear HS1 TW
    gi_wp2
    have hle : (pre ++ [(pre.length, Tr.mk k2 n2 f2 s2 a2 c2 ks2)]).length = pre.length + 1 := by simp
    refine ⟨(But.of_below HB2.out).setCell (p := ⟨B, 0, none⟩) (fun _ => ⟨.inl rfl, .inl (by omega)⟩) _, ⟨(World.cell?_setCell_same' _ _ _ (by rw [n1']; rfl)).trans (by rw [hle]; rfl), by rw [World.frozen?_setCell]; exact n2'⟩, (HB9.out.trans (But.of_below HB2.out)).setCell (p := ⟨B, 0, none⟩) (fun _ => rfl) _⟩
end
end Go.Proofs.Ytogahhbckfnllaa


