import Derived.Test.YtggpbfmdhenjdaaG29
import Derived.Test.YtggpbfmdhenjdaaLIT
import Derived.Test.YtggpbfmdhenjdaaG33
import Derived.Test.YtggpbfmdhenjdaaG31
/- A loop of few rounds, unrolled: each round may leave what it likes (temps, marks of ranges). -/
namespace Go.Proofs.Ytggpbfmdhenjdaa
open Go.RowKit Go.Shelf

/-- At most n rounds, each after the other. -/
def Un (P : Program) (c : Code) (Q : Exit → Act → World → Prop) : Nat → Act → World → Prop
  | 0 => fun _ _ => False
  | n + 1 => fun a w => c.wp P (Exit.then (Un P c Q n) Q) a w

theorem least_of {p : Nat → Prop} : ∀ n, p n → ∃ m, p m ∧ ∀ k, p k → m ≤ k := by
  intro n
  induction n using Nat.strongRecOn with
  | _ n ih =>
    intro hn
    by_cases h : ∃ k, k < n ∧ p k
    · obtain ⟨k, hk, hp⟩ := h
      exact ih k hk hp
    · exact ⟨n, hn, fun k hp => Nat.le_of_not_lt (fun hk => h ⟨k, hk, hp⟩)⟩

open Classical in
theorem wp_loop_times {P : Program} {c : Code} {Q : Exit → Act → World → Prop} {a : Act} {w : World} (n : Nat) (h : Un P c Q n a w) : (Code.loop c).wp P Q a w := by
  have hl : ∀ a w, (∃ n, Un P c Q n a w) → ∃ m, Un P c Q m a w ∧ ∀ k, Un P c Q k a w → m ≤ k := fun a w ⟨n, h⟩ => least_of (p := fun n => Un P c Q n a w) n h
  refine wp_loop (fun a w => ∃ n, Un P c Q n a w) (fun a w => if h : ∃ n, Un P c Q n a w then Classical.choose (hl a w h) else 0) ⟨n, h⟩ ?_
  intro a w hI
  have hf := (Classical.choose_spec (hl a w hI)).1
  have hm : ∀ a' w' m, Un P c Q m a' w' → (if h : ∃ n, Un P c Q n a' w' then Classical.choose (hl a' w' h) else 0) ≤ m := fun a' w' m hu => by
    rw [dif_pos ⟨m, hu⟩]; exact (Classical.choose_spec (hl a' w' ⟨m, hu⟩)).2 m hu
  rw [dif_pos hI]
  generalize Classical.choose (hl a w hI) = k at *
  cases k with
  | zero => exact hf.elim
  | succ k =>
    refine Code.wp_mono (fun e a' w' q => ?_) hf
    cases e <;> first | exact ⟨⟨k, q⟩, Nat.lt_succ_of_le (hm _ _ _ q)⟩ | exact q
end Go.Proofs.Ytggpbfmdhenjdaa


/- One of InboxOwn's two turns: the sequence held against the terms. -/
namespace Go.Proofs.Ytggpbfmdhenjdaa
open Go.RowKit Go.Shelf Go.Deep
attribute [local go_sem] store_float f64bits Oper.semAt_some
attribute [local go_sem ↓] Go.wp_at_zero Go.wp_at_succ

/-- What All has noted. -/
def GK (nv gr cap : Nat) (ms : List Msg) (w : World) : Prop :=
  w.cell? ⟨nv, 0, none⟩ = some (.slice (some ⟨gr, 0, none⟩) ms.length cap) ∧ ∀ (j : Nat) (u : Value), (mcs ms)[j]? = some u → w.cell? ⟨gr, j, none⟩ = some u

theorem mcs_flat : ∀ ms : List Msg, mcs ms = (ms.map Msg.t).flatMap Tr.cells
  | [] => rfl
  | m :: r => by
    have := mcs_flat r
    unfold mcs at this
    simp only [mcs, List.flatMap_cons, List.map_cons, this]

/-- What stands ahead of a turn: T holds the turn, B the count. -/
structure Lq (wa : World) (A T B nv gr cap : Nat) (a : Option Addr) (c : Nat) (stop tv : Int) (ms : List Msg) (kids : List Tr) : Prop where
  n0 : wa.cell? ⟨B, 0, none⟩ = some (.int .i64 0)
  nf : wa.frozen? ⟨B, 0, none⟩ = false
  t0 : wa.cell? ⟨T, 0, none⟩ = some (.int .i64 tv)
  l0 : wa.cell? ⟨A, 0, none⟩ = some (.slice a kids.length c)
  s0 : wa.cell? ⟨A + 1, 0, none⟩ = some (.int .i64 stop)
  gk : GK nv gr cap ms wa
  hB : B ≠ T ∧ B ≠ A ∧ B ≠ A + 1 ∧ B ≠ nv ∧ B ≠ gr ∧ gr < wa.heap.size
  tin : ∀ W', But (fun k => k = B ∨ wa.heap.size ≤ k) wa W' → (∀ t ∈ ms.map Msg.t, t.In W' 0) ∧ (Tr.mk 0 0 0 ⟨#[]⟩ a c kids).In W' 0
  len : ms.length = kids.length
  le : kids.length ≤ 60
  sm : ∀ (i : Nat) (m : Msg) (t : Tr), ms[i]? = some m → kids[i]? = some t → Sm t m.t
  sml : ∀ t ∈ ms.map Msg.t, Small t ∧ cnT t ≤ 1000000000

/-- What stands ahead of both turns. -/
structure Bq (w : World) (A nv gr cap : Nat) (a : Option Addr) (c : Nat) (stop : Int) (ms : List Msg) (kids : List Tr) : Prop where
  l0 : w.cell? ⟨A, 0, none⟩ = some (.slice a kids.length c)
  s0 : w.cell? ⟨A + 1, 0, none⟩ = some (.int .i64 stop)
  gk : GK nv gr cap ms w
  gl : gr < w.heap.size
  ti : (∀ t ∈ ms.map Msg.t, t.In w 0) ∧ (Tr.mk 0 0 0 ⟨#[]⟩ a c kids).In w 0
  len : ms.length = kids.length
  le : kids.length ≤ 60
  sm : ∀ (i : Nat) (m : Msg) (t : Tr), ms[i]? = some m → kids[i]? = some t → Sm t m.t
  sml : ∀ t ∈ ms.map Msg.t, Small t ∧ cnT t ≤ 1000000000

theorem Bq.lq {w wa : World} {A T B nv gr cap c : Nat} {a : Option Addr} {stop tv : Int} {ms : List Msg} {kids : List Tr} (h : Bq w A nv gr cap a c stop ms kids) (hb : Below w.heap.size w wa) (hB : w.heap.size ≤ B) (hBT : B ≠ T)
    (n0 : wa.cell? ⟨B, 0, none⟩ = some (.int .i64 0)) (nf : wa.frozen? ⟨B, 0, none⟩ = false) (t0 : wa.cell? ⟨T, 0, none⟩ = some (.int .i64 tv)) : Lq wa A T B nv gr cap a c stop tv ms kids := by
  have e1 : A < w.heap.size := World.block_lt_of_cell? _ _ h.l0
  have e2 : A + 1 < w.heap.size := World.block_lt_of_cell? _ _ h.s0
  have e3 : nv < w.heap.size := World.block_lt_of_cell? _ _ h.gk.1
  have keep : ∀ W', But (fun k => k = B ∨ wa.heap.size ≤ k) wa W' → ∀ t : Tr, t.In w 0 → t.In W' 0 := fun W' hw t ht =>
    in_on (S := fun k => k < w.heap.size) (fun k hk => (hw.block k (Nat.lt_of_lt_of_le hk hb.size) (by rintro (e | e) <;> have := hb.size <;> omega)).trans (hb.block k hk)) t ht (on_all t ht)
  exact ⟨n0, nf, t0, (hb.cell (p := ⟨A, 0, none⟩) e1).trans h.l0, (hb.cell (p := ⟨A + 1, 0, none⟩) e2).trans h.s0,
    ⟨(hb.cell (p := ⟨nv, 0, none⟩) e3).trans h.gk.1, fun j u hu => (hb.cell (p := ⟨gr, j, none⟩) h.gl).trans (h.gk.2 j u hu)⟩,
    ⟨hBT, by omega, by omega, by omega, by have := h.gl; omega, by have := h.gl; have := hb.size; omega⟩,
    fun W' hw => ⟨fun t ht => keep W' hw t (h.ti.1 t ht), keep W' hw _ h.ti.2⟩, h.len, h.le, h.sm, h.sml⟩

theorem step_callG {f : Nat} {vs : Array Value} {ops : Array Oper} {o : Oper} {a : Act} {w : World} {K : Act → World → Prop} {Q : Exit → Act → World → Prop} {E : Prop} (hw : Region.wanted o (yielded ops a.tmps) = true) (hrun : (execOp a.eval o).run Try.prog w = .ok (.enter f vs) w)
    {Post : Ending → World → Prop} (hc : Calls Try.prog f vs w Post) (h : ∀ e w', Post e w' → match e with | .returned v => K (a.put o.dst v) w' | .panicked c => Q (.panic c) a w' | .outgrown => LetsOut Q) :
    if Region.wanted o (yielded ops a.tmps) = true then Oper.wp Try.prog o a w K Q else E := by
  rw [if_pos hw]
  unfold Oper.wp
  rw [hrun, Oper.upon_enter]
  refine hc.mono fun e w'' hh => ?_
  have := h e w'' hh
  cases e <;> exact this

theorem wp_region_N {P : Program} {ops : Array Oper} {Q : Exit → Act → World → Prop} {id : Nat} {a : Act} {w : World} (S : World → Prop) (D : List Nat) (hm : P.follows .mixedOrders = true)
    (h : wpAnyD P .any ops (fun e a w => e = .normal ∧ Q e a w) S D ops.size (Array.replicate ops.size false) a w.drew) : (Code.region id ops true).wp P Q a w :=
  Code.wp_mono (fun _ _ _ h => h.2) (wp_region_D S D hm h)
theorem ent_len : Ent 13 := by
  intro args w
  kernel_rfl

section
variable {t0 t1 t2 t3 t4 t5 t6 t7 t8 t9 t10 t11 t12 t13 t14 t15 t16 t17 t18 t19 t20 t21 t22 t23 t24 t25 t26 t27 t28 t29 t30 t31 t32 t33 t34 t35 t36 t37 t38 t39 t40 t41 t42 t43 t44 t45 t46 t47 t48 t49 t50 t51 t52 t53 t54 t55 t56 t57 t58 t59 t60 t61 t62 t63 t64 t65 t66 t67 t68 t69 t70 t71 t72 t73 t74 t75 t76 t77 t78 t79 t80 t81 t82 t83 t84 t85 t86 t87 t88 t89 t90 t91 t92 t93 t94 t95 t96 t97 t98 t99 t100 t101 t102 t103 t104 t105 t106 t107 t108 t109 t110 t111 t112 t113 t114 t115 t116 t117 t118 t119 t120 t121 t122 t123 t124 t125 t126 t127 t128 t129 t130 t131 t132 t133 t134 t135 t136 : Value}
set_option maxRecDepth 100000 in
set_option maxHeartbeats 16000000 in
theorem ioLoop {Q : Exit → Act → World → Prop} {ds : List Deferred} {wa : World} {A T B nv gr cap c : Nat} {a : Option Addr} {stop tv : Int} {ms : List Msg} {kids : List Tr} (h : Lq wa A T B nv gr cap a c stop tv ms kids)
    (hd : ∀ (De : Nat) (W : World), wa.heap.size ≤ De → W.heap[De]? = some (.deferred (some [])) → But (fun k => k = B) wa W → W.cell? ⟨B, 0, none⟩ = some (.int .i64 (kids.length : Int)) → Q .normal ⟨#[t0, t1, .pointer (some ⟨A, 0, none⟩), .pointer (some ⟨(A + 1), 0, none⟩), .pointer (some ⟨(A + 1 + 1), 0, none⟩), t5, t6, t7, t8, t9, t10, (.func (.func 28) #[] #[.pointer (some ⟨nv, 0, none⟩)]), t12, t13, .pointer (some ⟨T, 0, none⟩), .pointer (some ⟨B, 0, none⟩), t16, t17, t18, t19, t20, t21, t22, t23, t24, t25, t26, t27, t28, t29, t30, t31, t32, t33, t34, t35, t36, t37, t38, t39, t40, t41, t42, t43, t44, t45, t46, t47, t48, t49, t50, t51, t52, t53, t54, t55, t56, t57, t58, t59, t60, t61, t62, t63, t64, t65, t66, t67, t68, t69, t70, t71, t72, t73, t74, t75, t76, t77, t78, t79, t80, t81, t82, t83, t84, t85, t86, t87, t88, t89, t90, t91, (.func (.func 28) #[] #[.pointer (some ⟨nv, 0, none⟩)]), t93, t94, t95, t96, t97, t98, t99, t100, t101, t102, t103, t104, t105, t106, t107, t108, t109, t110, t111, t112, t113, t114, t115, t116, t117, t118, t119, t120, t121, t122, t123, t124, t125, t126, t127, t128, t129, t130, t131, t132, t133, t134, t135, t136], mark De :: ds⟩ W)
    (hx : tv = 0 → ∀ (De : Nat) (W : World), wa.heap.size ≤ De → W.heap[De]? = some (.deferred (some [])) → But (fun k => k = B) wa W → (∃ p : Int, W.cell? ⟨B, 0, none⟩ = some (.int .i64 p)) → Q (.exit 8) ⟨#[t0, t1, .pointer (some ⟨A, 0, none⟩), .pointer (some ⟨(A + 1), 0, none⟩), .pointer (some ⟨(A + 1 + 1), 0, none⟩), t5, t6, t7, t8, t9, t10, (.func (.func 28) #[] #[.pointer (some ⟨nv, 0, none⟩)]), t12, t13, .pointer (some ⟨T, 0, none⟩), .pointer (some ⟨B, 0, none⟩), t16, t17, t18, t19, t20, t21, t22, t23, t24, t25, t26, t27, t28, t29, t30, t31, t32, t33, t34, t35, t36, t37, t38, t39, t40, t41, t42, t43, t44, t45, t46, t47, t48, t49, t50, t51, t52, t53, t54, t55, t56, t57, t58, t59, t60, t61, t62, t63, t64, t65, t66, t67, t68, t69, t70, t71, t72, t73, t74, t75, t76, t77, t78, t79, t80, t81, t82, t83, t84, t85, t86, t87, t88, t89, t90, t91, (.func (.func 28) #[] #[.pointer (some ⟨nv, 0, none⟩)]), t93, t94, t95, t96, t97, t98, t99, t100, t101, t102, t103, t104, t105, t106, t107, t108, t109, t110, t111, t112, t113, t114, t115, t116, t117, t118, t119, t120, t121, t122, t123, t124, t125, t126, t127, t128, t129, t130, t131, t132, t133, t134, t135, t136], mark De :: ds⟩ W) :
    ((Code.rangeFunc (Operand.tmp 92) #[93, 94] ((Code.region 31 #[{ dst := some 16, op := Op.assign (Operand.tmp 93), type := 3, pos := "law.go:194", after := #[], guard := none }] false).seq (Code.region 32 #[{ dst := some 17, op := Op.alloc 27, type := 0, pos := "law.go:194", after := #[], guard := none }, { dst := none, op := Op.store 27 (Operand.tmp 17) (Operand.tmp 94), type := 0, pos := "law.go:194", after := #[{ on := 0, ground := Ground.data }, { on := 0, ground := Ground.phase }], guard := none }] false)) (Code.block 9 (((Code.region 33 #[{ dst := some 95, op := Op.move (Operand.tmp 16), type := 3, pos := "law.go:195", after := #[], guard := none }, { dst := some 96, op := Op.load 3 (Operand.tmp 15), type := 3, pos := "law.go:195", after := #[], guard := none }, { dst := some 97, op := Op.binOp BinOp.neq 3 (Operand.tmp 95) (Operand.tmp 96) 3, type := 4, pos := "law.go:195", after := #[{ on := 0, ground := Ground.data }, { on := 1, ground := Ground.data }], guard := none }, { dst := some 98, op := Op.move (Operand.tmp 97), type := 4, pos := "law.go:195", after := #[{ on := 2, ground := Ground.data }], guard := none }, { dst := some 99, op := Op.load 3 (Operand.tmp 15), type := 3, pos := "law.go:195", after := #[{ on := 3, ground := Ground.guard }], guard := some (3, false) }, { dst := some 100, op := Op.load 22 (Operand.tmp 2), type := 22, pos := "law.go:195", after := #[{ on := 3, ground := Ground.guard }], guard := some (3, false) }, { dst := some 101, op := Op.call { callee := Callee.builtin Builtin.len, args := #[Operand.tmp 100], argTypes := #[22] }, type := 3, pos := "law.go:195", after := #[{ on := 5, ground := Ground.data }, { on := 3, ground := Ground.guard }], guard := some (3, false) }, { dst := some 102, op := Op.binOp BinOp.geq 3 (Operand.tmp 99) (Operand.tmp 101) 3, type := 4, pos := "law.go:195", after := #[{ on := 4, ground := Ground.data }, { on := 6, ground := Ground.data }, { on := 3, ground := Ground.guard }], guard := some (3, false) }, { dst := some 103, op := Op.pick (Operand.tmp 98) (Operand.const (Value.bool true)) (Operand.tmp 102), type := 4, pos := "law.go:195", after := #[{ on := 3, ground := Ground.data }, { on := 7, ground := Ground.data }], guard := none }, { dst := some 104, op := Op.move (Operand.tmp 103), type := 4, pos := "law.go:195", after := #[{ on := 8, ground := Ground.data }, { on := 3, ground := Ground.chain }], guard := none }, { dst := some 105, op := Op.load 27 (Operand.tmp 17), type := 27, pos := "law.go:195", after := #[{ on := 9, ground := Ground.guard }], guard := some (9, false) }, { dst := some 106, op := Op.load 22 (Operand.tmp 2), type := 22, pos := "law.go:195", after := #[{ on := 9, ground := Ground.guard }], guard := some (9, false) }, { dst := some 107, op := Op.load 3 (Operand.tmp 15), type := 3, pos := "law.go:195", after := #[{ on := 9, ground := Ground.guard }], guard := some (9, false) }, { dst := some 108, op := Op.indexAddr 22 (Operand.tmp 106) (Operand.tmp 107), type := 0, pos := "law.go:195", after := #[{ on := 11, ground := Ground.data }, { on := 12, ground := Ground.data }, { on := 9, ground := Ground.guard }], guard := some (9, false) }, { dst := some 109, op := Op.load 27 (Operand.tmp 108), type := 27, pos := "law.go:195", after := #[{ on := 13, ground := Ground.data }, { on := 9, ground := Ground.guard }], guard := some (9, false) }, { dst := some 110, op := Op.call { callee := Callee.value (Operand.func 11), args := #[Operand.tmp 105, Operand.tmp 109], argTypes := #[27, 27] }, type := 4, pos := "law.go:195", after := #[{ on := 10, ground := Ground.data }, { on := 14, ground := Ground.data }, { on := 9, ground := Ground.chain }, { on := 9, ground := Ground.guard }], guard := some (9, false) }, { dst := some 111, op := Op.unOp UnOp.not 4 (Operand.tmp 110), type := 4, pos := "law.go:195", after := #[{ on := 15, ground := Ground.data }, { on := 9, ground := Ground.guard }], guard := some (9, false) }, { dst := some 112, op := Op.pick (Operand.tmp 104) (Operand.const (Value.bool true)) (Operand.tmp 111), type := 4, pos := "law.go:195", after := #[{ on := 9, ground := Ground.data }, { on := 16, ground := Ground.data }], guard := none }] true).seq (Code.cond (Operand.tmp 112) ((Code.region 34 #[{ dst := none, op := Op.store 4 (Operand.tmp 4) (Operand.const (Value.bool false)), type := 0, pos := "law.go:196", after := #[], guard := none }] false).seq Code.ret) Code.skip)).seq ((Code.region 35 #[{ dst := some 113, op := Op.load 3 (Operand.tmp 15), type := 3, pos := "law.go:198", after := #[], guard := none }, { dst := some 114, op := Op.binOp BinOp.add 3 (Operand.tmp 113) (Operand.const (Value.int IntKind.i64 1)) 3, type := 3, pos := "law.go:198", after := #[{ on := 0, ground := Ground.data }], guard := none }, { dst := none, op := Op.store 3 (Operand.tmp 15) (Operand.tmp 114), type := 0, pos := "law.go:198", after := #[{ on := 1, ground := Ground.data }, { on := 0, ground := Ground.phase }, { on := 1, ground := Ground.phase }], guard := none }] false).seq ((Code.region 36 #[{ dst := some 115, op := Op.load 3 (Operand.tmp 14), type := 3, pos := "law.go:199", after := #[], guard := none }, { dst := some 116, op := Op.binOp BinOp.eql 3 (Operand.tmp 115) (Operand.const (Value.int IntKind.i64 0)) 3, type := 4, pos := "law.go:199", after := #[{ on := 0, ground := Ground.data }], guard := none }, { dst := some 117, op := Op.move (Operand.tmp 116), type := 4, pos := "law.go:199", after := #[{ on := 1, ground := Ground.data }], guard := none }, { dst := some 118, op := Op.load 3 (Operand.tmp 15), type := 3, pos := "law.go:199", after := #[{ on := 2, ground := Ground.guard }], guard := some (2, true) }, { dst := some 119, op := Op.load 3 (Operand.tmp 3), type := 3, pos := "law.go:199", after := #[{ on := 2, ground := Ground.guard }], guard := some (2, true) }, { dst := some 120, op := Op.binOp BinOp.gtr 3 (Operand.tmp 118) (Operand.tmp 119) 3, type := 4, pos := "law.go:199", after := #[{ on := 3, ground := Ground.data }, { on := 4, ground := Ground.data }, { on := 2, ground := Ground.guard }], guard := some (2, true) }, { dst := some 121, op := Op.pick (Operand.tmp 117) (Operand.tmp 120) (Operand.const (Value.bool false)), type := 4, pos := "law.go:199", after := #[{ on := 2, ground := Ground.data }, { on := 5, ground := Ground.data }], guard := none }] false).seq (Code.cond (Operand.tmp 121) (Code.exit 8) Code.skip))))))).wp Try.prog Q ⟨#[t0, t1, .pointer (some ⟨A, 0, none⟩), .pointer (some ⟨(A + 1), 0, none⟩), .pointer (some ⟨(A + 1 + 1), 0, none⟩), t5, t6, t7, t8, t9, t10, (.func (.func 28) #[] #[.pointer (some ⟨nv, 0, none⟩)]), t12, t13, .pointer (some ⟨T, 0, none⟩), .pointer (some ⟨B, 0, none⟩), t16, t17, t18, t19, t20, t21, t22, t23, t24, t25, t26, t27, t28, t29, t30, t31, t32, t33, t34, t35, t36, t37, t38, t39, t40, t41, t42, t43, t44, t45, t46, t47, t48, t49, t50, t51, t52, t53, t54, t55, t56, t57, t58, t59, t60, t61, t62, t63, t64, t65, t66, t67, t68, t69, t70, t71, t72, t73, t74, t75, t76, t77, t78, t79, t80, t81, t82, t83, t84, t85, t86, t87, t88, t89, t90, t91, (.func (.func 28) #[] #[.pointer (some ⟨nv, 0, none⟩)]), t93, t94, t95, t96, t97, t98, t99, t100, t101, t102, t103, t104, t105, t106, t107, t108, t109, t110, t111, t112, t113, t114, t115, t116, t117, t118, t119, t120, t121, t122, t123, t124, t125, t126, t127, t128, t129, t130, t131, t132, t133, t134, t135, t136], ds⟩ wa := by
  have HD := hidb hd
  have HX := hidb hx
  have HH := hidb h
  have hseq := alls_o (w := wa) (nv := nv) (gr := gr) (cap := cap) (ts := ms.map Msg.t) (by simpa using h.gk.1) (fun j u hu => h.gk.2 j u (by rw [mcs_flat]; exact hu)) (by have := h.le; have := h.len; simp; omega)
    (M := fun k => k = B ∨ wa.heap.size ≤ k) (by rintro (e | e); exact h.hB.2.2.2.1 e.symm; have := World.block_lt_of_cell? _ _ h.gk.1; simp at this; omega) (by rintro (e | e); exact h.hB.2.2.2.2.1 e.symm; have := h.hB.2.2.2.2.2; omega)
    (fun W' hb => (h.tin W' hb).1) h.sml
  have n7 := h.n0
  have n7' := h.nf
  clear hd hx h
  refine range_w (w := wa) (gf := 28) (lb := #[.pointer (some ⟨nv, 0, none⟩)]) rfl (enters_of Try.func28 (by kernel_rfl) rfl) hseq (fun k hk => .inr hk) (Below.refl _ _) (fun _ => rfl)
    (fun pre W => ∃ p : Nat, (p = pre.length) ∧ (W.cell? ⟨B, 0, none⟩ = some (.int .i64 (p : Int)) ∧ W.frozen? ⟨B, 0, none⟩ = false) ∧ But (fun k => k = B) wa W)
    (fun c pre W => c = .exit 8 ∧ tv = 0 ∧ ∃ p : Nat, (W.cell? ⟨B, 0, none⟩ = some (.int .i64 (p : Int)) ∧ W.frozen? ⟨B, 0, none⟩ = false) ∧ But (fun k => k = B) wa W)
    ?hI ?hIx ⟨_, rfl, ⟨n7, n7'⟩, But.refl _ _⟩
    (fun q W => (∃ p : Nat, (p = q.1.length) ∧ (W.cell? ⟨B, 0, none⟩ = some (.int .i64 (p : Int)) ∧ W.frozen? ⟨B, 0, none⟩ = false) ∧ But (fun k => k = B) wa W) ∧ q.2.1.2.In W 0 ∧ ∀ xb, q.2.2.tmps[17]? = some (.pointer (some ⟨xb, 0, none⟩)) → wa.heap.size ≤ xb ∧ ∀ (j : Nat) (u : Value), q.2.1.2.cells[j]? = some u → W.cell? ⟨xb, j, none⟩ = some u)
    ?hH ?round ?done ?stop
  case hI =>
    rintro pre W1 W2 row ⟨p, h1, h2, h3⟩ hg hr
    exact ⟨p, h1, OwnFrom.cells _ (fun _ : Unit => .int .i64 (p : Int)) () W1 W2 row h2 hg hr, OwnFrom.but (β := Unit) (Nat.le_refl _) () W1 W2 row h3 hg hr⟩
  case hIx =>
    rintro c pre W1 W2 row ⟨rfl, h1, p, h2, h3⟩ hg hr
    exact ⟨rfl, h1, p, OwnFrom.cells _ (fun _ : Unit => .int .i64 (p : Int)) () W1 W2 row h2 hg hr, OwnFrom.but (β := Unit) (Nat.le_refl _) () W1 W2 row h3 hg hr⟩
  case hH =>
    rintro ⟨pre, x, a'⟩ W1 W2 row ⟨⟨p, h1, h2, h3⟩, h4, h5⟩ hg hr
    exact ⟨⟨p, h1, OwnFrom.cells _ (fun _ : Unit => .int .i64 (p : Int)) () W1 W2 row h2 hg hr, OwnFrom.but (β := Unit) (Nat.le_refl _) () W1 W2 row h3 hg hr⟩, in_keeps (fun q v hq => cell_kept hq hg (fun r e => (hr r e).2)) _ h4, fun xb hxb => ⟨(h5 xb hxb).1, fun j u hu => cell_kept ((h5 xb hxb).2 j u hu) hg (fun r e => (hr r e).2)⟩⟩
  case done =>
    rintro De zs W' hD' hzs ⟨p, hp, ⟨p1, p2⟩, hB9⟩ hK'
    have e : p = kids.length := by have := HH.out.len; rw [hp, hzs]; simp; omega
    subst e
    exact HD.out De W' hD' hK' hB9 p1
  case stop =>
    rintro De c pre W hD' hp ⟨rfl, h1, p, h2, h3⟩ hK'
    have := HX.out h1 De W hD' hK' h3 ⟨_, h2.1⟩
    go_wp2
    exact this
  case round =>
    rintro l2 pre ⟨xi, ⟨k2, n2, f2, s2, a2, c2, ks2⟩⟩ W ⟨hxi, t, ht, hst, hxin⟩ hlen hI hsz
    simp only at hxi ht hst hxin
    subst hxi
    have HI := hidb hI
    have HXI := hidb hxin
    have HSZ := hidb hsz
    have HT := hidb (And.intro ht (And.intro hst hlen))
    clear hI hxin hsz ht hst hlen
    simp only [alle, Tr.val, Tr.cells]
    gi_wp2
    obtain ⟨p', hp', ⟨y1, y2⟩, y3⟩ := HI.out
    subst hp'
    have hyb := World.block_lt_of_cell? _ _ y1
    refine ⟨below_new _ _, ⟨⟨⟨((below_new W _).cell hyb).trans y1, ((below_new W _).frozen hyb).trans y2⟩, y3.alloc _⟩, in_below (below_new W _) HXI.out, by have := HSZ.out; omega⟩, ?_⟩
    clear y1 y2 y3 hyb
    intro W1 p1 p2 hB9 hin1 _ hxc hsz1
    have x0 := hxc 0 _ rfl
    have x1 := hxc 1 _ rfl
    have x2 := hxc 2 _ rfl
    have x3 := hxc 3 _ rfl
    have x4 := hxc 4 _ rfl
    have hh := HH.out
    have hbb := hh.hB
    have hpl : pre.length < kids.length := by have := HT.out.2.2; have := hh.len; simp at this ⊢; simp at *; omega
    have hin2 := (hh.tin W1 (hB9.mono (fun k _ e => .inl e))).2
    obtain ⟨b, o, rfl, hat⟩ := kid_at hin2 (by omega)
    obtain ⟨k1, n1, f1, s1, a1, c1, ks1, hu1, hin3, v0, v1, v2, v3, v4⟩ := hat pre.length hpl
    have hsm : Sm (Tr.mk k2 n2 f2 s2 a2 c2 ks2) (Tr.mk k1 n1 f1 s1 a1 c1 ks1) := by
      have h1 := HT.out.1
      rw [List.getElem?_map] at h1
      obtain ⟨m, hm, rfl⟩ := Option.map_eq_some_iff.1 h1
      exact sm_trans _ _ _ (sm_symm _ _ HT.out.2.1) (sm_symm _ _ (hh.sm _ _ _ hm hu1))
    have q2 := (hB9.cell (p := ⟨A, 0, none⟩) (World.block_lt_of_cell? _ _ hh.l0) (show ¬ A = B from fun e => hbb.2.1 e.symm)).trans hh.l0
    have q5 := (hB9.cell (p := ⟨T, 0, none⟩) (World.block_lt_of_cell? _ _ hh.t0) (show ¬ T = B from fun e => hbb.1 e.symm)).trans hh.t0
    have q6 := (hB9.cell (p := ⟨A + 1, 0, none⟩) (World.block_lt_of_cell? _ _ hh.s0) (show ¬ A + 1 = B from fun e => hbb.2.2.1 e.symm)).trans hh.s0
    have TW := hidb (twin_same _ _ hsm W1.drew (in_below ((Below.refl _ _).drew) hin1) (in_below ((Below.refl _ _).drew) hin3))
    simp only [Tr.val, Tr.cells] at TW
    have s2' : (pre.length : Int) < (kids.length : Int) := by omega
    have s3 : (0 : Int) ≤ (pre.length : Int) := by omega
    have s4 : wrap64 ((pre.length : Int) + 1) = ((pre.length + 1 : Nat) : Int) := by have := hh.le; unfold wrap64; omega
    have s1' : decide (kids.length ≤ pre.length) = false := by simp; omega
    have u0 := hbb.1
    have u1 := hbb.2.2.1
    have HRT := hidb (And.intro (World.block_lt_of_cell? _ _ hh.n0) hsz1)
    have HB9 := hidb hB9
    have HS0 : Hid (W1.drew.cell? ⟨B, 0, none⟩ = some (.int .i64 (pre.length : Int)) ∧ W1.drew.cell? ⟨A, 0, none⟩ = some (.slice (some ⟨b, o, none⟩) kids.length c) ∧ W1.drew.cell? ⟨W.heap.size, 0, none⟩ = some (.int .i64 k2) ∧ W1.drew.cell? ⟨W.heap.size, 1, none⟩ = some (.int .i64 n2) ∧ W1.drew.cell? ⟨W.heap.size, 2, none⟩ = some (.float .f64 f2) ∧ W1.drew.cell? ⟨W.heap.size, 3, none⟩ = some (.string s2) ∧ W1.drew.cell? ⟨W.heap.size, 4, none⟩ = some (.slice a2 ks2.length c2) ∧
      W1.drew.cell? ⟨b, o + pre.length * 5, none⟩ = some (.int .i64 k1) ∧ W1.drew.cell? ⟨b, o + pre.length * 5 + 1, none⟩ = some (.int .i64 n1) ∧ W1.drew.cell? ⟨b, o + pre.length * 5 + 2, none⟩ = some (.float .f64 f1) ∧ W1.drew.cell? ⟨b, o + pre.length * 5 + 3, none⟩ = some (.string s1) ∧ W1.drew.cell? ⟨b, o + pre.length * 5 + 4, none⟩ = some (.slice a1 ks1.length c1)) := hidb ⟨p1, q2, x0, x1, x2, x3, x4, v0, v1, v2, v3, v4⟩
    clear hat hin1 hin2 hin3 hsm hu1 hxc hpl hbb hB9 hsz1 hh x0 x1 x2 x3 x4 v0 v1 v2 v3 v4 q2 HT
    gi_wp2
    refine region_round_D l2 (fun Wz => Wz.cell? ⟨B, 0, none⟩ = some (.int .i64 (pre.length : Int)) ∧ Wz.cell? ⟨A, 0, none⟩ = some (.slice (some ⟨b, o, none⟩) kids.length c) ∧ Wz.cell? ⟨W.heap.size, 0, none⟩ = some (.int .i64 k2) ∧ Wz.cell? ⟨W.heap.size, 1, none⟩ = some (.int .i64 n2) ∧ Wz.cell? ⟨W.heap.size, 2, none⟩ = some (.float .f64 f2) ∧ Wz.cell? ⟨W.heap.size, 3, none⟩ = some (.string s2) ∧ Wz.cell? ⟨W.heap.size, 4, none⟩ = some (.slice a2 ks2.length c2) ∧
      Wz.cell? ⟨b, o + pre.length * 5, none⟩ = some (.int .i64 k1) ∧ Wz.cell? ⟨b, o + pre.length * 5 + 1, none⟩ = some (.int .i64 n1) ∧ Wz.cell? ⟨b, o + pre.length * 5 + 2, none⟩ = some (.float .f64 f1) ∧ Wz.cell? ⟨b, o + pre.length * 5 + 3, none⟩ = some (.string s1) ∧ Wz.cell? ⟨b, o + pre.length * 5 + 4, none⟩ = some (.slice a1 ks1.length c1)) [] (by kernel_rfl) (by kernel_rfl) (fun ⟨_, _, hh⟩ => hh) ?_
    refine wpAnyD_takeL (i := 0) (v := ?vv0) rfl (by kernel_rfl) (by kernel_rfl) (by kernel_rfl) (by kernel_rfl) (fun _ _ _ h => h) HS0.out rfl ?hy0 ?_
    case hy0 => intro wy hSw; obtain ⟨z0, z1, z2, z3, z4, z5, z6, z7, z8, z9, z10, z11⟩ := hSw; go_simp; try with_reducible rfl
    simp only [Act.put, List.setIfInBounds_toArray, List.set_cons_zero, List.set_cons_succ]
    refine wpAnyD_takeL (i := 1) (v := ?vv1) rfl (by kernel_rfl) (by kernel_rfl) (by kernel_rfl) (by kernel_rfl) (fun _ _ _ h => h) HS0.out rfl ?hy1 ?_
    case hy1 => intro wy hSw; obtain ⟨z0, z1, z2, z3, z4, z5, z6, z7, z8, z9, z10, z11⟩ := hSw; go_simp; try with_reducible rfl
    simp only [Act.put, List.setIfInBounds_toArray, List.set_cons_zero, List.set_cons_succ]
    refine wpAnyD_takeL (i := 2) (v := ?vv2) rfl (by kernel_rfl) (by kernel_rfl) (by kernel_rfl) (by kernel_rfl) (fun _ _ _ h => h) HS0.out rfl ?hy2 ?_
    case hy2 => intro wy hSw; obtain ⟨z0, z1, z2, z3, z4, z5, z6, z7, z8, z9, z10, z11⟩ := hSw; go_simp; try with_reducible rfl
    simp only [Act.put, List.setIfInBounds_toArray, List.set_cons_zero, List.set_cons_succ]
    refine wpAnyD_takeL (i := 3) (v := ?vv3) rfl (by kernel_rfl) (by kernel_rfl) (by kernel_rfl) (by kernel_rfl) (fun _ _ _ h => h) HS0.out rfl ?hy3 ?_
    case hy3 => intro wy hSw; obtain ⟨z0, z1, z2, z3, z4, z5, z6, z7, z8, z9, z10, z11⟩ := hSw; go_simp; try with_reducible rfl
    simp only [Act.put, List.setIfInBounds_toArray, List.set_cons_zero, List.set_cons_succ]
    refine wpAnyD_takeG (i := 4) (v := ?vv4) rfl (by kernel_rfl) (by kernel_rfl) (by kernel_rfl) (by kernel_rfl) (fun _ _ _ h => h) HS0.out (by simp [Region.wanted, yielded]) ?hy4 ?_
    case hy4 => intro wy hSw; obtain ⟨z0, z1, z2, z3, z4, z5, z6, z7, z8, z9, z10, z11⟩ := hSw; go_simp; try with_reducible rfl
    simp only [Act.put, List.setIfInBounds_toArray, List.set_cons_zero, List.set_cons_succ]
    refine wpAnyD_takeG (i := 5) (v := ?vv5) rfl (by kernel_rfl) (by kernel_rfl) (by kernel_rfl) (by kernel_rfl) (fun _ _ _ h => h) HS0.out (by simp [Region.wanted, yielded]) ?hy5 ?_
    case hy5 => intro wy hSw; obtain ⟨z0, z1, z2, z3, z4, z5, z6, z7, z8, z9, z10, z11⟩ := hSw; go_simp; try with_reducible rfl
    simp only [Act.put, List.setIfInBounds_toArray, List.set_cons_zero, List.set_cons_succ]
    refine wpAnyD_takeG (i := 6) (v := ?vv6) rfl (by kernel_rfl) (by kernel_rfl) (by kernel_rfl) (by kernel_rfl) (fun _ _ _ h => h) HS0.out (by simp [Region.wanted, yielded]) ?hy6 ?_
    case hy6 => intro wy hSw; obtain ⟨z0, z1, z2, z3, z4, z5, z6, z7, z8, z9, z10, z11⟩ := hSw; go_simp; try with_reducible rfl
    simp only [Act.put, List.setIfInBounds_toArray, List.set_cons_zero, List.set_cons_succ]
    refine wpAnyD_takeG (i := 7) (v := ?vv7) rfl (by kernel_rfl) (by kernel_rfl) (by kernel_rfl) (by kernel_rfl) (fun _ _ _ h => h) HS0.out (by simp [Region.wanted, yielded]) ?hy7 ?_
    case hy7 => intro wy hSw; obtain ⟨z0, z1, z2, z3, z4, z5, z6, z7, z8, z9, z10, z11⟩ := hSw; go_simp; try with_reducible rfl
    simp only [Act.put, List.setIfInBounds_toArray, List.set_cons_zero, List.set_cons_succ]
    refine wpAnyD_takeL (i := 8) (v := ?vv8) rfl (by kernel_rfl) (by kernel_rfl) (by kernel_rfl) (by kernel_rfl) (fun _ _ _ h => h) HS0.out rfl ?hy8 ?_
    case hy8 => intro wy hSw; obtain ⟨z0, z1, z2, z3, z4, z5, z6, z7, z8, z9, z10, z11⟩ := hSw; go_simp; try with_reducible rfl
    simp only [Act.put, List.setIfInBounds_toArray, List.set_cons_zero, List.set_cons_succ]
    refine wpAnyD_takeL (i := 9) (v := ?vv9) rfl (by kernel_rfl) (by kernel_rfl) (by kernel_rfl) (by kernel_rfl) (fun _ _ _ h => h) HS0.out rfl ?hy9 ?_
    case hy9 => intro wy hSw; obtain ⟨z0, z1, z2, z3, z4, z5, z6, z7, z8, z9, z10, z11⟩ := hSw; go_simp; try with_reducible rfl
    simp only [Act.put, List.setIfInBounds_toArray, List.set_cons_zero, List.set_cons_succ]
    refine wpAnyD_takeG (i := 10) (v := ?vv10) rfl (by kernel_rfl) (by kernel_rfl) (by kernel_rfl) (by kernel_rfl) (fun _ _ _ h => h) HS0.out (by simp [Region.wanted, yielded]) ?hy10 ?_
    case hy10 => intro wy hSw; obtain ⟨z0, z1, z2, z3, z4, z5, z6, z7, z8, z9, z10, z11⟩ := hSw; go_simp; try with_reducible rfl
    simp only [Act.put, List.setIfInBounds_toArray, List.set_cons_zero, List.set_cons_succ]
    refine wpAnyD_takeG (i := 11) (v := ?vv11) rfl (by kernel_rfl) (by kernel_rfl) (by kernel_rfl) (by kernel_rfl) (fun _ _ _ h => h) HS0.out (by simp [Region.wanted, yielded]) ?hy11 ?_
    case hy11 => intro wy hSw; obtain ⟨z0, z1, z2, z3, z4, z5, z6, z7, z8, z9, z10, z11⟩ := hSw; go_simp; try with_reducible rfl
    simp only [Act.put, List.setIfInBounds_toArray, List.set_cons_zero, List.set_cons_succ]
    refine wpAnyD_takeG (i := 12) (v := ?vv12) rfl (by kernel_rfl) (by kernel_rfl) (by kernel_rfl) (by kernel_rfl) (fun _ _ _ h => h) HS0.out (by simp [Region.wanted, yielded]) ?hy12 ?_
    case hy12 => intro wy hSw; obtain ⟨z0, z1, z2, z3, z4, z5, z6, z7, z8, z9, z10, z11⟩ := hSw; go_simp; try with_reducible rfl
    simp only [Act.put, List.setIfInBounds_toArray, List.set_cons_zero, List.set_cons_succ]
    refine wpAnyD_takeG (i := 13) (v := ?vv13) rfl (by kernel_rfl) (by kernel_rfl) (by kernel_rfl) (by kernel_rfl) (fun _ _ _ h => h) HS0.out (by simp [Region.wanted, yielded]) ?hy13 ?_
    case hy13 => intro wy hSw; obtain ⟨z0, z1, z2, z3, z4, z5, z6, z7, z8, z9, z10, z11⟩ := hSw; go_simp; try with_reducible rfl
    simp only [Act.put, List.setIfInBounds_toArray, List.set_cons_zero, List.set_cons_succ]
    refine wpAnyD_takeG (i := 14) (v := ?vv14) rfl (by kernel_rfl) (by kernel_rfl) (by kernel_rfl) (by kernel_rfl) (fun _ _ _ h => h) HS0.out (by simp [Region.wanted, yielded]) ?hy14 ?_
    case hy14 => intro wy hSw; obtain ⟨z0, z1, z2, z3, z4, z5, z6, z7, z8, z9, z10, z11⟩ := hSw; go_simp; try with_reducible rfl
    simp only [Act.put, List.setIfInBounds_toArray, List.set_cons_zero, List.set_cons_succ]
    refine wpAnyD_stepL (i := 15) (by kernel_rfl) rfl (fun K hK => ?_)
    refine step_callG (by simp [Region.wanted, yielded]) (run_call ent_twin #[.tmp 105, .tmp 109] _ rfl #[.agg #[.int .i64 k2, .int .i64 n2, .float .f64 f2, .string s2, .slice a2 ks2.length c2], .agg #[.int .i64 k1, .int .i64 n1, .float .f64 f1, .string s1, .slice a1 ks1.length c1]] rfl) TW.out ?_
    rintro e W2 ⟨rfl, hb2⟩
    have HB2 := hidb (undrew hb2)
    have HS1 := hidb (And.intro ((hb2.cell (World.block_lt_of_cell? _ _ HS0.out.1)).trans HS0.out.1) (And.intro ((hb2.cell (World.block_lt_of_cell? _ _ HS0.out.2.1)).trans HS0.out.2.1) (And.intro ((hb2.cell (World.block_lt_of_cell? _ _ HS0.out.2.2.1)).trans HS0.out.2.2.1) (And.intro ((hb2.cell (World.block_lt_of_cell? _ _ HS0.out.2.2.2.1)).trans HS0.out.2.2.2.1) (And.intro ((hb2.cell (World.block_lt_of_cell? _ _ HS0.out.2.2.2.2.1)).trans HS0.out.2.2.2.2.1) (And.intro ((hb2.cell (World.block_lt_of_cell? _ _ HS0.out.2.2.2.2.2.1)).trans HS0.out.2.2.2.2.2.1) (And.intro ((hb2.cell (World.block_lt_of_cell? _ _ HS0.out.2.2.2.2.2.2.1)).trans HS0.out.2.2.2.2.2.2.1) (And.intro ((hb2.cell (World.block_lt_of_cell? _ _ HS0.out.2.2.2.2.2.2.2.1)).trans HS0.out.2.2.2.2.2.2.2.1) (And.intro ((hb2.cell (World.block_lt_of_cell? _ _ HS0.out.2.2.2.2.2.2.2.2.1)).trans HS0.out.2.2.2.2.2.2.2.2.1) (And.intro ((hb2.cell (World.block_lt_of_cell? _ _ HS0.out.2.2.2.2.2.2.2.2.2.1)).trans HS0.out.2.2.2.2.2.2.2.2.2.1) (And.intro ((hb2.cell (World.block_lt_of_cell? _ _ HS0.out.2.2.2.2.2.2.2.2.2.2.1)).trans HS0.out.2.2.2.2.2.2.2.2.2.2.1) ((hb2.cell (World.block_lt_of_cell? _ _ HS0.out.2.2.2.2.2.2.2.2.2.2.2)).trans HS0.out.2.2.2.2.2.2.2.2.2.2.2))))))))))))
    refine hK _ _ (fun _ => HS1.out) ?_
    clear hK K hb2 HS0
    have HS0 := HS1
    simp only [Act.put, List.setIfInBounds_toArray, List.set_cons_zero, List.set_cons_succ]
    refine wpAnyD_takeG (i := 16) (v := ?vv16) rfl (by kernel_rfl) (by kernel_rfl) (by kernel_rfl) (by kernel_rfl) (fun _ _ _ h => h) HS0.out (by simp [Region.wanted, yielded]) ?hy16 ?_
    case hy16 => intro wy hSw; obtain ⟨z0, z1, z2, z3, z4, z5, z6, z7, z8, z9, z10, z11⟩ := hSw; go_simp; try with_reducible rfl
    simp only [Act.put, List.setIfInBounds_toArray, List.set_cons_zero, List.set_cons_succ]
    refine wpAnyD_takeL (i := 17) (v := ?vv17) rfl (by kernel_rfl) (by kernel_rfl) (by kernel_rfl) (by kernel_rfl) (fun _ _ _ h => h) HS0.out rfl ?hy17 ?_
    case hy17 => intro wy hSw; obtain ⟨z0, z1, z2, z3, z4, z5, z6, z7, z8, z9, z10, z11⟩ := hSw; go_simp; try with_reducible rfl
    simp only [Act.put, List.setIfInBounds_toArray, List.set_cons_zero, List.set_cons_succ]
    refine wpAnyD_done (by kernel_rfl) ?_ _
    have n1' : W2.cell? ⟨B, 0, none⟩ = some (.int .i64 (pre.length : Int)) := HS0.out.1
    have n2' : W2.frozen? ⟨B, 0, none⟩ = false := (HB2.out.frozen (p := ⟨B, 0, none⟩) (World.block_lt_of_cell? _ _ p1)).trans p2
    have q5' := (HB2.out.cell (p := ⟨T, 0, none⟩) (World.block_lt_of_cell? _ _ q5)).trans q5
    have q6' := (HB2.out.cell (p := ⟨A + 1, 0, none⟩) (World.block_lt_of_cell? _ _ q6)).trans q6
    clear p1 p2 q5 q6 HS0 HS1 TW
    have y1 : (W2.setCell ⟨B, 0, none⟩ (.int .i64 ((pre.length : Int) + 1))).cell? ⟨T, 0, none⟩ = some (.int .i64 tv) := (World.cell?_setCell_other _ _ _ _ (ne_blk _ _ _ _ u0)).trans q5'
    have y2 : (W2.setCell ⟨B, 0, none⟩ (.int .i64 ((pre.length : Int) + 1))).cell? ⟨A + 1, 0, none⟩ = some (.int .i64 stop) := (World.cell?_setCell_other _ _ _ _ (ne_blk _ _ _ _ u1)).trans q6'
    have y3 : (W2.setCell ⟨B, 0, none⟩ (.int .i64 ((pre.length : Int) + 1))).cell? ⟨B, 0, none⟩ = some (.int .i64 ((pre.length : Int) + 1)) := World.cell?_setCell_same' _ _ _ (by rw [n1']; rfl)
    have hrt := HRT.out
    have X4 := hidb (And.intro (((But.of_below (S := fun k => (k = B ∨ wa.heap.size ≤ k) ∧ (k < wa.heap.size ∨ wa.heap.size + 2 + 0 ≤ k)) HB2.out)).setCell (p := ⟨B, 0, none⟩) (fun _ => ⟨.inl rfl, .inl hrt.1⟩) (.int .i64 ((pre.length : Int) + 1))) ((HB9.out.trans (But.of_below HB2.out)).setCell (p := ⟨B, 0, none⟩) (fun _ => rfl) (.int .i64 ((pre.length : Int) + 1))))
    have X5 : Hid ((W2.setCell ⟨B, 0, none⟩ (.int .i64 ((pre.length : Int) + 1))).frozen? ⟨B, 0, none⟩ = false) := hidb (by rw [World.frozen?_setCell]; exact n2')
    have X6 : Hid ((W2.setCell ⟨B, 0, none⟩ (.int .i64 ((pre.length : Int) + 1))).cell? ⟨B, 0, none⟩ = some (.int .i64 ((pre.length + 1 : Nat) : Int))) := hidb (y3.trans (by simp))
    have hle : (pre ++ [(pre.length, Tr.mk k2 n2 f2 s2 a2 c2 ks2)]).length = pre.length + 1 := by simp
    have HLE := hidb hle
    clear hrt hle
    by_cases ht : tv = 0
    · subst ht
      by_cases hst : stop < (pre.length : Int) + 1
      · gi_wp2
        exact ⟨X4.out.1, rfl, ⟨⟨_, X6.out⟩, X5.out⟩, X4.out.2⟩
      · gi_wp2
        exact ⟨X4.out.1, ⟨by rw [HLE.out]; exact X6.out, X5.out⟩, X4.out.2⟩
    · have ht' : (tv == 0) = false := by simpa using ht
      clear ht
      gi_wp2
      exact ⟨X4.out.1, ⟨by rw [HLE.out]; exact X6.out, X5.out⟩, X4.out.2⟩
end
end Go.Proofs.Ytggpbfmdhenjdaa


