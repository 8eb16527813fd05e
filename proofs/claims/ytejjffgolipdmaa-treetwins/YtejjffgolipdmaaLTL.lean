/- A round of TreeTwins' loop: the sequence held against what was. -/
import Derived.Test.YtejjffgolipdmaaTw
namespace Go.Proofs.Ytejjffgolipdmaa
open Go.RowKit Go.Shelf
attribute [local go_sem] Oper.semAt_some
attribute [local go_sem ↓] Go.wp_at_zero Go.wp_at_succ

/-- What stands ahead of a round: T holds the turn, B the count. -/
structure Lp (w wa : World) (T B vb wb : Nat) (stop tv : Int) (Ew Dq : Nat → Prop) (M : List KV) (f : Value) : Prop where
  n0 : wa.cell? ⟨B, 0, none⟩ = some (.int .i64 0)
  nf : wa.frozen? ⟨B, 0, none⟩ = false
  t0 : wa.cell? ⟨T, 0, none⟩ = some (.int .i64 tv)
  v0 : wa.cell? ⟨vb, 0, none⟩ = some (.pointer (some ⟨wb, 0, none⟩))
  r0 : wa.cell? ⟨w.heap.size + 1, 0, none⟩ = some (.bool false)
  rf : wa.frozen? ⟨w.heap.size + 1, 0, none⟩ = false
  s0 : wa.cell? ⟨w.heap.size, 0, none⟩ = some (.int .i64 stop)
  q : RB wa wb Ew M
  sq : SQ wa Dq f (-9223372036854775808) M
  hB : B ≠ T ∧ B ≠ vb ∧ B ≠ wb ∧ B ≠ w.heap.size ∧ B ≠ w.heap.size + 1 ∧ ¬ Ew B ∧ ¬ Dq B ∧ ¬ Dq (w.heap.size + 1)
  hDq : ∀ k, Dq k → k < wa.heap.size
  wf : Wfk M

theorem TwC.lp {w V : World} {tb rb ub sb wb vb : Nat} {Ew Dq : Nat → Prop} {M L R : List KV} {f : Value} {stop : Int} (hc : TwC V tb rb ub sb wb vb Ew Dq M L R f) (hw : Wfk M) (hz : w.heap.size + 2 ≤ V.heap.size) (h1 : V.cell? ⟨w.heap.size, 0, none⟩ = some (.int .i64 stop)) (h2 : V.cell? ⟨w.heap.size + 1, 0, none⟩ = some (.bool false)) (h3 : V.frozen? ⟨w.heap.size + 1, 0, none⟩ = false) (h4 : ¬ Dq (w.heap.size + 1)) (tv : Int) :
    Lp w ((V.alloc (.cells #[.int .i64 tv] 3)).alloc (.cells #[.int .i64 0] 3)) V.heap.size (V.heap.size + 1) vb wb stop tv Ew Dq M f := by
  have hk : Below V.heap.size V ((V.alloc (.cells #[.int .i64 tv] 3)).alloc (.cells #[.int .i64 0] 3)) := (below_new _ _).alloc (by simp) _
  have hvl : vb < V.heap.size := World.block_lt_of_cell? _ _ hc.v
  have hwl := hc.q.lt
  exact ⟨by simp [go_sem], by simp [go_sem], by simp [go_sem], (hk.cell (p := ⟨vb, 0, none⟩) hvl).trans hc.v, (hk.cell (p := ⟨w.heap.size + 1, 0, none⟩) (by simp; omega)).trans h2, (hk.frozen (p := ⟨w.heap.size + 1, 0, none⟩) (by simp; omega)).trans h3, (hk.cell (p := ⟨w.heap.size, 0, none⟩) (by simp; omega)).trans h1, hc.q.keep hk, hc.sq.keep hk, ⟨by omega, by omega, by omega, by omega, by omega, fun e => by have := hc.hEw _ e; omega, fun e => by have := hc.hDq _ e; omega, h4⟩, fun k hk' => by have := hc.hDq k hk'; have := hk.size; omega, hw⟩

section
variable {t0 t1 t2 t3 t4 t5 t6 t7 t8 t9 t10 t11 t12 t13 t14 t15 t16 t17 t18 t19 t20 t21 t22 t23 t24 t25 t26 t27 t28 t29 t30 t31 t32 t33 t34 t35 t36 t37 t38 t39 t40 t41 t42 t43 t44 t45 t46 t47 t48 t49 t50 t51 t52 t53 t54 t55 t56 t57 t58 t59 t60 t61 t62 t63 t64 t65 t66 t67 t68 t69 t70 t71 t72 t73 t74 t75 t76 t77 t78 t79 t80 t81 t82 t83 t84 t85 t86 t87 t88 t89 t90 t91 t92 t93 t94 t95 t96 t97 t98 t99 t100 t101 t102 t103 t104 t105 t106 t107 t108 t109 t110 t111 t112 t113 t114 t115 t116 t117 t118 t119 t120 t121 t122 t123 t124 t125 t126 t127 t128 t129 t130 t131 t132 t133 t134 t135 t136 t137 t138 t139 t140 t141 t142 t143 t144 t145 t146 t147 t148 t149 : Value}
set_option maxRecDepth 100000 in
set_option maxHeartbeats 8000000 in
theorem twLoop {Q : Exit → Act → World → Prop} {ds : List Deferred} {w wa : World} {T B vb wb : Nat} {stop tv : Int} {Ew Dq : Nat → Prop} {M : List KV} {f : Value} (h : Lp w wa T B vb wb stop tv Ew Dq M f) (hM : M.length ≤ 90000)
    (hd : ∀ (De : Nat) (W : World), wa.heap.size ≤ De → W.heap[De]? = some (.deferred (some [])) → But (fun k => k = B) wa W → W.cell? ⟨B, 0, none⟩ = some (.int .i64 (M.length : Int)) → Q .normal ⟨#[t0, t1, t2, t3, t4, t5, t6, .pointer (some ⟨w.heap.size, 0, none⟩), .pointer (some ⟨(w.heap.size + 1), 0, none⟩), t9, t10, f, .pointer (some ⟨vb, 0, none⟩), t13, t14, .pointer (some ⟨T, 0, none⟩), .pointer (some ⟨B, 0, none⟩), t17, t18, t19, t20, t21, t22, t23, t24, t25, t26, t27, t28, t29, t30, t31, t32, t33, t34, t35, t36, t37, t38, t39, t40, t41, t42, t43, t44, t45, t46, t47, t48, t49, t50, t51, t52, t53, t54, t55, t56, t57, t58, t59, t60, t61, t62, t63, t64, t65, t66, t67, t68, t69, t70, t71, t72, t73, t74, t75, t76, t77, t78, t79, t80, t81, t82, t83, t84, t85, t86, t87, t88, f, t90, t91, t92, t93, t94, t95, t96, t97, t98, t99, t100, t101, t102, t103, t104, t105, t106, t107, t108, t109, t110, t111, t112, t113, t114, t115, t116, t117, t118, t119, t120, t121, t122, t123, t124, t125, t126, t127, t128, t129, t130, t131, t132, t133, t134, t135, t136, t137, t138, t139, t140, t141, t142, t143, t144, t145, t146, t147, t148, t149], mark De :: ds⟩ W)
    (hx : tv = 0 → ∀ (De : Nat) (W : World), wa.heap.size ≤ De → W.heap[De]? = some (.deferred (some [])) → But (fun k => k = B) wa W → (∃ p : Int, W.cell? ⟨B, 0, none⟩ = some (.int .i64 p)) → Q (.exit 2) ⟨#[t0, t1, t2, t3, t4, t5, t6, .pointer (some ⟨w.heap.size, 0, none⟩), .pointer (some ⟨(w.heap.size + 1), 0, none⟩), t9, t10, f, .pointer (some ⟨vb, 0, none⟩), t13, t14, .pointer (some ⟨T, 0, none⟩), .pointer (some ⟨B, 0, none⟩), t17, t18, t19, t20, t21, t22, t23, t24, t25, t26, t27, t28, t29, t30, t31, t32, t33, t34, t35, t36, t37, t38, t39, t40, t41, t42, t43, t44, t45, t46, t47, t48, t49, t50, t51, t52, t53, t54, t55, t56, t57, t58, t59, t60, t61, t62, t63, t64, t65, t66, t67, t68, t69, t70, t71, t72, t73, t74, t75, t76, t77, t78, t79, t80, t81, t82, t83, t84, t85, t86, t87, t88, f, t90, t91, t92, t93, t94, t95, t96, t97, t98, t99, t100, t101, t102, t103, t104, t105, t106, t107, t108, t109, t110, t111, t112, t113, t114, t115, t116, t117, t118, t119, t120, t121, t122, t123, t124, t125, t126, t127, t128, t129, t130, t131, t132, t133, t134, t135, t136, t137, t138, t139, t140, t141, t142, t143, t144, t145, t146, t147, t148, t149], mark De :: ds⟩ W) :
    ((Code.rangeFunc (Operand.tmp 89) #[90, 91] ((Code.region 23 #[{ dst := some 17, op := Op.assign (Operand.tmp 90), type := 3, pos := "law.go:174", after := #[], guard := none }] false).seq (Code.region 24 #[{ dst := some 18, op := Op.assign (Operand.tmp 91), type := 3, pos := "law.go:174", after := #[], guard := none }] false)) (Code.block 3 (((Code.region 25 #[{ dst := some 92, op := Op.load 3 (Operand.tmp 16), type := 3, pos := "law.go:175", after := #[], guard := none }, { dst := some 93, op := Op.load 26 (Operand.tmp 12), type := 26, pos := "law.go:175", after := #[], guard := none }, { dst := some 94, op := Op.nilCheck (Operand.tmp 93), type := 0, pos := "law.go:175", after := #[{ on := 1, ground := Ground.data }], guard := none }, { dst := some 95, op := Op.fieldAddr 29 (Operand.tmp 94) 0, type := 0, pos := "law.go:175", after := #[{ on := 2, ground := Ground.data }], guard := none }, { dst := some 96, op := Op.load 27 (Operand.tmp 95), type := 27, pos := "law.go:175", after := #[{ on := 3, ground := Ground.data }], guard := none }, { dst := some 97, op := Op.call { callee := Callee.builtin Builtin.len, args := #[Operand.tmp 96], argTypes := #[27] }, type := 3, pos := "law.go:175", after := #[{ on := 4, ground := Ground.data }], guard := none }, { dst := some 98, op := Op.binOp BinOp.geq 3 (Operand.tmp 92) (Operand.tmp 97) 3, type := 4, pos := "law.go:175", after := #[{ on := 0, ground := Ground.data }, { on := 5, ground := Ground.data }], guard := none }, { dst := some 99, op := Op.move (Operand.tmp 98), type := 4, pos := "law.go:175", after := #[{ on := 6, ground := Ground.data }], guard := none }, { dst := some 100, op := Op.move (Operand.tmp 17), type := 3, pos := "law.go:175", after := #[{ on := 7, ground := Ground.guard }], guard := some (7, false) }, { dst := some 101, op := Op.load 26 (Operand.tmp 12), type := 26, pos := "law.go:175", after := #[{ on := 7, ground := Ground.guard }], guard := some (7, false) }, { dst := some 102, op := Op.nilCheck (Operand.tmp 101), type := 0, pos := "law.go:175", after := #[{ on := 9, ground := Ground.data }, { on := 7, ground := Ground.guard }], guard := some (7, false) }, { dst := some 103, op := Op.fieldAddr 29 (Operand.tmp 102) 0, type := 0, pos := "law.go:175", after := #[{ on := 10, ground := Ground.data }, { on := 7, ground := Ground.guard }], guard := some (7, false) }, { dst := some 104, op := Op.load 27 (Operand.tmp 103), type := 27, pos := "law.go:175", after := #[{ on := 11, ground := Ground.data }, { on := 7, ground := Ground.guard }], guard := some (7, false) }, { dst := some 105, op := Op.load 3 (Operand.tmp 16), type := 3, pos := "law.go:175", after := #[{ on := 7, ground := Ground.guard }], guard := some (7, false) }, { dst := some 106, op := Op.indexAddr 27 (Operand.tmp 104) (Operand.tmp 105), type := 0, pos := "law.go:175", after := #[{ on := 12, ground := Ground.data }, { on := 13, ground := Ground.data }, { on := 7, ground := Ground.guard }], guard := some (7, false) }, { dst := some 107, op := Op.load 3 (Operand.tmp 106), type := 3, pos := "law.go:175", after := #[{ on := 14, ground := Ground.data }, { on := 7, ground := Ground.guard }], guard := some (7, false) }, { dst := some 108, op := Op.binOp BinOp.neq 3 (Operand.tmp 100) (Operand.tmp 107) 3, type := 4, pos := "law.go:175", after := #[{ on := 8, ground := Ground.data }, { on := 15, ground := Ground.data }, { on := 7, ground := Ground.guard }], guard := some (7, false) }, { dst := some 109, op := Op.pick (Operand.tmp 99) (Operand.const (Value.bool true)) (Operand.tmp 108), type := 4, pos := "law.go:175", after := #[{ on := 7, ground := Ground.data }, { on := 16, ground := Ground.data }], guard := none }, { dst := some 110, op := Op.move (Operand.tmp 109), type := 4, pos := "law.go:175", after := #[{ on := 17, ground := Ground.data }, { on := 7, ground := Ground.chain }], guard := none }, { dst := some 111, op := Op.move (Operand.tmp 18), type := 3, pos := "law.go:175", after := #[{ on := 18, ground := Ground.guard }], guard := some (18, false) }, { dst := some 112, op := Op.load 26 (Operand.tmp 12), type := 26, pos := "law.go:175", after := #[{ on := 18, ground := Ground.guard }], guard := some (18, false) }, { dst := some 113, op := Op.nilCheck (Operand.tmp 112), type := 0, pos := "law.go:175", after := #[{ on := 20, ground := Ground.data }, { on := 18, ground := Ground.guard }], guard := some (18, false) }, { dst := some 114, op := Op.fieldAddr 29 (Operand.tmp 113) 1, type := 0, pos := "law.go:175", after := #[{ on := 21, ground := Ground.data }, { on := 18, ground := Ground.guard }], guard := some (18, false) }, { dst := some 115, op := Op.load 27 (Operand.tmp 114), type := 27, pos := "law.go:175", after := #[{ on := 22, ground := Ground.data }, { on := 18, ground := Ground.guard }], guard := some (18, false) }, { dst := some 116, op := Op.load 3 (Operand.tmp 16), type := 3, pos := "law.go:175", after := #[{ on := 18, ground := Ground.guard }], guard := some (18, false) }, { dst := some 117, op := Op.indexAddr 27 (Operand.tmp 115) (Operand.tmp 116), type := 0, pos := "law.go:175", after := #[{ on := 23, ground := Ground.data }, { on := 24, ground := Ground.data }, { on := 18, ground := Ground.guard }], guard := some (18, false) }, { dst := some 118, op := Op.load 3 (Operand.tmp 117), type := 3, pos := "law.go:175", after := #[{ on := 25, ground := Ground.data }, { on := 18, ground := Ground.guard }], guard := some (18, false) }, { dst := some 119, op := Op.binOp BinOp.neq 3 (Operand.tmp 111) (Operand.tmp 118) 3, type := 4, pos := "law.go:175", after := #[{ on := 19, ground := Ground.data }, { on := 26, ground := Ground.data }, { on := 18, ground := Ground.guard }], guard := some (18, false) }, { dst := some 120, op := Op.pick (Operand.tmp 110) (Operand.const (Value.bool true)) (Operand.tmp 119), type := 4, pos := "law.go:175", after := #[{ on := 18, ground := Ground.data }, { on := 27, ground := Ground.data }], guard := none }] true).seq (Code.cond (Operand.tmp 120) ((Code.region 26 #[{ dst := none, op := Op.store 4 (Operand.tmp 8) (Operand.const (Value.bool false)), type := 0, pos := "law.go:176", after := #[], guard := none }] false).seq Code.ret) Code.skip)).seq ((Code.region 27 #[{ dst := some 121, op := Op.load 3 (Operand.tmp 16), type := 3, pos := "law.go:178", after := #[], guard := none }, { dst := some 122, op := Op.binOp BinOp.add 3 (Operand.tmp 121) (Operand.const (Value.int IntKind.i64 1)) 3, type := 3, pos := "law.go:178", after := #[{ on := 0, ground := Ground.data }], guard := none }, { dst := none, op := Op.store 3 (Operand.tmp 16) (Operand.tmp 122), type := 0, pos := "law.go:178", after := #[{ on := 1, ground := Ground.data }, { on := 0, ground := Ground.phase }, { on := 1, ground := Ground.phase }], guard := none }] false).seq ((Code.region 28 #[{ dst := some 123, op := Op.load 3 (Operand.tmp 15), type := 3, pos := "law.go:179", after := #[], guard := none }, { dst := some 124, op := Op.binOp BinOp.eql 3 (Operand.tmp 123) (Operand.const (Value.int IntKind.i64 0)) 3, type := 4, pos := "law.go:179", after := #[{ on := 0, ground := Ground.data }], guard := none }, { dst := some 125, op := Op.move (Operand.tmp 124), type := 4, pos := "law.go:179", after := #[{ on := 1, ground := Ground.data }], guard := none }, { dst := some 126, op := Op.load 3 (Operand.tmp 16), type := 3, pos := "law.go:179", after := #[{ on := 2, ground := Ground.guard }], guard := some (2, true) }, { dst := some 127, op := Op.load 3 (Operand.tmp 7), type := 3, pos := "law.go:179", after := #[{ on := 2, ground := Ground.guard }], guard := some (2, true) }, { dst := some 128, op := Op.binOp BinOp.gtr 3 (Operand.tmp 126) (Operand.tmp 127) 3, type := 4, pos := "law.go:179", after := #[{ on := 3, ground := Ground.data }, { on := 4, ground := Ground.data }, { on := 2, ground := Ground.guard }], guard := some (2, true) }, { dst := some 129, op := Op.pick (Operand.tmp 125) (Operand.tmp 128) (Operand.const (Value.bool false)), type := 4, pos := "law.go:179", after := #[{ on := 2, ground := Ground.data }, { on := 5, ground := Ground.data }], guard := none }] false).seq (Code.cond (Operand.tmp 129) (Code.exit 2) Code.skip))))))).wp Try.prog Q ⟨#[t0, t1, t2, t3, t4, t5, t6, .pointer (some ⟨w.heap.size, 0, none⟩), .pointer (some ⟨(w.heap.size + 1), 0, none⟩), t9, t10, f, .pointer (some ⟨vb, 0, none⟩), t13, t14, .pointer (some ⟨T, 0, none⟩), .pointer (some ⟨B, 0, none⟩), t17, t18, t19, t20, t21, t22, t23, t24, t25, t26, t27, t28, t29, t30, t31, t32, t33, t34, t35, t36, t37, t38, t39, t40, t41, t42, t43, t44, t45, t46, t47, t48, t49, t50, t51, t52, t53, t54, t55, t56, t57, t58, t59, t60, t61, t62, t63, t64, t65, t66, t67, t68, t69, t70, t71, t72, t73, t74, t75, t76, t77, t78, t79, t80, t81, t82, t83, t84, t85, t86, t87, t88, f, t90, t91, t92, t93, t94, t95, t96, t97, t98, t99, t100, t101, t102, t103, t104, t105, t106, t107, t108, t109, t110, t111, t112, t113, t114, t115, t116, t117, t118, t119, t120, t121, t122, t123, t124, t125, t126, t127, t128, t129, t130, t131, t132, t133, t134, t135, t136, t137, t138, t139, t140, t141, t142, t143, t144, t145, t146, t147, t148, t149], ds⟩ wa := by
  have HD := hidb hd
  have HX := hidb hx
  have HH := hidb h
  have HN := hidb hM
  have hsq : SQ wa (fun k => ¬ (k = B ∨ k = w.heap.size + 1 ∨ wa.heap.size ≤ k)) f (-9223372036854775808) M := by
    refine h.sq.mono (fun k hk => ?_)
    rintro (e | e | e)
    · subst e; exact h.hB.2.2.2.2.2.2.1 hk
    · subst e; exact h.hB.2.2.2.2.2.2.2 hk
    · have := h.hDq k hk; omega
  obtain ⟨lb, rfl, hseq⟩ := seq_o hsq (fun k hk => .inr (.inr hk))
  have hflt : M.filter (fun x => decide ((-9223372036854775808 : Int) ≤ x.1)) = M := filter_all (fun x hx => by have := h.wf x hx; simpa using this)
  have HPF : Hid (∀ pre : List KV, pre <+: M.filter (fun x => decide ((-9223372036854775808 : Int) ≤ x.1)) → pre <+: M) := hidb (fun _ h => by rw [hflt] at h; exact h)
  have HFT := hidb hflt
  have n7 := h.n0
  have n7' := h.nf
  clear hd hx h hM hflt hsq
  refine range_p (w := wa) (gf := 25) (lb := lb) rfl (enters_of Try.func25 (by kernel_rfl) rfl) hseq (fun k hk => .inr (.inr hk)) (Below.refl _ _) (fun _ => rfl)
    (fun pre W => ∃ p : Nat, (p = pre.length ∧ pre <+: M) ∧ (W.cell? ⟨B, 0, none⟩ = some (.int .i64 (p : Int)) ∧ W.frozen? ⟨B, 0, none⟩ = false) ∧ But (fun k => k = B) wa W)
    (fun c pre W => (c = .ret ∧ ¬ pre <+: M) ∨ (c = .exit 2 ∧ tv = 0 ∧ ∃ p : Nat, (W.cell? ⟨B, 0, none⟩ = some (.int .i64 (p : Int)) ∧ W.frozen? ⟨B, 0, none⟩ = false) ∧ But (fun k => k = B) wa W))
    ?hI ?hIx ⟨_, ⟨rfl, List.nil_prefix⟩, ⟨n7, n7'⟩, But.refl _ _⟩ ?round ?done ?stop
  case hI =>
    rintro pre A C row ⟨p, h1, h2, h3⟩ hg hr
    exact ⟨p, h1, OwnFrom.cells _ (fun _ : Unit => .int .i64 (p : Int)) () A C row h2 hg hr, OwnFrom.but (β := Unit) (Nat.le_refl _) () A C row h3 hg hr⟩
  case hIx =>
    rintro c pre A C row (h1 | ⟨rfl, h1, p, h2, h3⟩) hg hr
    · exact .inl h1
    · exact .inr ⟨rfl, h1, p, OwnFrom.cells _ (fun _ : Unit => .int .i64 (p : Int)) () A C row h2 hg hr, OwnFrom.but (β := Unit) (Nat.le_refl _) () A C row h3 hg hr⟩
  case done =>
    rintro De zs W' hD' hzs ⟨p, ⟨hp, hpre⟩, ⟨p1, p2⟩, hB9⟩ hK'
    rw [HFT.out] at hzs
    subst hzs
    subst hp
    exact HD.out De W' hD' hK' hB9 p1
  case stop =>
    rintro De c pre W hD' hp (⟨rfl, hx⟩ | ⟨rfl, h1, p, h2, h3⟩) hK'
    · exact absurd (HPF.out pre hp) hx
    · have := HX.out h1 De W hD' hK' h3 ⟨_, h2.1⟩
      go_wp2
      exact this
  case round =>
    rintro l2 pre ⟨xk, xv⟩ W0 _ hlen
    gi_wp2
    rintro W1 hpre p1 p2 hB9 hsz
    obtain ⟨p, hp⟩ : ∃ p, p = pre.length := ⟨_, rfl⟩
    rw [← hp] at p1
    have hnn := HN.out
    have hh := HH.out
    have hbb := hh.hB
    obtain ⟨a1, c1, a2, c2, d0, d1, hcl⟩ := hh.q.cells
    have ql := hh.q.lt
    have q0 := (hB9.cell (p := ⟨wb, 0, none⟩) ql (show ¬ wb = B from fun e => hbb.2.2.1 e.symm)).trans d0
    have q1 := (hB9.cell (p := ⟨wb, 1, none⟩) ql (show ¬ wb = B from fun e => hbb.2.2.1 e.symm)).trans d1
    have q2 := (hB9.cell (p := ⟨vb, 0, none⟩) (World.block_lt_of_cell? _ _ hh.v0) (show ¬ vb = B from fun e => hbb.2.1 e.symm)).trans hh.v0
    have q3 := (hB9.cell (p := ⟨w.heap.size + 1, 0, none⟩) (World.block_lt_of_cell? _ _ hh.r0) (show ¬ w.heap.size + 1 = B from fun e => hbb.2.2.2.2.1 e.symm)).trans hh.r0
    have q4 := (hB9.frozen (p := ⟨w.heap.size + 1, 0, none⟩) (World.block_lt_of_cell? _ _ hh.r0) (show ¬ w.heap.size + 1 = B from fun e => hbb.2.2.2.2.1 e.symm)).trans hh.rf
    have q5 := (hB9.cell (p := ⟨T, 0, none⟩) (World.block_lt_of_cell? _ _ hh.t0) (show ¬ T = B from fun e => hbb.1 e.symm)).trans hh.t0
    have q6 := (hB9.cell (p := ⟨w.heap.size, 0, none⟩) (World.block_lt_of_cell? _ _ hh.s0) (show ¬ w.heap.size = B from fun e => hbb.2.2.2.1 e.symm)).trans hh.s0
    have HRT : Hid (w.heap.size + 1 < wa.heap.size ∧ B < wa.heap.size ∧ p ≤ 200000) := hidb ⟨World.block_lt_of_cell? _ _ hh.r0, World.block_lt_of_cell? _ _ hh.n0, by have hln : pre.length < M.length := hlen; omega⟩
    have HP := hidb hp
    have HB9 := hidb hB9
    by_cases hin : pre.length < M.length
    · obtain ⟨⟨yk, yv⟩, hy⟩ : ∃ y, M[pre.length]? = some y := ⟨_, List.getElem?_eq_getElem hin⟩
      have hLp : M[p]? = some (yk, yv) := by rw [hp]; exact hy
      obtain ⟨g1, g2, rfl, rfl, m1, m2⟩ := hcl p _ hLp
      have hpl : p < M.length := (List.getElem?_eq_some_iff.1 hLp).1
      have b1 : g1 < wa.heap.size := World.block_lt_of_cell? _ _ m1
      have b2 : g2 < wa.heap.size := World.block_lt_of_cell? _ _ m2
      have hne : g1 ≠ B ∧ g2 ≠ B := by
        obtain ⟨V1, V2, h1, -, -, h4, h5⟩ := hh.q
        have e1 : V1 = .slice (some ⟨g1, 0, none⟩) M.length c1 := by simpa using h1.c0.symm.trans d0
        have e2 : V2 = .slice (some ⟨g2, 0, none⟩) M.length c2 := by simpa using h1.c1.symm.trans d1
        exact ⟨fun e => hbb.2.2.2.2.2.1 (e ▸ (h4 g1 (by rw [e1]; rfl)).1), fun e => hbb.2.2.2.2.2.1 (e ▸ (h5 g2 (by rw [e2]; rfl)).1)⟩
      have z1 := (hB9.cell (p := ⟨g1, p, none⟩) b1 hne.1).trans m1
      have z2 := (hB9.cell (p := ⟨g2, p, none⟩) b2 hne.2).trans m2
      have HPX := hidb (prefix_one hpre hy)
      have s2 : (p : Int) < (M.length : Int) := by omega
      have s3 : (0 : Int) ≤ (p : Int) := by omega
      have s4 : wrap64 ((p : Int) + 1) = ((p + 1 : Nat) : Int) := by unfold wrap64; omega
      have HPL : Hid (p < M.length) := hidb hpl
      have u0 := hbb.1
      have u1 := hbb.2.2.2.1
      clear hp hB9 hpre hsz hlen hin hy hLp hcl d0 d1 m1 m2 b1 b2 hne hnn hpl hh hbb ql
      by_cases hxk : xk = yk
      · subst hxk
        by_cases hxv : xv = yv
        · subst hxv
          gi_wp2
          have s1 : decide (M.length ≤ p) = false := by have := HPL.out; simp; omega
          refine region_round_quiet l2 (by kernel_rfl) (by kernel_rfl) (by kernel_rfl) ?_
          repeat (gi_big_quiet_step (fail))
          refine wpQuietIn_nil ?_
          intro _ hw'
          obtain ⟨nq, rfl⟩ := hw'
          have x1 : ((W1.drewN nq).setCell ⟨B, 0, none⟩ (.int .i64 ((p : Int) + 1))).cell? ⟨T, 0, none⟩ = some (.int .i64 tv) := (World.cell?_setCell_other _ _ _ _ (ne_blk _ _ _ _ u0)).trans q5
          have x2 : ((W1.drewN nq).setCell ⟨B, 0, none⟩ (.int .i64 ((p : Int) + 1))).cell? ⟨w.heap.size, 0, none⟩ = some (.int .i64 stop) := (World.cell?_setCell_other _ _ _ _ (ne_blk _ _ _ _ u1)).trans q6
          have x3 : ((W1.drewN nq).setCell ⟨B, 0, none⟩ (.int .i64 ((p : Int) + 1))).cell? ⟨B, 0, none⟩ = some (.int .i64 ((p : Int) + 1)) := World.cell?_setCell_same' _ _ _ (by rw [show (W1.drewN nq).cell? ⟨B, 0, none⟩ = some (.int .i64 (p : Int)) from p1]; rfl)
          have hrt := HRT.out
          have X4 := hidb (⟨((But.refl (fun k => (k = B ∨ k = w.heap.size + 1 ∨ wa.heap.size ≤ k) ∧ (k < wa.heap.size ∨ wa.heap.size + 2 + 5 ≤ k)) W1).drewN nq).setCell (p := ⟨B, 0, none⟩) (fun _ => ⟨.inl rfl, .inl (show B < wa.heap.size by omega)⟩) (.int .i64 ((p : Int) + 1)), ((HB9.out).drewN nq).setCell (p := ⟨B, 0, none⟩) (fun _ => rfl) (.int .i64 ((p : Int) + 1))⟩ : _ ∧ _)
          have X5 : Hid (((W1.drewN nq).setCell ⟨B, 0, none⟩ (.int .i64 ((p : Int) + 1))).frozen? ⟨B, 0, none⟩ = false) := hidb (by rw [World.frozen?_setCell]; exact p2)
          have X6 : Hid (((W1.drewN nq).setCell ⟨B, 0, none⟩ (.int .i64 ((p : Int) + 1))).cell? ⟨B, 0, none⟩ = some (.int .i64 ((p + 1 : Nat) : Int))) := hidb (x3.trans (by simp))
          clear hrt u0 u1
          by_cases ht : tv = 0
          · subst ht
            by_cases hst : stop < (p : Int) + 1
            · gi_wp2
              exact ⟨X4.out.1, .inr ⟨rfl, ⟨⟨_, X6.out⟩, X5.out⟩, X4.out.2⟩⟩
            · gi_wp2
              exact ⟨X4.out.1, p + 1, ⟨by rw [HP.out]; simp only [List.length_append, List.length_cons, List.length_nil], (HPX.out _).2 rfl⟩, ⟨X6.out, X5.out⟩, X4.out.2⟩
          · have ht' : (tv == 0) = false := by simpa using ht
            clear ht
            gi_wp2
            exact ⟨X4.out.1, p + 1, ⟨by rw [HP.out]; simp only [List.length_append, List.length_cons, List.length_nil], (HPX.out _).2 rfl⟩, ⟨X6.out, X5.out⟩, X4.out.2⟩
        · have hxv' : (xv != yv) = true := by simpa using hxv
          have HXV := hidb hxv
          clear hxv
          gi_wp2
          have s1 : decide (M.length ≤ p) = false := by have := HPL.out; simp; omega
          refine region_round_quiet l2 (by kernel_rfl) (by kernel_rfl) (by kernel_rfl) ?_
          repeat (gi_big_quiet_step (fail))
          refine wpQuietIn_nil ?_
          intro _ hw'
          obtain ⟨nq, rfl⟩ := hw'
          gi_wp2
          have hrt := HRT.out
          exact ⟨(((But.refl _ W1).drewN nq)).setCell (fun _ => ⟨.inr (.inl rfl), .inl (show w.heap.size + 1 < wa.heap.size by omega)⟩) _, .inl ⟨rfl, fun h => HXV.out (by have := (HPX.out _).1 h; simpa using this)⟩⟩
      · have hxk' : (xk != yk) = true := by simpa using hxk
        have HXK := hidb hxk
        clear hxk
        gi_wp2
        have s1 : decide (M.length ≤ p) = false := by have := HPL.out; simp; omega
        refine region_round_quiet l2 (by kernel_rfl) (by kernel_rfl) (by kernel_rfl) ?_
        repeat (gi_big_quiet_step (fail))
        refine wpQuietIn_nil ?_
        intro _ hw'
        obtain ⟨nq, rfl⟩ := hw'
        gi_wp2
        have hrt := HRT.out
        exact ⟨(((But.refl _ W1).drewN nq)).setCell (fun _ => ⟨.inr (.inl rfl), .inl (show w.heap.size + 1 < wa.heap.size by omega)⟩) _, .inl ⟨rfl, fun h => HXK.out (by have := (HPX.out _).1 h; simp at this; exact this.1)⟩⟩
    · exact absurd hlen (by simpa using hin)
end
end Go.Proofs.Ytejjffgolipdmaa
