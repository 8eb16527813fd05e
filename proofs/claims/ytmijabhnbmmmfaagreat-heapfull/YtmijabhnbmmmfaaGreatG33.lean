import Derived.Test.YtmijabhnbmmmfaaGreatG32
import Derived.Deep.AppendLies
import Derived.Deep.RegionLaw
/- An append of a term, as a step of a drawn region. -/
namespace Go.Proofs.YtmijabhnbmmmfaaGreat
open Go.RowKit Go.Deep
attribute [local go_sem] store_float f64bits
attribute [local go_sem ↓] Go.wp_at_zero Go.wp_at_succ

theorem infoT5 : (Tryz.prog.info? 44).map (fun i => (i.zero, i.size, i.bytes)) = some (some (.agg #[.int .i64 0, .int .i64 0, .float .f64 0, .string ⟨#[]⟩, .slice none 0 0]), 5, 64) := by kernel_rfl

theorem step_app5 {ops : Array Oper} {o : Oper} {a : Act} {w : World} {K : Act → World → Prop} {Q : Exit → Act → World → Prop} {E : Prop} (hg : o.guard = none) (s x : Operand)
    (hop : o.op = Op.call { callee := .builtin .append, args := #[s, x], argTypes := #[42, 42] }) (base : Nat) (v : Value) (n : Nat) (xs : List Value) (hs : a.eval s = v) (how : w.ownsRow base 44 5 v n xs)
    (ad : Addr) (news : List Value) (hl : news.length = 5) (hx : a.eval x = .slice (some ad) 1 1) (hc : ∀ j u, news[j]? = some u → w.cell? (ad.add j) = some u) (h1 : ∀ u ∈ news, u.oneCell' = true) (z1 : n + 1 ≤ maxLen) (z2 : (n + 1) * 64 ≤ 140737488355328) (hb : base ≤ w.heap.size)
    (h : ∀ g cap w', w'.ownsRow base 44 5 (.slice (some ⟨g, 0, none⟩) (n + 1) cap) (n + 1) (xs ++ news) → w.grownBy w' v.ownBlock → (v.ownBlock = some g ∨ g = w.heap.size) → K (a.put o.dst (.slice (some ⟨g, 0, none⟩) (n + 1) cap)) w') :
    if Region.wanted o (yielded ops a.tmps) = true then Oper.wp Tryz.prog o a w K Q else E := by
  obtain ⟨i0, hi, hz0, hz1, hz2⟩ := info_parts infoT5
  exact step_append_lies w hg s x 42 hop base 44 i0 (.agg #[.int .i64 0, .int .i64 0, .float .f64 0, .string ⟨#[]⟩, .slice none 0 0]) 5 64 Tryz.underlying42 hi hz0 hz1 hz2 rfl (by decide) v n xs hs how ad 1 1 news hx (by omega)
    hc h1 (by decide) z1 z2 hb _ rfl (fun g cap w' h2 h3 h4 _ => h g cap w' h2 h3 h4)

theorem tr_one (t : Tr) : ∀ u ∈ t.cells, u.oneCell' = true := by
  obtain ⟨k, n, f, s, a, c, kids⟩ := t
  intro y hy
  simp only [Tr.cells, List.mem_cons, List.not_mem_nil, or_false] at hy
  rcases hy with rfl | rfl | rfl | rfl | rfl <;> rfl

theorem tr_len (t : Tr) : t.cells.length = 5 := by cases t; rfl

/-- A term that was told lies in no block of a row that was there. -/
theorem told_off {w w' : World} {base : Nat} {v : Value} {ds : List Tr} {t : Tr} (h : Rows w base v ds) (hb : base ≤ w.heap.size) (ht : t.In w' w.heap.size) : t.In w' base ∧ t.On (fun b => v.ownBlock ≠ some b ∧ b < w'.heap.size ∧ base ≤ b) := by
  refine ⟨in_mono hb t ht, on_mono (fun b hS => ⟨fun e => ?_, hS.1, by omega⟩) t (on_in t ht)⟩
  have := ownsRow_lt h.1 b e
  omega

abbrev Ent (f : Nat) : Prop := ∀ args w, (callFunc f args).run Tryz.prog w = .ok (.enter f args) w

theorem run_call {f : Nat} (ent : Ent f) {o : Oper} {a : Act} {w : World} (xs : Array Operand) (ts : Array TypeId) (hop : o.op = Op.call { callee := .value (.func f), args := xs, argTypes := ts }) (vs : Array Value) (hx' : xs.toList.map a.eval = vs.toList) :
    (execOp a.eval o).run Tryz.prog w = .ok (.enter f vs) w := by
  have hx : xs.map a.eval = vs := by apply Array.ext'; simpa using hx'
  unfold execOp
  rw [hop]
  have hf : a.eval (.func f) = ({ tmps := #[], defers := [] } : Act).eval (.func f) := rfl
  have ent2 := ent vs w
  simp only [resolve, hx, hf]
  go_simp

theorem ent_read : Ent 38 := by
  intro args w
  kernel_rfl

theorem step_call {f : Nat} {vs : Array Value} {ops : Array Oper} {o : Oper} {a : Act} {w : World} {K : Act → World → Prop} {Q : Exit → Act → World → Prop} {E : Prop} (hg : o.guard = none) (hrun : (execOp a.eval o).run Tryz.prog w = .ok (.enter f vs) w)
    {Post : Ending → World → Prop} (hc : Calls Tryz.prog f vs w Post) (h : ∀ e w', Post e w' → match e with | .returned v => K (a.put o.dst v) w' | .panicked c => Q (.panic c) a w' | .outgrown => LetsOut Q) :
    if Region.wanted o (yielded ops a.tmps) = true then Oper.wp Tryz.prog o a w K Q else E := by
  have hw : Region.wanted o (yielded ops a.tmps) = true := by simp [Region.wanted, hg]
  rw [if_pos hw]
  unfold Oper.wp
  rw [hrun, Oper.upon_enter]
  refine hc.mono fun e w'' hh => ?_
  have := h e w'' hh
  cases e <;> exact this

theorem step_read {vs : Array Value} {t : Tr} {ops : Array Oper} {o : Oper} {a : Act} {w : World} {K : Act → World → Prop} {Q : Exit → Act → World → Prop} {E : Prop} (hg : o.guard = none) (hrun : (execOp a.eval o).run Tryz.prog w = .ok (.enter 38 vs) w)
    (hc : Calls Tryz.prog 38 vs w fun e w' => ∃ t', e = .returned t'.val ∧ Same t t' ∧ t'.In w' w.heap.size ∧ Below w.heap.size w w')
    (hok : ∀ (k n : Int) (f : Nat) (s : ByteArray) (a2 : Option Addr) (c : Nat) (kids : List Tr) w', Same t (.mk k n f s a2 c kids) → (Tr.mk k n f s a2 c kids).In w' w.heap.size → Below w.heap.size w w' → K (a.put o.dst (.agg #[.int .i64 k, .int .i64 n, .float .f64 f, .string s, .slice a2 kids.length c])) w') :
    if Region.wanted o (yielded ops a.tmps) = true then Oper.wp Tryz.prog o a w K Q else E :=
  step_call hg hrun hc fun e w' hh => by
    obtain ⟨⟨k, n, f, s, a2, c, kids⟩, rfl, h1, h2, h3⟩ := hh
    exact hok k n f s a2 c kids w' h1 h2 h3
end Go.Proofs.YtmijabhnbmmmfaaGreat


/- What lies in memory while a block is read. -/
namespace Go.Proofs.YtmijabhnbmmmfaaGreat
open Go.RowKit Go.Deep

theorem grown_but {X w' : World} {row : Option Nat} (h : X.grownBy w' row) : But (fun k => row = some k) X w' := ⟨h.os, h.tape, h.output, h.size, fun k hk hs => h.block k hk (fun e => hs e.symm)⟩

theorem Box.set4 {w : World} {b : Nat} {v0 v1 v2 v3 v4 : Value} (h : Box w b v0 v1 v2 v3 v4) (u : Value) : Box (w.setCell ⟨b, 4, none⟩ u) b v0 v1 v2 v3 u :=
  ⟨by rw [World.cell?_setCell_other _ _ _ _ (ne_off3 _ _ _ (by decide))]; exact h.c0, by rw [World.cell?_setCell_other _ _ _ _ (ne_off3 _ _ _ (by decide))]; exact h.c1, by rw [World.cell?_setCell_other _ _ _ _ (ne_off3 _ _ _ (by decide))]; exact h.c2, by rw [World.cell?_setCell_other _ _ _ _ (ne_off3 _ _ _ (by decide))]; exact h.c3, World.cell?_setCell_same _ _ _ h.c4, by rw [World.frozen?_setCell]; exact h.f0, by rw [World.frozen?_setCell]; exact h.f1, by rw [World.frozen?_setCell]; exact h.f2, by rw [World.frozen?_setCell]; exact h.f3, by rw [World.frozen?_setCell]; exact h.f4, by simp [World.setCell]; exact h.lt⟩

theorem Oct.but {S : Nat → Prop} {w w' : World} {b : Nat} {v0 v1 v2 v3 v4 v5 v6 v7 : Value} (h : Oct w b v0 v1 v2 v3 v4 v5 v6 v7) (hb : But S w w') (hs : ¬ S b) : Oct w' b v0 v1 v2 v3 v4 v5 v6 v7 := h.at (hb.block b h.lt hs) hb.size

theorem Oct.other1 {w : World} {b c i : Nat} {v0 v1 v2 v3 v4 v5 v6 v7 : Value} (h : Oct w b v0 v1 v2 v3 v4 v5 v6 v7) (hne : c ≠ b) (u : Value) : Oct (w.setCell ⟨c, i, none⟩ u) b v0 v1 v2 v3 v4 v5 v6 v7 :=
  h.at (Below.heap_setCell w ⟨c, i, none⟩ u b (fun e => hne e.symm)) (by simp [World.setCell])

theorem cell_set8 {w : World} {b : Nat} (u0 u1 u2 u3 u4 u5 u6 u7 : Value) {v0 v1 v2 v3 v4 v5 v6 v7 : Value} (h : Oct w b v0 v1 v2 v3 v4 v5 v6 v7) : Oct (set8 w b u0 u1 u2 u3 u4 u5 u6 u7) b u0 u1 u2 u3 u4 u5 u6 u7 := by
  have key : ∀ (i : Nat) (W : World) (v u : Value) (j : Nat), i ≠ j → W.cell? ⟨b, j, none⟩ = some v → (W.setCell ⟨b, i, none⟩ u).cell? ⟨b, j, none⟩ = some v := fun i W v u j hij hv => by
    rw [World.cell?_setCell_other _ _ _ _ (ne_off3 _ _ _ hij)]; exact hv
  unfold set8
  have s0 : ∀ (W : World) (v u : Value) (j : Nat), W.cell? ⟨b, j, none⟩ = some v → (W.setCell ⟨b, j, none⟩ u).cell? ⟨b, j, none⟩ = some u := fun W v u j hv => World.cell?_setCell_same _ _ _ hv
  refine ⟨?_, ?_, ?_, ?_, ?_, ?_, ?_, ?_, ?_, ?_, ?_, ?_, ?_, ?_, ?_, ?_, ?_⟩
  · exact key _ _ _ _ _ (by decide) (key _ _ _ _ _ (by decide) (key _ _ _ _ _ (by decide) (key _ _ _ _ _ (by decide) (key _ _ _ _ _ (by decide) (key _ _ _ _ _ (by decide) (key _ _ _ _ _ (by decide) (s0 _ _ _ _ h.c0)))))))
  · exact key _ _ _ _ _ (by decide) (key _ _ _ _ _ (by decide) (key _ _ _ _ _ (by decide) (key _ _ _ _ _ (by decide) (key _ _ _ _ _ (by decide) (key _ _ _ _ _ (by decide) (s0 _ _ _ _ (key _ _ _ _ _ (by decide) h.c1)))))))
  · exact key _ _ _ _ _ (by decide) (key _ _ _ _ _ (by decide) (key _ _ _ _ _ (by decide) (key _ _ _ _ _ (by decide) (key _ _ _ _ _ (by decide) (s0 _ _ _ _ (key _ _ _ _ _ (by decide) (key _ _ _ _ _ (by decide) h.c2)))))))
  · exact key _ _ _ _ _ (by decide) (key _ _ _ _ _ (by decide) (key _ _ _ _ _ (by decide) (key _ _ _ _ _ (by decide) (s0 _ _ _ _ (key _ _ _ _ _ (by decide) (key _ _ _ _ _ (by decide) (key _ _ _ _ _ (by decide) h.c3)))))))
  · exact key _ _ _ _ _ (by decide) (key _ _ _ _ _ (by decide) (key _ _ _ _ _ (by decide) (s0 _ _ _ _ (key _ _ _ _ _ (by decide) (key _ _ _ _ _ (by decide) (key _ _ _ _ _ (by decide) (key _ _ _ _ _ (by decide) h.c4)))))))
  · exact key _ _ _ _ _ (by decide) (key _ _ _ _ _ (by decide) (s0 _ _ _ _ (key _ _ _ _ _ (by decide) (key _ _ _ _ _ (by decide) (key _ _ _ _ _ (by decide) (key _ _ _ _ _ (by decide) (key _ _ _ _ _ (by decide) h.c5)))))))
  · exact key _ _ _ _ _ (by decide) (s0 _ _ _ _ (key _ _ _ _ _ (by decide) (key _ _ _ _ _ (by decide) (key _ _ _ _ _ (by decide) (key _ _ _ _ _ (by decide) (key _ _ _ _ _ (by decide) (key _ _ _ _ _ (by decide) h.c6)))))))
  · exact s0 _ _ _ _ (key _ _ _ _ _ (by decide) (key _ _ _ _ _ (by decide) (key _ _ _ _ _ (by decide) (key _ _ _ _ _ (by decide) (key _ _ _ _ _ (by decide) (key _ _ _ _ _ (by decide) (key _ _ _ _ _ (by decide) h.c7)))))))
  · simp only [World.frozen?_setCell]; exact h.f0
  · simp only [World.frozen?_setCell]; exact h.f1
  · simp only [World.frozen?_setCell]; exact h.f2
  · simp only [World.frozen?_setCell]; exact h.f3
  · simp only [World.frozen?_setCell]; exact h.f4
  · simp only [World.frozen?_setCell]; exact h.f5
  · simp only [World.frozen?_setCell]; exact h.f6
  · simp only [World.frozen?_setCell]; exact h.f7
  · simp [World.setCell]; exact h.lt

theorem but_set8 {S : Nat → Prop} {w : World} {b : Nat} (hS : S b) (u0 u1 u2 u3 u4 u5 u6 u7 : Value) : But S w (set8 w b u0 u1 u2 u3 u4 u5 u6 u7) := by
  unfold set8
  exact (((((((((But.refl S w).setCell (p := ⟨b, 0, none⟩) (fun _ => hS) _).setCell (p := ⟨b, 1, none⟩) (fun _ => hS) _).setCell (p := ⟨b, 2, none⟩) (fun _ => hS) _).setCell (p := ⟨b, 3, none⟩) (fun _ => hS) _).setCell (p := ⟨b, 4, none⟩) (fun _ => hS) _).setCell (p := ⟨b, 5, none⟩) (fun _ => hS) _).setCell (p := ⟨b, 6, none⟩) (fun _ => hS) _).setCell (p := ⟨b, 7, none⟩) (fun _ => hS) _)

/-- The block's box, the term's, the row so far, the result's box. -/
structure RdM (w wr : World) (B : Nat) (k Nn : Int) (fl g : Nat) (ds : List Tr) (av : Option Addr) (cv q m cc : Nat) (y : Int) : Prop where
  oc : ∃ (A : Option Addr) (n n' : Nat) (k' N' : Int) (f' : Nat), Oct wr B (.slice A n n') (.int .i64 k') (.int .i64 N') (.float .f64 f') (.string ⟨#[]⟩) (.slice none 0 0) (.slice (some ⟨g, q, none⟩) m cc) (.int .u64 y)
  bx : Box wr (B + 1) (.int .i64 k) (.int .i64 Nn) (.float .f64 fl) (.string ⟨#[]⟩) (.slice av ds.length cv)
  rows : Rows wr (B + 2) (.slice av ds.length cv) ds
  rb : Box wr w.heap.size (.int .i64 0) (.int .i64 0) (.float .f64 0) (.string ⟨#[]⟩) (.slice none 0 0)
  be : Below w.heap.size w wr
  sz : B + 2 ≤ wr.heap.size
  wb : w.heap.size < B

section
variable {w wr : World} {B : Nat} {k Nn : Int} {fl g : Nat} {ds : List Tr} {av : Option Addr} {cv q m cc : Nat} {y : Int}

theorem RdM.keep {w' : World} (h : RdM w wr B k Nn fl g ds av cv q m cc y) (hb : Below wr.heap.size wr w') : RdM w w' B k Nn fl g ds av cv q m cc y := by
  obtain ⟨A, n, n', k', N', f', ho⟩ := h.oc
  exact ⟨⟨A, n, n', k', N', f', ho.keep hb⟩, h.bx.keep hb, h.rows.keep hb, h.rb.keep hb, h.be.trans (hb.mono h.be.size), Nat.le_trans h.sz hb.size, h.wb⟩

theorem RdM.own (h : RdM w wr B k Nn fl g ds av cv q m cc y) : wr.ownsRow (B + 2) 44 5 (.slice av ds.length cv) ds.length (ds.flatMap Tr.cells) := h.rows.1

/-- Behind a Grow and a store of what it told. -/
theorem RdM.grow {w2 : World} {av' : Option Addr} {cv' : Nat} (h : RdM w wr B k Nn fl g ds av cv q m cc y) (hb : Below wr.heap.size wr w2) (ho : w2.ownsRow (B + 2) 44 5 (.slice av' ds.length cv') ds.length (ds.flatMap Tr.cells))
    (hv : (Value.slice av' ds.length cv').ownBlock = (Value.slice av ds.length cv).ownBlock ∨ (Value.slice av' ds.length cv').ownBlock = some wr.heap.size) : RdM w (w2.setCell ⟨B + 1, 4, none⟩ (.slice av' ds.length cv')) B k Nn fl g ds av' cv' q m cc y := by
  have h2 := h.keep hb
  obtain ⟨A, n, n', k', N', f', ho2⟩ := h2.oc
  have hwb := h.wb
  exact ⟨⟨A, n, n', k', N', f', ho2.other1 (by omega) _⟩, h2.bx.set4 _, (h.rows.grow ho hv hb).set (by show B + 1 < B + 2; omega) _, h2.rb.other1 (by omega) _, h2.be.setCell (by show w.heap.size ≤ B + 1; omega) _, by have := h2.sz; simpa [World.setCell] using this, hwb⟩

/-- Behind an append and a store of what it told. -/
theorem RdM.app {X w3 : World} {t : Tr} {g' cap : Nat} (h : RdM w wr B k Nn fl g ds av cv q m cc y) (hX : Below wr.heap.size wr X) (ht : t.In X (B + 2)) (hn : t.On (fun b => (Value.slice av ds.length cv).ownBlock ≠ some b ∧ b < X.heap.size ∧ B + 2 ≤ b))
    (ho : w3.ownsRow (B + 2) 44 5 (.slice (some ⟨g', 0, none⟩) (ds.length + 1) cap) (ds.length + 1) (ds.flatMap Tr.cells ++ t.cells)) (hg : X.grownBy w3 (Value.slice av ds.length cv).ownBlock) (hat : (Value.slice av ds.length cv).ownBlock = some g' ∨ g' = X.heap.size) :
    RdM w (w3.setCell ⟨B + 1, 4, none⟩ (.slice (some ⟨g', 0, none⟩) (ds.length + 1) cap)) B k Nn fl g (ds ++ [t]) (some ⟨g', 0, none⟩) cap q m cc y := by
  have h2 := h.keep hX
  obtain ⟨A, n, n', k', N', f', ho2⟩ := h2.oc
  have hwb := h.wb
  have hlt := ownsRow_lt h2.rows.1
  have hB := grown_but hg
  have hrow := Rows.append h2.rows ho hg (hat.imp (fun e => by rw [e]; rfl) (fun e => by rw [e]; rfl)) ht hn
  have hlen : (ds ++ [t]).length = ds.length + 1 := by simp
  have hbx := (h2.bx.but hB (fun e => by have := (hlt _ e).1; omega)).set4 (.slice (some ⟨g', 0, none⟩) (ds.length + 1) cap)
  rw [← hlen] at hbx hrow ⊢
  refine ⟨⟨A, n, n', k', N', f', (ho2.but hB (fun e => by have := (hlt _ e).1; omega)).other1 (by omega) _⟩, hbx, hrow.set (by show B + 1 < B + 2; omega) _, (h2.rb.but hB (fun e => by have := (hlt _ e).1; omega)).other1 (by omega) _, ?_, ?_, hwb⟩
  · exact (h2.be.trans (hB.below h2.be.size (fun k e => by have := (hlt _ e).1; omega))).setCell (by show w.heap.size ≤ B + 1; omega) _
  · have := h2.sz
    have := hg.size
    simp [World.setCell]
    omega

theorem RdM.box_app {X w3 : World} (h : RdM w wr B k Nn fl g ds av cv q m cc y) (hX : Below wr.heap.size wr X) (hg : X.grownBy w3 (Value.slice av ds.length cv).ownBlock) : Box w3 (B + 1) (.int .i64 k) (.int .i64 Nn) (.float .f64 fl) (.string ⟨#[]⟩) (.slice av ds.length cv) := by
  have h2 := h.keep hX
  exact h2.bx.but (grown_but hg) (fun e => by have := (ownsRow_lt h2.rows.1 _ e).1; omega)

theorem app_cells (w : World) (k n : Int) (f : Nat) (s : ByteArray) (a : Option Addr) (c : Nat) (ks : List Tr) : ∀ j u, (Tr.cells (.mk k n f s a c ks))[j]? = some u → (w.alloc (.cells #[.int .i64 k, .int .i64 n, .float .f64 f, .string s, .slice a ks.length c] 44)).cell? ((⟨w.heap.size, 0, none⟩ : Addr).add j) = some u := by
  intro j y hj
  match j, hj with
  | 0, hj => simp [Tr.cells] at hj; subst hj; simp [Addr.add]
  | 1, hj => simp [Tr.cells] at hj; subst hj; simp [Addr.add]
  | 2, hj => simp [Tr.cells] at hj; subst hj; simp [Addr.add]
  | 3, hj => simp [Tr.cells] at hj; subst hj; simp [Addr.add]
  | 4, hj => simp [Tr.cells] at hj; subst hj; simp [Addr.add]
  | j + 5, hj => simp [Tr.cells] at hj

/-- Behind another block that is taken up. -/
theorem RdM.next {w2 : World} (h : RdM w wr B k Nn fl g ds av cv q m cc y) (hb : Below wr.heap.size wr w2) (p : Nat) (y' : Int) : RdM w (set8 w2 B (.slice (some ⟨g, p, none⟩) 2 2) (.int .i64 8) (.int .i64 0) (.float .f64 0) (.string ⟨#[]⟩) (.slice none 0 0) (.slice (some ⟨g, p, none⟩) 1 2) (.int .u64 y')) B k Nn fl g ds av cv p 1 2 y' := by
  have h2 := h.keep hb
  obtain ⟨A, n, n', k', N', f', ho2⟩ := h2.oc
  have hwb := h.wb
  have hB := but_set8 (S := (· = B)) (w := w2) rfl (.slice (some ⟨g, p, none⟩) 2 2) (.int .i64 8) (.int .i64 0) (.float .f64 0) (.string ⟨#[]⟩) (.slice none 0 0) (.slice (some ⟨g, p, none⟩) 1 2) (.int .u64 y')
  refine ⟨⟨some ⟨g, p, none⟩, 2, 2, 8, 0, 0, cell_set8 _ _ _ _ _ _ _ _ ho2⟩, h2.bx.but hB (fun e => by have e' : B + 1 = B := e; omega), ?_, h2.rb.but hB (fun e => by have e' : w.heap.size = B := e; omega), h2.be.trans (hB.below h2.be.size (fun k e => by have e' : k = B := e; omega)), Nat.le_trans h2.sz hB.size, hwb⟩
  exact h2.rows.low hB.size (fun b h1 h2' => hB.block b h2' (fun e => by have e' : b = B := e; omega))
end
end Go.Proofs.YtmijabhnbmmmfaaGreat


