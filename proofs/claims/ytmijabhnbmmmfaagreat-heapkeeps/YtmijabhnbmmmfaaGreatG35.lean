import Derived.Test.YtmijabhnbmmmfaaGreatG34
import Derived.Deep.LoopGhost
import Derived.Deep.RegionLaw
/- What lies in memory while a block is read. -/
namespace Go.Proofs.YtmijabhnbmmmfaaGreat
open Go.RowKit Go.Deep

theorem grown_but {X w' : World} {row : Option Nat} (h : X.grownBy w' row) : But (fun k => row = some k) X w' := ⟨h.os, h.tape, h.output, h.size, fun k hk hs => h.block k hk (fun e => hs e.symm)⟩

theorem Box.set4 {w : World} {b : Nat} {v0 v1 v2 v3 v4 : Value} (h : Box w b v0 v1 v2 v3 v4) (u : Value) : Box (w.setCell ⟨b, 4, none⟩ u) b v0 v1 v2 v3 u :=
  ⟨by rw [World.cell?_setCell_other _ _ _ _ (ne_off3 _ _ _ (by decide))]; exact h.c0, by rw [World.cell?_setCell_other _ _ _ _ (ne_off3 _ _ _ (by decide))]; exact h.c1, by rw [World.cell?_setCell_other _ _ _ _ (ne_off3 _ _ _ (by decide))]; exact h.c2, by rw [World.cell?_setCell_other _ _ _ _ (ne_off3 _ _ _ (by decide))]; exact h.c3, World.cell?_setCell_same _ _ _ h.c4, by rw [World.frozen?_setCell]; exact h.f0, by rw [World.frozen?_setCell]; exact h.f1, by rw [World.frozen?_setCell]; exact h.f2, by rw [World.frozen?_setCell]; exact h.f3, by rw [World.frozen?_setCell]; exact h.f4, by simp [World.setCell]; exact h.lt⟩

theorem Oct.but {S : Nat → Prop} {w w' : World} {b : Nat} {v0 v1 v2 v3 v4 v5 v6 v7 : Value} (h : Oct w b v0 v1 v2 v3 v4 v5 v6 v7) (hb : But S w w') (hs : ¬ S b) : Oct w' b v0 v1 v2 v3 v4 v5 v6 v7 := h.at (hb.block b h.lt hs) hb.size

theorem Oct.other1 {w : World} {b c i : Nat} {v0 v1 v2 v3 v4 v5 v6 v7 : Value} (h : Oct w b v0 v1 v2 v3 v4 v5 v6 v7) (hne : c ≠ b) (u : Value) : Oct (w.setCell ⟨c, i, none⟩ u) b v0 v1 v2 v3 v4 v5 v6 v7 :=
  h.at (Below.heap_setCell w ⟨c, i, none⟩ u b (fun e => hne e.symm)) (by simp [World.setCell])

theorem cell_set8 {w : World} {b : Nat} (u0 u1 u2 u3 u4 u5 u6 u7 : Value) {v0 v1 v2 v3 v4 v5 v6 v7 : Value} (h : Oct w b v0 v1 v2 v3 v4 v5 v6 v7) : Oct (set8 w b u0 u1 u2 u3 u4 u5 u6 u7) b u0 u1 u2 u3 u4 u5 u6 u7 := by
  have key : ∀ (i : Nat) (W : World) (v u : Value) (j : Nat), i ≠ j → W.cell? ⟨b, j, none⟩ = some v → (W.setCell ⟨b, i, none⟩ u).cell? ⟨b, j, none⟩ = some v := fun i W v u j hij hv => by
    rw [World.cell?_setCell_other _ _ _ _ (ne_off3 _ _ _ hij)]; exact hv
  unfold set8
  have s0 : ∀ (W : World) (v u : Value) (j : Nat), W.cell? ⟨b, j, none⟩ = some v → (W.setCell ⟨b, j, none⟩ u).cell? ⟨b, j, none⟩ = some u := fun W v u j hv => World.cell?_setCell_same _ _ _ hv
  refine ⟨?_, ?_, ?_, ?_, ?_, ?_, ?_, ?_, ?_, ?_, ?_, ?_, ?_, ?_, ?_, ?_, ?_⟩
  · exact key _ _ _ _ _ (by decide) (key _ _ _ _ _ (by decide) (key _ _ _ _ _ (by decide) (key _ _ _ _ _ (by decide) (key _ _ _ _ _ (by decide) (key _ _ _ _ _ (by decide) (key _ _ _ _ _ (by decide) (s0 _ _ _ _ h.c0)))))))
  · exact key _ _ _ _ _ (by decide) (key _ _ _ _ _ (by decide) (key _ _ _ _ _ (by decide) (key _ _ _ _ _ (by decide) (key _ _ _ _ _ (by decide) (key _ _ _ _ _ (by decide) (s0 _ _ _ _ (key _ _ _ _ _ (by decide) h.c1)))))))
  · exact key _ _ _ _ _ (by decide) (key _ _ _ _ _ (by decide) (key _ _ _ _ _ (by decide) (key _ _ _ _ _ (by decide) (key _ _ _ _ _ (by decide) (s0 _ _ _ _ (key _ _ _ _ _ (by decide) (key _ _ _ _ _ (by decide) h.c2)))))))
  · exact key _ _ _ _ _ (by decide) (key _ _ _ _ _ (by decide) (key _ _ _ _ _ (by decide) (key _ _ _ _ _ (by decide) (s0 _ _ _ _ (key _ _ _ _ _ (by decide) (key _ _ _ _ _ (by decide) (key _ _ _ _ _ (by decide) h.c3)))))))
  · exact key _ _ _ _ _ (by decide) (key _ _ _ _ _ (by decide) (key _ _ _ _ _ (by decide) (s0 _ _ _ _ (key _ _ _ _ _ (by decide) (key _ _ _ _ _ (by decide) (key _ _ _ _ _ (by decide) (key _ _ _ _ _ (by decide) h.c4)))))))
  · exact key _ _ _ _ _ (by decide) (key _ _ _ _ _ (by decide) (s0 _ _ _ _ (key _ _ _ _ _ (by decide) (key _ _ _ _ _ (by decide) (key _ _ _ _ _ (by decide) (key _ _ _ _ _ (by decide) (key _ _ _ _ _ (by decide) h.c5)))))))
  · exact key _ _ _ _ _ (by decide) (s0 _ _ _ _ (key _ _ _ _ _ (by decide) (key _ _ _ _ _ (by decide) (key _ _ _ _ _ (by decide) (key _ _ _ _ _ (by decide) (key _ _ _ _ _ (by decide) (key _ _ _ _ _ (by decide) h.c6)))))))
  · exact s0 _ _ _ _ (key _ _ _ _ _ (by decide) (key _ _ _ _ _ (by decide) (key _ _ _ _ _ (by decide) (key _ _ _ _ _ (by decide) (key _ _ _ _ _ (by decide) (key _ _ _ _ _ (by decide) (key _ _ _ _ _ (by decide) h.c7)))))))
  · simp only [World.frozen?_setCell]; exact h.f0
  · simp only [World.frozen?_setCell]; exact h.f1
  · simp only [World.frozen?_setCell]; exact h.f2
  · simp only [World.frozen?_setCell]; exact h.f3
  · simp only [World.frozen?_setCell]; exact h.f4
  · simp only [World.frozen?_setCell]; exact h.f5
  · simp only [World.frozen?_setCell]; exact h.f6
  · simp only [World.frozen?_setCell]; exact h.f7
  · simp [World.setCell]; exact h.lt

theorem but_set8 {S : Nat → Prop} {w : World} {b : Nat} (hS : S b) (u0 u1 u2 u3 u4 u5 u6 u7 : Value) : But S w (set8 w b u0 u1 u2 u3 u4 u5 u6 u7) := by
  unfold set8
  exact (((((((((But.refl S w).setCell (p := ⟨b, 0, none⟩) (fun _ => hS) _).setCell (p := ⟨b, 1, none⟩) (fun _ => hS) _).setCell (p := ⟨b, 2, none⟩) (fun _ => hS) _).setCell (p := ⟨b, 3, none⟩) (fun _ => hS) _).setCell (p := ⟨b, 4, none⟩) (fun _ => hS) _).setCell (p := ⟨b, 5, none⟩) (fun _ => hS) _).setCell (p := ⟨b, 6, none⟩) (fun _ => hS) _).setCell (p := ⟨b, 7, none⟩) (fun _ => hS) _)

/-- The block's box, the term's, the row so far, the result's box. -/
structure RdM (w wr : World) (B : Nat) (k Nn : Int) (fl g : Nat) (ds : List Tr) (av : Option Addr) (cv q m cc : Nat) (y : Int) : Prop where
  oc : ∃ (A : Option Addr) (n n' : Nat) (k' N' : Int) (f' : Nat), Oct wr B (.slice A n n') (.int .i64 k') (.int .i64 N') (.float .f64 f') (.string ⟨#[]⟩) (.slice none 0 0) (.slice (some ⟨g, q, none⟩) m cc) (.int .u64 y)
  bx : Box wr (B + 1) (.int .i64 k) (.int .i64 Nn) (.float .f64 fl) (.string ⟨#[]⟩) (.slice av ds.length cv)
  rows : Rows wr (B + 2) (.slice av ds.length cv) ds
  rb : Box wr w.heap.size (.int .i64 0) (.int .i64 0) (.float .f64 0) (.string ⟨#[]⟩) (.slice none 0 0)
  be : Below w.heap.size w wr
  sz : B + 2 ≤ wr.heap.size
  wb : w.heap.size < B

section
variable {w wr : World} {B : Nat} {k Nn : Int} {fl g : Nat} {ds : List Tr} {av : Option Addr} {cv q m cc : Nat} {y : Int}

theorem RdM.keep {w' : World} (h : RdM w wr B k Nn fl g ds av cv q m cc y) (hb : Below wr.heap.size wr w') : RdM w w' B k Nn fl g ds av cv q m cc y := by
  obtain ⟨A, n, n', k', N', f', ho⟩ := h.oc
  exact ⟨⟨A, n, n', k', N', f', ho.keep hb⟩, h.bx.keep hb, h.rows.keep hb, h.rb.keep hb, h.be.trans (hb.mono h.be.size), Nat.le_trans h.sz hb.size, h.wb⟩

theorem RdM.own (h : RdM w wr B k Nn fl g ds av cv q m cc y) : wr.ownsRow (B + 2) 44 5 (.slice av ds.length cv) ds.length (ds.flatMap Tr.cells) := h.rows.1

/-- Behind a Grow and a store of what it told. -/
theorem RdM.grow {w2 : World} {av' : Option Addr} {cv' : Nat} (h : RdM w wr B k Nn fl g ds av cv q m cc y) (hb : Below wr.heap.size wr w2) (ho : w2.ownsRow (B + 2) 44 5 (.slice av' ds.length cv') ds.length (ds.flatMap Tr.cells))
    (hv : (Value.slice av' ds.length cv').ownBlock = (Value.slice av ds.length cv).ownBlock ∨ (Value.slice av' ds.length cv').ownBlock = some wr.heap.size) : RdM w (w2.setCell ⟨B + 1, 4, none⟩ (.slice av' ds.length cv')) B k Nn fl g ds av' cv' q m cc y := by
  have h2 := h.keep hb
  obtain ⟨A, n, n', k', N', f', ho2⟩ := h2.oc
  have hwb := h.wb
  exact ⟨⟨A, n, n', k', N', f', ho2.other1 (by omega) _⟩, h2.bx.set4 _, (h.rows.grow ho hv hb).set (by show B + 1 < B + 2; omega) _, h2.rb.other1 (by omega) _, h2.be.setCell (by show w.heap.size ≤ B + 1; omega) _, by have := h2.sz; simpa [World.setCell] using this, hwb⟩

/-- Behind an append and a store of what it told. -/
theorem RdM.app {X w3 : World} {t : Tr} {g' cap : Nat} (h : RdM w wr B k Nn fl g ds av cv q m cc y) (hX : Below wr.heap.size wr X) (ht : t.In X (B + 2)) (hn : t.On (fun b => (Value.slice av ds.length cv).ownBlock ≠ some b ∧ b < X.heap.size ∧ B + 2 ≤ b))
    (ho : w3.ownsRow (B + 2) 44 5 (.slice (some ⟨g', 0, none⟩) (ds.length + 1) cap) (ds.length + 1) (ds.flatMap Tr.cells ++ t.cells)) (hg : X.grownBy w3 (Value.slice av ds.length cv).ownBlock) (hat : (Value.slice av ds.length cv).ownBlock = some g' ∨ g' = X.heap.size) :
    RdM w (w3.setCell ⟨B + 1, 4, none⟩ (.slice (some ⟨g', 0, none⟩) (ds.length + 1) cap)) B k Nn fl g (ds ++ [t]) (some ⟨g', 0, none⟩) cap q m cc y := by
  have h2 := h.keep hX
  obtain ⟨A, n, n', k', N', f', ho2⟩ := h2.oc
  have hwb := h.wb
  have hlt := ownsRow_lt h2.rows.1
  have hB := grown_but hg
  have hrow := Rows.append h2.rows ho hg (hat.imp (fun e => by rw [e]; rfl) (fun e => by rw [e]; rfl)) ht hn
  have hlen : (ds ++ [t]).length = ds.length + 1 := by simp
  have hbx := (h2.bx.but hB (fun e => by have := (hlt _ e).1; omega)).set4 (.slice (some ⟨g', 0, none⟩) (ds.length + 1) cap)
  rw [← hlen] at hbx hrow ⊢
  refine ⟨⟨A, n, n', k', N', f', (ho2.but hB (fun e => by have := (hlt _ e).1; omega)).other1 (by omega) _⟩, hbx, hrow.set (by show B + 1 < B + 2; omega) _, (h2.rb.but hB (fun e => by have := (hlt _ e).1; omega)).other1 (by omega) _, ?_, ?_, hwb⟩
  · exact (h2.be.trans (hB.below h2.be.size (fun k e => by have := (hlt _ e).1; omega))).setCell (by show w.heap.size ≤ B + 1; omega) _
  · have := h2.sz
    have := hg.size
    simp [World.setCell]
    omega

theorem RdM.box_app {X w3 : World} (h : RdM w wr B k Nn fl g ds av cv q m cc y) (hX : Below wr.heap.size wr X) (hg : X.grownBy w3 (Value.slice av ds.length cv).ownBlock) : Box w3 (B + 1) (.int .i64 k) (.int .i64 Nn) (.float .f64 fl) (.string ⟨#[]⟩) (.slice av ds.length cv) := by
  have h2 := h.keep hX
  exact h2.bx.but (grown_but hg) (fun e => by have := (ownsRow_lt h2.rows.1 _ e).1; omega)

theorem app_cells (w : World) (k n : Int) (f : Nat) (s : ByteArray) (a : Option Addr) (c : Nat) (ks : List Tr) : ∀ j u, (Tr.cells (.mk k n f s a c ks))[j]? = some u → (w.alloc (.cells #[.int .i64 k, .int .i64 n, .float .f64 f, .string s, .slice a ks.length c] 44)).cell? ((⟨w.heap.size, 0, none⟩ : Addr).add j) = some u := by
  intro j y hj
  match j, hj with
  | 0, hj => simp [Tr.cells] at hj; subst hj; simp [Addr.add]
  | 1, hj => simp [Tr.cells] at hj; subst hj; simp [Addr.add]
  | 2, hj => simp [Tr.cells] at hj; subst hj; simp [Addr.add]
  | 3, hj => simp [Tr.cells] at hj; subst hj; simp [Addr.add]
  | 4, hj => simp [Tr.cells] at hj; subst hj; simp [Addr.add]
  | j + 5, hj => simp [Tr.cells] at hj

/-- Behind another block that is taken up. -/
theorem RdM.next {w2 : World} (h : RdM w wr B k Nn fl g ds av cv q m cc y) (hb : Below wr.heap.size wr w2) (p : Nat) (y' : Int) : RdM w (set8 w2 B (.slice (some ⟨g, p, none⟩) 2 2) (.int .i64 8) (.int .i64 0) (.float .f64 0) (.string ⟨#[]⟩) (.slice none 0 0) (.slice (some ⟨g, p, none⟩) 1 2) (.int .u64 y')) B k Nn fl g ds av cv p 1 2 y' := by
  have h2 := h.keep hb
  obtain ⟨A, n, n', k', N', f', ho2⟩ := h2.oc
  have hwb := h.wb
  have hB := but_set8 (S := (· = B)) (w := w2) rfl (.slice (some ⟨g, p, none⟩) 2 2) (.int .i64 8) (.int .i64 0) (.float .f64 0) (.string ⟨#[]⟩) (.slice none 0 0) (.slice (some ⟨g, p, none⟩) 1 2) (.int .u64 y')
  refine ⟨⟨some ⟨g, p, none⟩, 2, 2, 8, 0, 0, cell_set8 _ _ _ _ _ _ _ _ ho2⟩, h2.bx.but hB (fun e => by have e' : B + 1 = B := e; omega), ?_, h2.rb.but hB (fun e => by have e' : w.heap.size = B := e; omega), h2.be.trans (hB.below h2.be.size (fun k e => by have e' : k = B := e; omega)), Nat.le_trans h2.sz hB.size, hwb⟩
  exact h2.rows.low hB.size (fun b h1 h2' => hB.block b h2' (fun e => by have e' : b = B := e; omega))
end
end Go.Proofs.YtmijabhnbmmmfaaGreat


/- read of a word that points. -/
namespace Go.Proofs.YtmijabhnbmmmfaaGreat
open Go.RowKit Go.Deep
attribute [local go_sem] store_float f64bits f64frombits
attribute [local go_sem ↓] Go.wp_at_zero Go.wp_at_succ

/-- What is read, and what is still to be read. -/
structure RdP (hb ab most : Nat) (ws : List Int) (L : List ByteArray) (F : List Nat) (a : Option Addr) (c : Nat) (full pre : List Tr) (es : List (Tr × Int)) (r ds : List Tr) (q : Nat) (y : Int) : Prop where
  tot : pre ++ (es.map (·.1) ++ r) = full
  sa : SameAll pre ds
  el : ∀ (j : Nat) (x : Tr × Int), es[j]? = some x → ws[q + j]? = some x.2 ∧ RdOk hb ab most ws L F a c x.1 x.2
  rl : RepL ws L r y
  re : ∀ t, t ∈ r → ∀ u, Rep ws L t u → RdOk hb ab most ws L F a c t u

theorem own_form {w : World} {base : Nat} {v : Value} {n : Nat} {xs : List Value} (h : w.ownsRow base 44 5 v n xs) : ∃ av cv, v = .slice av n cv := by
  rcases h.2 with ⟨rfl, h0⟩ | ⟨g, cap, cur, rfl, _⟩
  · exact ⟨none, 0, by rw [h0]⟩
  · exact ⟨_, _, rfl⟩

theorem repl_tag {ws : List Int} {L : List ByteArray} {r : List Tr} {y : Int} (h : RepL ws L r y) : (tagI y = 4 ∨ tagI y = 6) ∧ 0 ≤ y ∧ y ≤ 18446744073709551615 ∧ ptB y = !r.isEmpty := by
  cases r with
  | nil => unfold RepL at h; subst h; have := nil_made; exact ⟨Or.inl this.1, this.2.2.1, this.2.2.2.1, by unfold ptB; rw [this.1]; rfl⟩
  | cons t2 r2 =>
    unfold RepL at h
    obtain ⟨p2, rfl, hp2, _⟩ := h
    have := cons_made hp2
    exact ⟨Or.inr this.1, this.2.2.1, this.2.2.2.1, by unfold ptB; rw [this.1]; rfl⟩

set_option maxHeartbeats 3000000 in
set_option maxRecDepth 100000 in
theorem read_point {hb ab most : Nat} {ws : List Int} {L : List ByteArray} {F : List Nat} {a : Option Addr} {c g : Nat} {u y : Int} {n cc fl q : Nat} {A : Addr} {k Nn : Int} {a0 : Option Addr} {c0 : Nat} (es : List (Tr × Int)) (r : List Tr) (ha : a = some ⟨g, 0, none⟩) (h0 : 0 ≤ u) (h1 : u ≤ 18446744073709551615) (ht : tagI u = 5 ∨ tagI u = 6)
    (BLK : ∀ w, HP w hb ab most ws L F a c → Calls Tryz.prog 53 #[.pointer (some ⟨hb, 0, none⟩), .int .u64 u] w fun e w' => e = .returned (.tuple #[.agg #[.slice (some A) n n, .int .i64 k, .int .i64 Nn, .float .f64 fl, .string ⟨#[]⟩, .slice none 0 0, .slice (some ⟨g, q, none⟩) es.length cc, .int .u64 y], .bool true]) ∧ Below w.heap.size w w')
    (hel : ∀ (j : Nat) (x : Tr × Int), es[j]? = some x → ws[q + j]? = some x.2 ∧ RdOk hb ab most ws L F a c x.1 x.2)
    (hrl : RepL ws L r y) (hre : ∀ t, t ∈ r → ∀ u, Rep ws L t u → RdOk hb ab most ws L F a c t u) (hlen : es.length + r.length ≤ 65536)
    (hk : (Lit.int .i64 k).wf = true) (hn : (Lit.int .i64 Nn).wf = true) (hf : (Lit.float .f64 fl).wf = true) : RdOk hb ab most ws L F a c (.mk k Nn fl ⟨#[]⟩ a0 c0 (es.map (·.1) ++ r)) u := by
  intro w hp
  have BK := hidb (fun w' (hb' : Below w.heap.size w w') => BLK w' (hp.keep hb'))
  have PT := hidb (points_any u h0 h1)
  have e : ptB u = true := by unfold ptB; rcases ht with h | h <;> rw [h] <;> rfl
  rw [e] at PT
  have HPP := hidb hp
  have HP0 := hidb (show RdP hb ab most ws L F a c (es.map (·.1) ++ r) [] es r [] q y from ⟨rfl, by unfold SameAll; trivial, hel, hrl, hre⟩)
  have HK := hidb hk
  have HN := hidb hn
  have HF := hidb hf
  have HA := hidb ha
  have HLEN := hidb (show (es.map (·.1) ++ r).length ≤ 65536 by simpa using hlen)
  generalize hfull : es.map (·.1) ++ r = full at *
  clear hp e BLK hel hrl hre hk hn hf hlen ht hfull ha
  go_enter Tryz.func38, Tryz.ntmps38
  go_wp2_with (go_at_call 51; refine (PT.out _).mono ?_; rintro e w' ⟨rfl, hw'⟩; obtain rfl := hw'.symm)
  refine (BK.out _ (below_new _ _)).mono ?_
  rintro e w1 ⟨rfl, hb1⟩
  have HB := hidb (below_in hb1)
  have hwlt : w.heap.size < w1.heap.size := by have := hb1.size; simp at this; omega
  have RB := (Box.new w 44 (.int .i64 0) (.int .i64 0) (.float .f64 0) (.string ⟨#[]⟩) (.slice none 0 0)).keep hb1
  have o1 := Oct.new w1 129 (.slice (some A) n n) (.int .i64 k) (.int .i64 Nn) (.float .f64 fl) (.string ⟨#[]⟩) (.slice none 0 0) (.slice (some ⟨g, q, none⟩) es.length cc) (.int .u64 y)
  have e1 : (w1.alloc (.cells #[.slice (some A) n n, .int .i64 k, .int .i64 Nn, .float .f64 fl, .string ⟨#[]⟩, .slice none 0 0, .slice (some ⟨g, q, none⟩) es.length cc, .int .u64 y] 129)).heap.size = w1.heap.size + 1 := by simp
  have x1 := Box.new (w1.alloc (.cells #[.slice (some A) n n, .int .i64 k, .int .i64 Nn, .float .f64 fl, .string ⟨#[]⟩, .slice none 0 0, .slice (some ⟨g, q, none⟩) es.length cc, .int .u64 y] 129)) 44 (.int .i64 k) (.int .i64 Nn) (.float .f64 fl) (.string ⟨#[]⟩) (.slice none 0 0)
  rw [e1] at x1
  have HM0 : Hid (RdM w ((w1.alloc (.cells #[.slice (some A) n n, .int .i64 k, .int .i64 Nn, .float .f64 fl, .string ⟨#[]⟩, .slice none 0 0, .slice (some ⟨g, q, none⟩) es.length cc, .int .u64 y] 129)).alloc (.cells #[.int .i64 k, .int .i64 Nn, .float .f64 fl, .string ⟨#[]⟩, .slice none 0 0] 44)) w1.heap.size k Nn fl g [] none 0 q es.length cc y) :=
    hidb ⟨⟨_, _, _, _, _, _, o1.keep (below_new _ _)⟩, x1, rows_nil _ _, (RB.keep (below_new _ _)).keep (below_new _ _), (HB.out.alloc HB.out.size _).alloc (by rw [e1]; have := HB.out.size; omega) _, by simp, hwlt⟩
  generalize hB : w1.heap.size = B at HM0
  clear hb1 BK PT RB o1 x1 e1 HB hwlt
  go_wp2_with fail
  clear hB
  go_loopg [] r.length (fun gk wr => ∃ (pre : List Tr) (es : List (Tr × Int)) (r ds : List Tr) (av : Option Addr) (cv q cc : Nat) (y : Int), r.length = gk ∧ RdP hb ab most ws L F a c full pre es r ds q y ∧ RdM w wr B k Nn fl g ds av cv q es.length cc y)
  case atStart => exact ⟨[], es, r, [], none, 0, q, cc, y, rfl, HP0.out, HM0.out⟩
  case round =>
    clear HP0 HM0
    obtain ⟨pre, es, r, ds, av, cv, q, cc, y, hgk, hP, hM⟩ := hrel
    have HGK := hidb hgk
    have HPR := hidb hP
    have HMR := hidb hM
    have hll : pre.length + (es.length + r.length) ≤ 65536 := by
      have := HLEN.out
      rw [← hP.tot] at this
      simpa using this
    have hdl : pre.length = ds.length := sameAll_len _ _ hP.sa
    have HLL := hidb hll
    have HDL := hidb hdl
    have GR := hidb (grow_terms (B + 2) (.slice av ds.length cv) ds.length es.length _ wr hM.own (by omega) (by omega) hM.sz)
    obtain ⟨A', n', n'', k', N', f', ho⟩ := hM.oc
    obtain ⟨o0, o1, o2, o3, o4, o5, o6, o7, s0, s1, s2, s3, s4, s5, s6, s7, -⟩ := ho
    obtain ⟨d0, d1, d2, d3, d4, g0, g1, g2, g3, g4, -⟩ := hM.bx
    have hbb : ¬ B = B + 1 := by omega
    have hbb2 : ¬ B + 1 = B := by omega
    clear hP hM hgk hll hdl
    go_wp2_with fail
    refine GR.out.mono ?_
    rintro e w2 ⟨v', rfl, ho2, hv2, hb2⟩
    obtain ⟨av2, cv2, rfl⟩ := own_form ho2
    have HM2 := hidb (HMR.out.grow hb2 ho2 hv2)
    clear o0 o1 o2 o3 o4 o5 o6 o7 s0 s1 s2 s3 s4 s5 s6 s7 d0 d1 d2 d3 d4 g0 g1 g2 g3 g4 GR ho2 hv2 A' n' n'' k' N' f'
    obtain ⟨A', n', n'', k', N', f', ho⟩ := (HMR.out.keep hb2).oc
    obtain ⟨o0, o1, o2, o3, o4, o5, o6, o7, s0, s1, s2, s3, s4, s5, s6, s7, -⟩ := ho
    obtain ⟨d0, d1, d2, d3, d4, g0, g1, g2, g3, g4, -⟩ := (HMR.out.keep hb2).bx
    go_wp2_with fail
    clear o0 o1 o2 o3 o4 o5 o6 o7 s0 s1 s2 s3 s4 s5 s6 s7 d0 d1 d2 d3 d4 g0 g1 g2 g3 g4 HMR hb2 A' n' n'' k' N' f'
    generalize w2.setCell ⟨B + 1, 4, none⟩ (.slice av2 ds.length cv2) = W2 at *
    go_loopw [40] (fun iv wr => ∃ (m : Nat) (ds2 : List Tr) (av : Option Addr) (cv : Nat), m ≤ es.length ∧ iv = .int .i64 m ∧ SameAll (pre ++ (es.take m).map (·.1)) ds2 ∧ RdM w wr B k Nn fl g ds2 av cv q es.length cc y) (fun iv _ => es.length - (intOf iv).toNat)
    case atStart => exact ⟨0, ds, av2, cv2, by omega, rfl, by simpa using HPR.out.sa, HM2.out⟩
    case round =>
      clear HM2
      obtain ⟨m, ds2, av3, cv3, hm, rfl, hsa, hM⟩ := hrel
      have HSA := hidb hsa
      have HM := hidb hM
      have hdl : ds2.length ≤ 65536 := by
        have e := sameAll_len _ _ hsa
        have := HLL.out
        simp only [List.length_append, List.length_map, List.length_take] at e
        omega
      have HPW := hidb (HPP.out.keep hM.be)
      clear hsa hM
      by_cases hml : m < es.length
      · have hmb : (m : Int) < (es.length : Int) := by omega
        have hmz : (0 : Int) ≤ (m : Int) := by omega
        obtain ⟨x, hx⟩ : ∃ x, es[m]? = some x := ⟨_, List.getElem?_eq_getElem hml⟩
        obtain ⟨hw, hrd⟩ := HPR.out.el m x hx
        obtain ⟨g', e', _, _, hcell⟩ := hp_cell HPW.out (q + m) x.2 hw
        rw [HA.out] at e'
        obtain rfl : g = g' := by simpa using e'
        have v0 := hcell wr (Below.refl _ _)
        have hbd : Below wr.heap.size wr wr.drew := (Below.refl _ _).drew
        have RDK := hidb (hrd wr.drew (HPW.out.keep hbd))
        have HMD := hidb (HM.out.keep hbd)
        have HNX : Hid (∀ t', Same x.1 t' → SameAll (pre ++ (es.take (m + 1)).map (·.1)) (ds2 ++ [t'])) := hidb (fun t' h => by
          rw [List.take_add_one, hx]
          simp only [Option.toList, List.map_append, List.map_cons, List.map_nil, ← List.append_assoc]
          exact sameAll_snoc h _ _ HSA.out)
        obtain ⟨d0, d1, d2, d3, d4, g0, g1, g2, g3, g4, -⟩ := HMD.out.bx
        have z1 : ds2.length + 1 ≤ maxLen := by unfold maxLen; omega
        have z2 : (ds2.length + 1) * 64 ≤ 140737488355328 := by omega
        have hm65 : m ≤ 65536 := by have := HLL.out; omega
        have HM1 := hidb (show m + 1 ≤ es.length ∧ es.length - (m + 1) < es.length - m by omega)
        clear hw hcell e' hbd hrd hx HSA
        generalize x.2 = X2 at *
        generalize x.1 = X1 at *
        go_wp2_with fail
        go_region_law (first
          | (refine step_read rfl (run_call ent_read #[.tmp 46, .tmp 47] _ rfl #[.pointer (some ⟨hb, 0, none⟩), .int .u64 X2] rfl) RDK.out ?_; intro k3 n3 f3 s3 a3 c3 ks3 w3 hsm hin3 hb3; have HM3 := hidb (HMD.out.keep hb3); obtain ⟨m0, m1, m2, m3, m4, n0, n1, n2, n3', n4, -⟩ := HM3.out.bx; have ma4 := (HM3.out.keep (below_new w3 (.cells #[.int .i64 k3, .int .i64 n3, .float .f64 f3, .string s3, .slice a3 ks3.length c3] 44))).bx.c4; have HSM := hidb hsm; have HTO := hidb (told_off HMD.out.rows HMD.out.sz hin3); have z4 : B + 2 ≤ (w3.alloc (.cells #[.int .i64 k3, .int .i64 n3, .float .f64 f3, .string s3, .slice a3 ks3.length c3] 44)).heap.size := (by have := HM3.out.sz; simp; omega); clear hsm hin3 hb3)
          | (refine step_app5 rfl (.tmp 45) (.tmp 49) rfl (B + 2) (.slice av3 ds2.length cv3) ds2.length (ds2.flatMap Tr.cells) rfl (HM3.out.keep (below_new w3 _)).own ⟨w3.heap.size, 0, none⟩ (Tr.cells (.mk k3 n3 f3 s3 a3 c3 ks3)) rfl rfl (app_cells w3 k3 n3 f3 s3 a3 c3 ks3) (tr_one _) z1 z2 z4 ?_; intro g' cap w4 hown hgrow hat; have HM4 := hidb (HM3.out.app (below_new w3 _) (in_below (below_new w3 _) HTO.out.1) (on_mono (fun b hS => ⟨hS.1, Nat.lt_of_lt_of_le hS.2.1 (by simp), hS.2.2⟩) _ HTO.out.2) hown hgrow hat); obtain ⟨p0, p1, p2, p3, p4, r0, r1, r2, r3, r4, -⟩ := HM3.out.box_app (below_new w3 _) hgrow; clear hown hgrow hat))
        all_goals (
          go_wp2_with fail
          go_roundw
          case rel => exact ⟨m + 1, ds2 ++ [.mk k3 n3 f3 s3 a3 c3 ks3], some ⟨g', 0, none⟩, cap, HM1.out.1, by go_num, HNX.out _ HSM.out, HM4.out⟩
          case measure => have := HM1.out.2; simp [intOf]; omega)
      · have hmn : ¬ (m : Int) < (es.length : Int) := by omega
        obtain rfl : m = es.length := by omega
        rw [List.take_length] at HSA
        obtain ⟨ty, y0, y1, ep⟩ := repl_tag HPR.out.rl
        have PY := hidb (points_any y y0 y1)
        rw [ep] at PY
        obtain ⟨A', n', n'', k', N', f', ho⟩ := HM.out.oc
        obtain ⟨o0, o1, o2, o3, o4, o5, o6, o7, s0, s1, s2, s3, s4, s5, s6, s7, -⟩ := ho
        obtain ⟨d0, d1, d2, d3, d4, g0, g1, g2, g3, g4, -⟩ := HM.out.bx
        obtain ⟨p0, p1, p2, p3, p4, r0, r1, r2, r3, r4, -⟩ := HM.out.rb
        cases r with
        | nil =>
          have hne1 : ¬ B + 1 = w.heap.size := by have := HM.out.wb; omega
          have hne2 : ¬ w.heap.size = B + 1 := by have := HM.out.wb; omega
          clear ty ep
          go_wp2_with (go_at_call 51; refine (PY.out _).mono ?_; rintro e w' ⟨rfl, hw'⟩; obtain rfl := hw'.symm)
          have hR := ((((HM.out.rows.set (p := ⟨w.heap.size, 0, none⟩) (by have := HM.out.wb; show w.heap.size < B + 2; omega) (.int .i64 k)).set (p := ⟨w.heap.size, 1, none⟩) (by have := HM.out.wb; show w.heap.size < B + 2; omega) (.int .i64 Nn)).set (p := ⟨w.heap.size, 2, none⟩) (by have := HM.out.wb; show w.heap.size < B + 2; omega) (.float .f64 fl)).set (p := ⟨w.heap.size, 3, none⟩) (by have := HM.out.wb; show w.heap.size < B + 2; omega) (.string ⟨#[]⟩)).set (p := ⟨w.heap.size, 4, none⟩) (by have := HM.out.wb; show w.heap.size < B + 2; omega) (.slice av3 ds2.length cv3)
          obtain ⟨a9, c9, e9, hin9⟩ := rows_tree hR k Nn fl ⟨#[]⟩ HK.out HN.out HF.out (Nat.zero_le _)
          obtain ⟨rfl, rfl⟩ : av3 = a9 ∧ cv3 = c9 := by simpa using e9
          have ht9 := HPR.out.tot
          simp only [List.append_nil] at ht9
          refine bodyPost_ret (v := .agg #[.int .i64 k, .int .i64 Nn, .float .f64 fl, .string ⟨#[]⟩, .slice av3 ds2.length cv3]) (by simp [results, Tryz.results38, go_sem, p0, p1, p2, p3, p4]) rfl ⟨.mk k Nn fl ⟨#[]⟩ av3 cv3 ds2, rfl, ?_, in_mono (by have := HM.out.wb; omega) _ hin9, below_set5 HM.out.be (Nat.le_refl _) _ _ _ _ _⟩
          unfold Same
          refine ⟨rfl, rfl, rfl, rfl, ?_⟩
          rw [← ht9]
          exact HSA.out
        | cons t2 r2 =>
          have hrl := HPR.out.rl
          unfold RepL at hrl
          obtain ⟨p, rfl, hp16, ⟨x, hx, hrx⟩, y', hy', hry⟩ := hrl
          obtain ⟨m1, m2, m3, m4, m5⟩ := cons_made hp16
          obtain ⟨ty', y0', y1', -⟩ := repl_tag hry
          have BL := hidb (block_of hb (ofW 6 p) p ⟨g, p, none⟩ ⟨g, p, none⟩ 2 1 2 0 8 0 y' m3 m4 m2 wr (Or.inl ⟨m1, fun w' hb' => pair_ok (HPW.out.keep hb') g p HA.out y' hy' y0' y1' ty'⟩))
          have HPN := hidb (show RdP hb ab most ws L F a c full (pre ++ es.map (·.1)) [(t2, x)] r2 ds2 p y' from ⟨by have := HPR.out.tot; simpa using this, HSA.out, fun j z hj => by
            rcases j with _ | j
            · obtain rfl : (t2, x) = z := by simpa using hj
              exact ⟨hx, HPR.out.re t2 (List.mem_cons_self ..) x hrx⟩
            · simp at hj, hry, fun t ht => HPR.out.re t (List.mem_cons_of_mem _ ht)⟩)
          generalize ofW 6 p = U at *
          have HMK := hidb (fun w' hb' => HM.out.next (w2 := w') hb' p y')
          clear ty ep hx hrx hy' hry m1 m2 m3 m4 m5 ty'
          go_wp2_with (first
            | (go_at_call 51; refine (PY.out _).mono ?_; rintro e w' ⟨rfl, hw'⟩; obtain rfl := hw'.symm)
            | (go_at_call 53; refine BL.out.mono ?_; rintro e w5 ⟨rfl, hb5⟩; have HM6 := hidb (HMK.out w5 hb5); obtain ⟨A9, n9, n99, k9, N9, f9, ho9⟩ := (HM.out.keep hb5).oc; obtain ⟨q0, q1, q2, q3, q4, q5, q6, q7, t0, t1, t2', t3, t4, t5, t6, t7, -⟩ := ho9; clear hb5 o0 o1 o2 o3 o4 o5 o6 o7 s0 s1 s2 s3 s4 s5 s6 s7))
          go_roundg r2.length
          case measure => have := HGK.out; simp at this; omega
          case rel => exact ⟨_, _, _, _, _, _, _, _, _, rfl, HPN.out, HM6.out⟩
end Go.Proofs.YtmijabhnbmmmfaaGreat


