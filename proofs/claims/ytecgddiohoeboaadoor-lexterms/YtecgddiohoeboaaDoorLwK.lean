import Derived.Test.YtecgddiohoeboaaDoorG35
import Derived.Test.YtecgddiohoeboaaDoorG26
import Derived.Deep.AppendLies
/- The atoms and numbers of a term, as tokens: the law's own walk. -/
namespace Go.Proofs.YtecgddiohoeboaaDoor
open Go.RowKit Go.Lib Go.Deep
attribute [local go_sem] store_float f64bits
attribute [local go_sem ↓] Go.wp_at_zero Go.wp_at_succ

theorem app_five (w : World) (t : TypeId) (a0 a1 a2 a3 a4 : Value) (g : Nat) (hg : g = w.heap.size) (j : Nat) (u : Value) (hj : [a0, a1, a2, a3, a4][j]? = some u) : (w.alloc (.cells #[a0, a1, a2, a3, a4] t)).cell? ((⟨g, 0, none⟩ : Addr).add j) = some u := by
  subst hg
  have hadd : (⟨w.heap.size, 0, none⟩ : Addr).add j = ⟨w.heap.size, j, none⟩ := by unfold Addr.add; split <;> simp_all
  rw [hadd, World.cell?_alloc_new]
  simpa using hj

/-- The run of atoms: the row that is told so far, and the box of its term. -/
structure AS (B : Nat) (W : World) (V : Value) (b0 b1 b2 b3 b4 : Value) (Wx : World) (Vx : Value) (lx : List Tk) : Prop where
  own : Wx.ownsRow B TT 5 Vx lx.length (tkCells lx)
  but : But (fun k => V.ownBlock = some k) W Wx
  blk : ∀ k, Vx.ownBlock = some k → V.ownBlock = some k ∨ W.heap.size < k
  box : Box Wx W.heap.size b0 b1 b2 b3 b4
  vlt : ∀ k, V.ownBlock = some k → B ≤ k ∧ k < W.heap.size
  big : W.heap.size < Wx.heap.size

theorem AS.start {B : Nat} {W : World} {V : Value} {l : List Tk} (h : W.ownsRow B TT 5 V l.length (tkCells l)) (t : TypeId) (b0 b1 b2 b3 b4 : Value) : AS B W V b0 b1 b2 b3 b4 (W.alloc (.cells #[b0, b1, b2, b3, b4] t)) V l :=
  ⟨h.alloc _, But.of_below (below_new W _), fun _ hk => .inl hk, Box.new W t b0 b1 b2 b3 b4, h.lt, by simp⟩

theorem AS.app {B : Nat} {W : World} {V b0 b1 b2 b3 b4 : Value} {Wx : World} {Vx : Value} {lx : List Tk} (h : AS B W V b0 b1 b2 b3 b4 Wx Vx lx) {o : Obj} {w' : World} {g cap : Nat} (tk : Tk)
    (hown : w'.ownsRow B TT 5 (.slice (some ⟨g, 0, none⟩) (lx.length + 1) cap) (lx.length + 1) (tkCells lx ++ tk.cells)) (hgrow : (Wx.alloc o).grownBy w' Vx.ownBlock) (hat : Vx.ownBlock = some g ∨ g = (Wx.alloc o).heap.size) : AS B W V b0 b1 b2 b3 b4 w' (.slice (some ⟨g, 0, none⟩) (lx.length + 1) cap) (lx ++ [tk]) := by
  have hbig := h.big
  have hz : (Wx.alloc o).heap.size = Wx.heap.size + 1 := by simp
  have hne : ∀ k, k ≤ W.heap.size → ¬ V.ownBlock = some k → some k ≠ Vx.ownBlock := fun k hk hv e => by
    rcases h.blk k e.symm with h1 | h1
    · exact hv h1
    · omega
  have hold : ∀ k, k ≤ W.heap.size → ¬ V.ownBlock = some k → w'.heap[k]? = Wx.heap[k]? := fun k hk hv => by
    rw [hgrow.block k (by omega) (hne k hk hv)]
    exact (below_new Wx o).block k (by omega)
  refine ⟨by rw [List.length_append, tkCells_snoc]; exact hown, ⟨?_, ?_, ?_, ?_, fun k hk hv => ?_⟩, fun k hk => ?_, ?_, h.vlt, by have := hgrow.size; omega⟩
  · rw [hgrow.os]; exact h.but.os
  · rw [hgrow.tape]; exact h.but.tape
  · rw [hgrow.output]; exact h.but.output
  · have := hgrow.size; omega
  · rw [hold k (by omega) hv]; exact h.but.block k hk hv
  · have hg : g = k := by simpa [Value.ownBlock] using hk
    subst hg
    rcases hat with h1 | h1
    · exact h.blk g h1
    · right; omega
  · have hnv : ¬ V.ownBlock = some W.heap.size := fun e => by have := (h.vlt _ e).2; omega
    have hb : But (fun k => ¬ k = W.heap.size) Wx w' := ⟨hgrow.os, hgrow.tape, hgrow.output, by have := hgrow.size; omega, fun k _ hk => by
      obtain rfl : k = W.heap.size := by simpa using hk
      exact hold _ (Nat.le_refl _) hnv⟩
    exact h.box.but hb (by simp)

theorem AS.call {B : Nat} {W : World} {V b0 b1 b2 b3 b4 : Value} {Wx : World} {Vx : Value} {lx : List Tk} (h : AS B W V b0 b1 b2 b3 b4 Wx Vx lx) {Wy : World} {Vy : Value} {ly : List Tk}
    (hown : Wy.ownsRow B TT 5 Vy ly.length (tkCells ly)) (hbut : But (fun k => Vx.ownBlock = some k) Wx Wy) (hblk : ∀ k, Vy.ownBlock = some k → Vx.ownBlock = some k ∨ Wx.heap.size ≤ k) : AS B W V b0 b1 b2 b3 b4 Wy Vy ly := by
  have hbig := h.big
  have hnv : ¬ V.ownBlock = some W.heap.size := fun e => by have := (h.vlt _ e).2; omega
  have hne : ∀ k, k ≤ W.heap.size → ¬ V.ownBlock = some k → ¬ Vx.ownBlock = some k := fun k hk hv e => by
    rcases h.blk k e with h1 | h1
    · exact hv h1
    · omega
  refine ⟨hown, ⟨hbut.os.trans h.but.os, hbut.tape.trans h.but.tape, hbut.output.trans h.but.output, Nat.le_trans h.but.size hbut.size, fun k hk hv => ?_⟩, fun k hk => ?_, h.box.but hbut (hne _ (Nat.le_refl _) hnv), h.vlt, by have := hbut.size; omega⟩
  · rw [hbut.block k (by omega) (hne k (by omega) hv)]; exact h.but.block k hk hv
  · rcases hblk k hk with h1 | h1
    · exact h.blk k h1
    · right; omega

/-- What atoms tells. -/
def AtR (B : Nat) (W : World) (V : Value) (l : List Tk) (e : Ending) (W' : World) : Prop :=
  ∃ V', e = .returned V' ∧ W'.ownsRow B TT 5 V' l.length (tkCells l) ∧ But (fun k => V.ownBlock = some k) W W' ∧ (∀ k, V'.ownBlock = some k → V.ownBlock = some k ∨ W.heap.size ≤ k)

theorem AS.told {B : Nat} {W : World} {V b0 b1 b2 b3 b4 : Value} {Wx : World} {Vx : Value} {lx : List Tk} (h : AS B W V b0 b1 b2 b3 b4 Wx Vx lx) : AtR B W V lx (.returned Vx) Wx :=
  ⟨Vx, rfl, h.own, h.but, fun k hk => (h.blk k hk).imp id (fun h => Nat.le_of_lt h)⟩

def AtOk (w0 : World) (t : Tr) : Prop := Say t → t.In w0 0 → ∀ (W : World) (l : List Tk) (V : Value), Below w0.heap.size w0 W → W.ownsRow w0.heap.size TT 5 V l.length (tkCells l) → l.length + (atT t).length ≤ 100000000 →
  Calls Tryd.prog 20 #[t.val, V] W fun e W' => AtR w0.heap.size W V (l ++ atT t) e W'

theorem atAll_take (l : List Tr) (m : Nat) (t : Tr) (h : l[m]? = some t) : atAll (l.take (m + 1)) = atAll (l.take m) ++ atT t := by
  have hsn : ∀ (l : List Tr) (t : Tr), atAll (l ++ [t]) = atAll l ++ atT t := by
    intro l t
    induction l with
    | nil => simp [atAll]
    | cons u r ih => simp [atAll, ih]
  rw [List.take_add_one, h]
  exact hsn _ _
theorem atAll_len (l : List Tr) (m : Nat) : (atAll (l.take m)).length ≤ (atAll l).length := by
  induction l generalizing m with
  | nil => simp
  | cons u r ih =>
    cases m with
    | zero => simp [atAll]
    | succ m => have := ih m; simp [atAll]; omega


set_option maxHeartbeats 8000000 in
set_option maxRecDepth 100000 in
theorem atoms_any (w0 : World) : ∀ t, AtOk w0 t := by
  refine Tr.ind fun k n f s a c kids ih => ?_
  intro hs hin W l V hbw how hlen
  show Calls Tryd.prog 20 #[.agg #[.int .i64 k, .int .i64 n, .float .f64 f, .string s, .slice a kids.length c], V] W _
  obtain ⟨i0, hi', hz0, hz1, hz2⟩ := info_parts (P := Tryd.prog) (e := TT) (z := .agg #[.int .i64 0, .string ⟨#[]⟩, .int .i64 0, .float .f64 0, .int .i64 0]) (size := 5) (bytes := 48) (by kernel_rfl)
  have hi : Tryd.prog.info? TT = some i0 := hi'
  clear hi'
  obtain ⟨ao, nn, cp, rfl⟩ : ∃ ao n' cap, V = .slice ao n' cap := how.2.elim (fun h => ⟨_, _, _, h.1⟩) fun ⟨_, _, _, hv, _⟩ => ⟨_, _, _, hv⟩
  have HB := hidb hbw
  have hzz := hbw.size
  have HS := hidb (AS.start how 44 (.int .i64 k) (.int .i64 n) (.float .f64 f) (.string s) (.slice a kids.length c))
  have HIH := hidb ih
  have HIN := hidb hin
  have hll := len_small hin
  unfold Say at hs
  clear ih hin hbw how
  rcases hs with ⟨rfl, h1, h2, rfl⟩ | ⟨rfl, h1, h2, rfl⟩ | ⟨rfl, h1, rfl⟩ | ⟨hk, hall⟩
  case inr.inr.inl =>
    have ha : atT (.mk 3 n f s a c []) = [⟨1, s, 0, 0, 0⟩] := by simp [atT, atAll]
    rw [ha] at hlen ⊢
    have hl2 : l.length + 1 ≤ 100000000 := by simpa using hlen
    clear ha hlen HIH
    go_enter Tryd.func20, Tryd.ntmps20
    go_wp2_with (at_builtin; refine wpList_append_lies _ rfl _ _ 23 rfl w0.heap.size TT i0 (.agg #[.int .i64 0, .string ⟨#[]⟩, .int .i64 0, .float .f64 0, .int .i64 0]) 5 48 Tryd.underlying23 hi hz0 hz1 hz2 rfl (by decide) _ _ _ rfl (HS.out.own.alloc _) ⟨W.heap.size + 1, 0, none⟩ 1 1 [.int .i64 1, .string s, .int .i64 0, .float .f64 0, .int .i64 0] rfl rfl ?p1 ?p2 (by decide) ?p3 ?p4 ?p5 _ rfl ?_)
    try (case p1 => intro q u hq; exact app_five _ _ _ _ _ _ _ _ (by first | rfl | simp) q u hq)
    try (case p2 => first | exact ⟨rfl, rfl, rfl, rfl, rfl⟩ | (intro u hu; simp only [List.mem_cons, List.not_mem_nil, or_false] at hu; rcases hu with rfl | rfl | rfl | rfl | rfl <;> rfl))
    case p3 => unfold maxLen; omega
    case p4 => omega
    case p5 => have h7 := HS.out.big; first | (simp; omega) | (simp at h7 ⊢; omega) | omega
    intro gp capp wp hown' hgrow hat hltg
    have Hp := hidb (HS.out.app ⟨1, s, 0, 0, 0⟩ hown' hgrow (hat.imp id (fun h => by rw [h]; simp)))
    clear hown' hgrow hat hltg
    go_wp2_with fail
    go_loopg [1, 6] ([] : List Tr).length (fun gf s1 s6 wx => ∃ (m : Nat) (o2 : Option Addr) (n2 c2 : Nat), s6 = .int .i64 (m : Int) ∧ s1 = .slice o2 n2 c2 ∧ m ≤ ([] : List Tr).length ∧ ([] : List Tr).length - m ≤ gf ∧ AS w0.heap.size W (.slice ao nn cp) (.int .i64 3) (.int .i64 n) (.float .f64 f) (.string s) (.slice a ([] : List Tr).length c) wx (.slice o2 n2 c2) ((l ++ [⟨1, s, 0, 0, 0⟩]) ++ atAll (([] : List Tr).take m)))
    case atStart => exact ⟨0, _, _, _, by simp, rfl, Nat.zero_le _, by omega, by simp only [List.take_zero, atAll, List.append_nil]; exact Hp.out⟩
    case round =>
      obtain ⟨m, o2, n2, c2, rfl, rfl, hm, hgf, has⟩ := hrel
      have HA := hidb has
      have bx4 := has.box.c4
      clear has
      have hmn : ¬ (m : Int) < 0 := by omega
      obtain rfl : m = 0 := by simpa using hm
      go_wp2_with fail
      go_ret
      have := HA.out.told
      simpa [atAll] using this
  case inr.inl =>
    have ha : atT (.mk 2 n f s a c []) = [⟨4, ⟨#[]⟩, 0, f, 0⟩] := by simp [atT, atAll]
    rw [ha] at hlen ⊢
    have hl2 : l.length + 1 ≤ 100000000 := by simpa using hlen
    clear ha hlen HIH
    go_enter Tryd.func20, Tryd.ntmps20
    go_wp2_with (at_builtin; refine wpList_append_lies _ rfl _ _ 23 rfl w0.heap.size TT i0 (.agg #[.int .i64 0, .string ⟨#[]⟩, .int .i64 0, .float .f64 0, .int .i64 0]) 5 48 Tryd.underlying23 hi hz0 hz1 hz2 rfl (by decide) _ _ _ rfl (HS.out.own.alloc _) ⟨W.heap.size + 1, 0, none⟩ 1 1 [.int .i64 4, .string ⟨#[]⟩, .int .i64 0, .float .f64 f, .int .i64 0] rfl rfl ?q1 ?q2 (by decide) ?q3 ?q4 ?q5 _ rfl ?_)
    try (case q1 => intro q u hq; exact app_five _ _ _ _ _ _ _ _ (by first | rfl | simp) q u hq)
    try (case q2 => first | exact ⟨rfl, rfl, rfl, rfl, rfl⟩ | (intro u hu; simp only [List.mem_cons, List.not_mem_nil, or_false] at hu; rcases hu with rfl | rfl | rfl | rfl | rfl <;> rfl))
    case q3 => unfold maxLen; omega
    case q4 => omega
    case q5 => have h7 := HS.out.big; first | (simp; omega) | (simp at h7 ⊢; omega) | omega
    intro gq capq wq hown' hgrow hat hltg
    have Hq := hidb (HS.out.app ⟨4, ⟨#[]⟩, 0, f, 0⟩ hown' hgrow (hat.imp id (fun h => by rw [h]; simp)))
    clear hown' hgrow hat hltg
    go_wp2_with fail
    go_loopg [1, 6] ([] : List Tr).length (fun gf s1 s6 wx => ∃ (m : Nat) (o2 : Option Addr) (n2 c2 : Nat), s6 = .int .i64 (m : Int) ∧ s1 = .slice o2 n2 c2 ∧ m ≤ ([] : List Tr).length ∧ ([] : List Tr).length - m ≤ gf ∧ AS w0.heap.size W (.slice ao nn cp) (.int .i64 2) (.int .i64 n) (.float .f64 f) (.string s) (.slice a ([] : List Tr).length c) wx (.slice o2 n2 c2) ((l ++ [⟨4, ⟨#[]⟩, 0, f, 0⟩]) ++ atAll (([] : List Tr).take m)))
    case atStart => exact ⟨0, _, _, _, by simp, rfl, Nat.zero_le _, by omega, by simp only [List.take_zero, atAll, List.append_nil]; exact Hq.out⟩
    case round =>
      obtain ⟨m, o2, n2, c2, rfl, rfl, hm, hgf, has⟩ := hrel
      have HA := hidb has
      have bx4 := has.box.c4
      clear has
      have hmn : ¬ (m : Int) < 0 := by omega
      obtain rfl : m = 0 := by simpa using hm
      go_wp2_with fail
      go_ret
      have := HA.out.told
      simpa [atAll] using this
  case inl =>
    by_cases hneg : n < 0
    · have ha : atT (.mk 1 n f s a c []) = [sgT 45, ⟨3, ⟨#[]⟩, -n, 0, 0⟩] := by simp [atT, atAll, hneg]
      rw [ha] at hlen ⊢
      have hl2 : l.length + 2 ≤ 100000000 := by simpa using hlen
      clear ha hlen HIH
      go_enter Tryd.func20, Tryd.ntmps20
      go_wp2_with (at_builtin; refine wpList_append_lies _ rfl _ _ 23 rfl w0.heap.size TT i0 (.agg #[.int .i64 0, .string ⟨#[]⟩, .int .i64 0, .float .f64 0, .int .i64 0]) 5 48 Tryd.underlying23 hi hz0 hz1 hz2 rfl (by decide) _ _ _ rfl (HS.out.own.alloc _) ⟨W.heap.size + 1, 0, none⟩ 1 1 [.int .i64 6, .string ⟨#[45]⟩, .int .i64 0, .float .f64 0, .int .i64 0] rfl rfl ?t1 ?t2 (by decide) ?t3 ?t4 ?t5 _ rfl ?_)
      try (case t1 => intro q u hq; exact app_five _ _ _ _ _ _ _ _ (by first | rfl | simp) q u hq)
      try (case t2 => first | exact ⟨rfl, rfl, rfl, rfl, rfl⟩ | (intro u hu; simp only [List.mem_cons, List.not_mem_nil, or_false] at hu; rcases hu with rfl | rfl | rfl | rfl | rfl <;> rfl))
      case t3 => unfold maxLen; omega
      case t4 => omega
      case t5 => have h7 := HS.out.big; first | (simp; omega) | (simp at h7 ⊢; omega) | omega
      intro gt capt wt hown' hgrow hat hltg
      have Ht := hidb (HS.out.app (sgT 45) hown' hgrow (hat.imp id (fun h => by rw [h]; simp)))
      clear hown' hgrow hat hltg
      obtain ⟨l5, hl5⟩ : ∃ l5, l ++ [sgT 45] = l5 := ⟨_, rfl⟩
      have hln : l5.length ≤ 99999999 := by rw [← hl5, List.length_append]; simp; omega
      rw [hl5] at Ht
      have HL5 := hidb hl5
      have hgt : Hid (l.length + 1 = l5.length) := hidb (by rw [← hl5, List.length_append]; rfl)
      rw [hgt.out] at Ht ⊢
      clear hl5
      go_wp2_with (at_builtin; refine wpList_append_lies _ rfl _ _ 23 rfl w0.heap.size TT i0 (.agg #[.int .i64 0, .string ⟨#[]⟩, .int .i64 0, .float .f64 0, .int .i64 0]) 5 48 Tryd.underlying23 hi hz0 hz1 hz2 rfl (by decide) _ _ _ rfl (Ht.out.own.alloc _) ⟨wt.heap.size, 0, none⟩ 1 1 [.int .i64 3, .string ⟨#[]⟩, .int .i64 (-n), .float .f64 0, .int .i64 0] rfl rfl ?u1 ?u2 (by decide) ?u3 ?u4 ?u5 _ rfl ?_)
      try (case u1 => intro q u hq; exact app_five _ _ _ _ _ _ _ _ (by first | rfl | simp) q u hq)
      try (case u2 => first | exact ⟨rfl, rfl, rfl, rfl, rfl⟩ | (intro u hu; simp only [List.mem_cons, List.not_mem_nil, or_false] at hu; rcases hu with rfl | rfl | rfl | rfl | rfl <;> rfl))
      case u3 => unfold maxLen; omega
      case u4 => omega
      case u5 => have h7 := Ht.out.big; first | (simp; omega) | (simp at h7 ⊢; omega) | omega
      intro gu capu wu hown' hgrow hat hltg
      have Hu := hidb (Ht.out.app ⟨3, ⟨#[]⟩, -n, 0, 0⟩ hown' hgrow (hat.imp id (fun h => by rw [h]; simp)))
      clear hown' hgrow hat hltg
      go_wp2_with fail
      go_loopg [1, 6] ([] : List Tr).length (fun gf s1 s6 wx => ∃ (m : Nat) (o2 : Option Addr) (n2 c2 : Nat), s6 = .int .i64 (m : Int) ∧ s1 = .slice o2 n2 c2 ∧ m ≤ ([] : List Tr).length ∧ ([] : List Tr).length - m ≤ gf ∧ AS w0.heap.size W (.slice ao nn cp) (.int .i64 1) (.int .i64 n) (.float .f64 f) (.string s) (.slice a ([] : List Tr).length c) wx (.slice o2 n2 c2) ((l5 ++ [⟨3, ⟨#[]⟩, -n, 0, 0⟩]) ++ atAll (([] : List Tr).take m)))
      case atStart => exact ⟨0, _, _, _, by simp, rfl, Nat.zero_le _, by omega, by simp only [List.take_zero, atAll, List.append_nil]; exact Hu.out⟩
      case round =>
        obtain ⟨m, o2, n2, c2, rfl, rfl, hm, hgf, has⟩ := hrel
        have HA := hidb has
        have bx4 := has.box.c4
        clear has
        have hmn : ¬ (m : Int) < 0 := by omega
        obtain rfl : m = 0 := by simpa using hm
        go_wp2_with fail
        go_ret
        have := HA.out.told
        rw [← HL5.out] at this
        simpa [atAll] using this
    · have hn : ¬ n < 0 := hneg
      have ha : atT (.mk 1 n f s a c []) = [⟨3, ⟨#[]⟩, n, 0, 0⟩] := by simp [atT, atAll, hneg]
      rw [ha] at hlen ⊢
      have hl2 : l.length + 1 ≤ 100000000 := by simpa using hlen
      clear ha hlen HIH
      go_enter Tryd.func20, Tryd.ntmps20
      go_wp2_with (at_builtin; refine wpList_append_lies _ rfl _ _ 23 rfl w0.heap.size TT i0 (.agg #[.int .i64 0, .string ⟨#[]⟩, .int .i64 0, .float .f64 0, .int .i64 0]) 5 48 Tryd.underlying23 hi hz0 hz1 hz2 rfl (by decide) _ _ _ rfl (HS.out.own.alloc _) ⟨W.heap.size + 1, 0, none⟩ 1 1 [.int .i64 3, .string ⟨#[]⟩, .int .i64 n, .float .f64 0, .int .i64 0] rfl rfl ?r1 ?r2 (by decide) ?r3 ?r4 ?r5 _ rfl ?_)
      try (case r1 => intro q u hq; exact app_five _ _ _ _ _ _ _ _ (by first | rfl | simp) q u hq)
      try (case r2 => first | exact ⟨rfl, rfl, rfl, rfl, rfl⟩ | (intro u hu; simp only [List.mem_cons, List.not_mem_nil, or_false] at hu; rcases hu with rfl | rfl | rfl | rfl | rfl <;> rfl))
      case r3 => unfold maxLen; omega
      case r4 => omega
      case r5 => have h7 := HS.out.big; first | (simp; omega) | (simp at h7 ⊢; omega) | omega
      intro gr capr wr hown' hgrow hat hltg
      have Hr := hidb (HS.out.app ⟨3, ⟨#[]⟩, n, 0, 0⟩ hown' hgrow (hat.imp id (fun h => by rw [h]; simp)))
      clear hown' hgrow hat hltg
      go_wp2_with fail
      go_loopg [1, 6] ([] : List Tr).length (fun gf s1 s6 wx => ∃ (m : Nat) (o2 : Option Addr) (n2 c2 : Nat), s6 = .int .i64 (m : Int) ∧ s1 = .slice o2 n2 c2 ∧ m ≤ ([] : List Tr).length ∧ ([] : List Tr).length - m ≤ gf ∧ AS w0.heap.size W (.slice ao nn cp) (.int .i64 1) (.int .i64 n) (.float .f64 f) (.string s) (.slice a ([] : List Tr).length c) wx (.slice o2 n2 c2) ((l ++ [⟨3, ⟨#[]⟩, n, 0, 0⟩]) ++ atAll (([] : List Tr).take m)))
      case atStart => exact ⟨0, _, _, _, by simp, rfl, Nat.zero_le _, by omega, by simp only [List.take_zero, atAll, List.append_nil]; exact Hr.out⟩
      case round =>
        obtain ⟨m, o2, n2, c2, rfl, rfl, hm, hgf, has⟩ := hrel
        have HA := hidb has
        have bx4 := has.box.c4
        clear has
        have hmn : ¬ (m : Int) < 0 := by omega
        obtain rfl : m = 0 := by simpa using hm
        go_wp2_with fail
        go_ret
        have := HA.out.told
        simpa [atAll] using this
  case inr.inr.inr =>
    rcases hk with rfl | rfl
    · have ha : atT (.mk 7 n f s a c kids) = atAll kids := by simp [atT]
      rw [ha] at hlen ⊢
      clear ha
      go_enter Tryd.func20, Tryd.ntmps20
      go_wp2_with fail
      go_loopg [1, 6] kids.length (fun gf s1 s6 wx => ∃ (m : Nat) (o2 : Option Addr) (n2 c2 : Nat), s6 = .int .i64 (m : Int) ∧ s1 = .slice o2 n2 c2 ∧ m ≤ kids.length ∧ kids.length - m ≤ gf ∧ AS w0.heap.size W (.slice ao nn cp) (.int .i64 7) (.int .i64 n) (.float .f64 f) (.string s) (.slice a kids.length c) wx (.slice o2 n2 c2) (l ++ atAll (kids.take m)))
      case atStart => exact ⟨0, _, _, _, by simp, rfl, Nat.zero_le _, by omega, by simp only [List.take_zero, atAll, List.append_nil]; exact HS.out⟩
      case round =>
        obtain ⟨m, o2, n2, c2, rfl, rfl, hm, hgf, has⟩ := hrel
        have HA := hidb has
        have bx4 := has.box.c4
        clear has
        have hal := atAll_len kids m
        have hbx : Below w0.heap.size w0 wr := HB.out.trans (HA.out.but.below hzz (fun k hk => (HA.out.vlt k hk).1))
        by_cases hml : m < kids.length
        · obtain ⟨g', rfl⟩ : ∃ g', gk = g' + 1 := ⟨gk - 1, by omega⟩
          have hmb : (m : Int) < (kids.length : Int) := by omega
          have hmz : (0 : Int) ≤ (m : Int) := by omega
          obtain ⟨b, oo, rfl, hat⟩ := kid_at (in_below hbx HIN.out) (by omega)
          obtain ⟨k', n', f', s', a', c', kids', hu, hin', c0, c1, c2', c3, c4⟩ := hat m hml
          obtain ⟨b9, o9, hab9, hat9⟩ := kid_at HIN.out (by omega)
          obtain ⟨k9, n9, f9, s9, a9, c9, kids9, hu9, hin9, _⟩ := hat9 m hml
          rw [hu] at hu9
          cases Option.some.inj hu9
          have htk := atAll_take kids m _ hu
          have hal2 := atAll_len kids (m + 1)
          rw [htk, List.length_append] at hal2
          have IH := HIH.out _ (List.mem_of_getElem? hu) (sayAll_get hall (List.mem_of_getElem? hu)) hin9 wr (l ++ atAll (kids.take m)) (.slice o2 n2 c2) hbx HA.out.own (by rw [List.length_append]; omega)
          replace IH : Calls Tryd.prog 20 #[.agg #[.int .i64 k', .int .i64 n', .float .f64 f', .string s', .slice a' kids'.length c'], .slice o2 n2 c2] wr fun e W' => AtR w0.heap.size wr (.slice o2 n2 c2) (l ++ atAll (kids.take m) ++ atT (.mk k' n' f' s' a' c' kids')) e W' := IH
          have HTK : Hid (l ++ atAll (kids.take m) ++ atT (.mk k' n' f' s' a' c' kids') = l ++ atAll (kids.take (m + 1))) := hidb (by rw [htk, List.append_assoc])
          rw [HTK.out] at IH
          clear hu hu9 hin9 hin' hat hat9 hab9 hbx htk hal hal2 HTK
          go_wp2_with fail
          refine IH.mono ?_
          rintro e wz ⟨V', rfl, ho', hbut', hblk'⟩
          obtain ⟨o3, n3, c3', rfl⟩ : ∃ ao n' cap, V' = .slice ao n' cap := ho'.2.elim (fun h => ⟨_, _, _, h.1⟩) fun ⟨_, _, _, hv, _⟩ => ⟨_, _, _, hv⟩
          have HA2 := hidb (HA.out.call ho' hbut' hblk')
          clear ho' hbut' hblk' IH c0 c1 c2' c3 c4 bx4
          go_wp2_with fail
          go_roundg g'
          case measure => omega
          case rel => exact ⟨m + 1, _, _, _, by simp, rfl, by omega, by omega, HA2.out⟩
        · have hmn : ¬ (m : Int) < (kids.length : Int) := by omega
          have HE : Hid (l ++ atAll (kids.take m) = l ++ atAll kids) := hidb (by rw [List.take_of_length_le (by omega)])
          go_wp2_with fail
          go_ret
          have := HA.out.told
          rw [HE.out] at this
          exact this
    · have ha : atT (.mk 8 n f s a c kids) = atAll kids := by simp [atT]
      rw [ha] at hlen ⊢
      clear ha
      go_enter Tryd.func20, Tryd.ntmps20
      go_wp2_with fail
      go_loopg [1, 6] kids.length (fun gf s1 s6 wx => ∃ (m : Nat) (o2 : Option Addr) (n2 c2 : Nat), s6 = .int .i64 (m : Int) ∧ s1 = .slice o2 n2 c2 ∧ m ≤ kids.length ∧ kids.length - m ≤ gf ∧ AS w0.heap.size W (.slice ao nn cp) (.int .i64 8) (.int .i64 n) (.float .f64 f) (.string s) (.slice a kids.length c) wx (.slice o2 n2 c2) (l ++ atAll (kids.take m)))
      case atStart => exact ⟨0, _, _, _, by simp, rfl, Nat.zero_le _, by omega, by simp only [List.take_zero, atAll, List.append_nil]; exact HS.out⟩
      case round =>
        obtain ⟨m, o2, n2, c2, rfl, rfl, hm, hgf, has⟩ := hrel
        have HA := hidb has
        have bx4 := has.box.c4
        clear has
        have hal := atAll_len kids m
        have hbx : Below w0.heap.size w0 wr := HB.out.trans (HA.out.but.below hzz (fun k hk => (HA.out.vlt k hk).1))
        by_cases hml : m < kids.length
        · obtain ⟨g', rfl⟩ : ∃ g', gk = g' + 1 := ⟨gk - 1, by omega⟩
          have hmb : (m : Int) < (kids.length : Int) := by omega
          have hmz : (0 : Int) ≤ (m : Int) := by omega
          obtain ⟨b, oo, rfl, hat⟩ := kid_at (in_below hbx HIN.out) (by omega)
          obtain ⟨k', n', f', s', a', c', kids', hu, hin', c0, c1, c2', c3, c4⟩ := hat m hml
          obtain ⟨b9, o9, hab9, hat9⟩ := kid_at HIN.out (by omega)
          obtain ⟨k9, n9, f9, s9, a9, c9, kids9, hu9, hin9, _⟩ := hat9 m hml
          rw [hu] at hu9
          cases Option.some.inj hu9
          have htk := atAll_take kids m _ hu
          have hal2 := atAll_len kids (m + 1)
          rw [htk, List.length_append] at hal2
          have IH := HIH.out _ (List.mem_of_getElem? hu) (sayAll_get hall (List.mem_of_getElem? hu)) hin9 wr (l ++ atAll (kids.take m)) (.slice o2 n2 c2) hbx HA.out.own (by rw [List.length_append]; omega)
          replace IH : Calls Tryd.prog 20 #[.agg #[.int .i64 k', .int .i64 n', .float .f64 f', .string s', .slice a' kids'.length c'], .slice o2 n2 c2] wr fun e W' => AtR w0.heap.size wr (.slice o2 n2 c2) (l ++ atAll (kids.take m) ++ atT (.mk k' n' f' s' a' c' kids')) e W' := IH
          have HTK : Hid (l ++ atAll (kids.take m) ++ atT (.mk k' n' f' s' a' c' kids') = l ++ atAll (kids.take (m + 1))) := hidb (by rw [htk, List.append_assoc])
          rw [HTK.out] at IH
          clear hu hu9 hin9 hin' hat hat9 hab9 hbx htk hal hal2 HTK
          go_wp2_with fail
          refine IH.mono ?_
          rintro e wz ⟨V', rfl, ho', hbut', hblk'⟩
          obtain ⟨o3, n3, c3', rfl⟩ : ∃ ao n' cap, V' = .slice ao n' cap := ho'.2.elim (fun h => ⟨_, _, _, h.1⟩) fun ⟨_, _, _, hv, _⟩ => ⟨_, _, _, hv⟩
          have HA2 := hidb (HA.out.call ho' hbut' hblk')
          clear ho' hbut' hblk' IH c0 c1 c2' c3 c4 bx4
          go_wp2_with fail
          go_roundg g'
          case measure => omega
          case rel => exact ⟨m + 1, _, _, _, by simp, rfl, by omega, by omega, HA2.out⟩
        · have hmn : ¬ (m : Int) < (kids.length : Int) := by omega
          have HE : Hid (l ++ atAll (kids.take m) = l ++ atAll kids) := hidb (by rw [List.take_of_length_le (by omega)])
          go_wp2_with fail
          go_ret
          have := HA.out.told
          rw [HE.out] at this
          exact this
end Go.Proofs.YtecgddiohoeboaaDoor


