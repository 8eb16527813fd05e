import Derived.Test.YtpcpdehnppfbfaaGreatG07
/- Pop of a queue of signals. -/
namespace Go.Proofs.YtpcpdehnppfbfaaGreat
open Go.RowKit Go.Lib
attribute [local go_sem] store_float f64bits
attribute [local go_sem ↓] Go.wp_at_zero Go.wp_at_succ

theorem at_drew {w : World} {b : Nat} {o : Obj} (h : w.heap[b]? = some o) : w.drew.heap[b]? = some o := h

theorem RW.box {E sz : Nat} {w : World} {B rb gone n b q : Nat} {V u : Value} {items : List Value} (h : RW E sz w B rb V gone items n) (h1 : b ≠ rb) (h2 : V.ownBlock ≠ some b) : RW E sz (w.setCell ⟨b, q, none⟩ u) B rb V gone items n :=
  h.but ((But.refl (fun k => k = b) w).setCell (p := ⟨b, q, none⟩) (fun _ => rfl) u) (fun e => h1 e.symm) (fun k hk e => h2 (by rw [hk]; exact congrArg some e))

theorem set_box12 {w : World} {b : Nat} {t : TypeId} {v0 v1 v2 v3 v4 v5 v6 v7 v8 v9 v10 v11 u0 u1 u2 u3 u4 u5 u6 u7 u8 u9 u10 u11 : Value} (h : w.heap[b]? = some (.cells #[v0, v1, v2, v3, v4, v5, v6, v7, v8, v9, v10, v11] t)) : ((((((((((((w.setCell ⟨b, 0, none⟩ u0).setCell ⟨b, 1, none⟩ u1).setCell ⟨b, 2, none⟩ u2).setCell ⟨b, 3, none⟩ u3).setCell ⟨b, 4, none⟩ u4).setCell ⟨b, 5, none⟩ u5).setCell ⟨b, 6, none⟩ u6).setCell ⟨b, 7, none⟩ u7).setCell ⟨b, 8, none⟩ u8).setCell ⟨b, 9, none⟩ u9).setCell ⟨b, 10, none⟩ u10).setCell ⟨b, 11, none⟩ u11).heap[b]? = some (.cells #[u0, u1, u2, u3, u4, u5, u6, u7, u8, u9, u10, u11] t) := by
  have h0 := heap_setCell_same _ b 0 _ t u0 h
  have h1 := heap_setCell_same _ b 1 _ t u1 h0
  have h2 := heap_setCell_same _ b 2 _ t u2 h1
  have h3 := heap_setCell_same _ b 3 _ t u3 h2
  have h4 := heap_setCell_same _ b 4 _ t u4 h3
  have h5 := heap_setCell_same _ b 5 _ t u5 h4
  have h6 := heap_setCell_same _ b 6 _ t u6 h5
  have h7 := heap_setCell_same _ b 7 _ t u7 h6
  have h8 := heap_setCell_same _ b 8 _ t u8 h7
  have h9 := heap_setCell_same _ b 9 _ t u9 h8
  have h10 := heap_setCell_same _ b 10 _ t u10 h9
  have h11 := heap_setCell_same _ b 11 _ t u11 h10
  simpa using h11

theorem own_set12 {w : World} {B g n cap : Nat} {xs : List Value} (h : w.ownsRow B ST 12 (.slice (some ⟨g, 0, none⟩) n cap) n xs) (o : Nat) (v0 v1 v2 v3 v4 v5 v6 v7 v8 v9 v10 v11 : Value) (hx : ∀ u ∈ xs, u.oneCell' = true) (hv : ∀ u ∈ [v0, v1, v2, v3, v4, v5, v6, v7, v8, v9, v10, v11], u.oneCell' = true) :
    ∃ ys, ((((((((((((w.setCell ⟨g, o, none⟩ v0).setCell ⟨g, o + 1, none⟩ v1).setCell ⟨g, o + 2, none⟩ v2).setCell ⟨g, o + 3, none⟩ v3).setCell ⟨g, o + 4, none⟩ v4).setCell ⟨g, o + 5, none⟩ v5).setCell ⟨g, o + 6, none⟩ v6).setCell ⟨g, o + 7, none⟩ v7).setCell ⟨g, o + 8, none⟩ v8).setCell ⟨g, o + 9, none⟩ v9).setCell ⟨g, o + 10, none⟩ v10).setCell ⟨g, o + 11, none⟩ v11).ownsRow B ST 12 (.slice (some ⟨g, 0, none⟩) n cap) n ys ∧ (∀ d, o + 12 ≤ d → ys.drop d = xs.drop d) ∧ (∀ u ∈ ys, u.oneCell' = true) ∧ But (fun k => k = g) w ((((((((((((w.setCell ⟨g, o, none⟩ v0).setCell ⟨g, o + 1, none⟩ v1).setCell ⟨g, o + 2, none⟩ v2).setCell ⟨g, o + 3, none⟩ v3).setCell ⟨g, o + 4, none⟩ v4).setCell ⟨g, o + 5, none⟩ v5).setCell ⟨g, o + 6, none⟩ v6).setCell ⟨g, o + 7, none⟩ v7).setCell ⟨g, o + 8, none⟩ v8).setCell ⟨g, o + 9, none⟩ v9).setCell ⟨g, o + 10, none⟩ v10).setCell ⟨g, o + 11, none⟩ v11) := by
  have hm : ∀ (l : List Value) (q : Nat) (v : Value), v ∈ [v0, v1, v2, v3, v4, v5, v6, v7, v8, v9, v10, v11] → (∀ u ∈ l, u.oneCell' = true) → ∀ u ∈ l.set q v, u.oneCell' = true := fun l q v hq hl u hu => (List.mem_or_eq_of_mem_set hu).elim (hl u) (fun e => e ▸ hv v hq)
  have hd : ∀ (l : List Value) (q d : Nat) (v : Value), q < d → (l.set q v).drop d = l.drop d := fun l q d v hq => List.drop_set_of_lt hq
  have h0 := (h.stored (o) v0).1
  have m0 := hm _ (o) v0 (by simp) hx
  have h1 := (h0.stored (o + 1) v1).1
  have m1 := hm _ (o + 1) v1 (by simp) m0
  have h2 := (h1.stored (o + 2) v2).1
  have m2 := hm _ (o + 2) v2 (by simp) m1
  have h3 := (h2.stored (o + 3) v3).1
  have m3 := hm _ (o + 3) v3 (by simp) m2
  have h4 := (h3.stored (o + 4) v4).1
  have m4 := hm _ (o + 4) v4 (by simp) m3
  have h5 := (h4.stored (o + 5) v5).1
  have m5 := hm _ (o + 5) v5 (by simp) m4
  have h6 := (h5.stored (o + 6) v6).1
  have m6 := hm _ (o + 6) v6 (by simp) m5
  have h7 := (h6.stored (o + 7) v7).1
  have m7 := hm _ (o + 7) v7 (by simp) m6
  have h8 := (h7.stored (o + 8) v8).1
  have m8 := hm _ (o + 8) v8 (by simp) m7
  have h9 := (h8.stored (o + 9) v9).1
  have m9 := hm _ (o + 9) v9 (by simp) m8
  have h10 := (h9.stored (o + 10) v10).1
  have m10 := hm _ (o + 10) v10 (by simp) m9
  have h11 := (h10.stored (o + 11) v11).1
  have m11 := hm _ (o + 11) v11 (by simp) m10
  refine ⟨_, h11, fun d hd2 => ?_, m11, ((((((((((((But.refl (fun k => k = g) w).setCell (p := ⟨g, o, none⟩) (fun _ => rfl) v0).setCell (p := ⟨g, o + 1, none⟩) (fun _ => rfl) v1).setCell (p := ⟨g, o + 2, none⟩) (fun _ => rfl) v2).setCell (p := ⟨g, o + 3, none⟩) (fun _ => rfl) v3).setCell (p := ⟨g, o + 4, none⟩) (fun _ => rfl) v4).setCell (p := ⟨g, o + 5, none⟩) (fun _ => rfl) v5).setCell (p := ⟨g, o + 6, none⟩) (fun _ => rfl) v6).setCell (p := ⟨g, o + 7, none⟩) (fun _ => rfl) v7).setCell (p := ⟨g, o + 8, none⟩) (fun _ => rfl) v8).setCell (p := ⟨g, o + 9, none⟩) (fun _ => rfl) v9).setCell (p := ⟨g, o + 10, none⟩) (fun _ => rfl) v10).setCell (p := ⟨g, o + 11, none⟩) (fun _ => rfl) v11⟩
  rw [hd _ _ _ _ (by omega), hd _ _ _ _ (by omega), hd _ _ _ _ (by omega), hd _ _ _ _ (by omega), hd _ _ _ _ (by omega), hd _ _ _ _ (by omega), hd _ _ _ _ (by omega), hd _ _ _ _ (by omega), hd _ _ _ _ (by omega), hd _ _ _ _ (by omega), hd _ _ _ _ (by omega), hd _ _ _ _ (by omega)]

set_option maxHeartbeats 8000000 in
set_option maxRecDepth 100000 in
theorem popS_of {w : World} {B rb gone k : Nat} {V : Value} {items : List Value} (h : RW ST 12 w B rb V gone items (gone + k)) (hB : B ≤ w.heap.size) (hN : gone + k ≤ 1000000) (hk : 0 < k) (x0 x1 x2 x3 x4 : Int) (lk : Bool) (nm : ByteArray) (tk tn : Int) (tf : Nat) (ts : ByteArray) (ta : Option Addr) (tl tc : Nat) (rest : List Value)
    (hx : items.drop (gone * 12) = .int .i64 x0 :: .int .i64 x1 :: .int .i64 x2 :: .int .i64 x3 :: .int .i64 x4 :: .bool lk :: .string nm :: .int .i64 tk :: .int .i64 tn :: .float .f64 tf :: .string ts :: .slice ta tl tc :: rest) : Calls Tryz.prog 30 #[.pointer (some ⟨rb, 0, none⟩)] w fun e w' =>
    e = .returned (.tuple #[.agg #[.int .i64 x0, .int .i64 x1, .int .i64 x2, .int .i64 x3, .int .i64 x4, .bool lk, .string nm, .int .i64 tk, .int .i64 tn, .float .f64 tf, .string ts, .slice ta tl tc], .bool true]) ∧ ∃ V' gone' items' n', RW ST 12 w' B rb V' gone' items' n' ∧ items'.drop (gone' * 12) = rest ∧ n' + 1 = gone' + k ∧ n' ≤ gone + k ∧ But (fun j => j = rb ∨ V.ownBlock = some j) w w' ∧ Stays w V V' := by
  have HL := hidb (fun w' (hb : Below w.heap.size w w') => lenS_of (h.keep hb) (by omega))
  rw [show gone + k - gone = k by omega] at HL
  have HH := hidb h
  obtain ⟨c0, c1, f0, f1, hlt⟩ := h.duo
  obtain ⟨g, cap, rfl⟩ : ∃ g cap, V = .slice (some ⟨g, 0, none⟩) (gone + k) cap := by
    rcases h.own.2 with ⟨_, h0⟩ | ⟨g, cap, cur, hv, _⟩
    · omega
    · exact ⟨g, cap, hv⟩
  have hkz : ((k : Int) == 0) = false := by simp; omega
  have hi1 : (gone : Int) < (gone : Int) + (k : Int) := by omega
  have hi2 : (0 : Int) ≤ (gone : Int) := by omega
  have hgr : g ≠ rb := fun e => h.ne (by simp [Value.ownBlock, e])
  have hg1 : IntKind.i64.wrap ((gone : Int) + 1) = (gone : Int) + 1 := by rw [IntKind.wrap_i64]; omega
  have y0 : w.cell? ⟨g, gone * 12, none⟩ = some (.int .i64 x0) := by
    rw [h.own.cellAt _ (by omega)]
    have := List.getElem?_drop (xs := items) (i := gone * 12) (j := 0)
    rw [hx] at this
    simpa using this.symm
  have yf0 := h.own.frozenAt (gone * 12)
  have y1 : w.cell? ⟨g, gone * 12 + 1, none⟩ = some (.int .i64 x1) := by
    rw [h.own.cellAt _ (by omega)]
    have := List.getElem?_drop (xs := items) (i := gone * 12) (j := 1)
    rw [hx] at this
    simpa using this.symm
  have yf1 := h.own.frozenAt (gone * 12 + 1)
  have y2 : w.cell? ⟨g, gone * 12 + 2, none⟩ = some (.int .i64 x2) := by
    rw [h.own.cellAt _ (by omega)]
    have := List.getElem?_drop (xs := items) (i := gone * 12) (j := 2)
    rw [hx] at this
    simpa using this.symm
  have yf2 := h.own.frozenAt (gone * 12 + 2)
  have y3 : w.cell? ⟨g, gone * 12 + 3, none⟩ = some (.int .i64 x3) := by
    rw [h.own.cellAt _ (by omega)]
    have := List.getElem?_drop (xs := items) (i := gone * 12) (j := 3)
    rw [hx] at this
    simpa using this.symm
  have yf3 := h.own.frozenAt (gone * 12 + 3)
  have y4 : w.cell? ⟨g, gone * 12 + 4, none⟩ = some (.int .i64 x4) := by
    rw [h.own.cellAt _ (by omega)]
    have := List.getElem?_drop (xs := items) (i := gone * 12) (j := 4)
    rw [hx] at this
    simpa using this.symm
  have yf4 := h.own.frozenAt (gone * 12 + 4)
  have y5 : w.cell? ⟨g, gone * 12 + 5, none⟩ = some (.bool lk) := by
    rw [h.own.cellAt _ (by omega)]
    have := List.getElem?_drop (xs := items) (i := gone * 12) (j := 5)
    rw [hx] at this
    simpa using this.symm
  have yf5 := h.own.frozenAt (gone * 12 + 5)
  have y6 : w.cell? ⟨g, gone * 12 + 6, none⟩ = some (.string nm) := by
    rw [h.own.cellAt _ (by omega)]
    have := List.getElem?_drop (xs := items) (i := gone * 12) (j := 6)
    rw [hx] at this
    simpa using this.symm
  have yf6 := h.own.frozenAt (gone * 12 + 6)
  have y7 : w.cell? ⟨g, gone * 12 + 7, none⟩ = some (.int .i64 tk) := by
    rw [h.own.cellAt _ (by omega)]
    have := List.getElem?_drop (xs := items) (i := gone * 12) (j := 7)
    rw [hx] at this
    simpa using this.symm
  have yf7 := h.own.frozenAt (gone * 12 + 7)
  have y8 : w.cell? ⟨g, gone * 12 + 8, none⟩ = some (.int .i64 tn) := by
    rw [h.own.cellAt _ (by omega)]
    have := List.getElem?_drop (xs := items) (i := gone * 12) (j := 8)
    rw [hx] at this
    simpa using this.symm
  have yf8 := h.own.frozenAt (gone * 12 + 8)
  have y9 : w.cell? ⟨g, gone * 12 + 9, none⟩ = some (.float .f64 tf) := by
    rw [h.own.cellAt _ (by omega)]
    have := List.getElem?_drop (xs := items) (i := gone * 12) (j := 9)
    rw [hx] at this
    simpa using this.symm
  have yf9 := h.own.frozenAt (gone * 12 + 9)
  have y10 : w.cell? ⟨g, gone * 12 + 10, none⟩ = some (.string ts) := by
    rw [h.own.cellAt _ (by omega)]
    have := List.getElem?_drop (xs := items) (i := gone * 12) (j := 10)
    rw [hx] at this
    simpa using this.symm
  have yf10 := h.own.frozenAt (gone * 12 + 10)
  have y11 : w.cell? ⟨g, gone * 12 + 11, none⟩ = some (.slice ta tl tc) := by
    rw [h.own.cellAt _ (by omega)]
    have := List.getElem?_drop (xs := items) (i := gone * 12) (j := 11)
    rw [hx] at this
    simpa using this.symm
  have yf11 := h.own.frozenAt (gone * 12 + 11)
  have hgl : g < w.heap.size := World.block_lt_of_cell? w _ y0
  have HX := hidb hx
  have HS : Hid ((w.alloc (.cells #[.int .i64 0, .int .i64 0, .int .i64 0, .int .i64 0, .int .i64 0, .bool false, .string ⟨#[]⟩, .int .i64 0, .int .i64 0, .float .f64 0, .string ⟨#[]⟩, .slice none 0 0] ST)).heap[w.heap.size]? = some (.cells #[.int .i64 0, .int .i64 0, .int .i64 0, .int .i64 0, .int .i64 0, .bool false, .string ⟨#[]⟩, .int .i64 0, .int .i64 0, .float .f64 0, .string ⟨#[]⟩, .slice none 0 0] ST)) := hidb (at_new w _)
  clear h hx
  go_enter Tryz.func30, Tryz.ntmps30
  go_wp2_with (go_at_call 29; refine (HL.out _ (below_new w _)).mono ?_; rintro e w1 ⟨rfl, hb0⟩; have HB0 := hidb hb0; clear hb0 HL)
  have hbW : Below w.heap.size w (w1.alloc (.cells #[.int .i64 0, .int .i64 0, .int .i64 0, .int .i64 0, .int .i64 0, .bool false, .string ⟨#[]⟩, .int .i64 0, .int .i64 0, .float .f64 0, .string ⟨#[]⟩, .slice none 0 0] ST)) := ((below_new w (.cells #[.int .i64 0, .int .i64 0, .int .i64 0, .int .i64 0, .int .i64 0, .bool false, .string ⟨#[]⟩, .int .i64 0, .int .i64 0, .float .f64 0, .string ⟨#[]⟩, .slice none 0 0] ST)).trans (HB0.out.mono (by simp))).alloc (Nat.le_trans (by simp) HB0.out.size) _
  have HBW := hidb hbW
  have H1 := hidb (HH.out.keep hbW)
  have d0 := (hbW.cell (p := ⟨rb, 0, none⟩) hlt).trans c0
  have d1 := (hbW.cell (p := ⟨rb, 1, none⟩) hlt).trans c1
  have e0 := (hbW.frozen (p := ⟨rb, 0, none⟩) hlt).trans f0
  have e1 := (hbW.frozen (p := ⟨rb, 1, none⟩) hlt).trans f1
  have z0 := (hbW.cell (p := ⟨g, gone * 12, none⟩) hgl).trans y0
  have zf0 := (hbW.frozen (p := ⟨g, gone * 12, none⟩) hgl).trans yf0
  have z1 := (hbW.cell (p := ⟨g, gone * 12 + 1, none⟩) hgl).trans y1
  have zf1 := (hbW.frozen (p := ⟨g, gone * 12 + 1, none⟩) hgl).trans yf1
  have z2 := (hbW.cell (p := ⟨g, gone * 12 + 2, none⟩) hgl).trans y2
  have zf2 := (hbW.frozen (p := ⟨g, gone * 12 + 2, none⟩) hgl).trans yf2
  have z3 := (hbW.cell (p := ⟨g, gone * 12 + 3, none⟩) hgl).trans y3
  have zf3 := (hbW.frozen (p := ⟨g, gone * 12 + 3, none⟩) hgl).trans yf3
  have z4 := (hbW.cell (p := ⟨g, gone * 12 + 4, none⟩) hgl).trans y4
  have zf4 := (hbW.frozen (p := ⟨g, gone * 12 + 4, none⟩) hgl).trans yf4
  have z5 := (hbW.cell (p := ⟨g, gone * 12 + 5, none⟩) hgl).trans y5
  have zf5 := (hbW.frozen (p := ⟨g, gone * 12 + 5, none⟩) hgl).trans yf5
  have z6 := (hbW.cell (p := ⟨g, gone * 12 + 6, none⟩) hgl).trans y6
  have zf6 := (hbW.frozen (p := ⟨g, gone * 12 + 6, none⟩) hgl).trans yf6
  have z7 := (hbW.cell (p := ⟨g, gone * 12 + 7, none⟩) hgl).trans y7
  have zf7 := (hbW.frozen (p := ⟨g, gone * 12 + 7, none⟩) hgl).trans yf7
  have z8 := (hbW.cell (p := ⟨g, gone * 12 + 8, none⟩) hgl).trans y8
  have zf8 := (hbW.frozen (p := ⟨g, gone * 12 + 8, none⟩) hgl).trans yf8
  have z9 := (hbW.cell (p := ⟨g, gone * 12 + 9, none⟩) hgl).trans y9
  have zf9 := (hbW.frozen (p := ⟨g, gone * 12 + 9, none⟩) hgl).trans yf9
  have z10 := (hbW.cell (p := ⟨g, gone * 12 + 10, none⟩) hgl).trans y10
  have zf10 := (hbW.frozen (p := ⟨g, gone * 12 + 10, none⟩) hgl).trans yf10
  have z11 := (hbW.cell (p := ⟨g, gone * 12 + 11, none⟩) hgl).trans y11
  have zf11 := (hbW.frozen (p := ⟨g, gone * 12 + 11, none⟩) hgl).trans yf11
  have hs1 := at_keep HS.out HB0.out
  have hwl : w.heap.size < w1.heap.size := (Array.getElem?_eq_some_iff.1 hs1).1
  have hs2 := at_keep hs1 (below_new w1 (.cells #[.int .i64 0, .int .i64 0, .int .i64 0, .int .i64 0, .int .i64 0, .bool false, .string ⟨#[]⟩, .int .i64 0, .int .i64 0, .float .f64 0, .string ⟨#[]⟩, .slice none 0 0] ST))
  have HS2 := hidb hs2
  obtain ⟨r0, r1, r2, r3, r4, r5, r6, r7, r8, r9, r10, r11⟩ := box12 hs2
  obtain ⟨g0, g1, g2, g3, g4, g5, g6, g7, g8, g9, g10, g11⟩ := fro12 hs2
  obtain ⟨m0, m1, m2, m3, m4, m5, m6, m7, m8, m9, m10, m11⟩ := box12 (at_new w1 (.cells #[.int .i64 0, .int .i64 0, .int .i64 0, .int .i64 0, .int .i64 0, .bool false, .string ⟨#[]⟩, .int .i64 0, .int .i64 0, .float .f64 0, .string ⟨#[]⟩, .slice none 0 0] ST))
  have hq1 : g ≠ w.heap.size := by omega
  have hq2 : w.heap.size ≠ g := by omega
  have hq3 : rb ≠ w.heap.size := by omega
  have hq4 : w.heap.size ≠ rb := by omega
  have hq5 : w1.heap.size ≠ w.heap.size := by omega
  have hq6 : w.heap.size ≠ w1.heap.size := by omega
  have hq7 : g ≠ w1.heap.size := by omega
  have hq8 : w1.heap.size ≠ g := by omega
  have hq9 : rb ≠ g := fun e => hgr e.symm
  clear c0 c1 f0 f1 y0 yf0 y1 yf1 y2 yf2 y3 yf3 y4 yf4 y5 yf5 y6 yf6 y7 yf7 y8 yf8 y9 yf9 y10 yf10 y11 yf11 hbW hs1 hs2 HS HB0
  generalize w1.alloc (.cells #[.int .i64 0, .int .i64 0, .int .i64 0, .int .i64 0, .int .i64 0, .bool false, .string ⟨#[]⟩, .int .i64 0, .int .i64 0, .float .f64 0, .string ⟨#[]⟩, .slice none 0 0] ST) = W at *
  generalize w1.heap.size = nb at *
  go_region
  have hbW' := ((((((((((((HBW.out.setCell (p := ⟨w.heap.size, 0, none⟩) (Nat.le_refl _) (.int .i64 x0)).setCell (p := ⟨w.heap.size, 1, none⟩) (Nat.le_refl _) (.int .i64 x1)).setCell (p := ⟨w.heap.size, 2, none⟩) (Nat.le_refl _) (.int .i64 x2)).setCell (p := ⟨w.heap.size, 3, none⟩) (Nat.le_refl _) (.int .i64 x3)).setCell (p := ⟨w.heap.size, 4, none⟩) (Nat.le_refl _) (.int .i64 x4)).setCell (p := ⟨w.heap.size, 5, none⟩) (Nat.le_refl _) (.bool lk)).setCell (p := ⟨w.heap.size, 6, none⟩) (Nat.le_refl _) (.string nm)).setCell (p := ⟨w.heap.size, 7, none⟩) (Nat.le_refl _) (.int .i64 tk)).setCell (p := ⟨w.heap.size, 8, none⟩) (Nat.le_refl _) (.int .i64 tn)).setCell (p := ⟨w.heap.size, 9, none⟩) (Nat.le_refl _) (.float .f64 tf)).setCell (p := ⟨w.heap.size, 10, none⟩) (Nat.le_refl _) (.string ts)).setCell (p := ⟨w.heap.size, 11, none⟩) (Nat.le_refl _) (.slice ta tl tc))
  have H1' := HH.out.keep hbW'
  have HSX := hidb (set_box12 (u0 := (.int .i64 x0)) (u1 := (.int .i64 x1)) (u2 := (.int .i64 x2)) (u3 := (.int .i64 x3)) (u4 := (.int .i64 x4)) (u5 := (.bool lk)) (u6 := (.string nm)) (u7 := (.int .i64 tk)) (u8 := (.int .i64 tn)) (u9 := (.float .f64 tf)) (u10 := (.string ts)) (u11 := (.slice ta tl tc)) HS2.out)
  generalize hW' : ((((((((((((W.setCell ⟨w.heap.size, 0, none⟩ (.int .i64 x0)).setCell ⟨w.heap.size, 1, none⟩ (.int .i64 x1)).setCell ⟨w.heap.size, 2, none⟩ (.int .i64 x2)).setCell ⟨w.heap.size, 3, none⟩ (.int .i64 x3)).setCell ⟨w.heap.size, 4, none⟩ (.int .i64 x4)).setCell ⟨w.heap.size, 5, none⟩ (.bool lk)).setCell ⟨w.heap.size, 6, none⟩ (.string nm)).setCell ⟨w.heap.size, 7, none⟩ (.int .i64 tk)).setCell ⟨w.heap.size, 8, none⟩ (.int .i64 tn)).setCell ⟨w.heap.size, 9, none⟩ (.float .f64 tf)).setCell ⟨w.heap.size, 10, none⟩ (.string ts)).setCell ⟨w.heap.size, 11, none⟩ (.slice ta tl tc)) = W' at *
  obtain ⟨ys, hy1, hy2, hy3, hy4⟩ := own_set12 H1'.own (gone * 12) (.int .i64 0) (.int .i64 0) (.int .i64 0) (.int .i64 0) (.int .i64 0) (.bool false) (.string ⟨#[]⟩) (.int .i64 0) (.int .i64 0) (.float .f64 0) (.string ⟨#[]⟩) (.slice none 0 0) H1'.one (by intro u hu; simp at hu; rcases hu with rfl | rfl | rfl | rfl | rfl | rfl | rfl | rfl | rfl | rfl | rfl | rfl <;> rfl)
  have P2 := hidb (pop_gone H1' hk hy1.drew hy3 ((hy4.mono (S' := fun j => (Value.slice (some (⟨g, 0, none⟩ : Addr)) (gone + k) cap).ownBlock = some j) (fun j _ e => by rw [e]; rfl)).drew))
  have hd2 := H1'.duo.but (hy4.drew) (fun e => hgr e.symm)
  have HY2 := hidb hy2
  have HS3 := hidb (at_drew ((hy4.block w.heap.size (Array.getElem?_eq_some_iff.1 HSX.out).1 hq2).trans HSX.out))
  have HBW1 := hidb hbW'
  clear hbW' H1' hy1 hy2 hy3 hy4 z0 zf0 r0 g0 m0 z1 zf1 r1 g1 m1 z2 zf2 r2 g2 m2 z3 zf3 r3 g3 m3 z4 zf4 r4 g4 m4 z5 zf5 r5 g5 m5 z6 zf6 r6 g6 m6 z7 zf7 r7 g7 m7 z8 zf8 r8 g8 m8 z9 zf9 r9 g9 m9 z10 zf10 r10 g10 m10 z11 zf11 r11 g11 m11 d0 d1 e0 e1 HSX H1 HBW hkz hi1 hi2
  generalize hW2 : ((((((((((((W'.setCell ⟨g, gone * 12, none⟩ (.int .i64 0)).setCell ⟨g, gone * 12 + 1, none⟩ (.int .i64 0)).setCell ⟨g, gone * 12 + 2, none⟩ (.int .i64 0)).setCell ⟨g, gone * 12 + 3, none⟩ (.int .i64 0)).setCell ⟨g, gone * 12 + 4, none⟩ (.int .i64 0)).setCell ⟨g, gone * 12 + 5, none⟩ (.bool false)).setCell ⟨g, gone * 12 + 6, none⟩ (.string ⟨#[]⟩)).setCell ⟨g, gone * 12 + 7, none⟩ (.int .i64 0)).setCell ⟨g, gone * 12 + 8, none⟩ (.int .i64 0)).setCell ⟨g, gone * 12 + 9, none⟩ (.float .f64 0)).setCell ⟨g, gone * 12 + 10, none⟩ (.string ⟨#[]⟩)).setCell ⟨g, gone * 12 + 11, none⟩ (.slice none 0 0)).drew = w2 at *
  have q0 := hd2.c0
  have q1 := hd2.c1
  have q2 := hd2.f0
  have q3 := hd2.f1
  clear hW2 hd2 hW'
  go_wp2_with fail
  have HB2 := hidb P2.out.2
  have P3 := hidb P2.out.1
  have HS4 : Hid ((w2.setCell ⟨rb, 1, none⟩ (.int .i64 ((gone : Int) + 1))).heap[w.heap.size]? = some (.cells #[.int .i64 x0, .int .i64 x1, .int .i64 x2, .int .i64 x3, .int .i64 x4, .bool lk, .string nm, .int .i64 tk, .int .i64 tn, .float .f64 tf, .string ts, .slice ta tl tc] ST)) := hidb ((Below.heap_setCell w2 ⟨rb, 1, none⟩ _ w.heap.size hq4).trans HS3.out)
  clear P2 q0 q1 q2 q3 HS3
  generalize hW3 : w2.setCell ⟨rb, 1, none⟩ (.int .i64 ((gone : Int) + 1)) = w3 at *
  clear hW3
  have HL := hidb (fun w' (hb : Below w3.heap.size w3 w') => lenS_of (P3.out.keep hb) (by omega))
  obtain ⟨m, rfl⟩ : ∃ m, k = m + 1 := ⟨k - 1, by omega⟩
  rw [show gone + (m + 1) - (gone + 1) = m by omega] at HL
  have r1 := P3.out.duo.c1
  rw [show ((gone + 1 : Nat) : Int) = (gone : Int) + 1 by omega] at r1
  have hrl := P3.out.duo.lt
  go_region_held3 (fun w' => w'.cell? ⟨rb, 1, none⟩ = some (.int .i64 ((gone : Int) + 1))) (first | with_reducible exact r1 | with_reducible exact t1 | go_keep)
    (first | (go_at_call 29; refine (HL.out _ (Below.refl _ _).drew).mono ?_; rintro e w4 ⟨rfl, hb4⟩; have t1 := ((undrew hb4).cell (p := ⟨rb, 1, none⟩) hrl).trans r1; have HB4 := hidb (undrew hb4); clear hb4))
  have P4 := hidb (P3.out.keep HB4.out)
  have HS5 := hidb (at_keep HS4.out HB4.out)
  have HB := hidb ((But.of_below HBW1.out).trans ((HB2.out).trans (But.of_below HB4.out)))
  have HXX : Hid (ys.drop ((gone + 1) * 12) = rest) := hidb (by
    rw [HY2.out _ (by omega), show (gone + 1) * 12 = gone * 12 + 12 by omega, ← List.drop_drop, HX.out]
    rfl)
  by_cases hc : m < gone + 1
  · have hc' : (m : Int) < (gone : Int) + 1 := by omega
    obtain ⟨s0, s1, u0, u1, -⟩ := P4.out.duo
    have hrl4 := P4.out.duo.lt
    have AL := hidb (allS_of P4.out (by omega))
    rw [show gone + (m + 1) - (gone + 1) = m by omega] at AL
    have HSZ4 := hidb (Nat.le_trans HB.out.size (Nat.le_refl w4.heap.size))
    clear hc HL r1 t1 HB2 HB4 P3
    go_wp2_with (go_at_call 42; refine AL.out.mono ?_; rintro e w5 ⟨v, rfl, ho, hb5⟩; have HO := hidb ho; have HB5 := hidb hb5; have HS6 := hidb (at_keep HS5.out hb5); obtain ⟨j0, j1, j2, j3, j4, j5, j6, j7, j8, j9, j10, j11⟩ := box12 HS6.out; obtain ⟨h0, h1, h2, h3, h4, h5, h6, h7, h8, h9, h10, h11⟩ := fro12 HS6.out; have hx6 : w.heap.size < w5.heap.size := (Array.getElem?_eq_some_iff.1 HS6.out).1; have s0 := (hb5.cell (p := ⟨rb, 0, none⟩) hrl4).trans s0; have s1 := (hb5.cell (p := ⟨rb, 1, none⟩) hrl4).trans s1; have u0 := (hb5.frozen (p := ⟨rb, 0, none⟩) hrl4).trans u0; have u1 := (hb5.frozen (p := ⟨rb, 1, none⟩) hrl4).trans u1; obtain ⟨qv, cv, rfl⟩ := own_sl ho; clear hb5 ho)
    have PN := pop_new P4.out HB5.out HO.out (Nat.le_refl _) (Nat.le_trans hB HSZ4.out) (fun u hu => P4.out.one u (List.mem_of_mem_drop hu))
    have hs5 : w.heap.size < w4.heap.size := (Array.getElem?_eq_some_iff.1 HS5.out).1
    have hnv : (Value.slice qv m cv).ownBlock ≠ some w.heap.size := fun e => by have := (row_lt HO.out _ e).2; omega
    refine bodyPost_ret (v := .tuple #[.agg #[.int .i64 x0, .int .i64 x1, .int .i64 x2, .int .i64 x3, .int .i64 x4, .bool lk, .string nm, .int .i64 tk, .int .i64 tn, .float .f64 tf, .string ts, .slice ta tl tc], .bool true]) (by simp [results, Tryz.results30, go_sem, j0, j1, j2, j3, j4, j5, j6, j7, j8, j9, j10, j11]) rfl ⟨rfl, _, 0, _, m, ((((((((((((PN.1.box hq4 hnv).box hq4 hnv).box hq4 hnv).box hq4 hnv).box hq4 hnv).box hq4 hnv).box hq4 hnv).box hq4 hnv).box hq4 hnv).box hq4 hnv).box hq4 hnv).box hq4 hnv), ?_, by omega, by omega, (((((((((((((HB.out.trans (PN.2.1.mono (fun k _ h => .inl h))).setCell (p := ⟨w.heap.size, 0, none⟩) (fun h => absurd h (Nat.lt_irrefl _)) (.int .i64 x0)).setCell (p := ⟨w.heap.size, 1, none⟩) (fun h => absurd h (Nat.lt_irrefl _)) (.int .i64 x1)).setCell (p := ⟨w.heap.size, 2, none⟩) (fun h => absurd h (Nat.lt_irrefl _)) (.int .i64 x2)).setCell (p := ⟨w.heap.size, 3, none⟩) (fun h => absurd h (Nat.lt_irrefl _)) (.int .i64 x3)).setCell (p := ⟨w.heap.size, 4, none⟩) (fun h => absurd h (Nat.lt_irrefl _)) (.int .i64 x4)).setCell (p := ⟨w.heap.size, 5, none⟩) (fun h => absurd h (Nat.lt_irrefl _)) (.bool lk)).setCell (p := ⟨w.heap.size, 6, none⟩) (fun h => absurd h (Nat.lt_irrefl _)) (.string nm)).setCell (p := ⟨w.heap.size, 7, none⟩) (fun h => absurd h (Nat.lt_irrefl _)) (.int .i64 tk)).setCell (p := ⟨w.heap.size, 8, none⟩) (fun h => absurd h (Nat.lt_irrefl _)) (.int .i64 tn)).setCell (p := ⟨w.heap.size, 9, none⟩) (fun h => absurd h (Nat.lt_irrefl _)) (.float .f64 tf)).setCell (p := ⟨w.heap.size, 10, none⟩) (fun h => absurd h (Nat.lt_irrefl _)) (.string ts)).setCell (p := ⟨w.heap.size, 11, none⟩) (fun h => absurd h (Nat.lt_irrefl _)) (.slice ta tl tc)), ?_⟩
    · rw [Nat.zero_mul, List.drop_zero, HXX.out]
    · rcases PN.2.2 with e | e
      · exact .inl e
      · exact .inr fun k hk => Nat.le_trans HSZ4.out (e k hk)
  · have hc' : ¬ (m : Int) < (gone : Int) + 1 := by omega
    obtain ⟨j0, j1, j2, j3, j4, j5, j6, j7, j8, j9, j10, j11⟩ := box12 HS5.out
    obtain ⟨h0, h1, h2, h3, h4, h5, h6, h7, h8, h9, h10, h11⟩ := fro12 HS5.out
    have hx5 : w.heap.size < w4.heap.size := (Array.getElem?_eq_some_iff.1 HS5.out).1
    clear hc HL r1 t1 HB2 HB4 P3
    go_wp2_with fail
    have hnv : (Value.slice (some (⟨g, 0, none⟩ : Addr)) (gone + (m + 1)) cap).ownBlock ≠ some w.heap.size := fun e => hq1 (by simpa [Value.ownBlock] using e)
    exact bodyPost_ret (v := .tuple #[.agg #[.int .i64 x0, .int .i64 x1, .int .i64 x2, .int .i64 x3, .int .i64 x4, .bool lk, .string nm, .int .i64 tk, .int .i64 tn, .float .f64 tf, .string ts, .slice ta tl tc], .bool true]) (by simp [results, Tryz.results30, go_sem, j0, j1, j2, j3, j4, j5, j6, j7, j8, j9, j10, j11]) rfl ⟨rfl, _, gone + 1, _, gone + (m + 1), ((((((((((((P4.out.box hq4 hnv).box hq4 hnv).box hq4 hnv).box hq4 hnv).box hq4 hnv).box hq4 hnv).box hq4 hnv).box hq4 hnv).box hq4 hnv).box hq4 hnv).box hq4 hnv).box hq4 hnv), HXX.out, by omega, by omega, ((((((((((((HB.out.setCell (p := ⟨w.heap.size, 0, none⟩) (fun h => absurd h (Nat.lt_irrefl _)) (.int .i64 x0)).setCell (p := ⟨w.heap.size, 1, none⟩) (fun h => absurd h (Nat.lt_irrefl _)) (.int .i64 x1)).setCell (p := ⟨w.heap.size, 2, none⟩) (fun h => absurd h (Nat.lt_irrefl _)) (.int .i64 x2)).setCell (p := ⟨w.heap.size, 3, none⟩) (fun h => absurd h (Nat.lt_irrefl _)) (.int .i64 x3)).setCell (p := ⟨w.heap.size, 4, none⟩) (fun h => absurd h (Nat.lt_irrefl _)) (.int .i64 x4)).setCell (p := ⟨w.heap.size, 5, none⟩) (fun h => absurd h (Nat.lt_irrefl _)) (.bool lk)).setCell (p := ⟨w.heap.size, 6, none⟩) (fun h => absurd h (Nat.lt_irrefl _)) (.string nm)).setCell (p := ⟨w.heap.size, 7, none⟩) (fun h => absurd h (Nat.lt_irrefl _)) (.int .i64 tk)).setCell (p := ⟨w.heap.size, 8, none⟩) (fun h => absurd h (Nat.lt_irrefl _)) (.int .i64 tn)).setCell (p := ⟨w.heap.size, 9, none⟩) (fun h => absurd h (Nat.lt_irrefl _)) (.float .f64 tf)).setCell (p := ⟨w.heap.size, 10, none⟩) (fun h => absurd h (Nat.lt_irrefl _)) (.string ts)).setCell (p := ⟨w.heap.size, 11, none⟩) (fun h => absurd h (Nat.lt_irrefl _)) (.slice ta tl tc)), .inl rfl⟩

theorem popOk : PopOk := by
  intro w B rb k N V x0 x1 x2 x3 rest h hB hN
  obtain ⟨gone, items, n, h, hx, hn, hle⟩ := h
  subst hn
  refine (popS_of h hB (by omega) (by omega) x0 x1 x2 x3 0 false ⟨#[]⟩ 0 0 0 ⟨#[]⟩ none 0 0 rest hx).mono ?_
  rintro e w' ⟨rfl, V', g', items', n', h', h1, h2, h3, h4, h5⟩
  exact ⟨rfl, V', ⟨g', items', n', h', h1, by omega, by omega⟩, h4, h5⟩
end Go.Proofs.YtpcpdehnppfbfaaGreat


/- ownAll: the signals of a lane, each copied. -/
namespace Go.Proofs.YtpcpdehnppfbfaaGreat
open Go.RowKit Go.Lib
attribute [local go_sem] store_float f64bits
attribute [local go_sem ↓] Go.wp_at_zero Go.wp_at_succ

/-- What is stored where it lies already changes nothing. -/
theorem setCell_self {w : World} {p : Addr} {v : Value} (h : w.cell? p = some v) (hs : p.spot = none) : w.setCell p v = w := by
  obtain ⟨b, o, s⟩ := p
  simp only at hs
  subst hs
  unfold World.cell? at h
  simp only at h
  have e : w.heap.modify b (fun x => match x with | .cells c elem frozen => Obj.cells (c.setIfInBounds o v) elem frozen | o => o) = w.heap := by
    apply Array.ext
    · simp
    · intro i h1 h2
      rw [Array.getElem_modify]
      split
      · rename_i hb
        subst hb
        rw [Array.getElem?_eq_getElem h2] at h
        split at h
        · rename_i c elem frozen heq
          have hq : w.heap[b] = .cells c elem frozen := by simpa using heq
          rw [hq]
          simp only [Option.isSome_none, Bool.false_eq_true, if_false] at h
          obtain ⟨ho, hv⟩ := Array.getElem?_eq_some_iff.1 h
          subst hv
          have e2 : c.setIfInBounds o c[o] = c := by
            apply Array.ext
            · simp
            · intro i h3 h4
              rw [Array.getElem_setIfInBounds (by simpa using h4)]
              split
              · rename_i hh; subst hh; rfl
              · rfl
          simp [e2]
        · cases h
      · rfl
  exact congrArg (fun hp => ({ w with heap := hp } : World)) e

def sgls (ss : List (Int × Int × Int × Int)) : List Value := ss.flatMap fun s => sgl s.1 s.2.1 s.2.2.1 s.2.2.2
theorem sgls_drop (ss : List (Int × Int × Int × Int)) (i : Nat) : (sgls ss).drop (i * 12) = sgls (ss.drop i) := by
  induction ss generalizing i with
  | nil => simp [sgls]
  | cons s ss ih =>
    cases i with
    | zero => simp
    | succ i =>
      have e : sgls (s :: ss) = sgl s.1 s.2.1 s.2.2.1 s.2.2.2 ++ sgls ss := rfl
      rw [e, List.drop_succ_cons, ← ih i, show (i + 1) * 12 = 12 + i * 12 by omega, ← List.drop_drop]
      congr 1
theorem sgls_at {ss : List (Int × Int × Int × Int)} {i : Nat} {s : Int × Int × Int × Int} (h : ss[i]? = some s) (q : Nat) (hq : q < 12) : (sgls ss)[i * 12 + q]? = (sgl s.1 s.2.1 s.2.2.1 s.2.2.2)[q]? := by
  have e := sgls_drop ss i
  have e2 : ss.drop i = s :: ss.drop (i + 1) := by
    obtain ⟨hl, he⟩ := List.getElem?_eq_some_iff.1 h
    rw [List.drop_eq_getElem_cons hl, he]
  rw [e2] at e
  have e3 := congrArg (fun l => l[q]?) e
  simp only [List.getElem?_drop] at e3
  rw [e3]
  show (sgl s.1 s.2.1 s.2.2.1 s.2.2.2 ++ sgls (ss.drop (i + 1)))[q]? = _
  exact List.getElem?_append_left (by simpa [sgl] using hq)

set_option maxHeartbeats 2000000 in
set_option maxRecDepth 100000 in
theorem ownAll_any {w : World} {B rb N : Nat} {V : Value} {ss : List (Int × Int × Int × Int)} (h : Rw ST 12 w B rb V (sgls ss) ss.length N) (hN : N ≤ 1000000) (hss : ss.length ≤ 1000000) :
    Calls Tryz.prog 26 #[.pointer (some ⟨rb, 0, none⟩)] w fun e w' => ∃ v, e = .returned v ∧ w'.ownsRow w.heap.size ST 12 v ss.length (sgls ss) ∧ Below w.heap.size w w' := by
  have HA := hidb (allS_any h hN)
  clear h
  go_enter Tryz.func26, Tryz.ntmps26
  go_wp2_with (go_at_call 42; refine HA.out.mono ?_; rintro e w1 ⟨v, rfl, hO, hb1⟩; obtain ⟨a, c, rfl⟩ := own_sl hO; have HO := hidb hO; have HB := hidb hb1; clear hO hb1 HA)
  go_loopw [9] (fun iv wr => ∃ m : Nat, m ≤ ss.length ∧ iv = .int .i64 m ∧ wr.ownsRow w.heap.size ST 12 (.slice a ss.length c) ss.length (sgls ss) ∧ Below w.heap.size w wr) (fun iv _ => ss.length - (intOf iv).toNat)
  case atStart => exact ⟨0, by omega, rfl, HO.out, HB.out⟩
  case round =>
  obtain ⟨m, hm, rfl, hO, hbel⟩ := hrel
  have HW := hidb hbel
  clear hbel
  by_cases hml : m < ss.length
  · have hmb : (m : Int) < (ss.length : Int) := by omega
    have hmz : (0 : Int) ≤ (m : Int) := by omega
    have hmw : IntKind.i64.wrap ((m : Int) + 1) = (m : Int) + 1 := by rw [IntKind.wrap_i64]; omega
    obtain ⟨g, rfl⟩ : ∃ g, a = some ⟨g, 0, none⟩ := by
      rcases hO.2 with ⟨_, h0⟩ | ⟨g, cap, cur, hv, _⟩
      · omega
      · exact ⟨g, by simpa using (Value.slice.inj hv).1⟩
    obtain ⟨⟨x0, x1, x2, x3⟩, hx⟩ : ∃ s, ss[m]? = some s := ⟨_, List.getElem?_eq_getElem hml⟩
    have yy : ∀ q, q < 12 → wr.cell? ⟨g, m * 12 + q, none⟩ = (sgl x0 x1 x2 x3)[q]? := fun q hq => (hO.cellAt _ (by omega)).trans (sgls_at hx q hq)
    have HOR := hidb hO
    have hgl : g < wr.heap.size := World.block_lt_of_cell? wr _ (yy 0 (by omega))
    have y0 : wr.cell? ⟨g, m * 12, none⟩ = some (.int .i64 x0) := yy 0 (by omega)
    have z0 := hO.frozenAt (m * 12)
    have y1 : wr.cell? ⟨g, m * 12 + 1, none⟩ = some (.int .i64 x1) := yy 1 (by omega)
    have z1 := hO.frozenAt (m * 12 + 1)
    have y2 : wr.cell? ⟨g, m * 12 + 2, none⟩ = some (.int .i64 x2) := yy 2 (by omega)
    have z2 := hO.frozenAt (m * 12 + 2)
    have y3 : wr.cell? ⟨g, m * 12 + 3, none⟩ = some (.int .i64 x3) := yy 3 (by omega)
    have z3 := hO.frozenAt (m * 12 + 3)
    have y4 : wr.cell? ⟨g, m * 12 + 4, none⟩ = some (.int .i64 0) := yy 4 (by omega)
    have z4 := hO.frozenAt (m * 12 + 4)
    have y5 : wr.cell? ⟨g, m * 12 + 5, none⟩ = some (.bool false) := yy 5 (by omega)
    have z5 := hO.frozenAt (m * 12 + 5)
    have y6 : wr.cell? ⟨g, m * 12 + 6, none⟩ = some (.string ⟨#[]⟩) := yy 6 (by omega)
    have z6 := hO.frozenAt (m * 12 + 6)
    have y7 : wr.cell? ⟨g, m * 12 + 7, none⟩ = some (.int .i64 0) := yy 7 (by omega)
    have z7 := hO.frozenAt (m * 12 + 7)
    have y8 : wr.cell? ⟨g, m * 12 + 8, none⟩ = some (.int .i64 0) := yy 8 (by omega)
    have z8 := hO.frozenAt (m * 12 + 8)
    have y9 : wr.cell? ⟨g, m * 12 + 9, none⟩ = some (.float .f64 0) := yy 9 (by omega)
    have z9 := hO.frozenAt (m * 12 + 9)
    have y10 : wr.cell? ⟨g, m * 12 + 10, none⟩ = some (.string ⟨#[]⟩) := yy 10 (by omega)
    have z10 := hO.frozenAt (m * 12 + 10)
    have y11 : wr.cell? ⟨g, m * 12 + 11, none⟩ = some (.slice none 0 0) := yy 11 (by omega)
    have z11 := hO.frozenAt (m * 12 + 11)
    clear hx hO
    have HOW := hidb (own_leaf x0 x1 x2 x3 0 false ⟨#[]⟩ 0 0 0 ⟨#[]⟩ none 0)
    generalize ss.length = L at *
    clear yy HO HB
    go_wp2_with (go_at_call 21; refine (HOW.out _).mono ?_; rintro e w2 ⟨rfl, hb2⟩; have k0 := (hb2.cell (p := ⟨g, m * 12, none⟩) hgl).trans y0; have j0 := (hb2.frozen (p := ⟨g, m * 12, none⟩) hgl).trans z0; have k1 := (hb2.cell (p := ⟨g, m * 12 + 1, none⟩) hgl).trans y1; have j1 := (hb2.frozen (p := ⟨g, m * 12 + 1, none⟩) hgl).trans z1; have k2 := (hb2.cell (p := ⟨g, m * 12 + 2, none⟩) hgl).trans y2; have j2 := (hb2.frozen (p := ⟨g, m * 12 + 2, none⟩) hgl).trans z2; have k3 := (hb2.cell (p := ⟨g, m * 12 + 3, none⟩) hgl).trans y3; have j3 := (hb2.frozen (p := ⟨g, m * 12 + 3, none⟩) hgl).trans z3; have k4 := (hb2.cell (p := ⟨g, m * 12 + 4, none⟩) hgl).trans y4; have j4 := (hb2.frozen (p := ⟨g, m * 12 + 4, none⟩) hgl).trans z4; have k5 := (hb2.cell (p := ⟨g, m * 12 + 5, none⟩) hgl).trans y5; have j5 := (hb2.frozen (p := ⟨g, m * 12 + 5, none⟩) hgl).trans z5; have k6 := (hb2.cell (p := ⟨g, m * 12 + 6, none⟩) hgl).trans y6; have j6 := (hb2.frozen (p := ⟨g, m * 12 + 6, none⟩) hgl).trans z6; have k7 := (hb2.cell (p := ⟨g, m * 12 + 7, none⟩) hgl).trans y7; have j7 := (hb2.frozen (p := ⟨g, m * 12 + 7, none⟩) hgl).trans z7; have k8 := (hb2.cell (p := ⟨g, m * 12 + 8, none⟩) hgl).trans y8; have j8 := (hb2.frozen (p := ⟨g, m * 12 + 8, none⟩) hgl).trans z8; have k9 := (hb2.cell (p := ⟨g, m * 12 + 9, none⟩) hgl).trans y9; have j9 := (hb2.frozen (p := ⟨g, m * 12 + 9, none⟩) hgl).trans z9; have k10 := (hb2.cell (p := ⟨g, m * 12 + 10, none⟩) hgl).trans y10; have j10 := (hb2.frozen (p := ⟨g, m * 12 + 10, none⟩) hgl).trans z10; have k11 := (hb2.cell (p := ⟨g, m * 12 + 11, none⟩) hgl).trans y11; have j11 := (hb2.frozen (p := ⟨g, m * 12 + 11, none⟩) hgl).trans z11; have HO2 := hidb (row_but HOR.out (But.of_below (S := fun _ => False) hb2) (fun _ _ h => h)); have HW2 := hidb (HW.out.trans (hb2.mono HW.out.size)); clear hb2)
    rw [setCell_self k0 rfl, setCell_self k1 rfl, setCell_self k2 rfl, setCell_self k3 rfl, setCell_self k4 rfl, setCell_self k5 rfl, setCell_self k6 rfl, setCell_self k7 rfl, setCell_self k8 rfl, setCell_self k9 rfl, setCell_self k10 rfl, setCell_self k11 rfl]
    exact ⟨⟨m + 1, by omega, by go_num, HO2.out, HW2.out⟩, by simp [intOf]; omega⟩
  have hmn : ¬ (m : Int) < (ss.length : Int) := by omega
  go_wp2_with fail
  go_ret
  exact ⟨_, rfl, hO, HW.out⟩
end Go.Proofs.YtpcpdehnppfbfaaGreat


