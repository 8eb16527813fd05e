/- open. -/
import Derived.Test.YtodelafnboimnaaGreatEe0
import Derived.Test.YtodelafnboimnaaGreatEc2
namespace Go.Proofs.YtodelafnboimnaaGreat
open Go.RowKit Go.Lib Go.Maps
attribute [local go_sem] store_float f64bits
attribute [local go_sem ↓] Go.wp_at_zero Go.wp_at_succ

variable {w0 w : World} {eb all N : Nat} {mv : Value} {f : Int → Int → Option Lane}

theorem map_eq0 (mb : Nat) (w : World) : (binOp BinOp.eql MT (.map (some mb)) (.map none)).run Tryz.prog w = .ok (.bool false) w := by kernel_rfl
theorem map_eq1 (w : World) : (binOp BinOp.eql MT (.map none) (.map none)).run Tryz.prog w = .ok (.bool true) w := by kernel_rfl
attribute [local go_sem] map_eq0 map_eq1

theorem wpList_look {w : World} {ops : Array Oper} {rest : List Oper} {o : Oper} {a : Act} {Q : Exit → Act → World → Prop} (hg : o.guard = none) (m x : Operand) (hop : o.op = Op.lookup MT m x true) {mb n : Nat} {f : Int → Int → Option Nat} (h : EM w mb n f) {i j : Int} (hi : wfi i) (hj : wfi j) {r : Nat} (hf : f i j = some r)
    (hm : a.eval m = .map (some mb)) (hx : a.eval x = kv i j) (hK : wpList Tryz.prog ops Q rest (a.put o.dst (.tuple #[.pointer (some ⟨r, 0, none⟩), .bool true])) w) : wpList Tryz.prog ops Q (o :: rest) a w := by
  refine wpList_plain hg fun K' hK' => ?_
  unfold Oper.wp
  simp [execOp, hop, hm, hx, h.look hi hj hf, Result.andThen]
  exact hK' _ _ hK
theorem wpList_look0 {w : World} {ops : Array Oper} {rest : List Oper} {o : Oper} {a : Act} {Q : Exit → Act → World → Prop} (hg : o.guard = none) (m x : Operand) (hop : o.op = Op.lookup MT m x true) {mb n : Nat} {f : Int → Int → Option Nat} (h : EM w mb n f) {i j : Int} (hi : wfi i) (hj : wfi j) (hf : f i j = none)
    (hm : a.eval m = .map (some mb)) (hx : a.eval x = kv i j) (hK : wpList Tryz.prog ops Q rest (a.put o.dst (.tuple #[.pointer none, .bool false])) w) : wpList Tryz.prog ops Q (o :: rest) a w := by
  refine wpList_plain hg fun K' hK' => ?_
  unfold Oper.wp
  simp [execOp, hop, hm, hx, h.look0 hi hj hf, Result.andThen]
  exact hK' _ _ hK
theorem wpList_put {w : World} {ops : Array Oper} {rest : List Oper} {o : Oper} {a : Act} {Q : Exit → Act → World → Prop} (hg : o.guard = none) (m x v : Operand) (hop : o.op = Op.mapUpdate MT m x v) {mb n : Nat} {f : Int → Int → Option Nat} (h : EM w mb n f) (hn : n < maxLen) {i j : Int} (hi : wfi i) (hj : wfi j) {r : Nat}
    (hm : a.eval m = .map (some mb)) (hx : a.eval x = kv i j) (hv : a.eval v = .pointer (some ⟨r, 0, none⟩)) (hK : ∀ w', EM w' mb (n + 1) (upd f i j (some r)) → But (fun k => k = mb) w w' → wpList Tryz.prog ops Q rest (a.put o.dst undef) w') : wpList Tryz.prog ops Q (o :: rest) a w := by
  refine wpList_plain hg fun K' hK' => ?_
  obtain ⟨w', hrun, r1, r2⟩ := h.store hn hi hj r
  unfold Oper.wp
  simp [execOp, hop, hm, hx, hv, hrun, Result.andThen]
  exact hK' _ _ (hK w' r1 r2)

set_option maxHeartbeats 1000000 in
set_option maxRecDepth 100000 in
theorem open_old {i j : Int} (hi : wfi i) (hj : wfi j) {l : Lane} (h : EO w0 w eb mv f all N) (hl : f i j = some l) :
    Calls Tryz.prog 33 #[.pointer (some ⟨eb, 0, none⟩), kv i j] w fun e w' => e = .returned (.pointer (some ⟨l.rb, 0, none⟩)) ∧ Below w.heap.size w w' := by
  rcases h.map with ⟨_, hn⟩ | ⟨mb, n, rfl, he, -⟩
  · rw [hn] at hl; cases hl
  have hfr : (fun a b => (f a b).map Lane.rb) i j = some l.rb := by simp [hl]
  obtain ⟨c0, c1, f0, f1, hlt⟩ := h.duo
  have hlk := EM.look (he.but (But.of_below (S := fun _ => False) (Below.drew (below_new w (.cells #[.int .i64 i, .int .i64 j] KT)))) (fun h => h)) hi hj hfr
  clear h he hl hi hj hfr
  unfold kv at hlk ⊢
  go_enter Tryz.func33, Tryz.ntmps33
  go_wp2_with fail
  go_region
  all_goals go_wp2_with fail
  all_goals go_ret
  all_goals exact ⟨rfl, Below.drew (below_new w _)⟩

theorem EO.made (h : EO w0 w eb (.map none) f all N) : EO w0 ((w.alloc (.map #[] 0)).setCell ⟨eb, 0, none⟩ (.map (some w.heap.size))) eb (.map (some w.heap.size)) f all N := by
  have hlt := h.duo.lt
  have hf : ∀ a b, f a b = none := by
    rcases h.map with ⟨_, h⟩ | ⟨mb, n, e, _⟩
    · exact h
    · cases e
  have hb : But (fun k => k = eb) (w.alloc (.map #[] 0)) ((w.alloc (.map #[] 0)).setCell ⟨eb, 0, none⟩ (.map (some w.heap.size))) := (But.refl (fun k => k = eb) _).setCell (p := ⟨eb, 0, none⟩) (fun _ => rfl) _
  refine ⟨(h.duo.keep (below_new w _)).set0 _, .inr ⟨w.heap.size, 0, rfl, ?_, Nat.zero_le _, h.bel.size, by omega, fun a b l hl => (by rw [hf] at hl; cases hl)⟩, h.ge, fun a b l hl => (by rw [hf] at hl; cases hl), fun a b l a' b' l' hl => (by rw [hf] at hl; cases hl), (h.bel.alloc h.bel.size _).setCell h.ge _⟩
  have e : (fun a b => (f a b).map Lane.rb) = fun _ _ => none := by funext a b; rw [hf]; rfl
  rw [e]
  exact (em_made w).but hb (by omega)

theorem open_done {X w' : World} {mb n r : Nat} {i j : Int} (h : EO w0 X eb (.map (some mb)) f all N) (hi : wfi i) (hj : wfi j) (hfn : f i j = none) (hr : Rw ST 12 X w0.heap.size r (.slice none 0 0) [] 0 0) (hlt : w0.heap.size ≤ r) (hre : r ≠ eb) (hrm : r ≠ mb) (hfar : ∀ a b l, f a b = some l → ¬ foot l r)
    (hE : EM w' mb (n + 1) (upd (fun a b => (f a b).map Lane.rb) i j (some r))) (hb : But (fun k => k = mb) X w') (hn : n ≤ N) : EO w0 w' eb (.map (some mb)) (updL f i j (some ⟨r, .slice none 0 0, [], 0⟩)) all (N + 1) :=
  h.more hi hj rfl hfn hr hlt hre hrm hfar hE hb (by omega)

set_option maxHeartbeats 1000000 in
set_option maxRecDepth 100000 in
theorem open_new {i j : Int} (hi : wfi i) (hj : wfi j) {mb : Nat} (h : EO w0 w eb (.map (some mb)) f all N) (hl : f i j = none) (hN : N ≤ 1000000) :
    Calls Tryz.prog 33 #[.pointer (some ⟨eb, 0, none⟩), kv i j] w fun e w' => ∃ r, e = .returned (.pointer (some ⟨r, 0, none⟩)) ∧ EO w0 w' eb (.map (some mb)) (updL f i j (some ⟨r, .slice none 0 0, [], 0⟩)) all (N + 1) ∧ But (fun k => k = mb) w w' ∧ w.heap.size ≤ r := by
  rcases h.map with ⟨e, _⟩ | ⟨mb', n, e, he, hn, hm, hme, hmf⟩
  · cases e
  obtain rfl : mb = mb' := by simpa using e
  have hfr : (fun a b => (f a b).map Lane.rb) i j = none := by simp [hl]
  obtain ⟨c0, c1, f0, f1, hlt⟩ := h.duo
  have hX1 : Below w.heap.size w (w.alloc (.cells #[.int .i64 i, .int .i64 j] KT)).drew := Below.drew (below_new w _)
  have hlk := EM.look0 (he.but (But.of_below (S := fun _ => False) hX1) (fun h => h)) hi hj hfr
  have hX2 : Below w.heap.size w (((w.alloc (.cells #[.int .i64 i, .int .i64 j] KT)).alloc (.cells #[.slice none 0 0, .int .i64 0] 107)).drew).drew := Below.drew (Below.drew ((below_new w _).alloc (by simp) _))
  obtain ⟨w', hput, hE, hB⟩ := EM.store (he.but (But.of_below (S := fun _ => False) hX2) (fun h => h)) (by unfold maxLen; omega) hi hj (w.heap.size + 1)
  have hr : Rw ST 12 (((w.alloc (.cells #[.int .i64 i, .int .i64 j] KT)).alloc (.cells #[.slice none 0 0, .int .i64 0] 107)).drew).drew w0.heap.size (w.heap.size + 1) (.slice none 0 0) [] 0 0 := by
    have := (rw_new ST 12 (w.alloc (.cells #[.int .i64 i, .int .i64 j] KT)) w0.heap.size 107).keep (w' := (((w.alloc (.cells #[.int .i64 i, .int .i64 j] KT)).alloc (.cells #[.slice none 0 0, .int .i64 0] 107)).drew).drew) (Below.drew (Below.drew (Below.refl _ _)))
    simpa using this
  have hws := h.bel.size
  have hml := he.lt
  have HD := hidb (open_done (h.keep hX2) hi hj hl hr (by omega) (by omega) (by omega) (fun a b l hf hq => by have := (h.foot_lt hf hq).1; omega) hE hB hn)
  have NW := hidb (fun w' => newS w')
  have HBB := hidb ((But.of_below (S := fun k => k = mb) hX2).trans hB)
  clear h he hi hj hfr hE hB hr hX1 hX2 hl hmf e
  unfold kv at hlk hput ⊢
  go_enter Tryz.func33, Tryz.ntmps33
  go_wp2_with fail
  go_region
  all_goals go_wp2_with (go_at_call 52; refine (NW.out _).mono ?_; rintro e w2 ⟨rfl, rfl⟩)
  all_goals go_region
  all_goals go_wp2_with fail
  all_goals go_ret
  all_goals exact ⟨_, rfl, HD.out, HBB.out, Nat.le_succ _⟩

set_option maxHeartbeats 1000000 in
set_option maxRecDepth 100000 in
theorem open_first {i j : Int} (hi : wfi i) (hj : wfi j) (h : EO w0 w eb (.map none) f all N) (hN : N ≤ 1000000) :
    Calls Tryz.prog 33 #[.pointer (some ⟨eb, 0, none⟩), kv i j] w fun e w' => ∃ mb r, e = .returned (.pointer (some ⟨r, 0, none⟩)) ∧ EO w0 w' eb (.map (some mb)) (updL f i j (some ⟨r, .slice none 0 0, [], 0⟩)) all (N + 1) ∧ But (fun k => k = eb) w w' ∧ w.heap.size ≤ r ∧ w.heap.size ≤ mb := by
  have hl : f i j = none := by
    rcases h.map with ⟨_, h⟩ | ⟨mb, n, e, _⟩
    · exact h i j
    · cases e
  obtain ⟨c0, c1, f0, f1, hlt⟩ := h.duo
  have hmm := @run_makeMap Tryz.prog
  have H0 := hidb (h.keep (below_new w (.cells #[.int .i64 i, .int .i64 j] KT))).made
  have HX0 := hidb (at_keep (at_new w (.cells #[.int .i64 i, .int .i64 j] KT)) (below_new _ (.map #[] 0)))
  have NW := hidb (fun w' => newS w')
  clear h
  unfold kv
  go_enter Tryz.func33, Tryz.ntmps33
  go_wp2_with fail
  have h0 := H0.out
  rw [show (w.alloc (.cells #[.int .i64 i, .int .i64 j] KT)).heap.size = w.heap.size + 1 by simp] at h0
  have o0 : (((w.alloc (.cells #[.int .i64 i, .int .i64 j] KT)).alloc (.map #[] 0)).setCell ⟨eb, 0, none⟩ (.map (some (w.heap.size + 1)))).cell? ⟨w.heap.size, 0, none⟩ = some (.int .i64 i) := by
    rw [World.cell?_setCell_other _ _ _ _ (ne_blk3 _ _ _ _ (by omega)), cell_of_row _ _ _ _ _ _ HX0.out]; rfl
  have o1 : (((w.alloc (.cells #[.int .i64 i, .int .i64 j] KT)).alloc (.map #[] 0)).setCell ⟨eb, 0, none⟩ (.map (some (w.heap.size + 1)))).cell? ⟨w.heap.size, 1, none⟩ = some (.int .i64 j) := by
    rw [World.cell?_setCell_other _ _ _ _ (ne_blk3 _ _ _ _ (by omega)), cell_of_row _ _ _ _ _ _ HX0.out]; rfl
  clear H0 HX0 hmm c0 c1 f0 f1
  have hWW : ((w.alloc (.cells #[.int .i64 i, .int .i64 j] KT)).alloc (.map #[] 0)).setCell ⟨eb, 0, none⟩ (.map (some (w.heap.size + 1))) = ((w.setCell ⟨eb, 0, none⟩ (.map (some (w.heap.size + 1)))).alloc (.cells #[.int .i64 i, .int .i64 j] KT)).alloc (.map #[] 0) := by rw [World.setCell_alloc_past _ _ _ _ (by simp; omega), World.setCell_alloc_past _ _ _ _ hlt]
  have hbW : But (fun k => k = eb) w (((w.alloc (.cells #[.int .i64 i, .int .i64 j] KT)).alloc (.map #[] 0)).setCell ⟨eb, 0, none⟩ (.map (some (w.heap.size + 1)))) := (But.of_below (S := fun k => k = eb) ((below_new w _).alloc (by simp) _)).setCell (p := ⟨eb, 0, none⟩) (fun _ => rfl) _
  rw [hWW] at h0 o0 o1 hbW
  have hKT : KT = 75 := rfl
  simp only [hKT] at h0 o0 o1 hbW
  generalize ((w.setCell ⟨eb, 0, none⟩ (.map (some (w.heap.size + 1)))).alloc (.cells #[.int .i64 i, .int .i64 j] 75)).alloc (.map #[] 0) = W at *
  clear hWW hKT
  rcases h0.map with ⟨e, _⟩ | ⟨mb', n, e, he, hn, hm, hme, hmf⟩
  · cases e
  obtain rfl : w.heap.size + 1 = mb' := by simpa using e
  have hfr : (fun a b => (f a b).map Lane.rb) i j = none := by simp [hl]
  obtain ⟨c0, c1, f0, f1, hlt2⟩ := h0.duo
  have hX1 : Below W.heap.size W W.drew := (Below.refl _ _).drew
  have hlk := EM.look0 (he.but (But.of_below (S := fun _ => False) hX1) (fun h => h)) hi hj hfr
  have hX2 : Below W.heap.size W ((W.alloc (.cells #[.slice none 0 0, .int .i64 0] 107)).drew).drew := Below.drew (Below.drew (below_new W _))
  obtain ⟨w', hput, hE, hB⟩ := EM.store (he.but (But.of_below (S := fun _ => False) hX2) (fun h => h)) (by unfold maxLen; omega) hi hj W.heap.size
  have hr : Rw ST 12 ((W.alloc (.cells #[.slice none 0 0, .int .i64 0] 107)).drew).drew w0.heap.size W.heap.size (.slice none 0 0) [] 0 0 :=
    (rw_new ST 12 W w0.heap.size 107).keep (w' := ((W.alloc (.cells #[.slice none 0 0, .int .i64 0] 107)).drew).drew) (Below.drew (Below.drew (Below.refl _ _)))
  have hws := h0.bel.size
  have hml := he.lt
  have HD := hidb (open_done (h0.keep hX2) hi hj hl hr (by omega) (by omega) (by omega) (fun a b l hf hq => by have := (h0.foot_lt hf hq).1; omega) hE hB hn)
  have HBB : Hid (But (fun k => k = eb) w w') := hidb ⟨hB.os.trans (hX2.os.trans hbW.os), hB.tape.trans (hX2.tape.trans hbW.tape), hB.output.trans (hX2.output.trans hbW.output), Nat.le_trans hbW.size (Nat.le_trans hX2.size hB.size), fun k hk hs => (hB.block k (by have := hbW.size; have := hX2.size; omega) (by omega)).trans ((hX2.block k (by have := hbW.size; omega)).trans (hbW.block k hk hs))⟩
  clear h0 he hi hj hfr hE hB hr hX1 hX2 hl hmf e hbW
  unfold kv at hlk hput
  have hlw : w.heap.size < W.heap.size := by omega
  go_region
  all_goals go_wp2_with (go_at_call 52; refine (NW.out _).mono ?_; rintro e w2 ⟨rfl, rfl⟩)
  all_goals go_region
  all_goals go_wp2_with fail
  all_goals go_ret
  all_goals exact ⟨_, _, rfl, HD.out, HBB.out, Nat.le_of_lt hlw, Nat.le_succ _⟩

def oldx (f : Int → Int → Option Lane) (i j : Int) : List Value := match f i j with | some l => l.xs | none => []
def oldk (f : Int → Int → Option Lane) (i j : Int) : Nat := match f i j with | some l => l.k | none => 0

theorem open_any {i j : Int} (hi : wfi i) (hj : wfi j) (h : EO w0 w eb mv f all N) (hN : N ≤ 1000000) :
    Calls Tryz.prog 33 #[.pointer (some ⟨eb, 0, none⟩), kv i j] w fun e w' => ∃ mv' l, e = .returned (.pointer (some ⟨l.rb, 0, none⟩)) ∧ EO w0 w' eb mv' (updL f i j (some l)) all (N + 1) ∧ l.xs = oldx f i j ∧ l.k = oldk f i j ∧ (f i j = some l ∨ l.V = .slice none 0 0 ∧ w.heap.size ≤ l.rb) ∧ But (fun k => k = eb ∨ mv = .map (some k)) w w' ∧ (∀ k, mv' = .map (some k) → mv = .map (some k) ∨ w.heap.size ≤ k) := by
  cases hl : f i j with
  | some l =>
    refine (open_old hi hj h hl).mono ?_
    rintro e w' ⟨rfl, hb⟩
    have e1 : updL f i j (some l) = f := by
      funext a b
      unfold updL
      split
      · rename_i hc; obtain ⟨rfl, rfl⟩ := hc; exact hl.symm
      · rfl
    exact ⟨mv, l, rfl, by rw [e1]; exact (h.keep hb).mono (Nat.le_succ _), by simp [oldx, hl], by simp [oldk, hl], .inl rfl, But.of_below hb, fun k hk => .inl hk⟩
  | none =>
    rcases h.map with ⟨rfl, _⟩ | ⟨mb, n, rfl, _⟩
    · refine (open_first hi hj h hN).mono ?_
      rintro e w' ⟨mb, r, rfl, hE, hb, hr, hmb⟩
      exact ⟨_, ⟨r, .slice none 0 0, [], 0⟩, rfl, hE, by simp [oldx, hl], by simp [oldk, hl], .inr ⟨rfl, hr⟩, hb.mono (fun k _ e => .inl e), fun k hk => .inr (by obtain rfl : mb = k := (by simpa using hk); exact hmb)⟩
    · refine (open_new hi hj h hl hN).mono ?_
      rintro e w' ⟨r, rfl, hE, hb, hr⟩
      exact ⟨_, ⟨r, .slice none 0 0, [], 0⟩, rfl, hE, by simp [oldx, hl], by simp [oldk, hl], .inr ⟨rfl, hr⟩, hb.mono (fun k _ e => .inr (by rw [e])), fun k hk => .inl hk⟩
end Go.Proofs.YtodelafnboimnaaGreat
