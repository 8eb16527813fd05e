import Derived.Test.YtpcpdehnppfbfaaGreatG04
import Derived.Test.YtpcpdehnppfbfaaGreatG05
/- open. -/
namespace Go.Proofs.YtpcpdehnppfbfaaGreat
open Go.RowKit Go.Lib Go.Maps
attribute [local go_sem] store_float f64bits
attribute [local go_sem ↓] Go.wp_at_zero Go.wp_at_succ

variable {w0 w : World} {eb all N : Nat} {mv : Value} {f : Int → Int → Option Lane}

theorem map_eq0 (mb : Nat) (w : World) : (binOp BinOp.eql MT (.map (some mb)) (.map none)).run Tryz.prog w = .ok (.bool false) w := by kernel_rfl
theorem map_eq1 (w : World) : (binOp BinOp.eql MT (.map none) (.map none)).run Tryz.prog w = .ok (.bool true) w := by kernel_rfl
attribute [local go_sem] map_eq0 map_eq1

theorem wpList_look {w : World} {ops : Array Oper} {rest : List Oper} {o : Oper} {a : Act} {Q : Exit → Act → World → Prop} (hg : o.guard = none) (m x : Operand) (hop : o.op = Op.lookup MT m x true) {mb n : Nat} {f : Int → Int → Option Nat} (h : EM w mb n f) {i j : Int} (hi : wfi i) (hj : wfi j) {r : Nat} (hf : f i j = some r)
    (hm : a.eval m = .map (some mb)) (hx : a.eval x = kv i j) (hK : wpList Tryz.prog ops Q rest (a.put o.dst (.tuple #[.pointer (some ⟨r, 0, none⟩), .bool true])) w) : wpList Tryz.prog ops Q (o :: rest) a w := by
  refine wpList_plain hg fun K' hK' => ?_
  unfold Oper.wp
  simp [execOp, hop, hm, hx, h.look hi hj hf, Result.andThen]
  exact hK' _ _ hK
theorem wpList_look0 {w : World} {ops : Array Oper} {rest : List Oper} {o : Oper} {a : Act} {Q : Exit → Act → World → Prop} (hg : o.guard = none) (m x : Operand) (hop : o.op = Op.lookup MT m x true) {mb n : Nat} {f : Int → Int → Option Nat} (h : EM w mb n f) {i j : Int} (hi : wfi i) (hj : wfi j) (hf : f i j = none)
    (hm : a.eval m = .map (some mb)) (hx : a.eval x = kv i j) (hK : wpList Tryz.prog ops Q rest (a.put o.dst (.tuple #[.pointer none, .bool false])) w) : wpList Tryz.prog ops Q (o :: rest) a w := by
  refine wpList_plain hg fun K' hK' => ?_
  unfold Oper.wp
  simp [execOp, hop, hm, hx, h.look0 hi hj hf, Result.andThen]
  exact hK' _ _ hK
theorem wpList_put {w : World} {ops : Array Oper} {rest : List Oper} {o : Oper} {a : Act} {Q : Exit → Act → World → Prop} (hg : o.guard = none) (m x v : Operand) (hop : o.op = Op.mapUpdate MT m x v) {mb n : Nat} {f : Int → Int → Option Nat} (h : EM w mb n f) (hn : n < maxLen) {i j : Int} (hi : wfi i) (hj : wfi j) {r : Nat}
    (hm : a.eval m = .map (some mb)) (hx : a.eval x = kv i j) (hv : a.eval v = .pointer (some ⟨r, 0, none⟩)) (hK : ∀ w', EM w' mb (n + 1) (upd f i j (some r)) → But (fun k => k = mb) w w' → wpList Tryz.prog ops Q rest (a.put o.dst undef) w') : wpList Tryz.prog ops Q (o :: rest) a w := by
  refine wpList_plain hg fun K' hK' => ?_
  obtain ⟨w', hrun, r1, r2⟩ := h.store hn hi hj r
  unfold Oper.wp
  simp [execOp, hop, hm, hx, hv, hrun, Result.andThen]
  exact hK' _ _ (hK w' r1 r2)

set_option maxHeartbeats 1000000 in
set_option maxRecDepth 100000 in
theorem open_old {i j : Int} (hi : wfi i) (hj : wfi j) {l : Lane} (h : EO w0 w eb mv f all N) (hl : f i j = some l) :
    Calls Tryz.prog 19 #[.pointer (some ⟨eb, 0, none⟩), kv i j] w fun e w' => e = .returned (.pointer (some ⟨l.rb, 0, none⟩)) ∧ Below w.heap.size w w' := by
  rcases h.map with ⟨_, hn⟩ | ⟨mb, n, rfl, he, -⟩
  · rw [hn] at hl; cases hl
  have hfr : (fun a b => (f a b).map Lane.rb) i j = some l.rb := by simp [hl]
  obtain ⟨c0, c1, f0, f1, hlt⟩ := h.duo
  have hlk := EM.look (he.but (But.of_below (S := fun _ => False) (Below.drew (below_new w (.cells #[.int .i64 i, .int .i64 j] KT)))) (fun h => h)) hi hj hfr
  clear h he hl hi hj hfr
  unfold kv at hlk ⊢
  go_enter Tryz.func19, Tryz.ntmps19
  go_wp2_with fail
  go_region
  all_goals go_wp2_with fail
  all_goals go_ret
  all_goals exact ⟨rfl, Below.drew (below_new w _)⟩

theorem EO.made (h : EO w0 w eb (.map none) f all N) : EO w0 ((w.alloc (.map #[] 0)).setCell ⟨eb, 0, none⟩ (.map (some w.heap.size))) eb (.map (some w.heap.size)) f all N := by
  have hlt := h.duo.lt
  have hf : ∀ a b, f a b = none := by
    rcases h.map with ⟨_, h⟩ | ⟨mb, n, e, _⟩
    · exact h
    · cases e
  have hb : But (fun k => k = eb) (w.alloc (.map #[] 0)) ((w.alloc (.map #[] 0)).setCell ⟨eb, 0, none⟩ (.map (some w.heap.size))) := (But.refl (fun k => k = eb) _).setCell (p := ⟨eb, 0, none⟩) (fun _ => rfl) _
  refine ⟨(h.duo.keep (below_new w _)).set0 _, .inr ⟨w.heap.size, 0, rfl, ?_, Nat.zero_le _, h.bel.size, by omega, fun a b l hl => (by rw [hf] at hl; cases hl)⟩, h.ge, fun a b l hl => (by rw [hf] at hl; cases hl), fun a b l a' b' l' hl => (by rw [hf] at hl; cases hl), (h.bel.alloc h.bel.size _).setCell h.ge _⟩
  have e : (fun a b => (f a b).map Lane.rb) = fun _ _ => none := by funext a b; rw [hf]; rfl
  rw [e]
  exact (em_made w).but hb (by omega)

theorem open_done {X w' : World} {mb n r : Nat} {i j : Int} (h : EO w0 X eb (.map (some mb)) f all N) (hi : wfi i) (hj : wfi j) (hfn : f i j = none) (hr : Rw ST 12 X w0.heap.size r (.slice none 0 0) [] 0 0) (hlt : w0.heap.size ≤ r) (hre : r ≠ eb) (hrm : r ≠ mb) (hfar : ∀ a b l, f a b = some l → ¬ foot l r)
    (hE : EM w' mb (n + 1) (upd (fun a b => (f a b).map Lane.rb) i j (some r))) (hb : But (fun k => k = mb) X w') (hn : n ≤ N) : EO w0 w' eb (.map (some mb)) (updL f i j (some ⟨r, .slice none 0 0, [], 0⟩)) all (N + 1) :=
  h.more hi hj rfl hfn hr hlt hre hrm hfar hE hb (by omega)

set_option maxHeartbeats 1000000 in
set_option maxRecDepth 100000 in
theorem open_new {i j : Int} (hi : wfi i) (hj : wfi j) {mb : Nat} (h : EO w0 w eb (.map (some mb)) f all N) (hl : f i j = none) (hN : N ≤ 1000000) :
    Calls Tryz.prog 19 #[.pointer (some ⟨eb, 0, none⟩), kv i j] w fun e w' => ∃ r, e = .returned (.pointer (some ⟨r, 0, none⟩)) ∧ EO w0 w' eb (.map (some mb)) (updL f i j (some ⟨r, .slice none 0 0, [], 0⟩)) all (N + 1) ∧ But (fun k => k = mb) w w' ∧ w.heap.size ≤ r := by
  rcases h.map with ⟨e, _⟩ | ⟨mb', n, e, he, hn, hm, hme, hmf⟩
  · cases e
  obtain rfl : mb = mb' := by simpa using e
  have hfr : (fun a b => (f a b).map Lane.rb) i j = none := by simp [hl]
  obtain ⟨c0, c1, f0, f1, hlt⟩ := h.duo
  have hX1 : Below w.heap.size w (w.alloc (.cells #[.int .i64 i, .int .i64 j] KT)).drew := Below.drew (below_new w _)
  have hlk := EM.look0 (he.but (But.of_below (S := fun _ => False) hX1) (fun h => h)) hi hj hfr
  have hX2 : Below w.heap.size w (((w.alloc (.cells #[.int .i64 i, .int .i64 j] KT)).alloc (.cells #[.slice none 0 0, .int .i64 0] 81)).drew).drew := Below.drew (Below.drew ((below_new w _).alloc (by simp) _))
  obtain ⟨w', hput, hE, hB⟩ := EM.store (he.but (But.of_below (S := fun _ => False) hX2) (fun h => h)) (by unfold maxLen; omega) hi hj (w.heap.size + 1)
  have hr : Rw ST 12 (((w.alloc (.cells #[.int .i64 i, .int .i64 j] KT)).alloc (.cells #[.slice none 0 0, .int .i64 0] 81)).drew).drew w0.heap.size (w.heap.size + 1) (.slice none 0 0) [] 0 0 := by
    have := (rw_new ST 12 (w.alloc (.cells #[.int .i64 i, .int .i64 j] KT)) w0.heap.size 81).keep (w' := (((w.alloc (.cells #[.int .i64 i, .int .i64 j] KT)).alloc (.cells #[.slice none 0 0, .int .i64 0] 81)).drew).drew) (Below.drew (Below.drew (Below.refl _ _)))
    simpa using this
  have hws := h.bel.size
  have hml := he.lt
  have HD := hidb (open_done (h.keep hX2) hi hj hl hr (by omega) (by omega) (by omega) (fun a b l hf hq => by have := (h.foot_lt hf hq).1; omega) hE hB hn)
  have NW := hidb (fun w' => newS w')
  have HBB := hidb ((But.of_below (S := fun k => k = mb) hX2).trans hB)
  clear h he hi hj hfr hE hB hr hX1 hX2 hl hmf e
  unfold kv at hlk hput ⊢
  go_enter Tryz.func19, Tryz.ntmps19
  go_wp2_with fail
  go_region
  all_goals go_wp2_with (go_at_call 35; refine (NW.out _).mono ?_; rintro e w2 ⟨rfl, rfl⟩)
  all_goals go_region
  all_goals go_wp2_with fail
  all_goals go_ret
  all_goals exact ⟨_, rfl, HD.out, HBB.out, Nat.le_succ _⟩

set_option maxHeartbeats 1000000 in
set_option maxRecDepth 100000 in
theorem open_first {i j : Int} (hi : wfi i) (hj : wfi j) (h : EO w0 w eb (.map none) f all N) (hN : N ≤ 1000000) :
    Calls Tryz.prog 19 #[.pointer (some ⟨eb, 0, none⟩), kv i j] w fun e w' => ∃ mb r, e = .returned (.pointer (some ⟨r, 0, none⟩)) ∧ EO w0 w' eb (.map (some mb)) (updL f i j (some ⟨r, .slice none 0 0, [], 0⟩)) all (N + 1) ∧ But (fun k => k = eb) w w' ∧ w.heap.size ≤ r ∧ w.heap.size ≤ mb := by
  have hl : f i j = none := by
    rcases h.map with ⟨_, h⟩ | ⟨mb, n, e, _⟩
    · exact h i j
    · cases e
  obtain ⟨c0, c1, f0, f1, hlt⟩ := h.duo
  have hmm := @run_makeMap Tryz.prog
  have H0 := hidb (h.keep (below_new w (.cells #[.int .i64 i, .int .i64 j] KT))).made
  have HX0 := hidb (at_keep (at_new w (.cells #[.int .i64 i, .int .i64 j] KT)) (below_new _ (.map #[] 0)))
  have NW := hidb (fun w' => newS w')
  clear h
  unfold kv
  go_enter Tryz.func19, Tryz.ntmps19
  go_wp2_with fail
  have h0 := H0.out
  rw [show (w.alloc (.cells #[.int .i64 i, .int .i64 j] KT)).heap.size = w.heap.size + 1 by simp] at h0
  have o0 : (((w.alloc (.cells #[.int .i64 i, .int .i64 j] KT)).alloc (.map #[] 0)).setCell ⟨eb, 0, none⟩ (.map (some (w.heap.size + 1)))).cell? ⟨w.heap.size, 0, none⟩ = some (.int .i64 i) := by
    rw [World.cell?_setCell_other _ _ _ _ (ne_blk3 _ _ _ _ (by omega)), cell_of_row _ _ _ _ _ _ HX0.out]; rfl
  have o1 : (((w.alloc (.cells #[.int .i64 i, .int .i64 j] KT)).alloc (.map #[] 0)).setCell ⟨eb, 0, none⟩ (.map (some (w.heap.size + 1)))).cell? ⟨w.heap.size, 1, none⟩ = some (.int .i64 j) := by
    rw [World.cell?_setCell_other _ _ _ _ (ne_blk3 _ _ _ _ (by omega)), cell_of_row _ _ _ _ _ _ HX0.out]; rfl
  clear H0 HX0 hmm c0 c1 f0 f1
  have hWW : ((w.alloc (.cells #[.int .i64 i, .int .i64 j] KT)).alloc (.map #[] 0)).setCell ⟨eb, 0, none⟩ (.map (some (w.heap.size + 1))) = ((w.setCell ⟨eb, 0, none⟩ (.map (some (w.heap.size + 1)))).alloc (.cells #[.int .i64 i, .int .i64 j] KT)).alloc (.map #[] 0) := by rw [World.setCell_alloc_past _ _ _ _ (by simp; omega), World.setCell_alloc_past _ _ _ _ hlt]
  have hbW : But (fun k => k = eb) w (((w.alloc (.cells #[.int .i64 i, .int .i64 j] KT)).alloc (.map #[] 0)).setCell ⟨eb, 0, none⟩ (.map (some (w.heap.size + 1)))) := (But.of_below (S := fun k => k = eb) ((below_new w _).alloc (by simp) _)).setCell (p := ⟨eb, 0, none⟩) (fun _ => rfl) _
  rw [hWW] at h0 o0 o1 hbW
  have hKT : KT = 59 := rfl
  simp only [hKT] at h0 o0 o1 hbW
  generalize ((w.setCell ⟨eb, 0, none⟩ (.map (some (w.heap.size + 1)))).alloc (.cells #[.int .i64 i, .int .i64 j] 59)).alloc (.map #[] 0) = W at *
  clear hWW hKT
  rcases h0.map with ⟨e, _⟩ | ⟨mb', n, e, he, hn, hm, hme, hmf⟩
  · cases e
  obtain rfl : w.heap.size + 1 = mb' := by simpa using e
  have hfr : (fun a b => (f a b).map Lane.rb) i j = none := by simp [hl]
  obtain ⟨c0, c1, f0, f1, hlt2⟩ := h0.duo
  have hX1 : Below W.heap.size W W.drew := (Below.refl _ _).drew
  have hlk := EM.look0 (he.but (But.of_below (S := fun _ => False) hX1) (fun h => h)) hi hj hfr
  have hX2 : Below W.heap.size W ((W.alloc (.cells #[.slice none 0 0, .int .i64 0] 81)).drew).drew := Below.drew (Below.drew (below_new W _))
  obtain ⟨w', hput, hE, hB⟩ := EM.store (he.but (But.of_below (S := fun _ => False) hX2) (fun h => h)) (by unfold maxLen; omega) hi hj W.heap.size
  have hr : Rw ST 12 ((W.alloc (.cells #[.slice none 0 0, .int .i64 0] 81)).drew).drew w0.heap.size W.heap.size (.slice none 0 0) [] 0 0 :=
    (rw_new ST 12 W w0.heap.size 81).keep (w' := ((W.alloc (.cells #[.slice none 0 0, .int .i64 0] 81)).drew).drew) (Below.drew (Below.drew (Below.refl _ _)))
  have hws := h0.bel.size
  have hml := he.lt
  have HD := hidb (open_done (h0.keep hX2) hi hj hl hr (by omega) (by omega) (by omega) (fun a b l hf hq => by have := (h0.foot_lt hf hq).1; omega) hE hB hn)
  have HBB : Hid (But (fun k => k = eb) w w') := hidb ⟨hB.os.trans (hX2.os.trans hbW.os), hB.tape.trans (hX2.tape.trans hbW.tape), hB.output.trans (hX2.output.trans hbW.output), Nat.le_trans hbW.size (Nat.le_trans hX2.size hB.size), fun k hk hs => (hB.block k (by have := hbW.size; have := hX2.size; omega) (by omega)).trans ((hX2.block k (by have := hbW.size; omega)).trans (hbW.block k hk hs))⟩
  clear h0 he hi hj hfr hE hB hr hX1 hX2 hl hmf e hbW
  unfold kv at hlk hput
  have hlw : w.heap.size < W.heap.size := by omega
  go_region
  all_goals go_wp2_with (go_at_call 35; refine (NW.out _).mono ?_; rintro e w2 ⟨rfl, rfl⟩)
  all_goals go_region
  all_goals go_wp2_with fail
  all_goals go_ret
  all_goals exact ⟨_, _, rfl, HD.out, HBB.out, Nat.le_of_lt hlw, Nat.le_succ _⟩

def oldx (f : Int → Int → Option Lane) (i j : Int) : List Value := match f i j with | some l => l.xs | none => []
def oldk (f : Int → Int → Option Lane) (i j : Int) : Nat := match f i j with | some l => l.k | none => 0

theorem open_any {i j : Int} (hi : wfi i) (hj : wfi j) (h : EO w0 w eb mv f all N) (hN : N ≤ 1000000) :
    Calls Tryz.prog 19 #[.pointer (some ⟨eb, 0, none⟩), kv i j] w fun e w' => ∃ mv' l, e = .returned (.pointer (some ⟨l.rb, 0, none⟩)) ∧ EO w0 w' eb mv' (updL f i j (some l)) all (N + 1) ∧ l.xs = oldx f i j ∧ l.k = oldk f i j ∧ (f i j = some l ∨ l.V = .slice none 0 0 ∧ w.heap.size ≤ l.rb) ∧ But (fun k => k = eb ∨ mv = .map (some k)) w w' ∧ (∀ k, mv' = .map (some k) → mv = .map (some k) ∨ w.heap.size ≤ k) := by
  cases hl : f i j with
  | some l =>
    refine (open_old hi hj h hl).mono ?_
    rintro e w' ⟨rfl, hb⟩
    have e1 : updL f i j (some l) = f := by
      funext a b
      unfold updL
      split
      · rename_i hc; obtain ⟨rfl, rfl⟩ := hc; exact hl.symm
      · rfl
    exact ⟨mv, l, rfl, by rw [e1]; exact (h.keep hb).mono (Nat.le_succ _), by simp [oldx, hl], by simp [oldk, hl], .inl rfl, But.of_below hb, fun k hk => .inl hk⟩
  | none =>
    rcases h.map with ⟨rfl, _⟩ | ⟨mb, n, rfl, _⟩
    · refine (open_first hi hj h hN).mono ?_
      rintro e w' ⟨mb, r, rfl, hE, hb, hr, hmb⟩
      exact ⟨_, ⟨r, .slice none 0 0, [], 0⟩, rfl, hE, by simp [oldx, hl], by simp [oldk, hl], .inr ⟨rfl, hr⟩, hb.mono (fun k _ e => .inl e), fun k hk => .inr (by obtain rfl : mb = k := (by simpa using hk); exact hmb)⟩
    · refine (open_new hi hj h hl hN).mono ?_
      rintro e w' ⟨r, rfl, hE, hb, hr⟩
      exact ⟨_, ⟨r, .slice none 0 0, [], 0⟩, rfl, hE, by simp [oldx, hl], by simp [oldk, hl], .inr ⟨rfl, hr⟩, hb.mono (fun k _ e => .inr (by rw [e])), fun k hk => .inl hk⟩
end Go.Proofs.YtpcpdehnppfbfaaGreat


/- Put of a signal that has no term. -/
namespace Go.Proofs.YtpcpdehnppfbfaaGreat
open Go.RowKit Go.Lib Go.Maps
attribute [local go_sem] store_float f64bits
attribute [local go_sem ↓] Go.wp_at_zero Go.wp_at_succ

variable {w0 w : World} {eb all N : Nat} {mv : Value} {f : Int → Int → Option Lane}

abbrev sgl (x0 x1 x2 x3 : Int) : List Value := [.int .i64 x0, .int .i64 x1, .int .i64 x2, .int .i64 x3, .int .i64 0, .bool false, .string ⟨#[]⟩, .int .i64 0, .int .i64 0, .float .f64 0, .string ⟨#[]⟩, .slice none 0 0]

theorem put_refused {x0 x1 x2 x3 : Int} (h : EO w0 w eb mv f all N) (er : Int) (hz : (er == 0) = false) (CK0 : ∀ w, Calls Tryz.prog 18 #[.agg #[.int .i64 x0, .int .i64 x1, .int .i64 x2, .int .i64 x3, .int .i64 0, .bool false, .string ⟨#[]⟩, .int .i64 0, .int .i64 0, .float .f64 0, .string ⟨#[]⟩, .slice none 0 0]] w fun e w' => e = .returned (.int .i64 er) ∧ Below w.heap.size w w') :
    Calls Tryz.prog 8 #[.pointer (some ⟨eb, 0, none⟩), .agg #[.int .i64 x0, .int .i64 x1, .int .i64 x2, .int .i64 x3, .int .i64 0, .bool false, .string ⟨#[]⟩, .int .i64 0, .int .i64 0, .float .f64 0, .string ⟨#[]⟩, .slice none 0 0]] w fun e w' => e = .returned (.int .i64 er) ∧ EO w0 w' eb mv f all N := by
  have CK := hidb CK0
  have HE := hidb h
  clear h CK0
  go_enter Tryz.func8, Tryz.ntmps8
  go_wp2_with (go_at_call 18; refine (CK.out _).mono ?_; rintro e w1 ⟨rfl, hb1⟩; have HE1 := hidb ((HE.out.keep (below_new w _)).keep hb1); clear hb1)
  go_ret
  exact ⟨rfl, HE1.out⟩

theorem put_far {w2 : World} {mv' : Value} {g : Int → Int → Option Lane} {b M : Nat} {i j : Int} {l : Lane} {x0 : Int} {r : List Value} {t : TypeId} (h : EO w0 w2 eb mv' g all M) (hl : g i j = some l) (hor : f i j = some l ∨ l.V = .slice none 0 0) (hlt : ∀ l q, f i j = some l → foot l q → q < b) (hb : w2.heap[b]? = some (.cells (.int .i64 x0 :: r).toArray t)) : ¬ foot l b := by
  intro hq
  rcases hor with e | e
  · have := hlt l b e hq; omega
  · rcases hq with e2 | e2
    · obtain ⟨_, _, ⟨gone, items, n, hr, _⟩, _⟩ := h.lane i j l hl
      have c0 := hr.duo.c0
      rw [← e2, cell_of_row _ _ _ _ _ _ hb, e] at c0
      simp at c0
    · rw [e] at e2; simp [Value.ownBlock] at e2

/-- What a Put may write, of what lay there. -/
def putS (mv : Value) (f : Int → Int → Option Lane) (eb : Nat) (i j : Int) (q : Nat) : Prop := q = eb ∨ mv = .map (some q) ∨ ∃ l, f i j = some l ∧ foot l q

theorem put_foot {mv : Value} {f : Int → Int → Option Lane} {eb : Nat} {i j : Int} {w w1 w2 w3 : World} {l : Lane} {V' : Value} {xs : List Value} {k : Nat} (h1 : Below w.heap.size w w1) (h2 : But (fun k => k = eb ∨ mv = .map (some k)) w1.drew w2) (h3 : Below w2.heap.size w2 w3) (hor : f i j = some l ∨ l.V = .slice none 0 0 ∧ w1.drew.heap.size ≤ l.rb) (hs : Stays w3 l.V V') : ∀ q, foot ⟨l.rb, V', xs, k⟩ q → (∃ l0, f i j = some l0 ∧ foot l0 q) ∨ w.heap.size ≤ q := by
  have a1 := h1.size
  have a2 : w1.heap.size ≤ w2.heap.size := h2.size
  have a3 := h3.size
  rintro q (e | e)
  · rcases hor with h | ⟨_, h⟩
    · exact .inl ⟨l, h, .inl e⟩
    · right; have h' : w1.heap.size ≤ l.rb := h; have e' : q = l.rb := e; omega
  · rcases hs with s | s
    · rcases hor with h | ⟨h, _⟩
      · exact .inl ⟨l, h, .inr (s ▸ e)⟩
      · have e' : V'.ownBlock = some q := e
        rw [s, h] at e'; simp [Value.ownBlock] at e'
    · right; have := s q e; omega

theorem put_frame {mv : Value} {f : Int → Int → Option Lane} {eb : Nat} {i j : Int} {w w1 w2 w3 w4 : World} {l : Lane} (h1 : Below w.heap.size w w1) (h2 : But (fun k => k = eb ∨ mv = .map (some k)) w1.drew w2) (h3 : Below w2.heap.size w2 w3) (hor : f i j = some l ∨ l.V = .slice none 0 0 ∧ w1.drew.heap.size ≤ l.rb) (h4 : But (fun k => k = l.rb ∨ l.V.ownBlock = some k) w3 w4) : But (putS mv f eb i j) w w4 := by
  have a : But (putS mv f eb i j) w w2 := (But.of_below (h1.drew)).trans (h2.mono (fun q _ e => e.elim (fun e => .inl e) (fun e => .inr (.inl e))))
  have b : But (putS mv f eb i j) w w3 := a.trans (But.of_below h3)
  refine ⟨h4.os.trans b.os, h4.tape.trans b.tape, h4.output.trans b.output, Nat.le_trans b.size h4.size, fun k hk hs => (h4.block k (Nat.lt_of_lt_of_le hk b.size) ?_).trans (b.block k hk hs)⟩
  rintro hq
  rcases hor with e | ⟨e, e2⟩
  · exact hs (.inr (.inr ⟨l, e, hq⟩))
  · rcases hq with q | q
    · have := h1.size; have e3 : w1.heap.size ≤ l.rb := e2; omega
    · rw [e] at q; simp [Value.ownBlock] at q

set_option maxHeartbeats 4000000 in
set_option maxRecDepth 100000 in
theorem put_ok {x0 x1 x2 x3 : Int} (hi : wfi x0) (hj : wfi x1) (h : EO w0 w eb mv f all N) (hN : N ≤ 100000) (hA : all ≤ 100000) (CK0 : ∀ w, Calls Tryz.prog 18 #[.agg #[.int .i64 x0, .int .i64 x1, .int .i64 x2, .int .i64 x3, .int .i64 0, .bool false, .string ⟨#[]⟩, .int .i64 0, .int .i64 0, .float .f64 0, .string ⟨#[]⟩, .slice none 0 0]] w fun e w' => e = .returned (.int .i64 0) ∧ Below w.heap.size w w') :
    Calls Tryz.prog 8 #[.pointer (some ⟨eb, 0, none⟩), .agg #[.int .i64 x0, .int .i64 x1, .int .i64 x2, .int .i64 x3, .int .i64 0, .bool false, .string ⟨#[]⟩, .int .i64 0, .int .i64 0, .float .f64 0, .string ⟨#[]⟩, .slice none 0 0]] w fun e w' => e = .returned (.int .i64 0) ∧
      ∃ mv' l, EO w0 w' eb mv' (updL f x0 x1 (some l)) (all + 1) (N + 2) ∧ l.xs = oldx f x0 x1 ++ sgl x0 x1 x2 x3 ∧ l.k = oldk f x0 x1 + 1 ∧ But (putS mv f eb x0 x1) w w' ∧ (∀ k, mv' = .map (some k) → mv = .map (some k) ∨ w.heap.size ≤ k) ∧ (∀ q, foot l q → (∃ l0, f x0 x1 = some l0 ∧ foot l0 q) ∨ w.heap.size ≤ q) := by
  have CK := hidb CK0
  have HE := hidb h
  have HS := hidb (at_new w (.cells #[.int .i64 x0, .int .i64 x1, .int .i64 x2, .int .i64 x3, .int .i64 0, .bool false, .string ⟨#[]⟩, .int .i64 0, .int .i64 0, .float .f64 0, .string ⟨#[]⟩, .slice none 0 0] ST))
  have OW := hidb (fun w' => own_leaf x0 x1 x2 x3 0 false ⟨#[]⟩ 0 0 0 ⟨#[]⟩ none 0 w')
  have hmlt : ∀ k, (k = eb ∨ mv = .map (some k)) → k < w.heap.size := by
    rintro k (rfl | e)
    · exact h.duo.lt
    · rcases h.map with ⟨e2, _⟩ | ⟨mb, n, e2, he, _⟩
      · rw [e2] at e; cases e
      · rw [e2] at e; obtain rfl : mb = k := by simpa using e
        exact he.lt
  have HML := hidb hmlt
  clear h CK0 hmlt
  go_enter Tryz.func8, Tryz.ntmps8
  go_wp2_with (go_at_call 18; refine (CK.out _).mono ?_; rintro e w1 ⟨rfl, hb1⟩; have HE1 := hidb ((HE.out.keep (below_new w _)).keep hb1); have HS1 := hidb (at_keep HS.out hb1); obtain ⟨s0, s1, s2, s3, s4, s5, s6, s7, s8, s9, s10, s11⟩ := box12 HS1.out; have HF1 : Hid (Below w.heap.size w w1) := hidb ((below_new w _).trans (hb1.mono (by simp))); clear hb1)
  have HE1D := hidb (HE1.out.keep ((Below.refl _ _).drew))
  have OP := hidb (open_any hi hj HE1D.out (by omega))
  have HLT := hidb (show w.heap.size < w1.heap.size from (Array.getElem?_eq_some_iff.1 HS1.out).1)
  have HFO : Hid (∀ l q, f x0 x1 = some l → foot l q → q < w.heap.size) := hidb (fun l q hl hq => (HE.out.foot_lt hl hq).1)
  clear HE CK HE1 HS
  go_region_held3 (fun w' => w'.cell? ⟨w.heap.size, 0, none⟩ = some (.int .i64 x0) ∧ w'.cell? ⟨w.heap.size, 1, none⟩ = some (.int .i64 x1) ∧ w'.cell? ⟨w.heap.size, 2, none⟩ = some (.int .i64 x2) ∧ w'.cell? ⟨w.heap.size, 3, none⟩ = some (.int .i64 x3) ∧ w'.cell? ⟨w.heap.size, 4, none⟩ = some (.int .i64 0) ∧ w'.cell? ⟨w.heap.size, 5, none⟩ = some (.bool false) ∧ w'.cell? ⟨w.heap.size, 6, none⟩ = some (.string ⟨#[]⟩) ∧ w'.cell? ⟨w.heap.size, 7, none⟩ = some (.int .i64 0) ∧ w'.cell? ⟨w.heap.size, 8, none⟩ = some (.int .i64 0) ∧ w'.cell? ⟨w.heap.size, 9, none⟩ = some (.float .f64 0) ∧ w'.cell? ⟨w.heap.size, 10, none⟩ = some (.string ⟨#[]⟩) ∧ w'.cell? ⟨w.heap.size, 11, none⟩ = some (.slice none 0 0))
    (first | with_reducible exact ⟨s0, s1, s2, s3, s4, s5, s6, s7, s8, s9, s10, s11⟩ | with_reducible exact ⟨t0, t1, t2, t3, t4, t5, t6, t7, t8, t9, t10, t11⟩ | with_reducible exact ⟨u0, u1, u2, u3, u4, u5, u6, u7, u8, u9, u10, u11⟩ | with_reducible exact ⟨v0, v1, v2, v3, v4, v5, v6, v7, v8, v9, v10, v11⟩ | go_keep)
    (first
      | (go_at_call 19; refine OP.out.mono ?_; rintro e w2 ⟨mv', l, rfl, hE2, hx2, hk2, hor, hb2, hmv2⟩; have HMV : Hid (∀ k, mv' = .map (some k) → mv = .map (some k) ∨ w.heap.size ≤ k) := hidb (fun k hk => (hmv2 k hk).imp id (fun h => Nat.le_trans HF1.out.size h)); clear hmv2; have HE2 := hidb hE2; have HX2 := hidb hx2; have HK2 := hidb hk2; have HS2 := hidb ((hb2.block w.heap.size HLT.out (fun e => by have := HML.out _ e; omega)).trans HS1.out); obtain ⟨t0, t1, t2, t3, t4, t5, t6, t7, t8, t9, t10, t11⟩ := box12 HS2.out; have HNF := hidb (put_far HE2.out (updL_same _ _ _ _) (hor.imp id And.left) HFO.out HS2.out); have HOR := hidb hor; have HF2 := hidb hb2; clear hE2 hx2 hk2 hor hb2 OP)
      | (go_at_call 21; refine (OW.out _).mono ?_; rintro e w3 ⟨rfl, hb3⟩; have HE3 := hidb (HE2.out.keep hb3); have HS3 := hidb (at_keep HS2.out hb3); obtain ⟨u0, u1, u2, u3, u4, u5, u6, u7, u8, u9, u10, u11⟩ := box12 HS3.out; have HF3 := hidb hb3; clear hb3 OW)
      | (go_at_call 20; refine (pushS_any x0 x1 x2 x3 0 false ⟨#[]⟩ 0 0 0 ⟨#[]⟩ none 0 0 (HE3.out.lane _ _ _ (updL_same _ _ _ _)).2.2.1 HE3.out.bel.size (by omega)).mono ?_; rintro e w4 ⟨rfl, V', hr, hb4, hs4⟩; have HE4 := hidb (HE3.out.step (updL_same _ _ _ _) hr hb4 hs4 (Nat.le_succ _)); obtain ⟨v0, v1, v2, v3, v4, v5, v6, v7, v8, v9, v10, v11⟩ := box12 ((hb4.block w.heap.size (Array.getElem?_eq_some_iff.1 HS3.out).1 HNF.out).trans HS3.out); have HF4 := hidb (put_frame HF1.out HF2.out HF3.out HOR.out hb4); have HFT := hidb (put_foot (xs := l.xs ++ sgl x0 x1 x2 x3) (k := l.k + 1) HF1.out HF2.out HF3.out HOR.out hs4); clear hr hb4 hs4))
  obtain ⟨c0, c1, f0, f1, hlt4⟩ := HE4.out.duo
  have hw1 : IntKind.i64.wrap ((all : Int) + 1) = (all : Int) + 1 := by rw [IntKind.wrap_i64]; omega
  have HC := hidb (HE4.out.count (all + 1))
  rw [show ((all + 1 : Nat) : Int) = (all : Int) + 1 by omega] at HC
  have HU : Hid (updL (updL f x0 x1 (some l)) x0 x1 (some ⟨l.rb, V', l.xs ++ sgl x0 x1 x2 x3, l.k + 1⟩) = updL f x0 x1 (some ⟨l.rb, V', l.xs ++ sgl x0 x1 x2 x3, l.k + 1⟩)) := hidb (by
    funext a b
    unfold updL
    split <;> rfl)
  clear s0 s1 s2 s3 s4 s5 s6 s7 s8 s9 s10 s11 t0 t1 t2 t3 t4 t5 t6 t7 t8 t9 t10 t11 u0 u1 u2 u3 u4 u5 u6 u7 u8 u9 u10 u11 v0 v1 v2 v3 v4 v5 v6 v7 v8 v9 v10 v11
  go_wp2_with fail
  go_ret
  refine ⟨rfl, mv', ⟨l.rb, V', l.xs ++ sgl x0 x1 x2 x3, l.k + 1⟩, ?_, ?_, ?_, HF4.out.setCell (p := ⟨eb, 1, none⟩) (fun _ => .inl rfl) _, HMV.out, HFT.out⟩
  · have := HC.out
    rw [HU.out] at this
    exact this
  · show l.xs ++ _ = _
    rw [HX2.out]
  · show l.k + 1 = _
    rw [HK2.out]
end Go.Proofs.YtpcpdehnppfbfaaGreat


