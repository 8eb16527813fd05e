/- Pop of a queue of whole numbers. -/
import Derived.Test.YtmnncpgmhmkjcaaGreatErI
namespace Go.Proofs.YtmnncpgmhmkjcaaGreat
open Go.RowKit Go.Lib
attribute [local go_sem] store_float f64bits
attribute [local go_sem ↓] Go.wp_at_zero Go.wp_at_succ
set_option maxHeartbeats 2000000 in
theorem popI_of {w : World} {B rb gone k : Nat} {V : Value} {items : List Value} (h : RW IT 1 w B rb V gone items (gone + k)) (hB : B ≤ w.heap.size) (hN : gone + k ≤ 1000000) (hk : 0 < k) (x : Int) (hx : items[gone]? = some (.int .i64 x)) : Calls Tryz.prog 33 #[.pointer (some ⟨rb, 0, none⟩)] w fun e w' =>
    e = .returned (.tuple #[.int .i64 x, .bool true]) ∧ ∃ V' gone' items' n', RW IT 1 w' B rb V' gone' items' n' ∧ items'.drop gone' = items.drop (gone + 1) ∧ n' + 1 = gone' + k ∧ n' ≤ gone + k ∧ But (fun j => j = rb ∨ V.ownBlock = some j) w w' ∧ Stays w V V' := by
  have HL := hidb (lenI_of h (by omega))
  rw [show gone + k - gone = k by omega] at HL
  have HH := hidb h
  obtain ⟨c0, c1, f0, f1, hlt⟩ := h.duo
  obtain ⟨g, cap, rfl⟩ : ∃ g cap, V = .slice (some ⟨g, 0, none⟩) (gone + k) cap := by
    rcases h.own.2 with ⟨_, h0⟩ | ⟨g, cap, cur, hv, _⟩
    · omega
    · exact ⟨g, cap, hv⟩
  have y0 := (h.own.cellAt gone (by omega)).trans hx
  have yf := h.own.frozenAt gone
  have hkz : ((k : Int) == 0) = false := by simp; omega
  have hi1 : (gone : Int) < (gone : Int) + (k : Int) := by omega
  have hi2 : (0 : Int) ≤ (gone : Int) := by omega
  have hgl : g < w.heap.size := World.block_lt_of_cell? w _ y0
  have hgr : g ≠ rb := fun e => h.ne (by simp [Value.ownBlock, e])
  have hg1 : IntKind.i64.wrap ((gone : Int) + 1) = (gone : Int) + 1 := by rw [IntKind.wrap_i64]; omega
  clear h hx
  go_enter Tryz.func33, Tryz.ntmps33
  go_wp2_with (go_at_call 35; refine HL.out.mono ?_; rintro e w1 ⟨rfl, hb1⟩; have HB1 := hidb hb1; have H1 := hidb (HH.out.keep hb1); have d0 := (hb1.cell (p := ⟨rb, 0, none⟩) hlt).trans c0; have d1 := (hb1.cell (p := ⟨rb, 1, none⟩) hlt).trans c1; have e0 := (hb1.frozen (p := ⟨rb, 0, none⟩) hlt).trans f0; have e1 := (hb1.frozen (p := ⟨rb, 1, none⟩) hlt).trans f1; have z0 := (hb1.cell (p := ⟨g, gone, none⟩) hgl).trans y0; have zf := (hb1.frozen (p := ⟨g, gone, none⟩) hgl).trans yf; clear hb1 HL)
  clear c0 c1 f0 f1 y0 yf
  go_region
  have hst := H1.out.own.stored gone (.int .i64 0)
  have P2 := hidb (pop_gone (w2 := (w1.setCell ⟨g, gone, none⟩ (.int .i64 0)).drew) (items2 := items.set gone (.int .i64 0)) H1.out hk hst.1.drew (fun u hu => (List.mem_or_eq_of_mem_set hu).elim (H1.out.one u) (fun e => e ▸ rfl)) (grown_but hst.2).drew)
  have hd2 := H1.out.duo.but (grown_but hst.2).drew H1.out.ne
  have HW1 := hidb HB1.out.size
  generalize hW2 : (w1.setCell ⟨g, gone, none⟩ (.int .i64 0)).drew = w2 at *
  have q0 := hd2.c0
  have q1 := hd2.c1
  have q2 := hd2.f0
  have q3 := hd2.f1
  clear hW2 hst hd2 d0 d1 e0 e1 z0 zf hi1 hi2 hkz
  go_wp2_with fail
  have HB2 := hidb P2.out.2
  have P3 := hidb P2.out.1
  clear P2 q0 q1 q2 q3
  have HG1 : Hid (Below w.heap.size w w1) := HB1
  generalize hW3 : w2.setCell ⟨rb, 1, none⟩ (.int .i64 ((gone : Int) + 1)) = w3 at *
  clear hW3
  have HL := hidb (fun w' (hb : Below w3.heap.size w3 w') => lenI_of (P3.out.keep hb) (by omega))
  obtain ⟨m, rfl⟩ : ∃ m, k = m + 1 := ⟨k - 1, by omega⟩
  rw [show gone + (m + 1) - (gone + 1) = m by omega] at HL
  have r0 := P3.out.duo.c0
  have r1 := P3.out.duo.c1
  rw [show ((gone + 1 : Nat) : Int) = (gone : Int) + 1 by omega] at r1
  have hrl := P3.out.duo.lt
  go_region_held3 (fun w' => w'.cell? ⟨rb, 1, none⟩ = some (.int .i64 ((gone : Int) + 1))) (first | with_reducible exact r1 | with_reducible exact t1 | go_keep)
    (first | (go_at_call 35; refine (HL.out _ (Below.refl _ _).drew).mono ?_; rintro e w4 ⟨rfl, hb4⟩; have t1 := ((undrew hb4).cell (p := ⟨rb, 1, none⟩) hrl).trans r1; have HB4 := hidb (undrew hb4); clear hb4))
  have P4 := hidb (P3.out.keep HB4.out)
  have HB := hidb ((But.of_below HB1.out).trans ((HB2.out).trans (But.of_below HB4.out)))
  have HX : Hid ((items.set gone (.int .i64 0)).drop (gone + 1) = items.drop (gone + 1)) := hidb (by rw [List.drop_set_of_lt (by omega)])
  by_cases hc : m < gone + 1
  · have hc' : (m : Int) < (gone : Int) + 1 := by omega
    obtain ⟨s0, s1, u0, u1, -⟩ := P4.out.duo
    have hrl4 := P4.out.duo.lt
    have AL := hidb (allI_of P4.out (by omega))
    rw [show gone + (m + 1) - (gone + 1) = m by omega] at AL
    have HS4 := hidb (Nat.le_trans HB.out.size (Nat.le_refl w4.heap.size))
    clear hc HL r0 r1 t1 HB2 HB4 P3
    go_wp2_with (go_at_call 36; refine AL.out.mono ?_; rintro e w5 ⟨v, rfl, ho, hb5⟩; have HO := hidb ho; have HB5 := hidb hb5; have s0 := (hb5.cell (p := ⟨rb, 0, none⟩) hrl4).trans s0; have s1 := (hb5.cell (p := ⟨rb, 1, none⟩) hrl4).trans s1; have u0 := (hb5.frozen (p := ⟨rb, 0, none⟩) hrl4).trans u0; have u1 := (hb5.frozen (p := ⟨rb, 1, none⟩) hrl4).trans u1; obtain ⟨qv, cv, rfl⟩ := own_sl ho; clear hb5 ho)
    have PN := pop_new P4.out HB5.out HO.out (Nat.le_refl _) (Nat.le_trans hB HS4.out) (fun u hu => P4.out.one u (List.mem_of_mem_drop hu))
    go_ret2
    refine ⟨rfl, _, 0, _, m, PN.1, ?_, by omega, by omega, HB.out.trans (PN.2.1.mono (fun k _ h => .inl h)), ?_⟩
    · rw [List.drop_zero, Nat.mul_one, HX.out]
    · rcases PN.2.2 with e | e
      · exact .inl e
      · exact .inr fun k hk => Nat.le_trans HS4.out (e k hk)
  · have hc' : ¬ (m : Int) < (gone : Int) + 1 := by omega
    clear hc HL r0 r1 t1 HB2 HB4 P3
    go_wp2_with fail
    go_ret2
    exact ⟨rfl, _, gone + 1, _, gone + (m + 1), P4.out, HX.out, by omega, by omega, HB.out, .inl rfl⟩

theorem popI_none {w : World} {B rb N : Nat} {V : Value} {xs : List Value} (h : Rw IT 1 w B rb V xs 0 N) (hN : N ≤ 1000000) : Calls Tryz.prog 33 #[.pointer (some ⟨rb, 0, none⟩)] w fun e w' => e = .returned (.tuple #[.int .i64 0, .bool false]) ∧ Below w.heap.size w w' := by
  have HL := hidb (lenI_any h hN)
  clear h
  go_enter Tryz.func33, Tryz.ntmps33
  go_wp2_with (go_at_call 35; refine HL.out.mono ?_; rintro e w1 ⟨rfl, hb1⟩; have HB1 := hidb hb1; clear hb1)
  go_ret2
  exact ⟨rfl, HB1.out⟩

theorem popI_any {w : World} {B rb k N : Nat} {V : Value} {x : Int} {xs : List Value} (h : Rw IT 1 w B rb V (.int .i64 x :: xs) (k + 1) N) (hB : B ≤ w.heap.size) (hN : N ≤ 1000000) : Calls Tryz.prog 33 #[.pointer (some ⟨rb, 0, none⟩)] w fun e w' =>
    e = .returned (.tuple #[.int .i64 x, .bool true]) ∧ ∃ V', Rw IT 1 w' B rb V' xs k N ∧ But (fun j => j = rb ∨ V.ownBlock = some j) w w' ∧ Stays w V V' := by
  obtain ⟨gone, items, n, h, hx, hn, hle⟩ := h
  subst hn
  rw [Nat.mul_one] at hx
  have hg : items[gone]? = some (.int .i64 x) := by
    have := List.getElem?_drop (xs := items) (i := gone) (j := 0)
    rw [hx] at this
    simpa using this.symm
  have hd : items.drop (gone + 1) = xs := by
    rw [← List.drop_drop, hx]; rfl
  refine (popI_of h hB (by omega) (by omega) x hg).mono ?_
  rintro e w' ⟨rfl, V', g', items', n', h', h1, h2, h3, h4, h5⟩
  exact ⟨rfl, V', ⟨g', items', n', h', by rw [Nat.mul_one, h1, hd], by omega, by omega⟩, h4, h5⟩
end Go.Proofs.YtmnncpgmhmkjcaaGreat
