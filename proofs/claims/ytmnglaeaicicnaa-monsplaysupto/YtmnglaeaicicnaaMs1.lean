/- law15.step, walked. -/
import Derived.Test.YtmnglaeaicicnaaMs0
namespace Go.Proofs.Ytmnglaeaicicnaa
open Go.RowKit Go.Lib
open MV (Hf hf0 getL insL delL Rise Wfk TB Nw Rst KV MnT mvs)
attribute [local go_sem ↓] Go.wp_at_zero Go.wp_at_succ

abbrev NoX : Nat → Prop := fun _ => False
/-- What step tells. -/
def StpR (w0 : World) (tb rb : Nat) (O T : List KV) (x : Act4) (e : Ending) (w' : World) : Prop := e = .returned (.bool true) ∧ PB NoX w0 w' tb rb (stpO x O) (stpT x T) (stpO x O) (stpT x T)

set_option maxRecDepth 100000 in
set_option maxHeartbeats 8000000 in
theorem step2 {w0 w : World} {tb rb : Nat} {O T : List KV} (h : PB NoX w0 w tb rb O T O T) (xr xp : Int) (xn : ByteArray) (hsz : xn.size ≤ 281474976710656) (hN : O.length ≤ 80000) (hM : T.length ≤ 80000) :
    Calls Try.prog 8 #[.pointer (some ⟨tb, 0, none⟩), .pointer (some ⟨rb, 0, none⟩), .agg #[.int .i64 2, .int .i64 xr, .int .i64 xp, .string xn]] w (StpR w0 tb rb O T ⟨2, xr, xp, xn⟩) := by
  have hpn := And.intro hsz (And.intro hN hM)
  have hl := h.lts
  obtain ⟨W0, hW0⟩ : ∃ W0, (((w.alloc (.cells #[.int .i64 2, .int .i64 xr, .int .i64 xp, .string xn] 34)).alloc (.cells #[.int .i64 0, .int .i64 0, .string ⟨#[]⟩] 38)).alloc (.cells #[.int .i64 0, .int .i64 0, .string ⟨#[]⟩] 38)) = W0 := ⟨_, rfl⟩
  have hb0 : Below w.heap.size w W0 := hW0 ▸ ((below_new _ _).alloc (by simp) _).alloc (by simp; omega) _
  have hs0 : W0.heap.size = w.heap.size + 1 + 1 + 1 := by rw [← hW0]; simp
  have Q0 : Qua W0 w.heap.size (.int .i64 2) (.int .i64 xr) (.int .i64 xp) (.string xn) := by rw [← hW0]; exact ((Qua.new w _ _ _ _ _).but (S := fun _ => False) (But.of_below ((below_new _ _).alloc (by simp) _)) id)
  have PA : Tri W0 (w.heap.size + 1) (.int .i64 0) (.int .i64 0) (.string ⟨#[]⟩) := by rw [← hW0]; have := (Tri.new (w.alloc (.cells #[.int .i64 2, .int .i64 xr, .int .i64 xp, .string xn] 34)) 38 (.int .i64 0) (.int .i64 0) (.string ⟨#[]⟩)).keep (below_new _ (.cells #[.int .i64 0, .int .i64 0, .string ⟨#[]⟩] 38)); simpa using this
  have PC : Tri W0 (w.heap.size + 1 + 1) (.int .i64 0) (.int .i64 0) (.string ⟨#[]⟩) := by rw [← hW0]; have := Tri.new ((w.alloc (.cells #[.int .i64 2, .int .i64 xr, .int .i64 xp, .string xn] 34)).alloc (.cells #[.int .i64 0, .int .i64 0, .string ⟨#[]⟩] 38)) 38 (.int .i64 0) (.int .i64 0) (.string ⟨#[]⟩); simpa using this
  have hX : PB (fun k => w.heap.size ≤ k ∧ k < W0.heap.size) w0 W0 tb rb O T O T := h.turn hb0 (fun k hk => hk)
  have HSZ := hidb hs0
  have C : Hid (Calls Try.prog 13 #[.pointer (some ⟨tb, 0, none⟩), .int .i64 xr] W0 fun e w1 => e = .returned (.tuple #[.agg #[.int .i64 ((getL xr O).getD hf0).a, .int .i64 ((getL xr O).getD hf0).b, .string ((getL xr O).getD hf0).c], .bool (getL xr O).isSome]) ∧ Qua w1 w.heap.size (.int .i64 2) (.int .i64 xr) (.int .i64 xp) (.string xn) ∧ Tri w1 (w.heap.size + 1) (.int .i64 0) (.int .i64 0) (.string ⟨#[]⟩) ∧ Tri w1 (w.heap.size + 1 + 1) (.int .i64 0) (.int .i64 0) (.string ⟨#[]⟩) ∧ Hid (∀ w2, But (fun k => w.heap.size ≤ k ∧ k < W0.heap.size) w1 w2 → Calls Try.prog 20 #[.pointer (some ⟨rb, 0, none⟩), .int .i64 xr] w2 fun e w3 => e = .returned (.tuple #[.agg #[.int .i64 ((getL xr O).getD hf0).a, .int .i64 ((getL xr O).getD hf0).b, .string ((getL xr O).getD hf0).c], .bool (getL xr O).isSome]) ∧ But (fun k => k = rb) w2 w3 ∧ Hid (∀ w4, But (fun k => w.heap.size ≤ k ∧ k < W0.heap.size) w3 w4 → PB NoX w0 w4 tb rb (delL xr O) T (delL xr O) T))) := by
    have hX' := hX
    refine hidb ((hX'.prog (O' := (delL xr O)) (T' := T) (R := fun e => e = .returned (.tuple #[.agg #[.int .i64 ((getL xr O).getD hf0).a, .int .i64 ((getL xr O).getD hf0).b, .string ((getL xr O).getD hf0).c], .bool (getL xr O).isSome])) (fun D hD => mdem_any hD (by omega) xr)).mono ?_)
    rintro e w1 ⟨rfl, hp1, hb1⟩
    refine ⟨rfl, Q0.but hb1 (by omega), PA.but hb1 (by omega), PC.but hb1 (by omega), hidb (fun w2 hb2 => ?_)⟩
    refine ((hp1.poke hb2).refc (Or' := (delL xr O)) (Tt' := T) (R := fun e => e = .returned (.tuple #[.agg #[.int .i64 ((getL xr O).getD hf0).a, .int .i64 ((getL xr O).getD hf0).b, .string ((getL xr O).getD hf0).c], .bool (getL xr O).isSome])) (fun E hE => rdem_any hE hl.2.2.2.1 hl.2.2.2.2.2.1 xr (by omega))).mono ?_
    rintro e w3 ⟨rfl, hp3, hb3⟩
    refine ⟨rfl, hb3, hidb (fun w4 hb4 => ?_)⟩
    exact (hp3.poke hb4).turn (Below.refl _ _) (fun k hk => hk.elim)
  rw [show StpR w0 tb rb O T ⟨2, xr, xp, xn⟩ = (fun e w' => e = .returned (.bool true) ∧ PB NoX w0 w' tb rb (delL xr O) T (delL xr O) T) from rfl]
  have c0 := Q0.c0; have c1 := Q0.c1
  generalize ((getL xr O).getD hf0) = gv at *
  generalize (getL xr O).isSome = gb at *
  have hrl : rb < w.heap.size := hl.2.1
  clear hpn h hl hb0 hs0 Q0 PA PC hX hN hM hsz
  go_enter Try.func8, Try.ntmps8
  go_wp2_with (first
    | (go_at_call 13; refine C.out.mono ?_; clear C; rintro e w1 ⟨rfl, Q1, PA1, PC1, C2⟩; have a0 := PA1.c0; have a1 := PA1.c1; have a2 := PA1.c2; have f0 := PA1.f0; have f1 := PA1.f1; have f2 := PA1.f2; have n1 := Q1.c1)
    | (go_at_call 20; refine (C2.out _ ((but3 _ _ _ _ _).mono (fun k _ e => ⟨by omega, by have := HSZ.out; omega⟩))).mono ?_; clear C2; rintro e w3 ⟨rfl, hb3, HR⟩; have PA3 := (((PA1.set0 (.int .i64 gv.a)).set1 (.int .i64 gv.b)).set2 (.string gv.c)).but hb3 (by omega); have PC3 := (PC1.but (but3 w1 (w.heap.size + 1) (.int .i64 gv.a) (.int .i64 gv.b) (.string gv.c)) (by omega)).but hb3 (by omega); have b0 := PA3.c0; have b1 := PA3.c1; have b2 := PA3.c2; have d0 := PC3.c0; have d1 := PC3.c1; have d2 := PC3.c2; have g0 := PC3.f0; have g1 := PC3.f1; have g2 := PC3.f2))
  go_ret
  exact ⟨rfl, HR.out _ ((but3 _ _ _ _ _).mono (fun k _ e => ⟨by omega, by have := HSZ.out; omega⟩))⟩

set_option maxRecDepth 100000 in
set_option maxHeartbeats 8000000 in
theorem step3 {w0 w : World} {tb rb : Nat} {O T : List KV} (h : PB NoX w0 w tb rb O T O T) (xr xp : Int) (xn : ByteArray) (hsz : xn.size ≤ 281474976710656) (hN : O.length ≤ 80000) (hM : T.length ≤ 80000) :
    Calls Try.prog 8 #[.pointer (some ⟨tb, 0, none⟩), .pointer (some ⟨rb, 0, none⟩), .agg #[.int .i64 3, .int .i64 xr, .int .i64 xp, .string xn]] w (StpR w0 tb rb O T ⟨3, xr, xp, xn⟩) := by
  have hpn := And.intro hsz (And.intro hN hM)
  have hl := h.lts
  obtain ⟨W0, hW0⟩ : ∃ W0, (((w.alloc (.cells #[.int .i64 3, .int .i64 xr, .int .i64 xp, .string xn] 34)).alloc (.cells #[.int .i64 0, .int .i64 0, .string ⟨#[]⟩] 38)).alloc (.cells #[.int .i64 0, .int .i64 0, .string ⟨#[]⟩] 38)) = W0 := ⟨_, rfl⟩
  have hb0 : Below w.heap.size w W0 := hW0 ▸ ((below_new _ _).alloc (by simp) _).alloc (by simp; omega) _
  have hs0 : W0.heap.size = w.heap.size + 1 + 1 + 1 := by rw [← hW0]; simp
  have Q0 : Qua W0 w.heap.size (.int .i64 3) (.int .i64 xr) (.int .i64 xp) (.string xn) := by rw [← hW0]; exact ((Qua.new w _ _ _ _ _).but (S := fun _ => False) (But.of_below ((below_new _ _).alloc (by simp) _)) id)
  have PA : Tri W0 (w.heap.size + 1) (.int .i64 0) (.int .i64 0) (.string ⟨#[]⟩) := by rw [← hW0]; have := (Tri.new (w.alloc (.cells #[.int .i64 3, .int .i64 xr, .int .i64 xp, .string xn] 34)) 38 (.int .i64 0) (.int .i64 0) (.string ⟨#[]⟩)).keep (below_new _ (.cells #[.int .i64 0, .int .i64 0, .string ⟨#[]⟩] 38)); simpa using this
  have PC : Tri W0 (w.heap.size + 1 + 1) (.int .i64 0) (.int .i64 0) (.string ⟨#[]⟩) := by rw [← hW0]; have := Tri.new ((w.alloc (.cells #[.int .i64 3, .int .i64 xr, .int .i64 xp, .string xn] 34)).alloc (.cells #[.int .i64 0, .int .i64 0, .string ⟨#[]⟩] 38)) 38 (.int .i64 0) (.int .i64 0) (.string ⟨#[]⟩); simpa using this
  have hX : PB (fun k => w.heap.size ≤ k ∧ k < W0.heap.size) w0 W0 tb rb O T O T := h.turn hb0 (fun k hk => hk)
  have HSZ := hidb hs0
  have C : Hid (Calls Try.prog 14 #[.pointer (some ⟨tb, 0, none⟩), .int .i64 xr] W0 fun e w1 => e = .returned (.tuple #[.agg #[.int .i64 ((getL xr O).getD hf0).a, .int .i64 ((getL xr O).getD hf0).b, .string ((getL xr O).getD hf0).c], .bool (getL xr O).isSome]) ∧ Qua w1 w.heap.size (.int .i64 3) (.int .i64 xr) (.int .i64 xp) (.string xn) ∧ Tri w1 (w.heap.size + 1) (.int .i64 0) (.int .i64 0) (.string ⟨#[]⟩) ∧ Tri w1 (w.heap.size + 1 + 1) (.int .i64 0) (.int .i64 0) (.string ⟨#[]⟩) ∧ Hid (∀ w2, But (fun k => w.heap.size ≤ k ∧ k < W0.heap.size) w1 w2 → Calls Try.prog 20 #[.pointer (some ⟨rb, 0, none⟩), .int .i64 xr] w2 fun e w3 => e = .returned (.tuple #[.agg #[.int .i64 ((getL xr O).getD hf0).a, .int .i64 ((getL xr O).getD hf0).b, .string ((getL xr O).getD hf0).c], .bool (getL xr O).isSome]) ∧ But (fun k => k = rb) w2 w3 ∧ Hid (∀ w4, But (fun k => w.heap.size ≤ k ∧ k < W0.heap.size) w3 w4 → PB NoX w0 w4 tb rb (delL xr O) T (delL xr O) T))) := by
    have hX' := hX
    refine hidb ((hX'.prog (O' := (delL xr O)) (T' := T) (R := fun e => e = .returned (.tuple #[.agg #[.int .i64 ((getL xr O).getD hf0).a, .int .i64 ((getL xr O).getD hf0).b, .string ((getL xr O).getD hf0).c], .bool (getL xr O).isSome])) (fun D hD => mdown_any hD (by omega) xr)).mono ?_)
    rintro e w1 ⟨rfl, hp1, hb1⟩
    refine ⟨rfl, Q0.but hb1 (by omega), PA.but hb1 (by omega), PC.but hb1 (by omega), hidb (fun w2 hb2 => ?_)⟩
    refine ((hp1.poke hb2).refc (Or' := (delL xr O)) (Tt' := T) (R := fun e => e = .returned (.tuple #[.agg #[.int .i64 ((getL xr O).getD hf0).a, .int .i64 ((getL xr O).getD hf0).b, .string ((getL xr O).getD hf0).c], .bool (getL xr O).isSome])) (fun E hE => rdem_any hE hl.2.2.2.1 hl.2.2.2.2.2.1 xr (by omega))).mono ?_
    rintro e w3 ⟨rfl, hp3, hb3⟩
    refine ⟨rfl, hb3, hidb (fun w4 hb4 => ?_)⟩
    exact (hp3.poke hb4).turn (Below.refl _ _) (fun k hk => hk.elim)
  rw [show StpR w0 tb rb O T ⟨3, xr, xp, xn⟩ = (fun e w' => e = .returned (.bool true) ∧ PB NoX w0 w' tb rb (delL xr O) T (delL xr O) T) from rfl]
  have c0 := Q0.c0; have c1 := Q0.c1
  generalize ((getL xr O).getD hf0) = gv at *
  generalize (getL xr O).isSome = gb at *
  have hrl : rb < w.heap.size := hl.2.1
  clear hpn h hl hb0 hs0 Q0 PA PC hX hN hM hsz
  go_enter Try.func8, Try.ntmps8
  go_wp2_with (first
    | (go_at_call 14; refine C.out.mono ?_; clear C; rintro e w1 ⟨rfl, Q1, PA1, PC1, C2⟩; have a0 := PA1.c0; have a1 := PA1.c1; have a2 := PA1.c2; have f0 := PA1.f0; have f1 := PA1.f1; have f2 := PA1.f2; have n1 := Q1.c1)
    | (go_at_call 20; refine (C2.out _ ((but3 _ _ _ _ _).mono (fun k _ e => ⟨by omega, by have := HSZ.out; omega⟩))).mono ?_; clear C2; rintro e w3 ⟨rfl, hb3, HR⟩; have PA3 := (((PA1.set0 (.int .i64 gv.a)).set1 (.int .i64 gv.b)).set2 (.string gv.c)).but hb3 (by omega); have PC3 := (PC1.but (but3 w1 (w.heap.size + 1) (.int .i64 gv.a) (.int .i64 gv.b) (.string gv.c)) (by omega)).but hb3 (by omega); have b0 := PA3.c0; have b1 := PA3.c1; have b2 := PA3.c2; have d0 := PC3.c0; have d1 := PC3.c1; have d2 := PC3.c2; have g0 := PC3.f0; have g1 := PC3.f1; have g2 := PC3.f2))
  go_ret
  exact ⟨rfl, HR.out _ ((but3 _ _ _ _ _).mono (fun k _ e => ⟨by omega, by have := HSZ.out; omega⟩))⟩

set_option maxRecDepth 100000 in
set_option maxHeartbeats 8000000 in
theorem step6 {w0 w : World} {tb rb : Nat} {O T : List KV} (h : PB NoX w0 w tb rb O T O T) (xr xp : Int) (xn : ByteArray) (hsz : xn.size ≤ 281474976710656) (hN : O.length ≤ 80000) (hM : T.length ≤ 80000) :
    Calls Try.prog 8 #[.pointer (some ⟨tb, 0, none⟩), .pointer (some ⟨rb, 0, none⟩), .agg #[.int .i64 6, .int .i64 xr, .int .i64 xp, .string xn]] w (StpR w0 tb rb O T ⟨6, xr, xp, xn⟩) := by
  have hpn := And.intro hsz (And.intro hN hM)
  have hl := h.lts
  obtain ⟨W0, hW0⟩ : ∃ W0, (((w.alloc (.cells #[.int .i64 6, .int .i64 xr, .int .i64 xp, .string xn] 34)).alloc (.cells #[.int .i64 0, .int .i64 0, .string ⟨#[]⟩] 38)).alloc (.cells #[.int .i64 0, .int .i64 0, .string ⟨#[]⟩] 38)) = W0 := ⟨_, rfl⟩
  have hb0 : Below w.heap.size w W0 := hW0 ▸ ((below_new _ _).alloc (by simp) _).alloc (by simp; omega) _
  have hs0 : W0.heap.size = w.heap.size + 1 + 1 + 1 := by rw [← hW0]; simp
  have Q0 : Qua W0 w.heap.size (.int .i64 6) (.int .i64 xr) (.int .i64 xp) (.string xn) := by rw [← hW0]; exact ((Qua.new w _ _ _ _ _).but (S := fun _ => False) (But.of_below ((below_new _ _).alloc (by simp) _)) id)
  have PA : Tri W0 (w.heap.size + 1) (.int .i64 0) (.int .i64 0) (.string ⟨#[]⟩) := by rw [← hW0]; have := (Tri.new (w.alloc (.cells #[.int .i64 6, .int .i64 xr, .int .i64 xp, .string xn] 34)) 38 (.int .i64 0) (.int .i64 0) (.string ⟨#[]⟩)).keep (below_new _ (.cells #[.int .i64 0, .int .i64 0, .string ⟨#[]⟩] 38)); simpa using this
  have PC : Tri W0 (w.heap.size + 1 + 1) (.int .i64 0) (.int .i64 0) (.string ⟨#[]⟩) := by rw [← hW0]; have := Tri.new ((w.alloc (.cells #[.int .i64 6, .int .i64 xr, .int .i64 xp, .string xn] 34)).alloc (.cells #[.int .i64 0, .int .i64 0, .string ⟨#[]⟩] 38)) 38 (.int .i64 0) (.int .i64 0) (.string ⟨#[]⟩); simpa using this
  have hX : PB (fun k => w.heap.size ≤ k ∧ k < W0.heap.size) w0 W0 tb rb O T O T := h.turn hb0 (fun k hk => hk)
  have HSZ := hidb hs0
  have C : Hid (Calls Try.prog 17 #[.pointer (some ⟨tb, 0, none⟩)] W0 fun e w1 => e = .returned (.tuple #[.agg #[.int .i64 (T.headD (0, hf0)).2.a, .int .i64 (T.headD (0, hf0)).2.b, .string (T.headD (0, hf0)).2.c], .bool (!T.isEmpty)]) ∧ Qua w1 w.heap.size (.int .i64 6) (.int .i64 xr) (.int .i64 xp) (.string xn) ∧ Tri w1 (w.heap.size + 1) (.int .i64 0) (.int .i64 0) (.string ⟨#[]⟩) ∧ Tri w1 (w.heap.size + 1 + 1) (.int .i64 0) (.int .i64 0) (.string ⟨#[]⟩) ∧ Hid (∀ w2, But (fun k => w.heap.size ≤ k ∧ k < W0.heap.size) w1 w2 → Calls Try.prog 23 #[.pointer (some ⟨rb, 0, none⟩)] w2 fun e w3 => e = .returned (.tuple #[.agg #[.int .i64 (T.headD (0, hf0)).2.a, .int .i64 (T.headD (0, hf0)).2.b, .string (T.headD (0, hf0)).2.c], .bool (!T.isEmpty)]) ∧ But (fun k => k = rb) w2 w3 ∧ Hid (∀ w4, But (fun k => w.heap.size ≤ k ∧ k < W0.heap.size) w3 w4 → PB NoX w0 w4 tb rb O T.tail O T.tail))) := by
    have hX' := hX
    refine hidb ((hX'.prog (O' := O) (T' := T.tail) (R := fun e => e = .returned (.tuple #[.agg #[.int .i64 (T.headD (0, hf0)).2.a, .int .i64 (T.headD (0, hf0)).2.b, .string (T.headD (0, hf0)).2.c], .bool (!T.isEmpty)])) (fun D hD => mpopt_any hD (by omega))).mono ?_)
    rintro e w1 ⟨rfl, hp1, hb1⟩
    refine ⟨rfl, Q0.but hb1 (by omega), PA.but hb1 (by omega), PC.but hb1 (by omega), hidb (fun w2 hb2 => ?_)⟩
    refine ((hp1.poke hb2).refc (Or' := O) (Tt' := T.tail) (R := fun e => e = .returned (.tuple #[.agg #[.int .i64 (T.headD (0, hf0)).2.a, .int .i64 (T.headD (0, hf0)).2.b, .string (T.headD (0, hf0)).2.c], .bool (!T.isEmpty)])) (fun E hE => rpopt_any hE hl.2.2.2.2.1 hl.2.2.2.2.2.2 (by omega))).mono ?_
    rintro e w3 ⟨rfl, hp3, hb3⟩
    refine ⟨rfl, hb3, hidb (fun w4 hb4 => ?_)⟩
    exact (hp3.poke hb4).turn (Below.refl _ _) (fun k hk => hk.elim)
  rw [show StpR w0 tb rb O T ⟨6, xr, xp, xn⟩ = (fun e w' => e = .returned (.bool true) ∧ PB NoX w0 w' tb rb O T.tail O T.tail) from rfl]
  have c0 := Q0.c0; have c1 := Q0.c1
  generalize (T.headD (0, hf0)).2 = gv at *
  generalize (!T.isEmpty) = gb at *
  have hrl : rb < w.heap.size := hl.2.1
  clear hpn h hl hb0 hs0 Q0 PA PC hX hN hM hsz
  go_enter Try.func8, Try.ntmps8
  go_wp2_with (first
    | (go_at_call 17; refine C.out.mono ?_; clear C; rintro e w1 ⟨rfl, Q1, PA1, PC1, C2⟩; have a0 := PA1.c0; have a1 := PA1.c1; have a2 := PA1.c2; have f0 := PA1.f0; have f1 := PA1.f1; have f2 := PA1.f2; have n1 := Q1.c1)
    | (go_at_call 23; refine (C2.out _ ((but3 _ _ _ _ _).mono (fun k _ e => ⟨by omega, by have := HSZ.out; omega⟩))).mono ?_; clear C2; rintro e w3 ⟨rfl, hb3, HR⟩; have PA3 := (((PA1.set0 (.int .i64 gv.a)).set1 (.int .i64 gv.b)).set2 (.string gv.c)).but hb3 (by omega); have PC3 := (PC1.but (but3 w1 (w.heap.size + 1) (.int .i64 gv.a) (.int .i64 gv.b) (.string gv.c)) (by omega)).but hb3 (by omega); have b0 := PA3.c0; have b1 := PA3.c1; have b2 := PA3.c2; have d0 := PC3.c0; have d1 := PC3.c1; have d2 := PC3.c2; have g0 := PC3.f0; have g1 := PC3.f1; have g2 := PC3.f2))
  go_ret
  exact ⟨rfl, HR.out _ ((but3 _ _ _ _ _).mono (fun k _ e => ⟨by omega, by have := HSZ.out; omega⟩))⟩

set_option maxRecDepth 100000 in
set_option maxHeartbeats 8000000 in
theorem step7 {w0 w : World} {tb rb : Nat} {O T : List KV} (h : PB NoX w0 w tb rb O T O T) (xr xp : Int) (xn : ByteArray) (hsz : xn.size ≤ 281474976710656) (hN : O.length ≤ 80000) (hM : T.length ≤ 80000) :
    Calls Try.prog 8 #[.pointer (some ⟨tb, 0, none⟩), .pointer (some ⟨rb, 0, none⟩), .agg #[.int .i64 7, .int .i64 xr, .int .i64 xp, .string xn]] w (StpR w0 tb rb O T ⟨7, xr, xp, xn⟩) := by
  have hpn := And.intro hsz (And.intro hN hM)
  have hl := h.lts
  obtain ⟨W0, hW0⟩ : ∃ W0, (((w.alloc (.cells #[.int .i64 7, .int .i64 xr, .int .i64 xp, .string xn] 34)).alloc (.cells #[.int .i64 0, .int .i64 0, .string ⟨#[]⟩] 38)).alloc (.cells #[.int .i64 0, .int .i64 0, .string ⟨#[]⟩] 38)) = W0 := ⟨_, rfl⟩
  have hb0 : Below w.heap.size w W0 := hW0 ▸ ((below_new _ _).alloc (by simp) _).alloc (by simp; omega) _
  have hs0 : W0.heap.size = w.heap.size + 1 + 1 + 1 := by rw [← hW0]; simp
  have Q0 : Qua W0 w.heap.size (.int .i64 7) (.int .i64 xr) (.int .i64 xp) (.string xn) := by rw [← hW0]; exact ((Qua.new w _ _ _ _ _).but (S := fun _ => False) (But.of_below ((below_new _ _).alloc (by simp) _)) id)
  have PA : Tri W0 (w.heap.size + 1) (.int .i64 0) (.int .i64 0) (.string ⟨#[]⟩) := by rw [← hW0]; have := (Tri.new (w.alloc (.cells #[.int .i64 7, .int .i64 xr, .int .i64 xp, .string xn] 34)) 38 (.int .i64 0) (.int .i64 0) (.string ⟨#[]⟩)).keep (below_new _ (.cells #[.int .i64 0, .int .i64 0, .string ⟨#[]⟩] 38)); simpa using this
  have PC : Tri W0 (w.heap.size + 1 + 1) (.int .i64 0) (.int .i64 0) (.string ⟨#[]⟩) := by rw [← hW0]; have := Tri.new ((w.alloc (.cells #[.int .i64 7, .int .i64 xr, .int .i64 xp, .string xn] 34)).alloc (.cells #[.int .i64 0, .int .i64 0, .string ⟨#[]⟩] 38)) 38 (.int .i64 0) (.int .i64 0) (.string ⟨#[]⟩); simpa using this
  have hX : PB (fun k => w.heap.size ≤ k ∧ k < W0.heap.size) w0 W0 tb rb O T O T := h.turn hb0 (fun k hk => hk)
  have HSZ := hidb hs0
  have C : Hid (Calls Try.prog 24 #[.pointer (some ⟨tb, 0, none⟩)] W0 fun e w1 => e = .returned (.tuple #[.agg #[.int .i64 (O.headD (0, hf0)).2.a, .int .i64 (O.headD (0, hf0)).2.b, .string (O.headD (0, hf0)).2.c], .bool (!O.isEmpty)]) ∧ Qua w1 w.heap.size (.int .i64 7) (.int .i64 xr) (.int .i64 xp) (.string xn) ∧ Tri w1 (w.heap.size + 1) (.int .i64 0) (.int .i64 0) (.string ⟨#[]⟩) ∧ Tri w1 (w.heap.size + 1 + 1) (.int .i64 0) (.int .i64 0) (.string ⟨#[]⟩) ∧ Hid (∀ w2, But (fun k => w.heap.size ≤ k ∧ k < W0.heap.size) w1 w2 → Calls Try.prog 25 #[.pointer (some ⟨rb, 0, none⟩)] w2 fun e w3 => e = .returned (.tuple #[.agg #[.int .i64 (O.headD (0, hf0)).2.a, .int .i64 (O.headD (0, hf0)).2.b, .string (O.headD (0, hf0)).2.c], .bool (!O.isEmpty)]) ∧ But (fun k => k = rb) w2 w3 ∧ Hid (∀ w4, But (fun k => w.heap.size ≤ k ∧ k < W0.heap.size) w3 w4 → PB NoX w0 w4 tb rb O.tail T O.tail T))) := by
    have hX' := hX
    refine hidb ((hX'.prog (O' := O.tail) (T' := T) (R := fun e => e = .returned (.tuple #[.agg #[.int .i64 (O.headD (0, hf0)).2.a, .int .i64 (O.headD (0, hf0)).2.b, .string (O.headD (0, hf0)).2.c], .bool (!O.isEmpty)])) (fun D hD => mpopo_any hD (by omega))).mono ?_)
    rintro e w1 ⟨rfl, hp1, hb1⟩
    refine ⟨rfl, Q0.but hb1 (by omega), PA.but hb1 (by omega), PC.but hb1 (by omega), hidb (fun w2 hb2 => ?_)⟩
    refine ((hp1.poke hb2).refc (Or' := O.tail) (Tt' := T) (R := fun e => e = .returned (.tuple #[.agg #[.int .i64 (O.headD (0, hf0)).2.a, .int .i64 (O.headD (0, hf0)).2.b, .string (O.headD (0, hf0)).2.c], .bool (!O.isEmpty)])) (fun E hE => rpopo_any hE hl.2.2.2.1 hl.2.2.2.2.2.1 (by omega))).mono ?_
    rintro e w3 ⟨rfl, hp3, hb3⟩
    refine ⟨rfl, hb3, hidb (fun w4 hb4 => ?_)⟩
    exact (hp3.poke hb4).turn (Below.refl _ _) (fun k hk => hk.elim)
  rw [show StpR w0 tb rb O T ⟨7, xr, xp, xn⟩ = (fun e w' => e = .returned (.bool true) ∧ PB NoX w0 w' tb rb O.tail T O.tail T) from rfl]
  have c0 := Q0.c0; have c1 := Q0.c1
  generalize (O.headD (0, hf0)).2 = gv at *
  generalize (!O.isEmpty) = gb at *
  have hrl : rb < w.heap.size := hl.2.1
  clear hpn h hl hb0 hs0 Q0 PA PC hX hN hM hsz
  go_enter Try.func8, Try.ntmps8
  go_wp2_with (first
    | (go_at_call 24; refine C.out.mono ?_; clear C; rintro e w1 ⟨rfl, Q1, PA1, PC1, C2⟩; have a0 := PA1.c0; have a1 := PA1.c1; have a2 := PA1.c2; have f0 := PA1.f0; have f1 := PA1.f1; have f2 := PA1.f2; have n1 := Q1.c1)
    | (go_at_call 25; refine (C2.out _ ((but3 _ _ _ _ _).mono (fun k _ e => ⟨by omega, by have := HSZ.out; omega⟩))).mono ?_; clear C2; rintro e w3 ⟨rfl, hb3, HR⟩; have PA3 := (((PA1.set0 (.int .i64 gv.a)).set1 (.int .i64 gv.b)).set2 (.string gv.c)).but hb3 (by omega); have PC3 := (PC1.but (but3 w1 (w.heap.size + 1) (.int .i64 gv.a) (.int .i64 gv.b) (.string gv.c)) (by omega)).but hb3 (by omega); have b0 := PA3.c0; have b1 := PA3.c1; have b2 := PA3.c2; have d0 := PC3.c0; have d1 := PC3.c1; have d2 := PC3.c2; have g0 := PC3.f0; have g1 := PC3.f1; have g2 := PC3.f2))
  go_ret
  exact ⟨rfl, HR.out _ ((but3 _ _ _ _ _).mono (fun k _ e => ⟨by omega, by have := HSZ.out; omega⟩))⟩

set_option maxRecDepth 100000 in
set_option maxHeartbeats 8000000 in
theorem step1 {w0 w : World} {tb rb : Nat} {O T : List KV} (h : PB NoX w0 w tb rb O T O T) (xr xp : Int) (xn : ByteArray) (hsz : xn.size ≤ 281474976710656) (hN : O.length ≤ 80000) (hM : T.length ≤ 80000) :
    Calls Try.prog 8 #[.pointer (some ⟨tb, 0, none⟩), .pointer (some ⟨rb, 0, none⟩), .agg #[.int .i64 1, .int .i64 xr, .int .i64 xp, .string xn]] w (StpR w0 tb rb O T ⟨1, xr, xp, xn⟩) := by
  have hpn := And.intro hsz (And.intro hN hM)
  have hl := h.lts
  obtain ⟨W0, hW0⟩ : ∃ W0, (((w.alloc (.cells #[.int .i64 1, .int .i64 xr, .int .i64 xp, .string xn] 34)).alloc (.cells #[.int .i64 0, .int .i64 0, .string ⟨#[]⟩] 38)).alloc (.cells #[.int .i64 0, .int .i64 0, .string ⟨#[]⟩] 38)) = W0 := ⟨_, rfl⟩
  have hb0 : Below w.heap.size w W0 := hW0 ▸ ((below_new _ _).alloc (by simp) _).alloc (by simp; omega) _
  have hs0 : W0.heap.size = w.heap.size + 1 + 1 + 1 := by rw [← hW0]; simp
  have Q0 : Qua W0 w.heap.size (.int .i64 1) (.int .i64 xr) (.int .i64 xp) (.string xn) := by rw [← hW0]; exact ((Qua.new w _ _ _ _ _).but (S := fun _ => False) (But.of_below ((below_new _ _).alloc (by simp) _)) id)
  have PA : Tri W0 (w.heap.size + 1) (.int .i64 0) (.int .i64 0) (.string ⟨#[]⟩) := by rw [← hW0]; have := (Tri.new (w.alloc (.cells #[.int .i64 1, .int .i64 xr, .int .i64 xp, .string xn] 34)) 38 (.int .i64 0) (.int .i64 0) (.string ⟨#[]⟩)).keep (below_new _ (.cells #[.int .i64 0, .int .i64 0, .string ⟨#[]⟩] 38)); simpa using this
  have PC : Tri W0 (w.heap.size + 1 + 1) (.int .i64 0) (.int .i64 0) (.string ⟨#[]⟩) := by rw [← hW0]; have := Tri.new ((w.alloc (.cells #[.int .i64 1, .int .i64 xr, .int .i64 xp, .string xn] 34)).alloc (.cells #[.int .i64 0, .int .i64 0, .string ⟨#[]⟩] 38)) 38 (.int .i64 0) (.int .i64 0) (.string ⟨#[]⟩); simpa using this
  have hX : PB (fun k => w.heap.size ≤ k ∧ k < W0.heap.size) w0 W0 tb rb O T O T := h.turn hb0 (fun k hk => hk)
  have HSZ := hidb hs0
  have C : Hid (Calls Try.prog 12 #[.pointer (some ⟨tb, 0, none⟩), .int .i64 xr, .int .i64 xp, .string xn] W0.drew fun e w1 => e = .returned (.int .i64 (putE 0 ⟨xr, xp, xn⟩ O)) ∧ Qua w1 w.heap.size (.int .i64 1) (.int .i64 xr) (.int .i64 xp) (.string xn) ∧ Tri w1 (w.heap.size + 1) (.int .i64 0) (.int .i64 0) (.string ⟨#[]⟩) ∧ Tri w1 (w.heap.size + 1 + 1) (.int .i64 0) (.int .i64 0) (.string ⟨#[]⟩) ∧ Hid (∀ w2, But (fun k => w.heap.size ≤ k ∧ k < W0.heap.size) w1 w2 → Calls Try.prog 19 #[.pointer (some ⟨rb, 0, none⟩), .int .i64 xr, .int .i64 xp, .string xn] w2 fun e w3 => e = .returned (.int .i64 (putE 0 ⟨xr, xp, xn⟩ O)) ∧ But (fun k => k = rb) w2 w3 ∧ Hid (∀ w4, But (fun k => w.heap.size ≤ k ∧ k < W0.heap.size) w3 w4 → PB NoX w0 w4 tb rb (putL 0 ⟨xr, xp, xn⟩ O) T (putL 0 ⟨xr, xp, xn⟩ O) T))) := by
    have hX' := hX.keep ((Below.refl _ _).drew)
    refine hidb ((hX'.prog (O' := (putL 0 ⟨xr, xp, xn⟩ O)) (T' := T) (R := fun e => e = .returned (.int .i64 (putE 0 ⟨xr, xp, xn⟩ O))) (fun D hD => mwatch_any hD (by omega) xr xp xn hsz)).mono ?_)
    rintro e w1 ⟨rfl, hp1, hb1⟩
    refine ⟨rfl, (Q0.but (S := fun _ => False) ((But.refl _ _).drew) id).but hb1 (by omega), (PA.keep ((Below.refl _ _).drew)).but hb1 (by omega), (PC.keep ((Below.refl _ _).drew)).but hb1 (by omega), hidb (fun w2 hb2 => ?_)⟩
    refine ((hp1.poke hb2).refc (Or' := (putL 0 ⟨xr, xp, xn⟩ O)) (Tt' := T) (R := fun e => e = .returned (.int .i64 (putE 0 ⟨xr, xp, xn⟩ O))) (fun E hE => rwatch_any hE hl.2.2.2.1 hl.2.2.2.2.2.1 xr xp xn (by omega))).mono ?_
    rintro e w3 ⟨rfl, hp3, hb3⟩
    refine ⟨rfl, hb3, hidb (fun w4 hb4 => ?_)⟩
    exact (hp3.poke hb4).turn (Below.refl _ _) (fun k hk => hk.elim)
  rw [show StpR w0 tb rb O T ⟨1, xr, xp, xn⟩ = (fun e w' => e = .returned (.bool true) ∧ PB NoX w0 w' tb rb (putL 0 ⟨xr, xp, xn⟩ O) T (putL 0 ⟨xr, xp, xn⟩ O) T) from rfl]
  have c0 := Q0.c0
  have Q0d : Qua W0.drew w.heap.size (.int .i64 1) (.int .i64 xr) (.int .i64 xp) (.string xn) := Q0.but (S := fun _ => False) ((But.refl _ _).drew) id
  have HS0 : Hid (W0.drew.cell? ⟨w.heap.size, 1, none⟩ = some (.int .i64 xr) ∧ W0.drew.cell? ⟨w.heap.size, 2, none⟩ = some (.int .i64 xp) ∧ W0.drew.cell? ⟨w.heap.size, 3, none⟩ = some (.string xn)) := hidb ⟨Q0d.c1, Q0d.c2, Q0d.c3⟩
  have hrl : rb < w.heap.size := hl.2.1
  generalize hR : putE 0 ⟨xr, xp, xn⟩ O = gr at *
  clear hpn hR h hl hb0 hs0 Q0 PA PC hX hN hM hsz Q0d
  go_enter Try.func8, Try.ntmps8
  go_wp2_with fail
  clear hW0
  go_region_held3 (fun w' => w'.cell? ⟨w.heap.size, 1, none⟩ = some (.int .i64 xr) ∧ w'.cell? ⟨w.heap.size, 2, none⟩ = some (.int .i64 xp) ∧ w'.cell? ⟨w.heap.size, 3, none⟩ = some (.string xn)) (first | with_reducible exact HS0.out | with_reducible exact HS1.out | with_reducible exact HS2.out) (first
    | (go_at_call 12; refine C.out.mono ?_; clear C; rintro e w1 ⟨rfl, Q1, -, -, C2⟩; have HS1 : Hid (w1.cell? ⟨w.heap.size, 1, none⟩ = some (.int .i64 xr) ∧ w1.cell? ⟨w.heap.size, 2, none⟩ = some (.int .i64 xp) ∧ w1.cell? ⟨w.heap.size, 3, none⟩ = some (.string xn)) := hidb ⟨Q1.c1, Q1.c2, Q1.c3⟩; have HQ1 := hidb Q1; clear Q1)
    | (go_at_call 19; refine (C2.out _ (But.refl _ _)).mono ?_; clear C2; rintro e w3 ⟨rfl, hb3, HR⟩; have HS2 : Hid (w3.cell? ⟨w.heap.size, 1, none⟩ = some (.int .i64 xr) ∧ w3.cell? ⟨w.heap.size, 2, none⟩ = some (.int .i64 xp) ∧ w3.cell? ⟨w.heap.size, 3, none⟩ = some (.string xn)) := hidb (by have Q3 := HQ1.out.but hb3 (by omega); exact ⟨Q3.c1, Q3.c2, Q3.c3⟩); clear hb3))
  go_wp2_with fail
  go_ret
  exact ⟨by simp, HR.out _ (But.refl _ _)⟩

set_option maxRecDepth 100000 in
set_option maxHeartbeats 8000000 in
theorem step4 {w0 w : World} {tb rb : Nat} {O T : List KV} (h : PB NoX w0 w tb rb O T O T) (xr xp : Int) (xn : ByteArray) (hsz : xn.size ≤ 281474976710656) (hN : O.length ≤ 80000) (hM : T.length ≤ 80000) :
    Calls Try.prog 8 #[.pointer (some ⟨tb, 0, none⟩), .pointer (some ⟨rb, 0, none⟩), .agg #[.int .i64 4, .int .i64 xr, .int .i64 xp, .string xn]] w (StpR w0 tb rb O T ⟨4, xr, xp, xn⟩) := by
  have hpn := And.intro hsz (And.intro hN hM)
  have hl := h.lts
  obtain ⟨W0, hW0⟩ : ∃ W0, (((w.alloc (.cells #[.int .i64 4, .int .i64 xr, .int .i64 xp, .string xn] 34)).alloc (.cells #[.int .i64 0, .int .i64 0, .string ⟨#[]⟩] 38)).alloc (.cells #[.int .i64 0, .int .i64 0, .string ⟨#[]⟩] 38)) = W0 := ⟨_, rfl⟩
  have hb0 : Below w.heap.size w W0 := hW0 ▸ ((below_new _ _).alloc (by simp) _).alloc (by simp; omega) _
  have hs0 : W0.heap.size = w.heap.size + 1 + 1 + 1 := by rw [← hW0]; simp
  have Q0 : Qua W0 w.heap.size (.int .i64 4) (.int .i64 xr) (.int .i64 xp) (.string xn) := by rw [← hW0]; exact ((Qua.new w _ _ _ _ _).but (S := fun _ => False) (But.of_below ((below_new _ _).alloc (by simp) _)) id)
  have PA : Tri W0 (w.heap.size + 1) (.int .i64 0) (.int .i64 0) (.string ⟨#[]⟩) := by rw [← hW0]; have := (Tri.new (w.alloc (.cells #[.int .i64 4, .int .i64 xr, .int .i64 xp, .string xn] 34)) 38 (.int .i64 0) (.int .i64 0) (.string ⟨#[]⟩)).keep (below_new _ (.cells #[.int .i64 0, .int .i64 0, .string ⟨#[]⟩] 38)); simpa using this
  have PC : Tri W0 (w.heap.size + 1 + 1) (.int .i64 0) (.int .i64 0) (.string ⟨#[]⟩) := by rw [← hW0]; have := Tri.new ((w.alloc (.cells #[.int .i64 4, .int .i64 xr, .int .i64 xp, .string xn] 34)).alloc (.cells #[.int .i64 0, .int .i64 0, .string ⟨#[]⟩] 38)) 38 (.int .i64 0) (.int .i64 0) (.string ⟨#[]⟩); simpa using this
  have hX : PB (fun k => w.heap.size ≤ k ∧ k < W0.heap.size) w0 W0 tb rb O T O T := h.turn hb0 (fun k hk => hk)
  have HSZ := hidb hs0
  have C : Hid (Calls Try.prog 15 #[.pointer (some ⟨tb, 0, none⟩), .int .i64 xr, .int .i64 xp] W0.drew fun e w1 => e = .returned (.int .i64 (putE 1 ⟨xr, xp, ⟨#[]⟩⟩ T)) ∧ Qua w1 w.heap.size (.int .i64 4) (.int .i64 xr) (.int .i64 xp) (.string xn) ∧ Tri w1 (w.heap.size + 1) (.int .i64 0) (.int .i64 0) (.string ⟨#[]⟩) ∧ Tri w1 (w.heap.size + 1 + 1) (.int .i64 0) (.int .i64 0) (.string ⟨#[]⟩) ∧ Hid (∀ w2, But (fun k => w.heap.size ≤ k ∧ k < W0.heap.size) w1 w2 → Calls Try.prog 21 #[.pointer (some ⟨rb, 0, none⟩), .int .i64 xr, .int .i64 xp] w2 fun e w3 => e = .returned (.int .i64 (putE 1 ⟨xr, xp, ⟨#[]⟩⟩ T)) ∧ But (fun k => k = rb) w2 w3 ∧ Hid (∀ w4, But (fun k => w.heap.size ≤ k ∧ k < W0.heap.size) w3 w4 → PB NoX w0 w4 tb rb O (putL 1 ⟨xr, xp, ⟨#[]⟩⟩ T) O (putL 1 ⟨xr, xp, ⟨#[]⟩⟩ T)))) := by
    have hX' := hX.keep ((Below.refl _ _).drew)
    refine hidb ((hX'.prog (O' := O) (T' := (putL 1 ⟨xr, xp, ⟨#[]⟩⟩ T)) (R := fun e => e = .returned (.int .i64 (putE 1 ⟨xr, xp, ⟨#[]⟩⟩ T))) (fun D hD => monm_any hD (by omega) xr xp)).mono ?_)
    rintro e w1 ⟨rfl, hp1, hb1⟩
    refine ⟨rfl, (Q0.but (S := fun _ => False) ((But.refl _ _).drew) id).but hb1 (by omega), (PA.keep ((Below.refl _ _).drew)).but hb1 (by omega), (PC.keep ((Below.refl _ _).drew)).but hb1 (by omega), hidb (fun w2 hb2 => ?_)⟩
    refine ((hp1.poke hb2).refc (Or' := O) (Tt' := (putL 1 ⟨xr, xp, ⟨#[]⟩⟩ T)) (R := fun e => e = .returned (.int .i64 (putE 1 ⟨xr, xp, ⟨#[]⟩⟩ T))) (fun E hE => ronm_any hE hl.2.2.2.2.1 hl.2.2.2.2.2.2 xr xp (by omega))).mono ?_
    rintro e w3 ⟨rfl, hp3, hb3⟩
    refine ⟨rfl, hb3, hidb (fun w4 hb4 => ?_)⟩
    exact (hp3.poke hb4).turn (Below.refl _ _) (fun k hk => hk.elim)
  rw [show StpR w0 tb rb O T ⟨4, xr, xp, xn⟩ = (fun e w' => e = .returned (.bool true) ∧ PB NoX w0 w' tb rb O (putL 1 ⟨xr, xp, ⟨#[]⟩⟩ T) O (putL 1 ⟨xr, xp, ⟨#[]⟩⟩ T)) from rfl]
  have c0 := Q0.c0
  have Q0d : Qua W0.drew w.heap.size (.int .i64 4) (.int .i64 xr) (.int .i64 xp) (.string xn) := Q0.but (S := fun _ => False) ((But.refl _ _).drew) id
  have HS0 : Hid (W0.drew.cell? ⟨w.heap.size, 1, none⟩ = some (.int .i64 xr) ∧ W0.drew.cell? ⟨w.heap.size, 2, none⟩ = some (.int .i64 xp)) := hidb ⟨Q0d.c1, Q0d.c2⟩
  have hrl : rb < w.heap.size := hl.2.1
  generalize hR : putE 1 ⟨xr, xp, ⟨#[]⟩⟩ T = gr at *
  clear hpn hR h hl hb0 hs0 Q0 PA PC hX hN hM hsz Q0d
  go_enter Try.func8, Try.ntmps8
  go_wp2_with fail
  clear hW0
  go_region_held3 (fun w' => w'.cell? ⟨w.heap.size, 1, none⟩ = some (.int .i64 xr) ∧ w'.cell? ⟨w.heap.size, 2, none⟩ = some (.int .i64 xp)) (first | with_reducible exact HS0.out | with_reducible exact HS1.out | with_reducible exact HS2.out) (first
    | (go_at_call 15; refine C.out.mono ?_; clear C; rintro e w1 ⟨rfl, Q1, -, -, C2⟩; have HS1 : Hid (w1.cell? ⟨w.heap.size, 1, none⟩ = some (.int .i64 xr) ∧ w1.cell? ⟨w.heap.size, 2, none⟩ = some (.int .i64 xp)) := hidb ⟨Q1.c1, Q1.c2⟩; have HQ1 := hidb Q1; clear Q1)
    | (go_at_call 21; refine (C2.out _ (But.refl _ _)).mono ?_; clear C2; rintro e w3 ⟨rfl, hb3, HR⟩; have HS2 : Hid (w3.cell? ⟨w.heap.size, 1, none⟩ = some (.int .i64 xr) ∧ w3.cell? ⟨w.heap.size, 2, none⟩ = some (.int .i64 xp)) := hidb (by have Q3 := HQ1.out.but hb3 (by omega); exact ⟨Q3.c1, Q3.c2⟩); clear hb3))
  go_wp2_with fail
  go_ret
  exact ⟨by simp, HR.out _ (But.refl _ _)⟩

set_option maxRecDepth 100000 in
set_option maxHeartbeats 8000000 in
theorem step5 {w0 w : World} {tb rb : Nat} {O T : List KV} (h : PB NoX w0 w tb rb O T O T) (xr xp : Int) (xn : ByteArray) (hsz : xn.size ≤ 281474976710656) (hN : O.length ≤ 80000) (hM : T.length ≤ 80000) :
    Calls Try.prog 8 #[.pointer (some ⟨tb, 0, none⟩), .pointer (some ⟨rb, 0, none⟩), .agg #[.int .i64 5, .int .i64 xr, .int .i64 xp, .string xn]] w (StpR w0 tb rb O T ⟨5, xr, xp, xn⟩) := by
  have hpn := And.intro hsz (And.intro hN hM)
  have hl := h.lts
  obtain ⟨W0, hW0⟩ : ∃ W0, (((w.alloc (.cells #[.int .i64 5, .int .i64 xr, .int .i64 xp, .string xn] 34)).alloc (.cells #[.int .i64 0, .int .i64 0, .string ⟨#[]⟩] 38)).alloc (.cells #[.int .i64 0, .int .i64 0, .string ⟨#[]⟩] 38)) = W0 := ⟨_, rfl⟩
  have hb0 : Below w.heap.size w W0 := hW0 ▸ ((below_new _ _).alloc (by simp) _).alloc (by simp; omega) _
  have hs0 : W0.heap.size = w.heap.size + 1 + 1 + 1 := by rw [← hW0]; simp
  have Q0 : Qua W0 w.heap.size (.int .i64 5) (.int .i64 xr) (.int .i64 xp) (.string xn) := by rw [← hW0]; exact ((Qua.new w _ _ _ _ _).but (S := fun _ => False) (But.of_below ((below_new _ _).alloc (by simp) _)) id)
  have PA : Tri W0 (w.heap.size + 1) (.int .i64 0) (.int .i64 0) (.string ⟨#[]⟩) := by rw [← hW0]; have := (Tri.new (w.alloc (.cells #[.int .i64 5, .int .i64 xr, .int .i64 xp, .string xn] 34)) 38 (.int .i64 0) (.int .i64 0) (.string ⟨#[]⟩)).keep (below_new _ (.cells #[.int .i64 0, .int .i64 0, .string ⟨#[]⟩] 38)); simpa using this
  have PC : Tri W0 (w.heap.size + 1 + 1) (.int .i64 0) (.int .i64 0) (.string ⟨#[]⟩) := by rw [← hW0]; have := Tri.new ((w.alloc (.cells #[.int .i64 5, .int .i64 xr, .int .i64 xp, .string xn] 34)).alloc (.cells #[.int .i64 0, .int .i64 0, .string ⟨#[]⟩] 38)) 38 (.int .i64 0) (.int .i64 0) (.string ⟨#[]⟩); simpa using this
  have hX : PB (fun k => w.heap.size ≤ k ∧ k < W0.heap.size) w0 W0 tb rb O T O T := h.turn hb0 (fun k hk => hk)
  have HSZ := hidb hs0
  have C : Hid (Calls Try.prog 16 #[.pointer (some ⟨tb, 0, none⟩), .int .i64 xr] W0.drew fun e w1 => e = .returned (.bool ((getL xr T).isSome)) ∧ Qua w1 w.heap.size (.int .i64 5) (.int .i64 xr) (.int .i64 xp) (.string xn) ∧ Tri w1 (w.heap.size + 1) (.int .i64 0) (.int .i64 0) (.string ⟨#[]⟩) ∧ Tri w1 (w.heap.size + 1 + 1) (.int .i64 0) (.int .i64 0) (.string ⟨#[]⟩) ∧ Hid (∀ w2, But (fun k => w.heap.size ≤ k ∧ k < W0.heap.size) w1 w2 → Calls Try.prog 22 #[.pointer (some ⟨rb, 0, none⟩), .int .i64 xr] w2 fun e w3 => e = .returned (.bool ((getL xr T).isSome)) ∧ But (fun k => k = rb) w2 w3 ∧ Hid (∀ w4, But (fun k => w.heap.size ≤ k ∧ k < W0.heap.size) w3 w4 → PB NoX w0 w4 tb rb O (delL xr T) O (delL xr T)))) := by
    have hX' := hX.keep ((Below.refl _ _).drew)
    refine hidb ((hX'.prog (O' := O) (T' := (delL xr T)) (R := fun e => e = .returned (.bool ((getL xr T).isSome))) (fun D hD => mond_any hD (by omega) xr)).mono ?_)
    rintro e w1 ⟨rfl, hp1, hb1⟩
    refine ⟨rfl, (Q0.but (S := fun _ => False) ((But.refl _ _).drew) id).but hb1 (by omega), (PA.keep ((Below.refl _ _).drew)).but hb1 (by omega), (PC.keep ((Below.refl _ _).drew)).but hb1 (by omega), hidb (fun w2 hb2 => ?_)⟩
    refine ((hp1.poke hb2).refc (Or' := O) (Tt' := (delL xr T)) (R := fun e => e = .returned (.bool ((getL xr T).isSome))) (fun E hE => rond_any hE hl.2.2.2.2.1 hl.2.2.2.2.2.2 xr (by omega))).mono ?_
    rintro e w3 ⟨rfl, hp3, hb3⟩
    refine ⟨rfl, hb3, hidb (fun w4 hb4 => ?_)⟩
    exact (hp3.poke hb4).turn (Below.refl _ _) (fun k hk => hk.elim)
  rw [show StpR w0 tb rb O T ⟨5, xr, xp, xn⟩ = (fun e w' => e = .returned (.bool true) ∧ PB NoX w0 w' tb rb O (delL xr T) O (delL xr T)) from rfl]
  have c0 := Q0.c0
  have Q0d : Qua W0.drew w.heap.size (.int .i64 5) (.int .i64 xr) (.int .i64 xp) (.string xn) := Q0.but (S := fun _ => False) ((But.refl _ _).drew) id
  have HS0 : Hid (W0.drew.cell? ⟨w.heap.size, 1, none⟩ = some (.int .i64 xr)) := hidb Q0d.c1
  have hrl : rb < w.heap.size := hl.2.1
  generalize hR : (getL xr T).isSome = gr at *
  clear hpn hR h hl hb0 hs0 Q0 PA PC hX hN hM hsz Q0d
  go_enter Try.func8, Try.ntmps8
  go_wp2_with fail
  clear hW0
  go_region_held3 (fun w' => w'.cell? ⟨w.heap.size, 1, none⟩ = some (.int .i64 xr)) (first | with_reducible exact HS0.out | with_reducible exact HS1.out | with_reducible exact HS2.out) (first
    | (go_at_call 16; refine C.out.mono ?_; clear C; rintro e w1 ⟨rfl, Q1, -, -, C2⟩; have HS1 : Hid (w1.cell? ⟨w.heap.size, 1, none⟩ = some (.int .i64 xr)) := hidb Q1.c1; have HQ1 := hidb Q1; clear Q1)
    | (go_at_call 22; refine (C2.out _ (But.refl _ _)).mono ?_; clear C2; rintro e w3 ⟨rfl, hb3, HR⟩; have HS2 : Hid (w3.cell? ⟨w.heap.size, 1, none⟩ = some (.int .i64 xr)) := hidb (by have Q3 := HQ1.out.but hb3 (by omega); exact Q3.c1); clear hb3))
  go_wp2_with fail
  go_ret
  exact ⟨by simp, HR.out _ (But.refl _ _)⟩

set_option maxRecDepth 100000 in
set_option maxHeartbeats 8000000 in
theorem step_any {w0 w : World} {tb rb : Nat} {O T : List KV} (h : PB NoX w0 w tb rb O T O T) (x : Act4) (hsz : x.nm.size ≤ 281474976710656) (hN : O.length ≤ 80000) (hM : T.length ≤ 80000) :
    Calls Try.prog 8 #[.pointer (some ⟨tb, 0, none⟩), .pointer (some ⟨rb, 0, none⟩), .agg #[.int .i64 x.op, .int .i64 x.ref, .int .i64 x.pid, .string x.nm]] w (StpR w0 tb rb O T x) := by
  obtain ⟨xo, xr, xp, xn⟩ := x
  simp only at hsz ⊢
  by_cases k1 : xo = 1
  · subst k1; exact step1 h xr xp xn hsz hN hM
  by_cases k2 : xo = 2
  · subst k2; exact step2 h xr xp xn hsz hN hM
  by_cases k3 : xo = 3
  · subst k3; exact step3 h xr xp xn hsz hN hM
  by_cases k4 : xo = 4
  · subst k4; exact step4 h xr xp xn hsz hN hM
  by_cases k5 : xo = 5
  · subst k5; exact step5 h xr xp xn hsz hN hM
  by_cases k6 : xo = 6
  · subst k6; exact step6 h xr xp xn hsz hN hM
  by_cases k7 : xo = 7
  · subst k7; exact step7 h xr xp xn hsz hN hM
  rw [show StpR w0 tb rb O T ⟨xo, xr, xp, xn⟩ = (fun e w' => e = .returned (.bool true) ∧ PB NoX w0 w' tb rb O T O T) from by funext e w'; simp [StpR, stpO, stpT, k1, k2, k3, k4, k5, k6, k7]]
  have d1 : (xo == 1) = false := by simpa using k1
  have d2 : (xo == 2) = false := by simpa using k2
  have d3 : (xo == 3) = false := by simpa using k3
  have d4 : (xo == 4) = false := by simpa using k4
  have d5 : (xo == 5) = false := by simpa using k5
  have d6 : (xo == 6) = false := by simpa using k6
  have d7 : (xo == 7) = false := by simpa using k7
  have HP : Hid (PB NoX w0 (((w.alloc (.cells #[.int .i64 xo, .int .i64 xr, .int .i64 xp, .string xn] 34)).alloc (.cells #[.int .i64 0, .int .i64 0, .string ⟨#[]⟩] 38)).alloc (.cells #[.int .i64 0, .int .i64 0, .string ⟨#[]⟩] 38)) tb rb O T O T) := hidb (h.keep (((below_new _ _).alloc (by simp) _).alloc (by simp; omega) _))
  clear h k1 k2 k3 k4 k5 k6 k7 hN hM hsz
  go_enter Try.func8, Try.ntmps8
  go_wp2_with fail
  go_ret
  exact ⟨rfl, HP.out⟩

end Go.Proofs.Ytmnglaeaicicnaa
