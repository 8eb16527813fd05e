/- law17.step, walked. -/
import Derived.Test.YtfhgohpldpnkbaaNp0
import Derived.Deep.DrawnRows
namespace Go.Proofs.Ytfhgohpldpnkbaa
open Go.RowKit Go.Lib Go.Maps
attribute [local go_sem ↓] Go.wp_at_zero Go.wp_at_succ

theorem NAt.up {w : World} {b K K2 : Nat} {m : Option (Nat × Nat)} {R : List NP} (h : NAt w b m K R) (hK : K ≤ K2) : NAt w b m K2 R := by
  refine ⟨h.duo, ?_, h.reg⟩
  rcases h.mp with e | ⟨x, y, Dx, Ex, e, r1, r2, r3⟩
  · exact .inl e
  · exact .inr ⟨x, y, Dx, Ex, e, r1.mono hK, r2.mono hK, r3⟩
theorem PB.up {X : Nat → Prop} {w0 w : World} {nb rb K K2 : Nat} {R R' : List NP} (h : PB X w0 w nb rb K R R') (hK : K ≤ K2) : PB X w0 w nb rb K2 R R' := by
  obtain ⟨D, E, ⟨m, h1, hd⟩, r⟩ := h
  exact ⟨D, E, ⟨m, h1.up hK, hd⟩, r⟩
/-- What step tells. -/
def StpR (X : Nat → Prop) (w0 w : World) (nb rb K : Nat) (R R' : List NP) (x : Act3) (e : Ending) (w' : World) : Prop := (∃ b, e = .returned (.bool b) ∧ (R = R' → b = true)) ∧ PB X w0 w' nb rb (K + 1) (stpN x R) (stpN x R') ∧ But (fun k => w0.heap.size ≤ k ∧ ¬ X k) w w'
theorem StpR.of {X : Nat → Prop} {w0 w w1 w3 : World} {nb rb K K2 : Nat} {R R' R2 R2' : List NP} {x : Act3} {o : Obj} {v : Bool} (h : PB (fun k => X k ∨ k = w.heap.size) w0 w3 nb rb K2 R2 R2') (hK : K2 ≤ K + 1) (h1 : But (fun k => w0.heap.size ≤ k ∧ ¬ (X k ∨ k = w.heap.size)) (w.alloc o).drew w1) (h3 : But (fun k => w0.heap.size ≤ k ∧ ¬ (X k ∨ k = w.heap.size)) w1 w3) (e1 : R2 = stpN x R) (e2 : R2' = stpN x R') (hv : R = R' → v = true) :
    StpR X w0 w nb rb K R R' x (.returned (.bool v)) w3 := by
  subst e1 e2
  refine ⟨⟨v, rfl, hv⟩, ((h.turn (Below.refl _ _) (fun k hk => .inl (.inl hk))).up hK), ?_⟩
  have hb := ((But.of_below (S := fun k => w0.heap.size ≤ k ∧ ¬ (X k ∨ k = w.heap.size)) ((below_new w o).drew)).trans h1).trans h3
  exact hb.mono (fun k _ e => ⟨e.1, fun q => e.2 (.inl q)⟩)

set_option maxRecDepth 100000 in
set_option maxHeartbeats 8000000 in
theorem step1 {X : Nat → Prop} {w0 w : World} {nb rb K : Nat} {R R' : List NP} (h : PB X w0 w nb rb K R R') (xn : ByteArray) (xp : Int) (ho : OkA ⟨1, xn, xp⟩) (hK : K ≤ 80000) (hN' : R'.length ≤ 70000) :
    Calls Try.prog 7 #[.pointer (some ⟨nb, 0, none⟩), .pointer (some ⟨rb, 0, none⟩), .agg #[.int .i64 1, .string xn, .int .i64 xp]] w (StpR X w0 w nb rb K R R' ⟨1, xn, xp⟩) := by
  have hl := h.low.size
  obtain ⟨W0, hW0⟩ : ∃ W0, w.alloc (.cells #[.int .i64 1, .string xn, .int .i64 xp] 32) = W0 := ⟨_, rfl⟩
  have hb0 : Below w.heap.size w W0 := hW0 ▸ below_new _ _
  have hs0 : W0.heap.size = w.heap.size + 1 := by rw [← hW0]; simp
  have Q0 : Tri W0 w.heap.size (.int .i64 1) (.string xn) (.int .i64 xp) := by rw [← hW0]; exact Tri.new w _ _ _ _
  have hX : PB (fun k => X k ∨ k = w.heap.size) w0 W0 nb rb K R R' := h.turn hb0 (fun k hk => hk.elim .inl (fun e => .inr (by omega)))
  have HEQ : Hid (R = R' → regE R xn xp = regE R' xn xp) := hidb (fun e => by rw [e])
  have CC : Hid (Calls Try.prog 13 #[.pointer (some ⟨nb, 0, none⟩), .string xn, .int .i64 xp] W0.drew fun e w1 => e = .returned (.int .i64 (regE R xn xp)) ∧ Tri w1 w.heap.size (.int .i64 1) (.string xn) (.int .i64 xp) ∧ Hid (But (fun k => w0.heap.size ≤ k ∧ ¬ (X k ∨ k = w.heap.size)) (w.alloc (.cells #[.int .i64 1, .string xn, .int .i64 xp] 32)).drew w1) ∧ Hid (Calls Try.prog 15 #[.pointer (some ⟨rb, 0, none⟩), .string xn, .int .i64 xp] w1 fun e w3 => e = .returned (.int .i64 (regE R' xn xp)) ∧ Tri w3 w.heap.size (.int .i64 1) (.string xn) (.int .i64 xp) ∧ Hid (∀ v : Bool, (R = R' → v = true) → StpR X w0 w nb rb K R R' ⟨1, xn, xp⟩ (.returned (.bool v)) w3))) := by
    have hX' := hX.keep ((Below.refl _ _).drew)
    refine hidb ((hX'.prog (K2 := (K + 1)) (R2 := regN R xn xp) (Z := fun e => e = .returned (.int .i64 (regE R xn xp))) (fun D hD => pregister hD ho.nm ho.pid (by unfold maxLen; omega))).mono ?_)
    rintro e w1 ⟨rfl, hp1, hb1⟩
    have Q1 := (Q0.keep ((Below.refl _ _).drew)).but hb1 (fun e => e.2 (.inr rfl))
    refine ⟨rfl, Q1, hidb (hW0 ▸ hb1), hidb ?_⟩
    refine (hp1.refc (R2 := regN R' xn xp) (Z := fun e => e = .returned (.int .i64 (regE R' xn xp))) (fun E hE => rregister hE (by omega) xn xp)).mono ?_
    rintro e w3 ⟨rfl, hp3, hb3⟩
    exact ⟨rfl, Q1.but hb3 (fun e => e.2 (.inr rfl)), hidb (fun v hv => StpR.of (o := (.cells #[.int .i64 1, .string xn, .int .i64 xp] 32)) hp3 (by omega) (hW0 ▸ hb1) hb3 rfl rfl hv)⟩
  have c0 := Q0.c0
  have Q0d : Tri W0.drew w.heap.size (.int .i64 1) (.string xn) (.int .i64 xp) := Q0.keep ((Below.refl _ _).drew)
  have HS0 : Hid (W0.drew.cell? ⟨w.heap.size, 1, none⟩ = some (.string xn) ∧ W0.drew.cell? ⟨w.heap.size, 2, none⟩ = some (.int .i64 xp)) := hidb ⟨Q0d.c1, Q0d.c2⟩
  generalize regE R xn xp = g1 at *
  generalize regE R' xn xp = g2 at *
  clear h ho hK hN' hl hb0 hs0 Q0 hX Q0d
  go_enter Try.func7, Try.ntmps7
  go_wp2_with fail
  clear hW0
  go_region_held3 (fun w' => w'.cell? ⟨w.heap.size, 1, none⟩ = some (.string xn) ∧ w'.cell? ⟨w.heap.size, 2, none⟩ = some (.int .i64 xp)) (first | with_reducible exact HS0.out | with_reducible exact HS1.out | with_reducible exact HS2.out) (first
    | (go_at_call 13; refine CC.out.mono ?_; clear CC; rintro e w1 ⟨rfl, Q1, HB1, C2⟩; have HS1 : Hid (w1.cell? ⟨w.heap.size, 1, none⟩ = some (.string xn) ∧ w1.cell? ⟨w.heap.size, 2, none⟩ = some (.int .i64 xp)) := hidb ⟨Q1.c1, Q1.c2⟩; clear Q1 HB1)
    | (go_at_call 15; refine C2.out.mono ?_; clear C2; rintro e w3 ⟨rfl, Q3, HR⟩; have HS2 : Hid (w3.cell? ⟨w.heap.size, 1, none⟩ = some (.string xn) ∧ w3.cell? ⟨w.heap.size, 2, none⟩ = some (.int .i64 xp)) := hidb ⟨Q3.c1, Q3.c2⟩; clear Q3))
  go_wp2_with fail
  go_ret
  exact HR.out _ (fun e => by simp [HEQ.out e])

set_option maxRecDepth 100000 in
set_option maxHeartbeats 8000000 in
theorem step2 {X : Nat → Prop} {w0 w : World} {nb rb K : Nat} {R R' : List NP} (h : PB X w0 w nb rb K R R') (xn : ByteArray) (xp : Int) (ho : OkA ⟨2, xn, xp⟩) (hN' : R'.length ≤ 70000) :
    Calls Try.prog 7 #[.pointer (some ⟨nb, 0, none⟩), .pointer (some ⟨rb, 0, none⟩), .agg #[.int .i64 2, .string xn, .int .i64 xp]] w (StpR X w0 w nb rb K R R' ⟨2, xn, xp⟩) := by
  have hl := h.low.size
  obtain ⟨W0, hW0⟩ : ∃ W0, w.alloc (.cells #[.int .i64 2, .string xn, .int .i64 xp] 32) = W0 := ⟨_, rfl⟩
  have hb0 : Below w.heap.size w W0 := hW0 ▸ below_new _ _
  have hs0 : W0.heap.size = w.heap.size + 1 := by rw [← hW0]; simp
  have Q0 : Tri W0 w.heap.size (.int .i64 2) (.string xn) (.int .i64 xp) := by rw [← hW0]; exact Tri.new w _ _ _ _
  have hX : PB (fun k => X k ∨ k = w.heap.size) w0 W0 nb rb K R R' := h.turn hb0 (fun k hk => hk.elim .inl (fun e => .inr (by omega)))
  have HEQ : Hid (R = R' → unrE R xn = unrE R' xn) := hidb (fun e => by rw [e])
  have CC : Hid (Calls Try.prog 16 #[.pointer (some ⟨nb, 0, none⟩), .string xn] W0.drew fun e w1 => e = .returned (.int .i64 (unrE R xn)) ∧ Tri w1 w.heap.size (.int .i64 2) (.string xn) (.int .i64 xp) ∧ Hid (But (fun k => w0.heap.size ≤ k ∧ ¬ (X k ∨ k = w.heap.size)) (w.alloc (.cells #[.int .i64 2, .string xn, .int .i64 xp] 32)).drew w1) ∧ Hid (Calls Try.prog 17 #[.pointer (some ⟨rb, 0, none⟩), .string xn] w1 fun e w3 => e = .returned (.int .i64 (unrE R' xn)) ∧ Tri w3 w.heap.size (.int .i64 2) (.string xn) (.int .i64 xp) ∧ Hid (∀ v : Bool, (R = R' → v = true) → StpR X w0 w nb rb K R R' ⟨2, xn, xp⟩ (.returned (.bool v)) w3))) := by
    have hX' := hX.keep ((Below.refl _ _).drew)
    refine hidb ((hX'.prog (K2 := K) (R2 := unrN R xn) (Z := fun e => e = .returned (.int .i64 (unrE R xn))) (fun D hD => punreg hD ho.nm)).mono ?_)
    rintro e w1 ⟨rfl, hp1, hb1⟩
    have Q1 := (Q0.keep ((Below.refl _ _).drew)).but hb1 (fun e => e.2 (.inr rfl))
    refine ⟨rfl, Q1, hidb (hW0 ▸ hb1), hidb ?_⟩
    refine (hp1.refc (R2 := unrN R' xn) (Z := fun e => e = .returned (.int .i64 (unrE R' xn))) (fun E hE => runreg hE (by omega) xn)).mono ?_
    rintro e w3 ⟨rfl, hp3, hb3⟩
    exact ⟨rfl, Q1.but hb3 (fun e => e.2 (.inr rfl)), hidb (fun v hv => StpR.of (o := (.cells #[.int .i64 2, .string xn, .int .i64 xp] 32)) hp3 (by omega) (hW0 ▸ hb1) hb3 rfl rfl hv)⟩
  have c0 := Q0.c0
  have Q0d : Tri W0.drew w.heap.size (.int .i64 2) (.string xn) (.int .i64 xp) := Q0.keep ((Below.refl _ _).drew)
  have HS0 : Hid (W0.drew.cell? ⟨w.heap.size, 1, none⟩ = some (.string xn)) := hidb Q0d.c1
  generalize unrE R xn = g1 at *
  generalize unrE R' xn = g2 at *
  clear h ho hN' hl hb0 hs0 Q0 hX Q0d
  go_enter Try.func7, Try.ntmps7
  go_wp2_with fail
  clear hW0
  go_region_held3 (fun w' => w'.cell? ⟨w.heap.size, 1, none⟩ = some (.string xn)) (first | with_reducible exact HS0.out | with_reducible exact HS1.out | with_reducible exact HS2.out) (first
    | (go_at_call 16; refine CC.out.mono ?_; clear CC; rintro e w1 ⟨rfl, Q1, HB1, C2⟩; have HS1 : Hid (w1.cell? ⟨w.heap.size, 1, none⟩ = some (.string xn)) := hidb Q1.c1; clear Q1 HB1)
    | (go_at_call 17; refine C2.out.mono ?_; clear C2; rintro e w3 ⟨rfl, Q3, HR⟩; have HS2 : Hid (w3.cell? ⟨w.heap.size, 1, none⟩ = some (.string xn)) := hidb Q3.c1; clear Q3))
  go_wp2_with fail
  go_ret
  exact HR.out _ (fun e => by simp [HEQ.out e])

set_option maxRecDepth 100000 in
set_option maxHeartbeats 8000000 in
theorem step3 {X : Nat → Prop} {w0 w : World} {nb rb K : Nat} {R R' : List NP} (h : PB X w0 w nb rb K R R') (xn : ByteArray) (xp : Int) (ho : OkA ⟨3, xn, xp⟩) (hN' : R'.length ≤ 70000) :
    Calls Try.prog 7 #[.pointer (some ⟨nb, 0, none⟩), .pointer (some ⟨rb, 0, none⟩), .agg #[.int .i64 3, .string xn, .int .i64 xp]] w (StpR X w0 w nb rb K R R' ⟨3, xn, xp⟩) := by
  have hl := h.low.size
  obtain ⟨W0, hW0⟩ : ∃ W0, w.alloc (.cells #[.int .i64 3, .string xn, .int .i64 xp] 32) = W0 := ⟨_, rfl⟩
  have hb0 : Below w.heap.size w W0 := hW0 ▸ below_new _ _
  have hs0 : W0.heap.size = w.heap.size + 1 := by rw [← hW0]; simp
  have Q0 : Tri W0 w.heap.size (.int .i64 3) (.string xn) (.int .i64 xp) := by rw [← hW0]; exact Tri.new w _ _ _ _
  have hX : PB (fun k => X k ∨ k = w.heap.size) w0 W0 nb rb K R R' := h.turn hb0 (fun k hk => hk.elim .inl (fun e => .inr (by omega)))
  have HEQ : Hid (R = R' → (ofN R xp).isSome = (ofN R' xp).isSome) := hidb (fun e => by rw [e])
  have CC : Hid (Calls Try.prog 14 #[.pointer (some ⟨nb, 0, none⟩), .int .i64 xp] W0.drew fun e w1 => e = .returned (.bool ((ofN R xp).isSome)) ∧ Tri w1 w.heap.size (.int .i64 3) (.string xn) (.int .i64 xp) ∧ Hid (But (fun k => w0.heap.size ≤ k ∧ ¬ (X k ∨ k = w.heap.size)) (w.alloc (.cells #[.int .i64 3, .string xn, .int .i64 xp] 32)).drew w1) ∧ Hid (Calls Try.prog 18 #[.pointer (some ⟨rb, 0, none⟩), .int .i64 xp] w1 fun e w3 => e = .returned (.bool ((ofN R' xp).isSome)) ∧ Tri w3 w.heap.size (.int .i64 3) (.string xn) (.int .i64 xp) ∧ Hid (∀ v : Bool, (R = R' → v = true) → StpR X w0 w nb rb K R R' ⟨3, xn, xp⟩ (.returned (.bool v)) w3))) := by
    have hX' := hX.keep ((Below.refl _ _).drew)
    refine hidb ((hX'.prog (K2 := K) (R2 := relN R xp) (Z := fun e => e = .returned (.bool ((ofN R xp).isSome))) (fun D hD => prelease hD ho.pid)).mono ?_)
    rintro e w1 ⟨rfl, hp1, hb1⟩
    have Q1 := (Q0.keep ((Below.refl _ _).drew)).but hb1 (fun e => e.2 (.inr rfl))
    refine ⟨rfl, Q1, hidb (hW0 ▸ hb1), hidb ?_⟩
    refine (hp1.refc (R2 := relN R' xp) (Z := fun e => e = .returned (.bool ((ofN R' xp).isSome))) (fun E hE => rrelease hE (by omega) xp)).mono ?_
    rintro e w3 ⟨rfl, hp3, hb3⟩
    exact ⟨rfl, Q1.but hb3 (fun e => e.2 (.inr rfl)), hidb (fun v hv => StpR.of (o := (.cells #[.int .i64 3, .string xn, .int .i64 xp] 32)) hp3 (by omega) (hW0 ▸ hb1) hb3 rfl rfl hv)⟩
  have c0 := Q0.c0
  have Q0d : Tri W0.drew w.heap.size (.int .i64 3) (.string xn) (.int .i64 xp) := Q0.keep ((Below.refl _ _).drew)
  have HS0 : Hid (W0.drew.cell? ⟨w.heap.size, 2, none⟩ = some (.int .i64 xp)) := hidb Q0d.c2
  generalize (ofN R xp).isSome = g1 at *
  generalize (ofN R' xp).isSome = g2 at *
  clear h ho hN' hl hb0 hs0 Q0 hX Q0d
  go_enter Try.func7, Try.ntmps7
  go_wp2_with fail
  clear hW0
  go_region_held3 (fun w' => w'.cell? ⟨w.heap.size, 2, none⟩ = some (.int .i64 xp)) (first | with_reducible exact HS0.out | with_reducible exact HS1.out | with_reducible exact HS2.out) (first
    | (go_at_call 14; refine CC.out.mono ?_; clear CC; rintro e w1 ⟨rfl, Q1, HB1, C2⟩; have HS1 : Hid (w1.cell? ⟨w.heap.size, 2, none⟩ = some (.int .i64 xp)) := hidb Q1.c2; clear Q1 HB1)
    | (go_at_call 18; refine C2.out.mono ?_; clear C2; rintro e w3 ⟨rfl, Q3, HR⟩; have HS2 : Hid (w3.cell? ⟨w.heap.size, 2, none⟩ = some (.int .i64 xp)) := hidb Q3.c2; clear Q3))
  go_wp2_with fail
  go_ret
  exact HR.out _ (fun e => by simp [HEQ.out e])

set_option maxRecDepth 100000 in
set_option maxHeartbeats 8000000 in
theorem step_any {X : Nat → Prop} {w0 w : World} {nb rb K : Nat} {R R' : List NP} (h : PB X w0 w nb rb K R R') (x : Act3) (ho : OkA x) (hK : K ≤ 80000) (hN' : R'.length ≤ 70000) :
    Calls Try.prog 7 #[.pointer (some ⟨nb, 0, none⟩), .pointer (some ⟨rb, 0, none⟩), .agg #[.int .i64 x.op, .string x.nm, .int .i64 x.pid]] w (StpR X w0 w nb rb K R R' x) := by
  obtain ⟨xo, xn, xp⟩ := x
  simp only
  by_cases k1 : xo = 1
  · subst k1; exact step1 h xn xp ho hK hN'
  by_cases k2 : xo = 2
  · subst k2; exact step2 h xn xp ho hN'
  by_cases k3 : xo = 3
  · subst k3; exact step3 h xn xp ho hN'
  have HR : Hid (StpR X w0 w nb rb K R R' ⟨xo, xn, xp⟩ (.returned (.bool true)) (w.alloc (.cells #[.int .i64 xo, .string xn, .int .i64 xp] 32))) := hidb (by
    have e1 : ∀ L, stpN ⟨xo, xn, xp⟩ L = L := fun L => by simp [stpN, k1, k2, k3]
    refine ⟨⟨true, rfl, fun _ => rfl⟩, ?_, But.of_below (below_new _ _)⟩
    rw [e1, e1]
    exact (h.keep (below_new _ _)).up (by omega))
  have d1 : (xo == 1) = false := by simpa using k1
  have d2 : (xo == 2) = false := by simpa using k2
  have d3 : (xo == 3) = false := by simpa using k3
  clear h ho hK hN'
  go_enter Try.func7, Try.ntmps7
  go_wp2
  go_ret
  exact HR.out
end Go.Proofs.Ytfhgohpldpnkbaa
