/- Halves of monitors: the table. -/
import Derived.Test.YtmnglaeaicicnaaMk1
namespace Go.Proofs.Ytmnglaeaicicnaa
open Go.RowKit Go.Lib
open MV (Hf hf0 getL insL delL Rise Wfk TB Nw Rst KV)
attribute [local go_sem ↓] Go.wp_at_zero Go.wp_at_succ

/-- A table at tb: origins and targets. -/
structure MT (w : World) (tb : Nat) (D : Nat → Prop) (O T : List KV) : Prop where
  og : TB w tb 0 D O
  tg : TB w tb 2 D T
  ok : MOk O
  tk : MOk T

theorem MT.but {S D : Nat → Prop} {w w' : World} {tb : Nat} {O T : List KV} (h : MT w tb D O T) (hb : But S w w') (hs : ∀ k, D k → ¬ S k) (ht : ¬ S tb) : MT w' tb D O T := ⟨h.og.but hb hs ht, h.tg.but hb hs ht, h.ok, h.tk⟩
theorem MT.keep {D : Nat → Prop} {w w' : World} {tb : Nat} {O T : List KV} (h : MT w tb D O T) (hb : Below w.heap.size w w') : MT w' tb D O T := ⟨h.og.keep hb, h.tg.keep hb, h.ok, h.tk⟩
theorem MT.mono {D D' : Nat → Prop} {w : World} {tb : Nat} {O T : List KV} (h : MT w tb D O T) (hd : ∀ k, D k → D' k) (ht : ¬ D' tb) : MT w tb D' O T := ⟨h.og.mono hd ht, h.tg.mono hd ht, h.ok, h.tk⟩
theorem MT.cut {w : World} {tb : Nat} {D : Nat → Prop} {O T : List KV} (h : MT w tb D O T) : MT w tb (fun k => D k ∧ k < w.heap.size) O T := ⟨h.og.cut, h.tg.cut, h.ok, h.tk⟩
theorem MT.lt {D : Nat → Prop} {w : World} {tb : Nat} {O T : List KV} (h : MT w tb D O T) : tb < w.heap.size := h.og.lt
theorem MT.nd {D : Nat → Prop} {w : World} {tb : Nat} {O T : List KV} (h : MT w tb D O T) : ¬ D tb := h.og.nd

/-- A table behind a method. -/
structure MU (w w' : World) (tb : Nat) (D : Nat → Prop) (O T : List KV) : Prop where
  mt : MT w' tb (Nw D w w') O T
  bt : But (fun k => k = tb) w w'

theorem MU.pre {D : Nat → Prop} {w w1 w' : World} {tb : Nat} {O T : List KV} (hb : Below w.heap.size w w1) (hl : tb < w.heap.size) (hD : ¬ D tb) (h : MU w1 w' tb D O T) : MU w w' tb D O T :=
  ⟨h.mt.mono (fun k hk => hk.elim .inl (fun h => .inr ⟨Nat.le_trans hb.size h.1, h.2⟩)) (fun h => h.elim hD (fun h => by omega)), (But.of_below hb).trans h.bt⟩
theorem MU.post {D : Nat → Prop} {w w1 w' : World} {tb : Nat} {O T : List KV} (h : MU w w1 tb D O T) (hb : Below w1.heap.size w1 w') (hl : tb < w.heap.size) (hD : ¬ D tb) : MU w w' tb D O T :=
  ⟨(h.mt.keep hb).mono (fun k hk => hk.elim .inl (fun h => .inr ⟨h.1, Nat.lt_of_lt_of_le h.2 hb.size⟩)) (fun h => h.elim hD (fun h => by omega)), h.bt.trans (But.of_below hb)⟩
theorem MU.same {D : Nat → Prop} {w w' : World} {tb : Nat} {O T : List KV} (h : MT w tb D O T) (hb : Below w.heap.size w w') : MU w w' tb D O T :=
  ⟨(h.keep hb).mono (fun k hk => .inl hk) (fun q => q.elim h.nd (fun q => by have := h.lt; omega)), But.of_below hb⟩
theorem MU.poke {w W w1 w2 : World} {tb blk : Nat} {D : Nat → Prop} {O T : List KV} (hb : Below w.heap.size w W) (h : MU W w1 tb (fun k => D k ∧ k < w.heap.size) O T) (hS : But (fun k => k = blk) w1 w2) (hk : w.heap.size ≤ blk ∧ blk < W.heap.size) (hl : tb < w.heap.size) (hD : ¬ D tb) : MU w w2 tb D O T := by
  have hs1 := hb.size
  have hs2 := h.bt.size
  have hs3 := hS.size
  refine ⟨(h.mt.but hS (fun k hk e => hk.elim (fun h => by omega) (fun h => by omega)) (by omega)).mono (fun k hk => hk.elim (fun h => .inl h.1) (fun h => .inr ⟨by omega, by omega⟩)) (fun h => h.elim hD (fun h => by omega)), ?_⟩
  exact ((But.of_below hb).trans h.bt).trans' hS (fun k hk e => by omega)

theorem TB.aside {w w' : World} {tb o o' : Nat} {D : Nat → Prop} {L : List KV} (h : TB w tb o' D L) (hb : But (fun k => k = tb) w w') (hr : Rst tb o w w') (h1 : o' ≠ o) (h2 : o' ≠ o + 1) (h3 : o' + 1 ≠ o) : TB w' tb o' D L := by
  obtain ⟨p, t, hd, ht, g1, g2, g3, g4, g5⟩ := h
  exact ⟨p, t, ⟨(hr _ h1 h2).1.trans hd.c0, (hr _ h3 (by omega)).1.trans hd.c1, (hr _ h1 h2).2.trans hd.f0, (hr _ h3 (by omega)).2.trans hd.f1, Nat.lt_of_lt_of_le hd.lt hb.size⟩, ht.but hb (fun k hk e => g5 (e ▸ hk)), g1, g2, g3, g4, g5⟩
theorem MU.of_o {w w' : World} {tb : Nat} {D : Nat → Prop} {O O' T : List KV} (h : MT w tb D O T) (hu : HU w w' tb 0 D O') (hk : MOk O') : MU w w' tb D O' T :=
  ⟨⟨hu.tr, (TB.aside h.tg hu.bt hu.rs (by decide) (by decide) (by decide)).mono (fun k hk => .inl hk) hu.tr.nd, hk, h.tk⟩, hu.bt⟩
theorem MU.of_t {w w' : World} {tb : Nat} {D : Nat → Prop} {O T T' : List KV} (h : MT w tb D O T) (hu : HU w w' tb 2 D T') (hk : MOk T') : MU w w' tb D O T' :=
  ⟨⟨(TB.aside h.og hu.bt hu.rs (by decide) (by decide) (by decide)).mono (fun k hk => .inl hk) hu.tr.nd, hu.tr, h.ok, hk⟩, hu.bt⟩

/-- What Watch (least 0), OnMonitor (least 1) tell, and leave. -/
def refB (m : Int) (v : Hf) : Bool := decide (v.a < 1) || decide (v.b < m)
def putE (m : Int) (v : Hf) (L : List KV) : Int := if refB m v then 1 else addE v L
def putL (m : Int) (v : Hf) (L : List KV) : List KV := if refB m v then L else addL v L

theorem mok_add {v : Hf} {L : List KV} (h : MOk L) : MOk (addL v L) := by
  unfold addL
  split
  · exact h
  · exact mok_ins h rfl
theorem mok_put {m : Int} {v : Hf} {L : List KV} (h : MOk L) : MOk (putL m v L) := by
  unfold putL
  split
  · exact h
  · exact mok_add h
theorem mok_tail {L : List KV} (h : MOk L) : MOk L.tail := fun x hx => h x (List.mem_of_mem_tail hx)

set_option maxHeartbeats 1000000 in
theorem mnew_any (w : World) : Calls Try.prog 6 #[] w fun e w' => e = .returned (.pointer (some ⟨w.heap.size, 0, none⟩)) ∧ MT w' w.heap.size (fun _ => False) [] [] ∧ Below w.heap.size w w' ∧ w'.heap.size = w.heap.size + 1 := by
  go_enter Try.func6, Try.ntmps6
  go_wp2_with fail
  go_ret
  refine ⟨rfl, ⟨⟨none, .leaf, ?_, rfl, trivial, List.Pairwise.nil, (fun _ h => by simp at h), rfl, id⟩, ⟨none, .leaf, ?_, rfl, trivial, List.Pairwise.nil, (fun _ h => by simp at h), rfl, id⟩, (fun _ h => by simp at h), (fun _ h => by simp at h)⟩, below_new _ _, by simp⟩
  · exact ⟨by rw [World.cell?_alloc_new]; rfl, by rw [World.cell?_alloc_new]; rfl, World.frozen?_alloc_new _ _ _ _, World.frozen?_alloc_new _ _ _ _, by simp⟩
  · exact ⟨by rw [World.cell?_alloc_new]; rfl, by rw [World.cell?_alloc_new]; rfl, World.frozen?_alloc_new _ _ _ _, World.frozen?_alloc_new _ _ _ _, by simp⟩

set_option maxHeartbeats 4000000 in
theorem mwatch_any {w : World} {tb : Nat} {D : Nat → Prop} {O T : List KV} (h : MT w tb D O T) (hN : O.length < 10000000) (ref pid : Int) (name : ByteArray) (hs : name.size ≤ 281474976710656) :
    Calls Try.prog 12 #[.pointer (some ⟨tb, 0, none⟩), .int .i64 ref, .int .i64 pid, .string name] w fun e w' => e = .returned (.int .i64 (putE 0 ⟨ref, pid, name⟩ O)) ∧ MU w w' tb D (putL 0 ⟨ref, pid, name⟩ O) T := by
  by_cases e1 : ref < 1
  · rw [show putE 0 ⟨ref, pid, name⟩ O = 1 by simp [putE, refB, e1], show putL 0 ⟨ref, pid, name⟩ O = O by simp [putL, refB, e1]]
    have HU0 := hidb (MU.same h (Below.refl _ _))
    have HU1 := hidb (MU.same h ((Below.refl _ _).drew))
    clear h hN
    go_enter Try.func12, Try.ntmps12
    go_wp2_with fail
    go_ret
    exact ⟨rfl, by first | exact HU0.out | exact HU1.out⟩
  · by_cases e2 : pid < 0
    · rw [show putE 0 ⟨ref, pid, name⟩ O = 1 by simp [putE, refB, e1, e2], show putL 0 ⟨ref, pid, name⟩ O = O by simp [putL, refB, e1, e2]]
      have HU0 := hidb (MU.same h (Below.refl _ _))
      have HU1 := hidb (MU.same h ((Below.refl _ _).drew))
      clear h hN
      go_enter Try.func12, Try.ntmps12
      go_wp2_with fail
      go_ret
      exact ⟨rfl, by first | exact HU0.out | exact HU1.out⟩
    · rw [show putE 0 ⟨ref, pid, name⟩ O = addE ⟨ref, pid, name⟩ O by simp [putE, refB, e1, e2], show putL 0 ⟨ref, pid, name⟩ O = addL ⟨ref, pid, name⟩ O by simp [putL, refB, e1, e2]]
      have hl := h.lt
      have hD := h.nd
      have HA : Hid (∀ W, Below w.heap.size w W → Calls Try.prog 27 #[.pointer (some ⟨tb, 0, none⟩), .agg #[.int .i64 ref, .int .i64 pid, .string name]] W fun e w' => e = .returned (.int .i64 (addE ⟨ref, pid, name⟩ O)) ∧ Hid (MU w w' tb D (addL ⟨ref, pid, name⟩ O) T)) := hidb (fun W hW => (hadd_any ((h.keep hW).og) hN ⟨ref, pid, name⟩ (by simp only; omega) hs).mono (by
        rintro e w' ⟨rfl, hu⟩
        exact ⟨rfl, hidb (MU.pre hW hl hD (MU.of_o (h.keep hW) hu (mok_add h.ok)))⟩))
      clear h hN hl hD
      go_enter Try.func12, Try.ntmps12
      go_wp2_with (go_at_call 27; refine (HA.out _ (by (repeat (first | exact Below.refl _ _ | assumption | refine Below.drew ?_ | refine below_drewN ?_ _ | refine Below.setCell ?_ (by simp) _ | refine Below.alloc ?_ (by (first | exact Nat.le_refl _ | (simp; done) | (simp; omega) | omega)) _ | refine Below.trans ?_ (Below.mono (by assumption) (by first | exact Nat.le_refl _ | (simp; done) | (simp; omega) | omega)))))).mono ?_; clear HA; rintro e w' ⟨rfl, HU⟩)
      go_ret
      exact ⟨rfl, HU.out⟩

set_option maxHeartbeats 4000000 in
theorem monm_any {w : World} {tb : Nat} {D : Nat → Prop} {O T : List KV} (h : MT w tb D O T) (hN : T.length < 10000000) (ref org : Int) :
    Calls Try.prog 15 #[.pointer (some ⟨tb, 0, none⟩), .int .i64 ref, .int .i64 org] w fun e w' => e = .returned (.int .i64 (putE 1 ⟨ref, org, ⟨#[]⟩⟩ T)) ∧ MU w w' tb D O (putL 1 ⟨ref, org, ⟨#[]⟩⟩ T) := by
  by_cases e1 : ref < 1
  · rw [show putE 1 ⟨ref, org, ⟨#[]⟩⟩ T = 1 by simp [putE, refB, e1], show putL 1 ⟨ref, org, ⟨#[]⟩⟩ T = T by simp [putL, refB, e1]]
    have HU0 := hidb (MU.same h (Below.refl _ _))
    have HU1 := hidb (MU.same h ((Below.refl _ _).drew))
    clear h hN
    go_enter Try.func15, Try.ntmps15
    go_wp2_with fail
    go_ret
    exact ⟨rfl, by first | exact HU0.out | exact HU1.out⟩
  · by_cases e2 : org < 1
    · rw [show putE 1 ⟨ref, org, ⟨#[]⟩⟩ T = 1 by simp [putE, refB, e1, e2], show putL 1 ⟨ref, org, ⟨#[]⟩⟩ T = T by simp [putL, refB, e1, e2]]
      have HU0 := hidb (MU.same h (Below.refl _ _))
      have HU1 := hidb (MU.same h ((Below.refl _ _).drew))
      clear h hN
      go_enter Try.func15, Try.ntmps15
      go_wp2_with fail
      go_ret
      exact ⟨rfl, by first | exact HU0.out | exact HU1.out⟩
    · rw [show putE 1 ⟨ref, org, ⟨#[]⟩⟩ T = addE ⟨ref, org, ⟨#[]⟩⟩ T by simp [putE, refB, e1, e2], show putL 1 ⟨ref, org, ⟨#[]⟩⟩ T = addL ⟨ref, org, ⟨#[]⟩⟩ T by simp [putL, refB, e1, e2]]
      have hl := h.lt
      have hD := h.nd
      have HA : Hid (∀ W, Below w.heap.size w W → Calls Try.prog 27 #[.pointer (some ⟨tb, 2, none⟩), .agg #[.int .i64 ref, .int .i64 org, .string ⟨#[]⟩]] W fun e w' => e = .returned (.int .i64 (addE ⟨ref, org, ⟨#[]⟩⟩ T)) ∧ Hid (MU w w' tb D O (addL ⟨ref, org, ⟨#[]⟩⟩ T))) := hidb (fun W hW => (hadd_any ((h.keep hW).tg) hN ⟨ref, org, ⟨#[]⟩⟩ (by simp only; omega) (show (⟨#[]⟩ : ByteArray).size ≤ 281474976710656 by decide)).mono (by
        rintro e w' ⟨rfl, hu⟩
        exact ⟨rfl, hidb (MU.pre hW hl hD (MU.of_t (h.keep hW) hu (mok_add h.tk)))⟩))
      clear h hN hl hD
      go_enter Try.func15, Try.ntmps15
      go_wp2_with (go_at_call 27; refine (HA.out _ (by (repeat (first | exact Below.refl _ _ | assumption | refine Below.drew ?_ | refine below_drewN ?_ _ | refine Below.setCell ?_ (by simp) _ | refine Below.alloc ?_ (by (first | exact Nat.le_refl _ | (simp; done) | (simp; omega) | omega)) _ | refine Below.trans ?_ (Below.mono (by assumption) (by first | exact Nat.le_refl _ | (simp; done) | (simp; omega) | omega)))))).mono ?_; clear HA; rintro e w' ⟨rfl, HU⟩)
      go_ret
      exact ⟨rfl, HU.out⟩

set_option maxHeartbeats 4000000 in
theorem mdem_any {w : World} {tb : Nat} {D : Nat → Prop} {O T : List KV} (h : MT w tb D O T) (hN : O.length < 10000000) (ref : Int) :
    Calls Try.prog 13 #[.pointer (some ⟨tb, 0, none⟩), .int .i64 ref] w fun e w' => e = .returned (.tuple #[.agg #[.int .i64 ((getL ref O).getD hf0).a, .int .i64 ((getL ref O).getD hf0).b, .string ((getL ref O).getD hf0).c], .bool (getL ref O).isSome]) ∧ MU w w' tb D (delL ref O) T := by
  have hl := h.lt
  have hD := h.nd
  have hb0 := below_new w (.cells #[.int .i64 0, .int .i64 0, .string ⟨#[]⟩] 38)
  have P0 : Tri (w.alloc (.cells #[.int .i64 0, .int .i64 0, .string ⟨#[]⟩] 38)) w.heap.size (.int .i64 0) (.int .i64 0) (.string ⟨#[]⟩) := Tri.new _ _ _ _ _
  have HT : Hid (Calls Try.prog 28 #[.pointer (some ⟨tb, 0, none⟩), .int .i64 ref] (w.alloc (.cells #[.int .i64 0, .int .i64 0, .string ⟨#[]⟩] 38)) fun e w' => e = .returned (.tuple #[.agg #[.int .i64 ((getL ref O).getD hf0).a, .int .i64 ((getL ref O).getD hf0).b, .string ((getL ref O).getD hf0).c], .bool (getL ref O).isSome]) ∧ Tri w' w.heap.size (.int .i64 0) (.int .i64 0) (.string ⟨#[]⟩) ∧ Hid (∀ w2, But (fun k => k = w.heap.size) w' w2 → MU w w2 tb D (delL ref O) T)) := hidb ((hremove_any ((h.cut.keep hb0).og) hN h.ok ref).mono (by
    rintro e w' ⟨rfl, hu⟩
    exact ⟨rfl, P0.but hu.bt (by omega), hidb (fun w2 hS => MU.poke hb0 (MU.of_o (h.cut.keep hb0) hu (mok_del h.ok)) hS ⟨Nat.le_refl _, by simp⟩ hl hD)⟩))
  clear h hN hl hD hb0 P0
  go_enter Try.func13, Try.ntmps13
  go_wp2_with (go_at_call 28; refine HT.out.mono ?_; clear HT; rintro e w' ⟨rfl, P1, HV⟩; have p0 := P1.c0; have p1 := P1.c1; have p2 := P1.c2; have q0 := P1.f0; have q1 := P1.f1; have q2 := P1.f2)
  exact bodyPost_ret (v := .tuple #[.agg #[.int .i64 ((getL ref O).getD hf0).a, .int .i64 ((getL ref O).getD hf0).b, .string ((getL ref O).getD hf0).c], .bool (getL ref O).isSome]) (by simp [results, Try.results13, go_sem, p0, p1, p2]) rfl ⟨rfl, HV.out _ (but3 _ _ _ _ _)⟩

set_option maxHeartbeats 4000000 in
theorem mdown_any {w : World} {tb : Nat} {D : Nat → Prop} {O T : List KV} (h : MT w tb D O T) (hN : O.length < 10000000) (ref : Int) :
    Calls Try.prog 14 #[.pointer (some ⟨tb, 0, none⟩), .int .i64 ref] w fun e w' => e = .returned (.tuple #[.agg #[.int .i64 ((getL ref O).getD hf0).a, .int .i64 ((getL ref O).getD hf0).b, .string ((getL ref O).getD hf0).c], .bool (getL ref O).isSome]) ∧ MU w w' tb D (delL ref O) T := by
  have hl := h.lt
  have hD := h.nd
  have hb0 := below_new w (.cells #[.int .i64 0, .int .i64 0, .string ⟨#[]⟩] 38)
  have P0 : Tri (w.alloc (.cells #[.int .i64 0, .int .i64 0, .string ⟨#[]⟩] 38)) w.heap.size (.int .i64 0) (.int .i64 0) (.string ⟨#[]⟩) := Tri.new _ _ _ _ _
  have HT : Hid (Calls Try.prog 28 #[.pointer (some ⟨tb, 0, none⟩), .int .i64 ref] (w.alloc (.cells #[.int .i64 0, .int .i64 0, .string ⟨#[]⟩] 38)) fun e w' => e = .returned (.tuple #[.agg #[.int .i64 ((getL ref O).getD hf0).a, .int .i64 ((getL ref O).getD hf0).b, .string ((getL ref O).getD hf0).c], .bool (getL ref O).isSome]) ∧ Tri w' w.heap.size (.int .i64 0) (.int .i64 0) (.string ⟨#[]⟩) ∧ Hid (∀ w2, But (fun k => k = w.heap.size) w' w2 → MU w w2 tb D (delL ref O) T)) := hidb ((hremove_any ((h.cut.keep hb0).og) hN h.ok ref).mono (by
    rintro e w' ⟨rfl, hu⟩
    exact ⟨rfl, P0.but hu.bt (by omega), hidb (fun w2 hS => MU.poke hb0 (MU.of_o (h.cut.keep hb0) hu (mok_del h.ok)) hS ⟨Nat.le_refl _, by simp⟩ hl hD)⟩))
  clear h hN hl hD hb0 P0
  go_enter Try.func14, Try.ntmps14
  go_wp2_with (go_at_call 28; refine HT.out.mono ?_; clear HT; rintro e w' ⟨rfl, P1, HV⟩; have p0 := P1.c0; have p1 := P1.c1; have p2 := P1.c2; have q0 := P1.f0; have q1 := P1.f1; have q2 := P1.f2)
  exact bodyPost_ret (v := .tuple #[.agg #[.int .i64 ((getL ref O).getD hf0).a, .int .i64 ((getL ref O).getD hf0).b, .string ((getL ref O).getD hf0).c], .bool (getL ref O).isSome]) (by simp [results, Try.results14, go_sem, p0, p1, p2]) rfl ⟨rfl, HV.out _ (but3 _ _ _ _ _)⟩

set_option maxHeartbeats 4000000 in
theorem mpopt_any {w : World} {tb : Nat} {D : Nat → Prop} {O T : List KV} (h : MT w tb D O T) (hN : T.length < 10000000)  :
    Calls Try.prog 17 #[.pointer (some ⟨tb, 0, none⟩)] w fun e w' => e = .returned (.tuple #[.agg #[.int .i64 (T.headD (0, hf0)).2.a, .int .i64 (T.headD (0, hf0)).2.b, .string (T.headD (0, hf0)).2.c], .bool (!T.isEmpty)]) ∧ MU w w' tb D O T.tail := by
  have hl := h.lt
  have hD := h.nd
  have hb0 := below_new w (.cells #[.int .i64 0, .int .i64 0, .string ⟨#[]⟩] 38)
  have P0 : Tri (w.alloc (.cells #[.int .i64 0, .int .i64 0, .string ⟨#[]⟩] 38)) w.heap.size (.int .i64 0) (.int .i64 0) (.string ⟨#[]⟩) := Tri.new _ _ _ _ _
  have HT : Hid (Calls Try.prog 29 #[.pointer (some ⟨tb, 2, none⟩)] (w.alloc (.cells #[.int .i64 0, .int .i64 0, .string ⟨#[]⟩] 38)) fun e w' => e = .returned (.tuple #[.agg #[.int .i64 (T.headD (0, hf0)).2.a, .int .i64 (T.headD (0, hf0)).2.b, .string (T.headD (0, hf0)).2.c], .bool (!T.isEmpty)]) ∧ Tri w' w.heap.size (.int .i64 0) (.int .i64 0) (.string ⟨#[]⟩) ∧ Hid (∀ w2, But (fun k => k = w.heap.size) w' w2 → MU w w2 tb D O T.tail)) := hidb ((hpop_any ((h.cut.keep hb0).tg) hN h.tk).mono (by
    rintro e w' ⟨rfl, hu⟩
    exact ⟨rfl, P0.but hu.bt (by omega), hidb (fun w2 hS => MU.poke hb0 (MU.of_t (h.cut.keep hb0) hu (mok_tail h.tk)) hS ⟨Nat.le_refl _, by simp⟩ hl hD)⟩))
  clear h hN hl hD hb0 P0
  go_enter Try.func17, Try.ntmps17
  go_wp2_with (go_at_call 29; refine HT.out.mono ?_; clear HT; rintro e w' ⟨rfl, P1, HV⟩; have p0 := P1.c0; have p1 := P1.c1; have p2 := P1.c2; have q0 := P1.f0; have q1 := P1.f1; have q2 := P1.f2)
  exact bodyPost_ret (v := .tuple #[.agg #[.int .i64 (T.headD (0, hf0)).2.a, .int .i64 (T.headD (0, hf0)).2.b, .string (T.headD (0, hf0)).2.c], .bool (!T.isEmpty)]) (by simp [results, Try.results17, go_sem, p0, p1, p2]) rfl ⟨rfl, HV.out _ (but3 _ _ _ _ _)⟩

set_option maxHeartbeats 4000000 in
theorem mpopo_any {w : World} {tb : Nat} {D : Nat → Prop} {O T : List KV} (h : MT w tb D O T) (hN : O.length < 10000000)  :
    Calls Try.prog 24 #[.pointer (some ⟨tb, 0, none⟩)] w fun e w' => e = .returned (.tuple #[.agg #[.int .i64 (O.headD (0, hf0)).2.a, .int .i64 (O.headD (0, hf0)).2.b, .string (O.headD (0, hf0)).2.c], .bool (!O.isEmpty)]) ∧ MU w w' tb D O.tail T := by
  have hl := h.lt
  have hD := h.nd
  have hb0 := below_new w (.cells #[.int .i64 0, .int .i64 0, .string ⟨#[]⟩] 38)
  have P0 : Tri (w.alloc (.cells #[.int .i64 0, .int .i64 0, .string ⟨#[]⟩] 38)) w.heap.size (.int .i64 0) (.int .i64 0) (.string ⟨#[]⟩) := Tri.new _ _ _ _ _
  have HT : Hid (Calls Try.prog 29 #[.pointer (some ⟨tb, 0, none⟩)] (w.alloc (.cells #[.int .i64 0, .int .i64 0, .string ⟨#[]⟩] 38)) fun e w' => e = .returned (.tuple #[.agg #[.int .i64 (O.headD (0, hf0)).2.a, .int .i64 (O.headD (0, hf0)).2.b, .string (O.headD (0, hf0)).2.c], .bool (!O.isEmpty)]) ∧ Tri w' w.heap.size (.int .i64 0) (.int .i64 0) (.string ⟨#[]⟩) ∧ Hid (∀ w2, But (fun k => k = w.heap.size) w' w2 → MU w w2 tb D O.tail T)) := hidb ((hpop_any ((h.cut.keep hb0).og) hN h.ok).mono (by
    rintro e w' ⟨rfl, hu⟩
    exact ⟨rfl, P0.but hu.bt (by omega), hidb (fun w2 hS => MU.poke hb0 (MU.of_o (h.cut.keep hb0) hu (mok_tail h.ok)) hS ⟨Nat.le_refl _, by simp⟩ hl hD)⟩))
  clear h hN hl hD hb0 P0
  go_enter Try.func24, Try.ntmps24
  go_wp2_with (go_at_call 29; refine HT.out.mono ?_; clear HT; rintro e w' ⟨rfl, P1, HV⟩; have p0 := P1.c0; have p1 := P1.c1; have p2 := P1.c2; have q0 := P1.f0; have q1 := P1.f1; have q2 := P1.f2)
  exact bodyPost_ret (v := .tuple #[.agg #[.int .i64 (O.headD (0, hf0)).2.a, .int .i64 (O.headD (0, hf0)).2.b, .string (O.headD (0, hf0)).2.c], .bool (!O.isEmpty)]) (by simp [results, Try.results24, go_sem, p0, p1, p2]) rfl ⟨rfl, HV.out _ (but3 _ _ _ _ _)⟩

set_option maxHeartbeats 4000000 in
theorem mond_any {w : World} {tb : Nat} {D : Nat → Prop} {O T : List KV} (h : MT w tb D O T) (hN : T.length < 10000000) (ref : Int) :
    Calls Try.prog 16 #[.pointer (some ⟨tb, 0, none⟩), .int .i64 ref] w fun e w' => e = .returned (.bool (getL ref T).isSome) ∧ MU w w' tb D O (delL ref T) := by
  have hl := h.lt
  have hD := h.nd
  have HT : Hid (∀ W, Below w.heap.size w W → Calls Try.prog 28 #[.pointer (some ⟨tb, 2, none⟩), .int .i64 ref] W fun e w' => e = .returned (.tuple #[.agg #[.int .i64 ((getL ref T).getD hf0).a, .int .i64 ((getL ref T).getD hf0).b, .string ((getL ref T).getD hf0).c], .bool (getL ref T).isSome]) ∧ But (fun k => k = tb) W w' ∧ Hid (MU w w' tb D O (delL ref T))) := hidb (fun W hW => (hremove_any ((h.keep hW).tg) hN h.tk ref).mono (by
    rintro e w' ⟨rfl, hu⟩
    exact ⟨rfl, hu.bt, hidb (MU.pre hW hl hD (MU.of_t (h.keep hW) hu (mok_del h.tk)))⟩))
  have HLD := hidb (⟨hl, hD⟩ : tb < w.heap.size ∧ ¬ D tb)
  clear h hN hl hD
  go_enter Try.func16, Try.ntmps16
  go_wp2_with (go_at_call 28; refine (HT.out _ (by (repeat (first | exact Below.refl _ _ | assumption | refine Below.drew ?_ | refine below_drewN ?_ _ | refine Below.setCell ?_ (by simp) _ | refine Below.alloc ?_ (by (first | exact Nat.le_refl _ | (simp; done) | (simp; omega) | omega)) _ | refine Below.trans ?_ (Below.mono (by assumption) (by first | exact Nat.le_refl _ | (simp; done) | (simp; omega) | omega)))))).mono ?_; clear HT; rintro e w' ⟨rfl, hbt, HV⟩)
  go_ret
  exact ⟨rfl, HV.out.post (below_new _ _) HLD.out.1 HLD.out.2⟩

set_option maxHeartbeats 2000000 in
theorem mlen_any {w : World} {tb : Nat} {D : Nat → Prop} {O T : List KV} (h : MT w tb D O T) :
    Calls Try.prog 7 #[.pointer (some ⟨tb, 0, none⟩)] w fun e w' => e = .returned (.tuple #[.int .i64 (O.length : Int), .int .i64 (T.length : Int)]) ∧ Below w.heap.size w w' := by
  have HO : Hid (∀ W, Below w.heap.size w W → Calls Try.prog 18 #[.pointer (some ⟨tb, 0, none⟩)] W fun e w' => e = .returned (.int .i64 (O.length : Int)) ∧ w' = W) := hidb (fun W hW => hmany_any (h.keep hW).og)
  have HT : Hid (∀ W, Below w.heap.size w W → Calls Try.prog 18 #[.pointer (some ⟨tb, 2, none⟩)] W fun e w' => e = .returned (.int .i64 (T.length : Int)) ∧ w' = W) := hidb (fun W hW => hmany_any (h.keep hW).tg)
  clear h
  go_enter Try.func7, Try.ntmps7
  go_wp2_with fail
  go_region_with (first | (go_at_call 18; refine (HO.out _ (by (repeat (first | exact Below.refl _ _ | assumption | refine Below.drew ?_ | refine below_drewN ?_ _ | refine Below.setCell ?_ (by simp) _ | refine Below.alloc ?_ (by (first | exact Nat.le_refl _ | (simp; done) | (simp; omega) | omega)) _ | refine Below.trans ?_ (Below.mono (by assumption) (by first | exact Nat.le_refl _ | (simp; done) | (simp; omega) | omega)))))).mono ?_; rintro e w' ⟨rfl, rfl⟩) | (go_at_call 18; refine (HT.out _ (by (repeat (first | exact Below.refl _ _ | assumption | refine Below.drew ?_ | refine below_drewN ?_ _ | refine Below.setCell ?_ (by simp) _ | refine Below.alloc ?_ (by (first | exact Nat.le_refl _ | (simp; done) | (simp; omega) | omega)) _ | refine Below.trans ?_ (Below.mono (by assumption) (by first | exact Nat.le_refl _ | (simp; done) | (simp; omega) | omega)))))).mono ?_; rintro e w' ⟨rfl, rfl⟩))
  all_goals go_wp2_with fail
  all_goals (
    go_ret2
    exact ⟨rfl, by (repeat (first | exact Below.refl _ _ | assumption | refine Below.drew ?_ | refine below_drewN ?_ _ | refine Below.setCell ?_ (by simp) _ | refine Below.alloc ?_ (by (first | exact Nat.le_refl _ | (simp; done) | (simp; omega) | omega)) _ | refine Below.trans ?_ (Below.mono (by assumption) (by first | exact Nat.le_refl _ | (simp; done) | (simp; omega) | omega))))⟩)
end Go.Proofs.Ytmnglaeaicicnaa
