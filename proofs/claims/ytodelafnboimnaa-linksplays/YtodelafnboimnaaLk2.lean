/- Half-links: OnLink and what drops; Pop; New. -/
import Derived.Test.YtodelafnboimnaaLk1
namespace Go.Proofs.Ytodelafnboimnaa
open Go.RowKit Go.Lib
open HV (Hf hf0 getL insL delL Rise Wfk TB Nw Rst)
attribute [local go_sem ↓] Go.wp_at_zero Go.wp_at_succ

theorem some_of_st {p : Int} {L : List HV.KV} (h : ¬ (stL p L).b = 0) : (getL p L).isSome = true := by
  cases hg : getL p L with
  | none => rw [stL, hg] at h; exact absurd rfl h
  | some v => rfl

set_option maxHeartbeats 2000000 in
theorem lonlink_any {w : World} {tb : Nat} {D : Nat → Prop} {L : List HV.KV} {n : Int} (h : LT w tb D L n) (hN : L.length < 10000000) (p : Int) (hk : -9223372036854775808 ≤ p) :
    Calls Try.prog 19 #[.pointer (some ⟨tb, 0, none⟩), .int .i64 p] w fun e w' => e = .returned (.tuple #[]) ∧ LU w w' tb D (onlL p L) n := by
  have hl := h.tr.lt
  have hD := h.nd
  have HI : Hid (Calls Try.prog 8 #[.pointer (some ⟨tb, 0, none⟩), .int .i64 p] w fun e w' => ∃ a b c, e = .returned (.tuple #[.agg #[.int .i64 a, .int .i64 b, .int .i64 c], .bool (getL p L).isSome]) ∧ Hid (LU w w' tb D L n) ∧ Hid (∀ o, Calls Try.prog 24 #[.pointer (some ⟨tb, 0, none⟩), .int .i64 p] (w'.alloc o) fun e w2 => e = .returned (.tuple #[]) ∧ Hid (LU w w2 tb D (insL p ⟨p, 1, 0⟩ L) n))) := hidb ((lget_any h p).mono (by
    rintro e w' ⟨rfl, hb⟩
    refine ⟨_, _, _, rfl, hidb (LU.same h hb), hidb (fun o => ?_)⟩
    have hb1 : Below w.heap.size w (w'.alloc o) := hb.alloc hb.size _
    exact (lset_any (h.keep hb1) hN p hk).mono (by rintro e w2 ⟨rfl, hu⟩; exact ⟨rfl, hidb (LU.pre hb1 hl hD hu)⟩)))
  have HLD := hidb (⟨hl, hD⟩ : tb < w.heap.size ∧ ¬ D tb)
  clear h hN hk hl hD
  cases hs : (getL p L).isSome with
  | true =>
    rw [show onlL p L = L by simp [onlL, hs]]
    rw [hs] at HI
    go_enter Try.func19, Try.ntmps19
    go_wp2_with (go_at_call 8; refine HI.out.mono ?_; clear HI; rintro e w' ⟨a, b, c, rfl, HU, HS⟩)
    exact bodyPost_end (v := .tuple #[]) (by simp [results, Try.results19, go_sem]) rfl ⟨rfl, by first | exact HU.out | exact HU.out.post (below_new _ _) HLD.out.1 HLD.out.2⟩
  | false =>
    rw [show onlL p L = insL p ⟨p, 1, 0⟩ L by simp [onlL, hs]]
    rw [hs] at HI
    go_enter Try.func19, Try.ntmps19
    go_wp2_with (first
      | (go_at_call 8; refine HI.out.mono ?_; clear HI; rintro e w' ⟨a, b, c, rfl, HU, HS⟩)
      | (go_at_call 24; refine (HS.out _).mono ?_; clear HS; rintro e w2 ⟨rfl, HV2⟩))
    exact bodyPost_end (v := .tuple #[]) (by simp [results, Try.results19, go_sem]) rfl ⟨rfl, HV2.out⟩

set_option maxHeartbeats 2000000 in
theorem ldropl_any {w : World} {tb : Nat} {D : Nat → Prop} {L : List HV.KV} {n : Int} (h : LT w tb D L n) (hN : L.length < 10000000) (p : Int) :
    Calls Try.prog 34 #[.pointer (some ⟨tb, 0, none⟩), .int .i64 p] w fun e w' => e = .returned (.bool (isLk p L)) ∧ LU w w' tb D (dlL p L) n := by
  have hl := h.tr.lt
  have hD := h.nd
  cases hs : isLk p L with
  | false =>
    rw [show dlL p L = L by simp [dlL, hs]]
    have HI : Hid (Calls Try.prog 32 #[.pointer (some ⟨tb, 0, none⟩), .int .i64 p] w fun e w' => e = .returned (.bool false) ∧ Hid (LU w w' tb D L n)) := hidb ((isLinked_any h p).mono (by rintro e w' ⟨rfl, hb⟩; exact ⟨by rw [hs], hidb (LU.same h hb)⟩))
    clear h hN hs hl hD
    go_enter Try.func34, Try.ntmps34
    go_wp2_with (go_at_call 32; refine HI.out.mono ?_; clear HI; rintro e w' ⟨rfl, HU⟩)
    go_ret
    exact ⟨rfl, HU.out⟩
  | true =>
    rw [show dlL p L = delL p L by simp [dlL, hs]]
    have hsm := some_of_st (p := p) (L := L) (by have : (stL p L).b = 1 := by simpa [isLk] using hs
                                                 omega)
    have HI : Hid (Calls Try.prog 32 #[.pointer (some ⟨tb, 0, none⟩), .int .i64 p] w fun e w' => e = .returned (.bool true) ∧ Hid (Calls Try.prog 35 #[.pointer (some ⟨tb, 0, none⟩), .int .i64 p] w' fun e w2 => e = .returned (.bool true) ∧ Hid (LU w w2 tb D (delL p L) n))) := hidb ((isLinked_any h p).mono (by
      rintro e w' ⟨rfl, hb⟩
      exact ⟨by rw [hs], hidb ((ldrop_any (h.keep hb) hN p).mono (by rintro e w2 ⟨rfl, hu⟩; exact ⟨by rw [hsm], hidb (LU.pre hb hl hD hu)⟩))⟩))
    clear h hN hs hl hD hsm
    go_enter Try.func34, Try.ntmps34
    go_wp2_with (first
      | (go_at_call 32; refine HI.out.mono ?_; clear HI; rintro e w' ⟨rfl, HS⟩)
      | (go_at_call 35; refine HS.out.mono ?_; clear HS; rintro e w2 ⟨rfl, HU⟩))
    go_ret
    exact ⟨rfl, HU.out⟩

set_option maxHeartbeats 2000000 in
theorem lonexit_any {w : World} {tb : Nat} {D : Nat → Prop} {L : List HV.KV} {n : Int} (h : LT w tb D L n) (hN : L.length < 10000000) (p : Int) :
    Calls Try.prog 15 #[.pointer (some ⟨tb, 0, none⟩), .int .i64 p] w fun e w' => e = .returned (.bool (isLk p L)) ∧ LU w w' tb D (dlL p L) n := by
  have HI := hidb (ldropl_any h hN p)
  clear h hN
  go_enter Try.func15, Try.ntmps15
  go_wp2_with (go_at_call 34; refine HI.out.mono ?_; clear HI; rintro e w' ⟨rfl, hu⟩; have HU := hidb hu; clear hu)
  go_ret
  exact ⟨rfl, HU.out⟩

set_option maxHeartbeats 2000000 in
theorem lonunlink_any {w : World} {tb : Nat} {D : Nat → Prop} {L : List HV.KV} {n : Int} (h : LT w tb D L n) (hN : L.length < 10000000) (p : Int) :
    Calls Try.prog 21 #[.pointer (some ⟨tb, 0, none⟩), .int .i64 p] w fun e w' => e = .returned (.tuple #[]) ∧ LU w w' tb D (dlL p L) n := by
  have HI := hidb (ldropl_any h hN p)
  clear h hN
  go_enter Try.func21, Try.ntmps21
  go_wp2_with (go_at_call 34; refine HI.out.mono ?_; clear HI; rintro e w' ⟨rfl, hu⟩; have HU := hidb hu; clear hu)
  exact bodyPost_end (v := .tuple #[]) (by simp [results, Try.results21, go_sem]) rfl ⟨rfl, HU.out⟩

set_option maxHeartbeats 4000000 in
theorem lonack_any {w : World} {tb : Nat} {D : Nat → Prop} {L : List HV.KV} {n : Int} (h : LT w tb D L n) (hN : L.length < 10000000) (p id : Int) :
    Calls Try.prog 17 #[.pointer (some ⟨tb, 0, none⟩), .int .i64 p, .int .i64 id] w fun e w' => e = .returned (.bool (ackB p id L)) ∧ LU w w' tb D (ackL p id L) n := by
  have hl := h.tr.lt
  have hD := h.nd
  have hsm : (stL p L).b = 2 → (getL p L).isSome = true := fun e => some_of_st (by omega)
  have HI : Hid (Calls Try.prog 8 #[.pointer (some ⟨tb, 0, none⟩), .int .i64 p] w fun e w' => e = .returned (.tuple #[.agg #[.int .i64 (stL p L).a, .int .i64 (stL p L).b, .int .i64 (stL p L).c], .bool (getL p L).isSome]) ∧ Hid (LU w w' tb D L n) ∧ Hid (∀ o, Calls Try.prog 35 #[.pointer (some ⟨tb, 0, none⟩), .int .i64 p] (w'.alloc o) fun e w2 => e = .returned (.bool (getL p L).isSome) ∧ Hid (LU w w2 tb D (delL p L) n))) := hidb ((lget_any h p).mono (by
    rintro e w' ⟨rfl, hb⟩
    refine ⟨rfl, hidb (LU.same h hb), hidb (fun o => ?_)⟩
    have hb1 : Below w.heap.size w (w'.alloc o) := hb.alloc hb.size _
    exact (ldrop_any (h.keep hb1) hN p).mono (by rintro e w2 ⟨rfl, hu⟩; exact ⟨rfl, hidb (LU.pre hb1 hl hD hu)⟩)))
  have HLD := hidb (⟨hl, hD⟩ : tb < w.heap.size ∧ ¬ D tb)
  clear h hN hl hD
  cases hs : ackB p id L with
  | true =>
    rw [show ackL p id L = delL p L by simp [ackL, hs]]
    simp only [ackB, Bool.and_eq_true, beq_iff_eq] at hs
    obtain ⟨e1, e2⟩ := hs
    rw [hsm e1, e1, e2] at HI
    clear hsm e1 e2
    go_enter Try.func17, Try.ntmps17
    go_wp2_with (first
      | (go_at_call 8; refine HI.out.mono ?_; clear HI; rintro e w' ⟨rfl, HU, HS⟩)
      | (go_at_call 35; refine (HS.out _).mono ?_; clear HS; rintro e w2 ⟨rfl, HV2⟩))
    go_ret
    exact ⟨rfl, HV2.out⟩
  | false =>
    rw [show ackL p id L = L by simp [ackL, hs]]
    by_cases e1 : (stL p L).b = 2
    · have e3 : ((stL p L).c == id) = false := by simpa [ackB, e1] using hs
      rw [e1] at HI
      clear hsm e1 hs
      generalize (stL p L).c = vc at *
      go_enter Try.func17, Try.ntmps17
      go_wp2_with (go_at_call 8; refine HI.out.mono ?_; clear HI; rintro e w' ⟨rfl, HU, HS⟩)
      go_ret
      exact ⟨rfl, HU.out.post (below_new _ _) HLD.out.1 HLD.out.2⟩
    · have e3 : ((stL p L).b == 2) = false := by simpa using e1
      clear hsm hs e1
      generalize (stL p L).b = vb at *
      go_enter Try.func17, Try.ntmps17
      go_wp2_with (go_at_call 8; refine HI.out.mono ?_; clear HI; rintro e w' ⟨rfl, HU, HS⟩)
      go_ret
      exact ⟨rfl, HU.out.post (below_new _ _) HLD.out.1 HLD.out.2⟩

theorem LT.cut {w : World} {tb : Nat} {D : Nat → Prop} {L : List HV.KV} {n : Int} (h : LT w tb D L n) : LT w tb (fun k => D k ∧ k < w.heap.size) L n := by
  obtain ⟨⟨p, t, hd, ht, h3, h4, h5, h6, h7⟩, c2, f2, ok⟩ := h
  exact ⟨⟨p, t, hd, HV.IsT.cut (fun k a b => ⟨a, b⟩) ht, h3, h4, h5, h6, fun h => h7 h.1⟩, c2, f2, ok⟩

theorem But.trans' {S S' : Nat → Prop} {w w1 w2 : World} (h : But S w w1) (h2 : But S' w1 w2) (hs : ∀ k, k < w.heap.size → S' k → S k) : But S w w2 :=
  ⟨h2.os.trans h.os, h2.tape.trans h.tape, h2.output.trans h.output, Nat.le_trans h.size h2.size, fun k hk hn => (h2.block k (Nat.lt_of_lt_of_le hk h.size) (fun e => hn (hs k hk e))).trans (h.block k hk hn)⟩

theorem del_head {x : HV.KV} {r : List HV.KV} (h : Rise (x :: r)) : delL x.1 (x :: r) = r := HV.del_here (A := []) h

set_option maxHeartbeats 4000000 in
theorem lpop_any {w : World} {tb : Nat} {D : Nat → Prop} {L : List HV.KV} {n : Int} (h : LT w tb D L n) (hN : L.length < 10000000) :
    Calls Try.prog 26 #[.pointer (some ⟨tb, 0, none⟩)] w fun e w' => e = .returned (.tuple #[.agg #[.int .i64 (L.headD (0, hf0)).2.a, .int .i64 (L.headD (0, hf0)).2.b, .int .i64 (L.headD (0, hf0)).2.c], .bool (!L.isEmpty)]) ∧ LU w w' tb D L.tail n := by
  have hl := h.tr.lt
  have hD := h.nd
  have hb0 := below_new w (.cells #[.int .i64 0, .int .i64 0, .int .i64 0] 34)
  have P0 : Tri (w.alloc (.cells #[.int .i64 0, .int .i64 0, .int .i64 0] 34)) w.heap.size (.int .i64 0) (.int .i64 0) (.int .i64 0) := Tri.new _ _ _ _ _
  cases L with
  | nil =>
    have HF : Hid (Calls Try.prog 37 #[.pointer (some ⟨tb, 0, none⟩)] (w.alloc (.cells #[.int .i64 0, .int .i64 0, .int .i64 0] 34)) fun e w' => e = .returned (.tuple #[.int .i64 0, .agg #[.int .i64 0, .int .i64 0, .int .i64 0], .bool false]) ∧ Tri w' w.heap.size (.int .i64 0) (.int .i64 0) (.int .i64 0) ∧ Hid (Below w.heap.size w w')) := hidb ((HV.First_any (h.tr.keep hb0)).mono (by
      rintro e w' ⟨hb, rfl⟩
      exact ⟨rfl, P0.keep hb, hidb (hb0.trans (hb.mono hb0.size))⟩))
    have HT := hidb h
    clear h hN hl hD hb0 P0
    go_enter Try.func26, Try.ntmps26
    go_wp2_with (go_at_call 37; refine HF.out.mono ?_; clear HF; rintro e w' ⟨rfl, P1, HB⟩; have P2 := P1.keep (below_new w' (.cells #[.int .i64 0, .int .i64 0, .int .i64 0] 34)); have p0 := P2.c0; have p1 := P2.c1; have p2 := P2.c2; have q0 := P2.f0; have q1 := P2.f1; have q2 := P2.f2)
    have hb := HB.out
    have hbs := hb.size
    exact bodyPost_ret (v := .tuple #[.agg #[.int .i64 0, .int .i64 0, .int .i64 0], .bool false]) (by simp [results, Try.results26, go_sem, p0, p1, p2]) rfl ⟨rfl, LU.same HT.out (by (repeat (first | exact Below.refl _ _ | assumption | refine Below.drew ?_ | refine below_drewN ?_ _ | refine Below.setCell ?_ (by simp) _ | refine Below.alloc ?_ (by (first | exact Nat.le_refl _ | (simp; done) | (simp; omega) | omega)) _ | refine Below.trans ?_ (Below.mono (by assumption) (by first | exact Nat.le_refl _ | (simp; done) | (simp; omega) | omega)))))⟩
  | cons x r =>
    have HF : Hid (Calls Try.prog 37 #[.pointer (some ⟨tb, 0, none⟩)] (w.alloc (.cells #[.int .i64 0, .int .i64 0, .int .i64 0] 34)) fun e w' => e = .returned (.tuple #[.int .i64 x.1, .agg #[.int .i64 x.2.a, .int .i64 x.2.b, .int .i64 x.2.c], .bool true]) ∧ Hid (Calls Try.prog 35 #[.pointer (some ⟨tb, 0, none⟩), .int .i64 x.1] (w'.alloc (.cells #[.int .i64 x.2.a, .int .i64 x.2.b, .int .i64 x.2.c] 34)) fun e w2 => ∃ z, e = .returned (.bool z) ∧ Tri w2 w.heap.size (.int .i64 0) (.int .i64 0) (.int .i64 0) ∧ Tri w2 w'.heap.size (.int .i64 x.2.a) (.int .i64 x.2.b) (.int .i64 x.2.c) ∧ w.heap.size < w'.heap.size ∧ Hid (LU (w'.alloc (.cells #[.int .i64 x.2.a, .int .i64 x.2.b, .int .i64 x.2.c] 34)) w2 tb (fun k => D k ∧ k < w.heap.size) r n ∧ w.heap.size < w2.heap.size ∧ Below w.heap.size w (w'.alloc (.cells #[.int .i64 x.2.a, .int .i64 x.2.b, .int .i64 x.2.c] 34))))) := hidb ((HV.First_any (h.tr.keep hb0)).mono (by
      rintro e w' ⟨hb, rfl⟩
      have hb1 : Below w.heap.size w w' := hb0.trans (hb.mono hb0.size)
      have hb2 : Below w.heap.size w (w'.alloc (.cells #[.int .i64 x.2.a, .int .i64 x.2.b, .int .i64 x.2.c] 34)) := hb1.alloc hb1.size _
      have hs : w.heap.size < w'.heap.size := by have := hb.size; simp at this; omega
      refine ⟨rfl, hidb ((ldrop_any (h.cut.keep hb2) hN x.1).mono ?_)⟩
      rintro e w2 ⟨rfl, hu⟩
      have P1 : Tri w2 w.heap.size (.int .i64 0) (.int .i64 0) (.int .i64 0) := ((P0.keep hb).keep (below_new w' (.cells #[.int .i64 x.2.a, .int .i64 x.2.b, .int .i64 x.2.c] 34))).but hu.bt (by omega)
      have P2 : Tri w2 w'.heap.size (.int .i64 x.2.a) (.int .i64 x.2.b) (.int .i64 x.2.c) := (Tri.new w' _ _ _ _).but hu.bt (by omega)
      refine ⟨_, rfl, P1, P2, hs, hidb ⟨?_, by have := P1.lt; omega, hb2⟩⟩
      rw [del_head h.tr.rise] at hu
      exact hu))
    have HLD := hidb (⟨hl, hD⟩ : tb < w.heap.size ∧ ¬ D tb)
    clear h hN hl hD hb0 P0
    go_enter Try.func26, Try.ntmps26
    go_wp2_with (first
      | (go_at_call 37; refine HF.out.mono ?_; clear HF; rintro e w' ⟨rfl, HS⟩)
      | (go_at_call 35; refine HS.out.mono ?_; clear HS; rintro e w2 ⟨z, rfl, P1, P2, hlt, HU⟩; have p0 := P1.c0; have p1 := P1.c1; have p2 := P1.c2; have q0 := P1.f0; have q1 := P1.f1; have q2 := P1.f2; have r0 := P2.c0; have r1 := P2.c1; have r2 := P2.c2))
    obtain ⟨hu, hul, hb2⟩ := HU.out
    have hll := HLD.out.1
    refine bodyPost_ret (v := .tuple #[.agg #[.int .i64 x.2.a, .int .i64 x.2.b, .int .i64 x.2.c], .bool true]) (by simp [results, Try.results26, go_sem, p0, p1, p2]) rfl ⟨rfl, ?_⟩
    have hsz : w.heap.size < (w'.alloc (.cells #[.int .i64 x.2.a, .int .i64 x.2.b, .int .i64 x.2.c] 34)).heap.size := by simp; omega
    have hS : But (fun k => k = w.heap.size) w2 (((w2.setCell ⟨w.heap.size, 0, none⟩ (.int .i64 x.2.a)).setCell ⟨w.heap.size, 1, none⟩ (.int .i64 x.2.b)).setCell ⟨w.heap.size, 2, none⟩ (.int .i64 x.2.c)) := (((But.refl (fun k => k = w.heap.size) w2).setCell (p := ⟨w.heap.size, 0, none⟩) (fun _ => rfl) _).setCell (p := ⟨w.heap.size, 1, none⟩) (fun _ => rfl) _).setCell (p := ⟨w.heap.size, 2, none⟩) (fun _ => rfl) _
    have hss := hS.size
    refine ⟨(hu.lt.but hS (fun k hk e => hk.elim (fun h => by omega) (fun h => by omega)) (by omega)).mono (fun k hk => hk.elim (fun h => .inl h.1) (fun h => .inr ⟨by omega, by omega⟩)) (fun h => h.elim HLD.out.2 (fun h => by omega)), ?_⟩
    exact ((But.of_below hb2).trans hu.bt).trans' hS (fun k hk e => by omega)

end Go.Proofs.Ytodelafnboimnaa
