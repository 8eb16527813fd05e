/- Half-links: OnLink and what drops; Pop; New. -/
import Derived.Test.YtodelafnboimnaaGreatLk1
namespace Go.Proofs.YtodelafnboimnaaGreat
open Go.RowKit Go.Lib
open HV (Hf hf0 getL insL delL Rise Wfk TB Nw Rst)
attribute [local go_sem] store_float f64bits
attribute [local go_sem ↓] Go.wp_at_zero Go.wp_at_succ

theorem some_of_st {p : Int} {L : List HV.KV} (h : ¬ (stL p L).b = 0) : (getL p L).isSome = true := by
  cases hg : getL p L with
  | none => rw [stL, hg] at h; exact absurd rfl h
  | some v => rfl

set_option maxHeartbeats 2000000 in
theorem lonlink_any {w : World} {tb : Nat} {D : Nat → Prop} {L : List HV.KV} {n : Int} (h : LT w tb D L n) (hN : L.length < 10000000) (p : Int) (hk : -9223372036854775808 ≤ p) :
    Calls Tryz.prog 21 #[.pointer (some ⟨tb, 0, none⟩), .int .i64 p] w fun e w' => e = .returned (.tuple #[]) ∧ LU w w' tb D (onlL p L) n := by
  have hl := h.tr.lt
  have hD := h.nd
  have HI : Hid (Calls Tryz.prog 12 #[.pointer (some ⟨tb, 0, none⟩), .int .i64 p] w fun e w' => ∃ a b c, e = .returned (.tuple #[.agg #[.int .i64 a, .int .i64 b, .int .i64 c], .bool (getL p L).isSome]) ∧ Hid (LU w w' tb D L n) ∧ Hid (∀ o, Calls Tryz.prog 29 #[.pointer (some ⟨tb, 0, none⟩), .int .i64 p] (w'.alloc o) fun e w2 => e = .returned (.tuple #[]) ∧ Hid (LU w w2 tb D (insL p ⟨p, 1, 0⟩ L) n))) := hidb ((lget_any h p).mono (by
    rintro e w' ⟨rfl, hb⟩
    refine ⟨_, _, _, rfl, hidb (LU.same h hb), hidb (fun o => ?_)⟩
    have hb1 : Below w.heap.size w (w'.alloc o) := hb.alloc hb.size _
    exact (lset_any (h.keep hb1) hN p hk).mono (by rintro e w2 ⟨rfl, hu⟩; exact ⟨rfl, hidb (LU.pre hb1 hl hD hu)⟩)))
  have HLD := hidb (⟨hl, hD⟩ : tb < w.heap.size ∧ ¬ D tb)
  clear h hN hk hl hD
  cases hs : (getL p L).isSome with
  | true =>
    rw [show onlL p L = L by simp [onlL, hs]]
    rw [hs] at HI
    go_enter Tryz.func21, Tryz.ntmps21
    go_wp2_with (go_at_call 12; refine HI.out.mono ?_; clear HI; rintro e w' ⟨a, b, c, rfl, HU, HS⟩)
    exact bodyPost_end (v := .tuple #[]) (by simp [results, Tryz.results21, go_sem]) rfl ⟨rfl, by first | exact HU.out | exact HU.out.post (below_new _ _) HLD.out.1 HLD.out.2⟩
  | false =>
    rw [show onlL p L = insL p ⟨p, 1, 0⟩ L by simp [onlL, hs]]
    rw [hs] at HI
    go_enter Tryz.func21, Tryz.ntmps21
    go_wp2_with (first
      | (go_at_call 12; refine HI.out.mono ?_; clear HI; rintro e w' ⟨a, b, c, rfl, HU, HS⟩)
      | (go_at_call 29; refine (HS.out _).mono ?_; clear HS; rintro e w2 ⟨rfl, HV2⟩))
    exact bodyPost_end (v := .tuple #[]) (by simp [results, Tryz.results21, go_sem]) rfl ⟨rfl, HV2.out⟩

set_option maxHeartbeats 2000000 in
theorem ldropl_any {w : World} {tb : Nat} {D : Nat → Prop} {L : List HV.KV} {n : Int} (h : LT w tb D L n) (hN : L.length < 10000000) (p : Int) :
    Calls Tryz.prog 38 #[.pointer (some ⟨tb, 0, none⟩), .int .i64 p] w fun e w' => e = .returned (.bool (isLk p L)) ∧ LU w w' tb D (dlL p L) n := by
  have hl := h.tr.lt
  have hD := h.nd
  cases hs : isLk p L with
  | false =>
    rw [show dlL p L = L by simp [dlL, hs]]
    have HI : Hid (Calls Tryz.prog 28 #[.pointer (some ⟨tb, 0, none⟩), .int .i64 p] w fun e w' => e = .returned (.bool false) ∧ Hid (LU w w' tb D L n)) := hidb ((isLinked_any h p).mono (by rintro e w' ⟨rfl, hb⟩; exact ⟨by rw [hs], hidb (LU.same h hb)⟩))
    clear h hN hs hl hD
    go_enter Tryz.func38, Tryz.ntmps38
    go_wp2_with (go_at_call 28; refine HI.out.mono ?_; clear HI; rintro e w' ⟨rfl, HU⟩)
    go_ret
    exact ⟨rfl, HU.out⟩
  | true =>
    rw [show dlL p L = delL p L by simp [dlL, hs]]
    have hsm := some_of_st (p := p) (L := L) (by have : (stL p L).b = 1 := by simpa [isLk] using hs
                                                 omega)
    have HI : Hid (Calls Tryz.prog 28 #[.pointer (some ⟨tb, 0, none⟩), .int .i64 p] w fun e w' => e = .returned (.bool true) ∧ Hid (Calls Tryz.prog 31 #[.pointer (some ⟨tb, 0, none⟩), .int .i64 p] w' fun e w2 => e = .returned (.bool true) ∧ Hid (LU w w2 tb D (delL p L) n))) := hidb ((isLinked_any h p).mono (by
      rintro e w' ⟨rfl, hb⟩
      exact ⟨by rw [hs], hidb ((ldrop_any (h.keep hb) hN p).mono (by rintro e w2 ⟨rfl, hu⟩; exact ⟨by rw [hsm], hidb (LU.pre hb hl hD hu)⟩))⟩))
    clear h hN hs hl hD hsm
    go_enter Tryz.func38, Tryz.ntmps38
    go_wp2_with (first
      | (go_at_call 28; refine HI.out.mono ?_; clear HI; rintro e w' ⟨rfl, HS⟩)
      | (go_at_call 31; refine HS.out.mono ?_; clear HS; rintro e w2 ⟨rfl, HU⟩))
    go_ret
    exact ⟨rfl, HU.out⟩

set_option maxHeartbeats 2000000 in
theorem lonunlink_any {w : World} {tb : Nat} {D : Nat → Prop} {L : List HV.KV} {n : Int} (h : LT w tb D L n) (hN : L.length < 10000000) (p : Int) :
    Calls Tryz.prog 22 #[.pointer (some ⟨tb, 0, none⟩), .int .i64 p] w fun e w' => e = .returned (.tuple #[]) ∧ LU w w' tb D (dlL p L) n := by
  have HI := hidb (ldropl_any h hN p)
  clear h hN
  go_enter Tryz.func22, Tryz.ntmps22
  go_wp2_with (go_at_call 38; refine HI.out.mono ?_; clear HI; rintro e w' ⟨rfl, hu⟩; have HU := hidb hu; clear hu)
  exact bodyPost_end (v := .tuple #[]) (by simp [results, Tryz.results22, go_sem]) rfl ⟨rfl, HU.out⟩

set_option maxHeartbeats 4000000 in
theorem lonack_any {w : World} {tb : Nat} {D : Nat → Prop} {L : List HV.KV} {n : Int} (h : LT w tb D L n) (hN : L.length < 10000000) (p id : Int) :
    Calls Tryz.prog 17 #[.pointer (some ⟨tb, 0, none⟩), .int .i64 p, .int .i64 id] w fun e w' => e = .returned (.bool (ackB p id L)) ∧ LU w w' tb D (ackL p id L) n := by
  have hl := h.tr.lt
  have hD := h.nd
  have hsm : (stL p L).b = 2 → (getL p L).isSome = true := fun e => some_of_st (by omega)
  have HI : Hid (Calls Tryz.prog 12 #[.pointer (some ⟨tb, 0, none⟩), .int .i64 p] w fun e w' => e = .returned (.tuple #[.agg #[.int .i64 (stL p L).a, .int .i64 (stL p L).b, .int .i64 (stL p L).c], .bool (getL p L).isSome]) ∧ Hid (LU w w' tb D L n) ∧ Hid (∀ o, Calls Tryz.prog 31 #[.pointer (some ⟨tb, 0, none⟩), .int .i64 p] (w'.alloc o) fun e w2 => e = .returned (.bool (getL p L).isSome) ∧ Hid (LU w w2 tb D (delL p L) n))) := hidb ((lget_any h p).mono (by
    rintro e w' ⟨rfl, hb⟩
    refine ⟨rfl, hidb (LU.same h hb), hidb (fun o => ?_)⟩
    have hb1 : Below w.heap.size w (w'.alloc o) := hb.alloc hb.size _
    exact (ldrop_any (h.keep hb1) hN p).mono (by rintro e w2 ⟨rfl, hu⟩; exact ⟨rfl, hidb (LU.pre hb1 hl hD hu)⟩)))
  have HLD := hidb (⟨hl, hD⟩ : tb < w.heap.size ∧ ¬ D tb)
  clear h hN hl hD
  cases hs : ackB p id L with
  | true =>
    rw [show ackL p id L = delL p L by simp [ackL, hs]]
    simp only [ackB, Bool.and_eq_true, beq_iff_eq] at hs
    obtain ⟨e1, e2⟩ := hs
    rw [hsm e1, e1, e2] at HI
    clear hsm e1 e2
    go_enter Tryz.func17, Tryz.ntmps17
    go_wp2_with (first
      | (go_at_call 12; refine HI.out.mono ?_; clear HI; rintro e w' ⟨rfl, HU, HS⟩)
      | (go_at_call 31; refine (HS.out _).mono ?_; clear HS; rintro e w2 ⟨rfl, HV2⟩))
    go_ret
    exact ⟨rfl, HV2.out⟩
  | false =>
    rw [show ackL p id L = L by simp [ackL, hs]]
    by_cases e1 : (stL p L).b = 2
    · have e3 : ((stL p L).c == id) = false := by simpa [ackB, e1] using hs
      rw [e1] at HI
      clear hsm e1 hs
      generalize (stL p L).c = vc at *
      go_enter Tryz.func17, Tryz.ntmps17
      go_wp2_with (go_at_call 12; refine HI.out.mono ?_; clear HI; rintro e w' ⟨rfl, HU, HS⟩)
      go_ret
      exact ⟨rfl, HU.out.post (below_new _ _) HLD.out.1 HLD.out.2⟩
    · have e3 : ((stL p L).b == 2) = false := by simpa using e1
      clear hsm hs e1
      generalize (stL p L).b = vb at *
      go_enter Tryz.func17, Tryz.ntmps17
      go_wp2_with (go_at_call 12; refine HI.out.mono ?_; clear HI; rintro e w' ⟨rfl, HU, HS⟩)
      go_ret
      exact ⟨rfl, HU.out.post (below_new _ _) HLD.out.1 HLD.out.2⟩

theorem LT.cut {w : World} {tb : Nat} {D : Nat → Prop} {L : List HV.KV} {n : Int} (h : LT w tb D L n) : LT w tb (fun k => D k ∧ k < w.heap.size) L n := by
  obtain ⟨⟨p, t, hd, ht, h3, h4, h5, h6, h7⟩, c2, f2, ok⟩ := h
  exact ⟨⟨p, t, hd, HV.IsT.cut (fun k a b => ⟨a, b⟩) ht, h3, h4, h5, h6, fun h => h7 h.1⟩, c2, f2, ok⟩

theorem But.trans' {S S' : Nat → Prop} {w w1 w2 : World} (h : But S w w1) (h2 : But S' w1 w2) (hs : ∀ k, k < w.heap.size → S' k → S k) : But S w w2 :=
  ⟨h2.os.trans h.os, h2.tape.trans h.tape, h2.output.trans h.output, Nat.le_trans h.size h2.size, fun k hk hn => (h2.block k (Nat.lt_of_lt_of_le hk h.size) (fun e => hn (hs k hk e))).trans (h.block k hk hn)⟩

theorem del_head {x : HV.KV} {r : List HV.KV} (h : Rise (x :: r)) : delL x.1 (x :: r) = r := HV.del_here (A := []) h

end Go.Proofs.YtodelafnboimnaaGreat
