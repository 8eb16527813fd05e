/- Two processes' tables and the ether between: takes. -/
import Derived.Test.YtodelafnboimnaaGreatPm2
import Derived.Deep.RegionWith
namespace Go.Proofs.YtodelafnboimnaaGreat
open Go.RowKit Go.Lib
open HV (Hf hf0 getL insL delL Rise Wfk TB Nw Rst)
open PR (Sd Sig Inv)
attribute [local go_sem] store_float f64bits
attribute [local go_sem ↓] Go.wp_at_zero Go.wp_at_succ

variable {w0 w w' : World} {pb tA tB eb N : Nat} {x y : Int} {A B A' : Sd} {p q : List Sig}

abbrev sgb (x y k i : Int) : Obj := .cells #[.int .i64 x, .int .i64 y, .int .i64 k, .int .i64 i, .int .i64 0, .bool false, .string ⟨#[]⟩, .int .i64 0, .int .i64 0, .float .f64 0, .string ⟨#[]⟩, .slice none 0 0] ST

set_option maxRecDepth 100000 in
set_option maxHeartbeats 4000000 in
theorem takeN0 (h : PM w0 w pb (.pointer (some ⟨tA, 0, none⟩)) (.pointer (some ⟨tB, 0, none⟩)) tA tB eb 1 2 A B p [] N) :
    Calls Tryz.prog 9 #[.pointer (some ⟨pb, 0, none⟩), .int .i64 0] w fun e w9 => e = .returned (.bool false) ∧ PM w0 w9 pb (.pointer (some ⟨tA, 0, none⟩)) (.pointer (some ⟨tB, 0, none⟩)) tA tB eb 1 2 A B p [] N := by
  have P0 := h.box
  have k0 := P0.c0
  have k1 := P0.c1
  have k2 := P0.c2
  clear P0
  have C : Hid (Calls Tryz.prog 20 #[.pointer (some ⟨eb, 0, none⟩), .int .i64 2, .int .i64 1] w fun e w1 => e = .returned (.tuple #[zsig, .bool false]) ∧ Hid (PM w0 w1 pb (.pointer (some ⟨tA, 0, none⟩)) (.pointer (some ⟨tB, 0, none⟩)) tA tB eb 1 2 A B p [] N)) := hidb ((h.none_in (by decide) (by decide)).mono (by
    rintro e w1 ⟨rfl, hp⟩
    exact ⟨rfl, hidb hp⟩))
  clear h
  go_enter Tryz.func9, Tryz.ntmps9
  go_wp2_with (go_at_call 20; refine C.out.mono ?_; clear C; rintro e w1 ⟨rfl, HR⟩)
  go_ret
  exact ⟨rfl, HR.out.keep (below_new _ _)⟩

set_option maxRecDepth 100000 in
set_option maxHeartbeats 4000000 in
theorem take20 {i : Int} (h : PM w0 w pb (.pointer (some ⟨tA, 0, none⟩)) (.pointer (some ⟨tB, 0, none⟩)) tA tB eb 1 2 A B p ((2, i) :: q) N) (hN : N ≤ 80000) (hL : p.length + q.length ≤ 80000) :
    Calls Tryz.prog 9 #[.pointer (some ⟨pb, 0, none⟩), .int .i64 0] w fun e w9 => e = .returned (.bool true) ∧ ∃ N2, PM w0 w9 pb (.pointer (some ⟨tA, 0, none⟩)) (.pointer (some ⟨tB, 0, none⟩)) tA tB eb 1 2 (PR.rcv A (2, i)) B (p ++ PR.ans (2, i)) q N2 ∧ N2 ≤ N + 2 := by
  have P0 := h.box
  have k0 := P0.c0
  have k1 := P0.c1
  have k2 := P0.c2
  clear P0
  have C : Hid (Calls Tryz.prog 20 #[.pointer (some ⟨eb, 0, none⟩), .int .i64 2, .int .i64 1] w fun e w1 => e = .returned (.tuple #[sgv 2 1 2 i, .bool true]) ∧ Tri (w1.alloc (sgb 2 1 2 i)) pb (.pointer (some ⟨tA, 0, none⟩)) (.pointer (some ⟨tB, 0, none⟩)) (.pointer (some ⟨eb, 0, none⟩)) ∧ Hid (Calls Tryz.prog 21 #[.pointer (some ⟨tA, 0, none⟩), .int .i64 2] (w1.alloc (sgb 2 1 2 i)) fun e w9 => e = .returned (.tuple #[]) ∧ Hid (∃ N2, PM w0 w9 pb (.pointer (some ⟨tA, 0, none⟩)) (.pointer (some ⟨tB, 0, none⟩)) tA tB eb 1 2 (PR.rcv A (2, i)) B (p ++ PR.ans (2, i)) q N2 ∧ N2 ≤ N + 2))) := by
    refine hidb ((h.take (by decide) (by decide) (by decide) (by omega) (by omega)).mono ?_)
    rintro e w1 ⟨rfl, hp⟩
    have hp1 := hp.keep (below_new w1 (sgb 2 1 2 i))
    refine ⟨rfl, hp1.box, hidb (Calls.mono (PM.turn (A' := PR.rcv A (2, i)) (R := fun e => e = .returned (.tuple #[])) hp1 (fun D hD => (lonlink_any hD (by have := lof_len 2 A; omega) 2 (by omega)).mono (by
      rintro e w1 ⟨rfl, hu⟩
      rw [onl_of i] at hu
      exact ⟨rfl, by rw [PR.rcv_last]; exact hu⟩))) ?_)⟩
    rintro e w9 ⟨rfl, hp9⟩
    exact ⟨rfl, hidb ⟨N, by simpa [PR.ans] using hp9, by omega⟩⟩
  clear h hN hL
  go_enter Tryz.func9, Tryz.ntmps9
  go_wp2_with (first
    | (go_at_call 20; refine C.out.mono ?_; clear C; rintro e w1 ⟨rfl, P1, C2⟩; have p0 := P1.c0; have p1 := P1.c1; have p2 := P1.c2)
    | (go_at_call 21; refine C2.out.mono ?_; clear C2; rintro e w9 ⟨rfl, HR⟩))
  go_ret
  exact ⟨rfl, HR.out⟩

set_option maxRecDepth 100000 in
set_option maxHeartbeats 4000000 in
theorem take30 {i : Int} (h : PM w0 w pb (.pointer (some ⟨tA, 0, none⟩)) (.pointer (some ⟨tB, 0, none⟩)) tA tB eb 1 2 A B p ((3, i) :: q) N) (hN : N ≤ 80000) (hL : p.length + q.length ≤ 80000) (hw : 1 ≤ i ∧ i ≤ 1000000) :
    Calls Tryz.prog 9 #[.pointer (some ⟨pb, 0, none⟩), .int .i64 0] w fun e w9 => e = .returned (.bool true) ∧ ∃ N2, PM w0 w9 pb (.pointer (some ⟨tA, 0, none⟩)) (.pointer (some ⟨tB, 0, none⟩)) tA tB eb 1 2 (PR.rcv A (3, i)) B (p ++ PR.ans (3, i)) q N2 ∧ N2 ≤ N + 2 := by
  have P0 := h.box
  have k0 := P0.c0
  have k1 := P0.c1
  have k2 := P0.c2
  clear P0
  have C : Hid (Calls Tryz.prog 20 #[.pointer (some ⟨eb, 0, none⟩), .int .i64 2, .int .i64 1] w fun e w1 => e = .returned (.tuple #[sgv 2 1 3 i, .bool true]) ∧ Tri (w1.alloc (sgb 2 1 3 i)) pb (.pointer (some ⟨tA, 0, none⟩)) (.pointer (some ⟨tB, 0, none⟩)) (.pointer (some ⟨eb, 0, none⟩)) ∧ Hid (Calls Tryz.prog 22 #[.pointer (some ⟨tA, 0, none⟩), .int .i64 2] (w1.alloc (sgb 2 1 3 i)) fun e w2 => e = .returned (.tuple #[]) ∧ Tri w2 pb (.pointer (some ⟨tA, 0, none⟩)) (.pointer (some ⟨tB, 0, none⟩)) (.pointer (some ⟨eb, 0, none⟩)) ∧ w2.cell? ⟨w1.heap.size, 3, none⟩ = some (.int .i64 i) ∧ Hid (Calls Tryz.prog 19 #[.pointer (some ⟨eb, 0, none⟩), sgv 1 2 4 i] w2.drew fun e w9 => e = .returned (.int .i64 0) ∧ Hid (∃ N2, PM w0 w9 pb (.pointer (some ⟨tA, 0, none⟩)) (.pointer (some ⟨tB, 0, none⟩)) tA tB eb 1 2 (PR.rcv A (3, i)) B (p ++ PR.ans (3, i)) q N2 ∧ N2 ≤ N + 2)))) := by
    refine hidb ((h.take (by decide) (by decide) (by decide) (by omega) (by omega)).mono ?_)
    rintro e w1 ⟨rfl, hp⟩
    have hp1 := hp.keep (below_new w1 (sgb 2 1 3 i))
    obtain ⟨D0, hD0⟩ := hp.tab
    have hlA := hD0.tr.lt
    refine ⟨rfl, hp1.box, hidb ?_⟩
    have hc := PM.turnB (A' := PR.rcv A (3, i)) (R := fun e => e = .returned (.tuple #[])) hp1 (fun D hD => (lonunlink_any hD (by have := lof_len 2 A; omega) 2).mono (by
      rintro e w1 ⟨rfl, hu⟩
      rw [dl_of i] at hu
      exact ⟨rfl, by rw [PR.rcv_last]; exact hu⟩))
    refine Calls.mono hc ?_
    rintro e w2 ⟨rfl, hp2, hbt⟩
    have hcell : w2.cell? ⟨w1.heap.size, 3, none⟩ = some (.int .i64 i) := (hbt.cell (p := ⟨w1.heap.size, 3, none⟩) (by simp) (by simp only; omega)).trans (by rw [World.cell?_alloc_new]; rfl)
    refine ⟨rfl, hp2.box, hcell, hidb (((hp2.keep ((Below.refl _ _).drew)).put (by decide) (by decide) (by decide) (s := (4, i)) (.inr ⟨.inr rfl, hw⟩) (by omega) (by omega)).mono ?_)⟩
    rintro e w9 ⟨rfl, hp9⟩
    exact ⟨rfl, hidb ⟨N + 2, by simpa [PR.ans] using hp9, by omega⟩⟩
  clear h hN hL hw
  go_enter Tryz.func9, Tryz.ntmps9
  go_wp2_with (first
    | (go_at_call 20; refine C.out.mono ?_; clear C; rintro e w1 ⟨rfl, P1, C2⟩; have p0 := P1.c0; have p1 := P1.c1; have p2 := P1.c2)
    | (go_at_call 22; refine C2.out.mono ?_; clear C2; rintro e w2 ⟨rfl, P2, q3, C3⟩; have q0 := P2.c0; have q1 := P2.c1; have q2 := P2.c2))
  go_region_with (go_at_call 19; refine C3.out.mono ?_; rintro e w9 ⟨rfl, HR⟩)
  all_goals go_wp2_with fail
  all_goals go_ret
  all_goals exact ⟨rfl, HR.out⟩

set_option maxRecDepth 100000 in
set_option maxHeartbeats 4000000 in
theorem take40 {i : Int} (h : PM w0 w pb (.pointer (some ⟨tA, 0, none⟩)) (.pointer (some ⟨tB, 0, none⟩)) tA tB eb 1 2 A B p ((4, i) :: q) N) (hN : N ≤ 80000) (hL : p.length + q.length ≤ 80000) :
    Calls Tryz.prog 9 #[.pointer (some ⟨pb, 0, none⟩), .int .i64 0] w fun e w9 => e = .returned (.bool true) ∧ ∃ N2, PM w0 w9 pb (.pointer (some ⟨tA, 0, none⟩)) (.pointer (some ⟨tB, 0, none⟩)) tA tB eb 1 2 (PR.rcv A (4, i)) B (p ++ PR.ans (4, i)) q N2 ∧ N2 ≤ N + 2 := by
  have P0 := h.box
  have k0 := P0.c0
  have k1 := P0.c1
  have k2 := P0.c2
  clear P0
  have C : Hid (Calls Tryz.prog 20 #[.pointer (some ⟨eb, 0, none⟩), .int .i64 2, .int .i64 1] w fun e w1 => e = .returned (.tuple #[sgv 2 1 4 i, .bool true]) ∧ Tri (w1.alloc (sgb 2 1 4 i)) pb (.pointer (some ⟨tA, 0, none⟩)) (.pointer (some ⟨tB, 0, none⟩)) (.pointer (some ⟨eb, 0, none⟩)) ∧ Hid (Calls Tryz.prog 17 #[.pointer (some ⟨tA, 0, none⟩), .int .i64 2, .int .i64 i] (w1.alloc (sgb 2 1 4 i)).drew fun e w9 => ∃ z, e = .returned (.bool z) ∧ Hid (∃ N2, PM w0 w9 pb (.pointer (some ⟨tA, 0, none⟩)) (.pointer (some ⟨tB, 0, none⟩)) tA tB eb 1 2 (PR.rcv A (4, i)) B (p ++ PR.ans (4, i)) q N2 ∧ N2 ≤ N + 2))) := by
    refine hidb ((h.take (by decide) (by decide) (by decide) (by omega) (by omega)).mono ?_)
    rintro e w1 ⟨rfl, hp⟩
    have hp1 := hp.keep (below_new w1 (sgb 2 1 4 i))
    refine ⟨rfl, hp1.box, hidb (Calls.mono (PM.turn (A' := PR.rcv A (4, i)) (R := fun e => ∃ z, e = .returned (.bool z)) (hp1.keep ((Below.refl _ _).drew)) (fun D hD => (lonack_any hD (by have := lof_len 2 A; omega) 2 i).mono (by
      rintro e w1 ⟨rfl, hu⟩
      rw [ack_of i] at hu
      exact ⟨⟨_, rfl⟩, by rw [PR.rcv_last]; exact hu⟩))) ?_)⟩
    rintro e w9 ⟨⟨z, rfl⟩, hp9⟩
    exact ⟨z, rfl, hidb ⟨N, by simpa [PR.ans] using hp9, by omega⟩⟩
  clear h hN hL
  go_enter Tryz.func9, Tryz.ntmps9
  go_wp2_with (go_at_call 20; refine C.out.mono ?_; clear C; rintro e w1 ⟨rfl, P1, C2⟩; have p0 := P1.c0; have p1 := P1.c1; have p2 := P1.c2)
  go_region_with (go_at_call 17; refine C2.out.mono ?_; rintro e w9 ⟨z, rfl, HR⟩)
  all_goals go_wp2_with fail
  all_goals go_ret
  all_goals exact ⟨rfl, HR.out⟩

theorem takeS0 {s : Sig} (h : PM w0 w pb (.pointer (some ⟨tA, 0, none⟩)) (.pointer (some ⟨tB, 0, none⟩)) tA tB eb 1 2 A B p (s :: q) N) (hN : N ≤ 80000) (hL : p.length + q.length ≤ 80000) (hw : PR.Wf s) :
    Calls Tryz.prog 9 #[.pointer (some ⟨pb, 0, none⟩), .int .i64 0] w fun e w9 => e = .returned (.bool true) ∧ ∃ N2, PM w0 w9 pb (.pointer (some ⟨tA, 0, none⟩)) (.pointer (some ⟨tB, 0, none⟩)) tA tB eb 1 2 (PR.rcv A s) B (p ++ PR.ans s) q N2 ∧ N2 ≤ N + 2 := by
  obtain ⟨k, i⟩ := s
  rcases hw with ⟨e1, e2⟩ | ⟨e1 | e1, e2⟩
  · simp only at e1; subst e1; exact take20 h hN hL
  · simp only at e1 e2; subst e1; exact take30 h hN hL e2
  · simp only at e1; subst e1; exact take40 h hN hL

set_option maxRecDepth 100000 in
set_option maxHeartbeats 4000000 in
theorem takeN1 (h : PM w0 w pb (.pointer (some ⟨tB, 0, none⟩)) (.pointer (some ⟨tA, 0, none⟩)) tA tB eb 2 1 A B p [] N) :
    Calls Tryz.prog 9 #[.pointer (some ⟨pb, 0, none⟩), .int .i64 1] w fun e w9 => e = .returned (.bool false) ∧ PM w0 w9 pb (.pointer (some ⟨tB, 0, none⟩)) (.pointer (some ⟨tA, 0, none⟩)) tA tB eb 2 1 A B p [] N := by
  have P0 := h.box
  have k0 := P0.c0
  have k1 := P0.c1
  have k2 := P0.c2
  clear P0
  have C : Hid (Calls Tryz.prog 20 #[.pointer (some ⟨eb, 0, none⟩), .int .i64 1, .int .i64 2] w fun e w1 => e = .returned (.tuple #[zsig, .bool false]) ∧ Hid (PM w0 w1 pb (.pointer (some ⟨tB, 0, none⟩)) (.pointer (some ⟨tA, 0, none⟩)) tA tB eb 2 1 A B p [] N)) := hidb ((h.none_in (by decide) (by decide)).mono (by
    rintro e w1 ⟨rfl, hp⟩
    exact ⟨rfl, hidb hp⟩))
  clear h
  go_enter Tryz.func9, Tryz.ntmps9
  go_wp2_with (go_at_call 20; refine C.out.mono ?_; clear C; rintro e w1 ⟨rfl, HR⟩)
  go_ret
  exact ⟨rfl, HR.out.keep (below_new _ _)⟩

set_option maxRecDepth 100000 in
set_option maxHeartbeats 4000000 in
theorem take21 {i : Int} (h : PM w0 w pb (.pointer (some ⟨tB, 0, none⟩)) (.pointer (some ⟨tA, 0, none⟩)) tA tB eb 2 1 A B p ((2, i) :: q) N) (hN : N ≤ 80000) (hL : p.length + q.length ≤ 80000) :
    Calls Tryz.prog 9 #[.pointer (some ⟨pb, 0, none⟩), .int .i64 1] w fun e w9 => e = .returned (.bool true) ∧ ∃ N2, PM w0 w9 pb (.pointer (some ⟨tB, 0, none⟩)) (.pointer (some ⟨tA, 0, none⟩)) tA tB eb 2 1 (PR.rcv A (2, i)) B (p ++ PR.ans (2, i)) q N2 ∧ N2 ≤ N + 2 := by
  have P0 := h.box
  have k0 := P0.c0
  have k1 := P0.c1
  have k2 := P0.c2
  clear P0
  have C : Hid (Calls Tryz.prog 20 #[.pointer (some ⟨eb, 0, none⟩), .int .i64 1, .int .i64 2] w fun e w1 => e = .returned (.tuple #[sgv 1 2 2 i, .bool true]) ∧ Tri (w1.alloc (sgb 1 2 2 i)) pb (.pointer (some ⟨tB, 0, none⟩)) (.pointer (some ⟨tA, 0, none⟩)) (.pointer (some ⟨eb, 0, none⟩)) ∧ Hid (Calls Tryz.prog 21 #[.pointer (some ⟨tA, 0, none⟩), .int .i64 1] (w1.alloc (sgb 1 2 2 i)) fun e w9 => e = .returned (.tuple #[]) ∧ Hid (∃ N2, PM w0 w9 pb (.pointer (some ⟨tB, 0, none⟩)) (.pointer (some ⟨tA, 0, none⟩)) tA tB eb 2 1 (PR.rcv A (2, i)) B (p ++ PR.ans (2, i)) q N2 ∧ N2 ≤ N + 2))) := by
    refine hidb ((h.take (by decide) (by decide) (by decide) (by omega) (by omega)).mono ?_)
    rintro e w1 ⟨rfl, hp⟩
    have hp1 := hp.keep (below_new w1 (sgb 1 2 2 i))
    refine ⟨rfl, hp1.box, hidb (Calls.mono (PM.turn (A' := PR.rcv A (2, i)) (R := fun e => e = .returned (.tuple #[])) hp1 (fun D hD => (lonlink_any hD (by have := lof_len 1 A; omega) 1 (by omega)).mono (by
      rintro e w1 ⟨rfl, hu⟩
      rw [onl_of i] at hu
      exact ⟨rfl, by rw [PR.rcv_last]; exact hu⟩))) ?_)⟩
    rintro e w9 ⟨rfl, hp9⟩
    exact ⟨rfl, hidb ⟨N, by simpa [PR.ans] using hp9, by omega⟩⟩
  clear h hN hL
  go_enter Tryz.func9, Tryz.ntmps9
  go_wp2_with (first
    | (go_at_call 20; refine C.out.mono ?_; clear C; rintro e w1 ⟨rfl, P1, C2⟩; have p0 := P1.c0; have p1 := P1.c1; have p2 := P1.c2)
    | (go_at_call 21; refine C2.out.mono ?_; clear C2; rintro e w9 ⟨rfl, HR⟩))
  go_ret
  exact ⟨rfl, HR.out⟩

set_option maxRecDepth 100000 in
set_option maxHeartbeats 4000000 in
theorem take31 {i : Int} (h : PM w0 w pb (.pointer (some ⟨tB, 0, none⟩)) (.pointer (some ⟨tA, 0, none⟩)) tA tB eb 2 1 A B p ((3, i) :: q) N) (hN : N ≤ 80000) (hL : p.length + q.length ≤ 80000) (hw : 1 ≤ i ∧ i ≤ 1000000) :
    Calls Tryz.prog 9 #[.pointer (some ⟨pb, 0, none⟩), .int .i64 1] w fun e w9 => e = .returned (.bool true) ∧ ∃ N2, PM w0 w9 pb (.pointer (some ⟨tB, 0, none⟩)) (.pointer (some ⟨tA, 0, none⟩)) tA tB eb 2 1 (PR.rcv A (3, i)) B (p ++ PR.ans (3, i)) q N2 ∧ N2 ≤ N + 2 := by
  have P0 := h.box
  have k0 := P0.c0
  have k1 := P0.c1
  have k2 := P0.c2
  clear P0
  have C : Hid (Calls Tryz.prog 20 #[.pointer (some ⟨eb, 0, none⟩), .int .i64 1, .int .i64 2] w fun e w1 => e = .returned (.tuple #[sgv 1 2 3 i, .bool true]) ∧ Tri (w1.alloc (sgb 1 2 3 i)) pb (.pointer (some ⟨tB, 0, none⟩)) (.pointer (some ⟨tA, 0, none⟩)) (.pointer (some ⟨eb, 0, none⟩)) ∧ Hid (Calls Tryz.prog 22 #[.pointer (some ⟨tA, 0, none⟩), .int .i64 1] (w1.alloc (sgb 1 2 3 i)) fun e w2 => e = .returned (.tuple #[]) ∧ Tri w2 pb (.pointer (some ⟨tB, 0, none⟩)) (.pointer (some ⟨tA, 0, none⟩)) (.pointer (some ⟨eb, 0, none⟩)) ∧ w2.cell? ⟨w1.heap.size, 3, none⟩ = some (.int .i64 i) ∧ Hid (Calls Tryz.prog 19 #[.pointer (some ⟨eb, 0, none⟩), sgv 2 1 4 i] w2.drew fun e w9 => e = .returned (.int .i64 0) ∧ Hid (∃ N2, PM w0 w9 pb (.pointer (some ⟨tB, 0, none⟩)) (.pointer (some ⟨tA, 0, none⟩)) tA tB eb 2 1 (PR.rcv A (3, i)) B (p ++ PR.ans (3, i)) q N2 ∧ N2 ≤ N + 2)))) := by
    refine hidb ((h.take (by decide) (by decide) (by decide) (by omega) (by omega)).mono ?_)
    rintro e w1 ⟨rfl, hp⟩
    have hp1 := hp.keep (below_new w1 (sgb 1 2 3 i))
    obtain ⟨D0, hD0⟩ := hp.tab
    have hlA := hD0.tr.lt
    refine ⟨rfl, hp1.box, hidb ?_⟩
    have hc := PM.turnB (A' := PR.rcv A (3, i)) (R := fun e => e = .returned (.tuple #[])) hp1 (fun D hD => (lonunlink_any hD (by have := lof_len 1 A; omega) 1).mono (by
      rintro e w1 ⟨rfl, hu⟩
      rw [dl_of i] at hu
      exact ⟨rfl, by rw [PR.rcv_last]; exact hu⟩))
    refine Calls.mono hc ?_
    rintro e w2 ⟨rfl, hp2, hbt⟩
    have hcell : w2.cell? ⟨w1.heap.size, 3, none⟩ = some (.int .i64 i) := (hbt.cell (p := ⟨w1.heap.size, 3, none⟩) (by simp) (by simp only; omega)).trans (by rw [World.cell?_alloc_new]; rfl)
    refine ⟨rfl, hp2.box, hcell, hidb (((hp2.keep ((Below.refl _ _).drew)).put (by decide) (by decide) (by decide) (s := (4, i)) (.inr ⟨.inr rfl, hw⟩) (by omega) (by omega)).mono ?_)⟩
    rintro e w9 ⟨rfl, hp9⟩
    exact ⟨rfl, hidb ⟨N + 2, by simpa [PR.ans] using hp9, by omega⟩⟩
  clear h hN hL hw
  go_enter Tryz.func9, Tryz.ntmps9
  go_wp2_with (first
    | (go_at_call 20; refine C.out.mono ?_; clear C; rintro e w1 ⟨rfl, P1, C2⟩; have p0 := P1.c0; have p1 := P1.c1; have p2 := P1.c2)
    | (go_at_call 22; refine C2.out.mono ?_; clear C2; rintro e w2 ⟨rfl, P2, q3, C3⟩; have q0 := P2.c0; have q1 := P2.c1; have q2 := P2.c2))
  go_region_with (go_at_call 19; refine C3.out.mono ?_; rintro e w9 ⟨rfl, HR⟩)
  all_goals go_wp2_with fail
  all_goals go_ret
  all_goals exact ⟨rfl, HR.out⟩

set_option maxRecDepth 100000 in
set_option maxHeartbeats 4000000 in
theorem take41 {i : Int} (h : PM w0 w pb (.pointer (some ⟨tB, 0, none⟩)) (.pointer (some ⟨tA, 0, none⟩)) tA tB eb 2 1 A B p ((4, i) :: q) N) (hN : N ≤ 80000) (hL : p.length + q.length ≤ 80000) :
    Calls Tryz.prog 9 #[.pointer (some ⟨pb, 0, none⟩), .int .i64 1] w fun e w9 => e = .returned (.bool true) ∧ ∃ N2, PM w0 w9 pb (.pointer (some ⟨tB, 0, none⟩)) (.pointer (some ⟨tA, 0, none⟩)) tA tB eb 2 1 (PR.rcv A (4, i)) B (p ++ PR.ans (4, i)) q N2 ∧ N2 ≤ N + 2 := by
  have P0 := h.box
  have k0 := P0.c0
  have k1 := P0.c1
  have k2 := P0.c2
  clear P0
  have C : Hid (Calls Tryz.prog 20 #[.pointer (some ⟨eb, 0, none⟩), .int .i64 1, .int .i64 2] w fun e w1 => e = .returned (.tuple #[sgv 1 2 4 i, .bool true]) ∧ Tri (w1.alloc (sgb 1 2 4 i)) pb (.pointer (some ⟨tB, 0, none⟩)) (.pointer (some ⟨tA, 0, none⟩)) (.pointer (some ⟨eb, 0, none⟩)) ∧ Hid (Calls Tryz.prog 17 #[.pointer (some ⟨tA, 0, none⟩), .int .i64 1, .int .i64 i] (w1.alloc (sgb 1 2 4 i)).drew fun e w9 => ∃ z, e = .returned (.bool z) ∧ Hid (∃ N2, PM w0 w9 pb (.pointer (some ⟨tB, 0, none⟩)) (.pointer (some ⟨tA, 0, none⟩)) tA tB eb 2 1 (PR.rcv A (4, i)) B (p ++ PR.ans (4, i)) q N2 ∧ N2 ≤ N + 2))) := by
    refine hidb ((h.take (by decide) (by decide) (by decide) (by omega) (by omega)).mono ?_)
    rintro e w1 ⟨rfl, hp⟩
    have hp1 := hp.keep (below_new w1 (sgb 1 2 4 i))
    refine ⟨rfl, hp1.box, hidb (Calls.mono (PM.turn (A' := PR.rcv A (4, i)) (R := fun e => ∃ z, e = .returned (.bool z)) (hp1.keep ((Below.refl _ _).drew)) (fun D hD => (lonack_any hD (by have := lof_len 1 A; omega) 1 i).mono (by
      rintro e w1 ⟨rfl, hu⟩
      rw [ack_of i] at hu
      exact ⟨⟨_, rfl⟩, by rw [PR.rcv_last]; exact hu⟩))) ?_)⟩
    rintro e w9 ⟨⟨z, rfl⟩, hp9⟩
    exact ⟨z, rfl, hidb ⟨N, by simpa [PR.ans] using hp9, by omega⟩⟩
  clear h hN hL
  go_enter Tryz.func9, Tryz.ntmps9
  go_wp2_with (go_at_call 20; refine C.out.mono ?_; clear C; rintro e w1 ⟨rfl, P1, C2⟩; have p0 := P1.c0; have p1 := P1.c1; have p2 := P1.c2)
  go_region_with (go_at_call 17; refine C2.out.mono ?_; rintro e w9 ⟨z, rfl, HR⟩)
  all_goals go_wp2_with fail
  all_goals go_ret
  all_goals exact ⟨rfl, HR.out⟩

theorem takeS1 {s : Sig} (h : PM w0 w pb (.pointer (some ⟨tB, 0, none⟩)) (.pointer (some ⟨tA, 0, none⟩)) tA tB eb 2 1 A B p (s :: q) N) (hN : N ≤ 80000) (hL : p.length + q.length ≤ 80000) (hw : PR.Wf s) :
    Calls Tryz.prog 9 #[.pointer (some ⟨pb, 0, none⟩), .int .i64 1] w fun e w9 => e = .returned (.bool true) ∧ ∃ N2, PM w0 w9 pb (.pointer (some ⟨tB, 0, none⟩)) (.pointer (some ⟨tA, 0, none⟩)) tA tB eb 2 1 (PR.rcv A s) B (p ++ PR.ans s) q N2 ∧ N2 ≤ N + 2 := by
  obtain ⟨k, i⟩ := s
  rcases hw with ⟨e1, e2⟩ | ⟨e1 | e1, e2⟩
  · simp only at e1; subst e1; exact take21 h hN hL
  · simp only at e1 e2; subst e1; exact take31 h hN hL e2
  · simp only at e1; subst e1; exact take41 h hN hL

end Go.Proofs.YtodelafnboimnaaGreat
