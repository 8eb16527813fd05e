/- Two processes' tables and the ether between: law14.side, calls. -/
import Derived.Test.YtodelafnboimnaaGreatPm1
import Derived.Deep.RegionHeld3
namespace Go.Proofs.YtodelafnboimnaaGreat
open Go.RowKit Go.Lib
open HV (Hf hf0 getL insL delL Rise Wfk TB Nw Rst)
open PR (Sd Sig Inv)
attribute [local go_sem] store_float f64bits
attribute [local go_sem ↓] Go.wp_at_zero Go.wp_at_succ

theorem side_any (n : Int) (w : World) : Calls Tryz.prog 7 #[.int .i64 n] w fun e w' => ∃ z : Int, e = .returned (.int .i64 z) ∧ w' = w ∧ (z = 0 ∨ z = 1) := by
  by_cases h : n.tmod 2 = 0
  · go_enter Tryz.func7, Tryz.ntmps7
    go_wp2_with fail
    go_ret
    exact ⟨_, rfl, rfl, .inl rfl⟩
  · go_enter Tryz.func7, Tryz.ntmps7
    go_wp2_with fail
    go_ret
    exact ⟨_, rfl, rfl, .inr rfl⟩

variable {w0 w w' : World} {pb tA tB eb N : Nat} {x y : Int} {A B A' : Sd} {p q : List Sig}

/-- What behind calls holds. -/
def CallsR (w0 : World) (pb : Nat) (v0 v1 : Value) (tA tB eb : Nat) (x y : Int) (A B : Sd) (p q : List Sig) (N : Nat) (op : Int) (w' : World) : Prop :=
  ∃ A' p' N', PM w0 w' pb v0 v1 tA tB eb x y A' B p' q N' ∧ Inv A' B p' q ∧ N' ≤ N + 2 ∧ p'.length ≤ p.length + 1 ∧ A'.last ≤ A.last + 1 ∧ (op = 1 → A'.st = 1)

set_option maxRecDepth 100000 in
set_option maxHeartbeats 4000000 in
theorem callL0 (h : PM w0 w pb (.pointer (some ⟨tA, 0, none⟩)) (.pointer (some ⟨tB, 0, none⟩)) tA tB eb 1 2 A B p q N) (hi : Inv A B p q) (hN : N ≤ 80000) (hL : p.length + q.length ≤ 80000) :
    Calls Tryz.prog 8 #[.pointer (some ⟨pb, 0, none⟩), .int .i64 0, .int .i64 1] w fun e w' => e = .returned (.tuple #[]) ∧ CallsR w0 pb (.pointer (some ⟨tA, 0, none⟩)) (.pointer (some ⟨tB, 0, none⟩)) tA tB eb 1 2 A B p q N 1 w' := by
  have P0 := h.box
  have k0 := P0.c0
  have k1 := P0.c1
  have k2 := P0.c2
  clear P0
  by_cases hs : A.st = 1
  · have C : Hid (Calls Tryz.prog 15 #[.pointer (some ⟨tA, 0, none⟩), .int .i64 2] w fun e w1 => e = .returned (.bool false) ∧ Hid (CallsR w0 pb (.pointer (some ⟨tA, 0, none⟩)) (.pointer (some ⟨tB, 0, none⟩)) tA tB eb 1 2 A B p q N 1 w1)) := by
      refine hidb (Calls.mono (PM.turn (A' := A) (R := fun e => e = .returned (.bool false)) h (fun D hD => (llink_any hD (by have := lof_len 2 A; omega) 2 (by omega)).mono (by
        rintro e w1 ⟨rfl, hu⟩
        have e1 : isLk 2 (Lof 2 A) = true := by rw [lof_lk]; simpa using hs
        rw [show lnkL 2 (Lof 2 A) = Lof 2 A by simp [lnkL, e1]] at hu
        exact ⟨by rw [e1]; rfl, hu⟩))) ?_)
      rintro e w1 ⟨rfl, hp⟩
      exact ⟨rfl, hidb ⟨A, p, N, hp, hi, by omega, by omega, by omega, fun _ => hs⟩⟩
    clear h hi hN hL hs
    go_enter Tryz.func8, Tryz.ntmps8
    go_wp2_with (go_at_call 15; refine C.out.mono ?_; clear C; rintro e w1 ⟨rfl, HR⟩)
    exact bodyPost_ret (v := .tuple #[]) (by simp [results, go_sem]) rfl ⟨rfl, HR.out⟩
  · have C : Hid (Calls Tryz.prog 15 #[.pointer (some ⟨tA, 0, none⟩), .int .i64 2] w fun e w1 => e = .returned (.bool true) ∧ Tri w1 pb (.pointer (some ⟨tA, 0, none⟩)) (.pointer (some ⟨tB, 0, none⟩)) (.pointer (some ⟨eb, 0, none⟩)) ∧ Hid (Calls Tryz.prog 19 #[.pointer (some ⟨eb, 0, none⟩), sgv 1 2 2 0] w1 fun e w2 => e = .returned (.int .i64 0) ∧ Hid (CallsR w0 pb (.pointer (some ⟨tA, 0, none⟩)) (.pointer (some ⟨tB, 0, none⟩)) tA tB eb 1 2 A B p q N 1 w2))) := by
      refine hidb (Calls.mono (PM.turn (A' := ⟨1, 0, A.last⟩) (R := fun e => e = .returned (.bool true)) h (fun D hD => (llink_any hD (by have := lof_len 2 A; omega) 2 (by omega)).mono (by
        rintro e w1 ⟨rfl, hu⟩
        have e1 : isLk 2 (Lof 2 A) = false := by rw [lof_lk]; simpa using hs
        rw [lnk_of hs] at hu
        exact ⟨by rw [e1]; rfl, hu⟩))) ?_)
      rintro e w1 ⟨rfl, hp⟩
      refine ⟨rfl, hp.box, hidb ((hp.put (by decide) (by decide) (by decide) (s := (2, 0)) (.inl ⟨rfl, rfl⟩) (by omega) (by omega)).mono ?_)⟩
      rintro e w2 ⟨rfl, hp2⟩
      exact ⟨rfl, hidb ⟨_, _, _, hp2, hi.link, by omega, by simp, by simp only; omega, fun _ => rfl⟩⟩
    clear h hi hN hL hs
    go_enter Tryz.func8, Tryz.ntmps8
    go_wp2_with (first
      | (go_at_call 15; refine C.out.mono ?_; clear C; rintro e w1 ⟨rfl, P1, C2⟩; have p0 := P1.c0; have p1 := P1.c1; have p2 := P1.c2)
      | (go_at_call 19; refine C2.out.mono ?_; clear C2; rintro e w2 ⟨rfl, HR⟩))
    exact bodyPost_ret (v := .tuple #[]) (by simp [results, go_sem]) rfl ⟨rfl, HR.out⟩

set_option maxRecDepth 100000 in
set_option maxHeartbeats 4000000 in
theorem callU0 (h : PM w0 w pb (.pointer (some ⟨tA, 0, none⟩)) (.pointer (some ⟨tB, 0, none⟩)) tA tB eb 1 2 A B p q N) (hi : Inv A B p q) (hN : N ≤ 80000) (hL : p.length + q.length ≤ 80000) (hl : A.last < 900000) :
    Calls Tryz.prog 8 #[.pointer (some ⟨pb, 0, none⟩), .int .i64 0, .int .i64 2] w fun e w' => e = .returned (.tuple #[]) ∧ CallsR w0 pb (.pointer (some ⟨tA, 0, none⟩)) (.pointer (some ⟨tB, 0, none⟩)) tA tB eb 1 2 A B p q N 2 w' := by
  have P0 := h.box
  have k0 := P0.c0
  have k1 := P0.c1
  have k2 := P0.c2
  clear P0
  have hla := hi.ha.last
  by_cases hs : A.st = 1
  · have C : Hid (Calls Tryz.prog 16 #[.pointer (some ⟨tA, 0, none⟩), .int .i64 2] w fun e w1 => e = .returned (.tuple #[.int .i64 (A.last + 1), .bool true]) ∧ Tri w1 pb (.pointer (some ⟨tA, 0, none⟩)) (.pointer (some ⟨tB, 0, none⟩)) (.pointer (some ⟨eb, 0, none⟩)) ∧ Hid (Calls Tryz.prog 19 #[.pointer (some ⟨eb, 0, none⟩), sgv 1 2 3 (A.last + 1)] w1 fun e w2 => e = .returned (.int .i64 0) ∧ Hid (CallsR w0 pb (.pointer (some ⟨tA, 0, none⟩)) (.pointer (some ⟨tB, 0, none⟩)) tA tB eb 1 2 A B p q N 2 w2))) := by
      refine hidb (Calls.mono (PM.turn (A' := ⟨2, A.last + 1, A.last + 1⟩) (R := fun e => e = .returned (.tuple #[.int .i64 (A.last + 1), .bool true])) h (fun D hD => (lunlink_any hD (by have := lof_len 2 A; omega) 2 (by omega) (by omega)).mono (by
        rintro e w1 ⟨rfl, hu⟩
        have e1 : isLk 2 (Lof 2 A) = true := by rw [lof_lk]; simpa using hs
        rw [ulk_of hs, show ulkN 2 A.last (Lof 2 A) = A.last + 1 by simp [ulkN, e1]] at hu
        exact ⟨by rw [e1, show ulkI 2 A.last (Lof 2 A) = A.last + 1 by simp [ulkI, e1]], hu⟩))) ?_)
      rintro e w1 ⟨rfl, hp⟩
      refine ⟨rfl, hp.box, hidb ((hp.put (by decide) (by decide) (by decide) (s := (3, A.last + 1)) (.inr ⟨.inl rfl, by simp only; omega, by simp only; omega⟩) (by omega) (by omega)).mono ?_)⟩
      rintro e w2 ⟨rfl, hp2⟩
      exact ⟨rfl, hidb ⟨_, _, _, hp2, hi.unlink (by omega), by omega, by simp, by simp, fun e => by omega⟩⟩
    clear h hi hN hL hs
    go_enter Tryz.func8, Tryz.ntmps8
    go_wp2_with (first
      | (go_at_call 16; refine C.out.mono ?_; clear C; rintro e w1 ⟨rfl, P1, C2⟩; have p0 := P1.c0; have p1 := P1.c1; have p2 := P1.c2)
      | (go_at_call 19; refine C2.out.mono ?_; clear C2; rintro e w2 ⟨rfl, HR⟩))
    exact bodyPost_end (v := .tuple #[]) (by simp [results, Tryz.results8, go_sem]) rfl ⟨rfl, HR.out⟩
  · have C : Hid (Calls Tryz.prog 16 #[.pointer (some ⟨tA, 0, none⟩), .int .i64 2] w fun e w1 => e = .returned (.tuple #[.int .i64 0, .bool false]) ∧ Hid (CallsR w0 pb (.pointer (some ⟨tA, 0, none⟩)) (.pointer (some ⟨tB, 0, none⟩)) tA tB eb 1 2 A B p q N 2 w1)) := by
      refine hidb (Calls.mono (PM.turn (A' := A) (R := fun e => e = .returned (.tuple #[.int .i64 0, .bool false])) h (fun D hD => (lunlink_any hD (by have := lof_len 2 A; omega) 2 (by omega) (by omega)).mono (by
        rintro e w1 ⟨rfl, hu⟩
        have e1 : isLk 2 (Lof 2 A) = false := by rw [lof_lk]; simpa using hs
        rw [show ulkL 2 A.last (Lof 2 A) = Lof 2 A by simp [ulkL, e1], show ulkN 2 A.last (Lof 2 A) = A.last by simp [ulkN, e1]] at hu
        exact ⟨by rw [e1, show ulkI 2 A.last (Lof 2 A) = 0 by simp [ulkI, e1]], hu⟩))) ?_)
      rintro e w1 ⟨rfl, hp⟩
      exact ⟨rfl, hidb ⟨A, p, N, hp, hi, by omega, by omega, by omega, fun e => by omega⟩⟩
    clear h hi hN hL hl hs
    go_enter Tryz.func8, Tryz.ntmps8
    go_wp2_with (go_at_call 16; refine C.out.mono ?_; clear C; rintro e w1 ⟨rfl, HR⟩)
    exact bodyPost_end (v := .tuple #[]) (by simp [results, Tryz.results8, go_sem]) rfl ⟨rfl, HR.out⟩

set_option maxRecDepth 100000 in
set_option maxHeartbeats 4000000 in
theorem callL1 (h : PM w0 w pb (.pointer (some ⟨tB, 0, none⟩)) (.pointer (some ⟨tA, 0, none⟩)) tA tB eb 2 1 A B p q N) (hi : Inv A B p q) (hN : N ≤ 80000) (hL : p.length + q.length ≤ 80000) :
    Calls Tryz.prog 8 #[.pointer (some ⟨pb, 0, none⟩), .int .i64 1, .int .i64 1] w fun e w' => e = .returned (.tuple #[]) ∧ CallsR w0 pb (.pointer (some ⟨tB, 0, none⟩)) (.pointer (some ⟨tA, 0, none⟩)) tA tB eb 2 1 A B p q N 1 w' := by
  have P0 := h.box
  have k0 := P0.c0
  have k1 := P0.c1
  have k2 := P0.c2
  clear P0
  by_cases hs : A.st = 1
  · have C : Hid (Calls Tryz.prog 15 #[.pointer (some ⟨tA, 0, none⟩), .int .i64 1] w fun e w1 => e = .returned (.bool false) ∧ Hid (CallsR w0 pb (.pointer (some ⟨tB, 0, none⟩)) (.pointer (some ⟨tA, 0, none⟩)) tA tB eb 2 1 A B p q N 1 w1)) := by
      refine hidb (Calls.mono (PM.turn (A' := A) (R := fun e => e = .returned (.bool false)) h (fun D hD => (llink_any hD (by have := lof_len 1 A; omega) 1 (by omega)).mono (by
        rintro e w1 ⟨rfl, hu⟩
        have e1 : isLk 1 (Lof 1 A) = true := by rw [lof_lk]; simpa using hs
        rw [show lnkL 1 (Lof 1 A) = Lof 1 A by simp [lnkL, e1]] at hu
        exact ⟨by rw [e1]; rfl, hu⟩))) ?_)
      rintro e w1 ⟨rfl, hp⟩
      exact ⟨rfl, hidb ⟨A, p, N, hp, hi, by omega, by omega, by omega, fun _ => hs⟩⟩
    clear h hi hN hL hs
    go_enter Tryz.func8, Tryz.ntmps8
    go_wp2_with (go_at_call 15; refine C.out.mono ?_; clear C; rintro e w1 ⟨rfl, HR⟩)
    exact bodyPost_ret (v := .tuple #[]) (by simp [results, go_sem]) rfl ⟨rfl, HR.out⟩
  · have C : Hid (Calls Tryz.prog 15 #[.pointer (some ⟨tA, 0, none⟩), .int .i64 1] w fun e w1 => e = .returned (.bool true) ∧ Tri w1 pb (.pointer (some ⟨tB, 0, none⟩)) (.pointer (some ⟨tA, 0, none⟩)) (.pointer (some ⟨eb, 0, none⟩)) ∧ Hid (Calls Tryz.prog 19 #[.pointer (some ⟨eb, 0, none⟩), sgv 2 1 2 0] w1 fun e w2 => e = .returned (.int .i64 0) ∧ Hid (CallsR w0 pb (.pointer (some ⟨tB, 0, none⟩)) (.pointer (some ⟨tA, 0, none⟩)) tA tB eb 2 1 A B p q N 1 w2))) := by
      refine hidb (Calls.mono (PM.turn (A' := ⟨1, 0, A.last⟩) (R := fun e => e = .returned (.bool true)) h (fun D hD => (llink_any hD (by have := lof_len 1 A; omega) 1 (by omega)).mono (by
        rintro e w1 ⟨rfl, hu⟩
        have e1 : isLk 1 (Lof 1 A) = false := by rw [lof_lk]; simpa using hs
        rw [lnk_of hs] at hu
        exact ⟨by rw [e1]; rfl, hu⟩))) ?_)
      rintro e w1 ⟨rfl, hp⟩
      refine ⟨rfl, hp.box, hidb ((hp.put (by decide) (by decide) (by decide) (s := (2, 0)) (.inl ⟨rfl, rfl⟩) (by omega) (by omega)).mono ?_)⟩
      rintro e w2 ⟨rfl, hp2⟩
      exact ⟨rfl, hidb ⟨_, _, _, hp2, hi.link, by omega, by simp, by simp only; omega, fun _ => rfl⟩⟩
    clear h hi hN hL hs
    go_enter Tryz.func8, Tryz.ntmps8
    go_wp2_with (first
      | (go_at_call 15; refine C.out.mono ?_; clear C; rintro e w1 ⟨rfl, P1, C2⟩; have p0 := P1.c0; have p1 := P1.c1; have p2 := P1.c2)
      | (go_at_call 19; refine C2.out.mono ?_; clear C2; rintro e w2 ⟨rfl, HR⟩))
    exact bodyPost_ret (v := .tuple #[]) (by simp [results, go_sem]) rfl ⟨rfl, HR.out⟩

set_option maxRecDepth 100000 in
set_option maxHeartbeats 4000000 in
theorem callU1 (h : PM w0 w pb (.pointer (some ⟨tB, 0, none⟩)) (.pointer (some ⟨tA, 0, none⟩)) tA tB eb 2 1 A B p q N) (hi : Inv A B p q) (hN : N ≤ 80000) (hL : p.length + q.length ≤ 80000) (hl : A.last < 900000) :
    Calls Tryz.prog 8 #[.pointer (some ⟨pb, 0, none⟩), .int .i64 1, .int .i64 2] w fun e w' => e = .returned (.tuple #[]) ∧ CallsR w0 pb (.pointer (some ⟨tB, 0, none⟩)) (.pointer (some ⟨tA, 0, none⟩)) tA tB eb 2 1 A B p q N 2 w' := by
  have P0 := h.box
  have k0 := P0.c0
  have k1 := P0.c1
  have k2 := P0.c2
  clear P0
  have hla := hi.ha.last
  by_cases hs : A.st = 1
  · have C : Hid (Calls Tryz.prog 16 #[.pointer (some ⟨tA, 0, none⟩), .int .i64 1] w fun e w1 => e = .returned (.tuple #[.int .i64 (A.last + 1), .bool true]) ∧ Tri w1 pb (.pointer (some ⟨tB, 0, none⟩)) (.pointer (some ⟨tA, 0, none⟩)) (.pointer (some ⟨eb, 0, none⟩)) ∧ Hid (Calls Tryz.prog 19 #[.pointer (some ⟨eb, 0, none⟩), sgv 2 1 3 (A.last + 1)] w1 fun e w2 => e = .returned (.int .i64 0) ∧ Hid (CallsR w0 pb (.pointer (some ⟨tB, 0, none⟩)) (.pointer (some ⟨tA, 0, none⟩)) tA tB eb 2 1 A B p q N 2 w2))) := by
      refine hidb (Calls.mono (PM.turn (A' := ⟨2, A.last + 1, A.last + 1⟩) (R := fun e => e = .returned (.tuple #[.int .i64 (A.last + 1), .bool true])) h (fun D hD => (lunlink_any hD (by have := lof_len 1 A; omega) 1 (by omega) (by omega)).mono (by
        rintro e w1 ⟨rfl, hu⟩
        have e1 : isLk 1 (Lof 1 A) = true := by rw [lof_lk]; simpa using hs
        rw [ulk_of hs, show ulkN 1 A.last (Lof 1 A) = A.last + 1 by simp [ulkN, e1]] at hu
        exact ⟨by rw [e1, show ulkI 1 A.last (Lof 1 A) = A.last + 1 by simp [ulkI, e1]], hu⟩))) ?_)
      rintro e w1 ⟨rfl, hp⟩
      refine ⟨rfl, hp.box, hidb ((hp.put (by decide) (by decide) (by decide) (s := (3, A.last + 1)) (.inr ⟨.inl rfl, by simp only; omega, by simp only; omega⟩) (by omega) (by omega)).mono ?_)⟩
      rintro e w2 ⟨rfl, hp2⟩
      exact ⟨rfl, hidb ⟨_, _, _, hp2, hi.unlink (by omega), by omega, by simp, by simp, fun e => by omega⟩⟩
    clear h hi hN hL hs
    go_enter Tryz.func8, Tryz.ntmps8
    go_wp2_with (first
      | (go_at_call 16; refine C.out.mono ?_; clear C; rintro e w1 ⟨rfl, P1, C2⟩; have p0 := P1.c0; have p1 := P1.c1; have p2 := P1.c2)
      | (go_at_call 19; refine C2.out.mono ?_; clear C2; rintro e w2 ⟨rfl, HR⟩))
    exact bodyPost_end (v := .tuple #[]) (by simp [results, Tryz.results8, go_sem]) rfl ⟨rfl, HR.out⟩
  · have C : Hid (Calls Tryz.prog 16 #[.pointer (some ⟨tA, 0, none⟩), .int .i64 1] w fun e w1 => e = .returned (.tuple #[.int .i64 0, .bool false]) ∧ Hid (CallsR w0 pb (.pointer (some ⟨tB, 0, none⟩)) (.pointer (some ⟨tA, 0, none⟩)) tA tB eb 2 1 A B p q N 2 w1)) := by
      refine hidb (Calls.mono (PM.turn (A' := A) (R := fun e => e = .returned (.tuple #[.int .i64 0, .bool false])) h (fun D hD => (lunlink_any hD (by have := lof_len 1 A; omega) 1 (by omega) (by omega)).mono (by
        rintro e w1 ⟨rfl, hu⟩
        have e1 : isLk 1 (Lof 1 A) = false := by rw [lof_lk]; simpa using hs
        rw [show ulkL 1 A.last (Lof 1 A) = Lof 1 A by simp [ulkL, e1], show ulkN 1 A.last (Lof 1 A) = A.last by simp [ulkN, e1]] at hu
        exact ⟨by rw [e1, show ulkI 1 A.last (Lof 1 A) = 0 by simp [ulkI, e1]], hu⟩))) ?_)
      rintro e w1 ⟨rfl, hp⟩
      exact ⟨rfl, hidb ⟨A, p, N, hp, hi, by omega, by omega, by omega, fun e => by omega⟩⟩
    clear h hi hN hL hl hs
    go_enter Tryz.func8, Tryz.ntmps8
    go_wp2_with (go_at_call 16; refine C.out.mono ?_; clear C; rintro e w1 ⟨rfl, HR⟩)
    exact bodyPost_end (v := .tuple #[]) (by simp [results, Tryz.results8, go_sem]) rfl ⟨rfl, HR.out⟩

end Go.Proofs.YtodelafnboimnaaGreat
