/- Two processes' tables and the ether between: drained. -/
import Derived.Test.YtodelafnboimnaaGreatPm3
namespace Go.Proofs.YtodelafnboimnaaGreat
open Go.RowKit Go.Lib
open HV (Hf hf0 getL insL delL Rise Wfk TB Nw Rst)
open PR (Sd Sig Inv cnt)
attribute [local go_sem] store_float f64bits
attribute [local go_sem ↓] Go.wp_at_zero Go.wp_at_succ

variable {w0 w w' : World} {pb tA tB eb N : Nat} {A B : Sd} {p q : List Sig}

/-- What all deliveries end at. -/
abbrev fin (A : Sd) (p q : List Sig) : Int := (PR.run A (q ++ PR.ackOf p)).st

theorem fin_take {A : Sd} {p q : List Sig} {s : Sig} : fin (PR.rcv A s) (p ++ PR.ans s) q = fin A p (s :: q) := by unfold fin; rw [PR.take_fin]
theorem fin_swap {A B : Sd} {p q : List Sig} (h : Inv A B p q) : fin B q p = fin A p q := h.fin.symm

/-- One delivery, to the first one if there is any for it. -/
theorem deliver0 (h : PM w0 w pb (.pointer (some ⟨tA, 0, none⟩)) (.pointer (some ⟨tB, 0, none⟩)) tA tB eb 1 2 A B p q N) (hi : Inv A B p q) (hN : N + 2 * cnt p q ≤ 80000) (hL : cnt p q ≤ 40000) :
    (q = [] ∧ Calls Tryz.prog 9 #[.pointer (some ⟨pb, 0, none⟩), .int .i64 0] w fun e w1 => e = .returned (.bool false) ∧ PM w0 w1 pb (.pointer (some ⟨tA, 0, none⟩)) (.pointer (some ⟨tB, 0, none⟩)) tA tB eb 1 2 A B p q N) ∨
    (Calls Tryz.prog 9 #[.pointer (some ⟨pb, 0, none⟩), .int .i64 0] w fun e w1 => e = .returned (.bool true) ∧ ∃ A2 B2 p2 q2 N2, PM w0 w1 pb (.pointer (some ⟨tA, 0, none⟩)) (.pointer (some ⟨tB, 0, none⟩)) tA tB eb 1 2 A2 B2 p2 q2 N2 ∧ Inv A2 B2 p2 q2 ∧ fin A2 p2 q2 = fin A p q ∧ cnt p2 q2 + 1 = cnt p q ∧ N2 + 2 * cnt p2 q2 ≤ N + 2 * cnt p q ∧ p2.length + q2.length ≤ cnt p q) := by
  have hc1 : p.length + q.length ≤ cnt p q := by unfold cnt; omega
  cases q with
  | nil => exact .inl ⟨rfl, takeN0 h⟩
  | cons s r =>
    right
    refine (takeS0 h (by omega) (by simp at hc1; omega) (hi.hb.wf s (by simp))).mono ?_
    rintro e w1 ⟨rfl, N2, hp, hN2⟩
    have hc := PR.cnt_take p r s
    have hc2 : (p ++ PR.ans s).length + r.length ≤ cnt (p ++ PR.ans s) r := by unfold cnt; omega
    exact ⟨rfl, _, _, _, _, N2, hp, hi.take, fin_take, hc, by omega, by omega⟩

/-- One delivery, to the first one if there is any for it. -/
theorem deliver1 (h : PM w0 w pb (.pointer (some ⟨tB, 0, none⟩)) (.pointer (some ⟨tA, 0, none⟩)) tA tB eb 2 1 A B p q N) (hi : Inv A B p q) (hN : N + 2 * cnt p q ≤ 80000) (hL : cnt p q ≤ 40000) :
    (q = [] ∧ Calls Tryz.prog 9 #[.pointer (some ⟨pb, 0, none⟩), .int .i64 1] w fun e w1 => e = .returned (.bool false) ∧ PM w0 w1 pb (.pointer (some ⟨tB, 0, none⟩)) (.pointer (some ⟨tA, 0, none⟩)) tA tB eb 2 1 A B p q N) ∨
    (Calls Tryz.prog 9 #[.pointer (some ⟨pb, 0, none⟩), .int .i64 1] w fun e w1 => e = .returned (.bool true) ∧ ∃ A2 B2 p2 q2 N2, PM w0 w1 pb (.pointer (some ⟨tB, 0, none⟩)) (.pointer (some ⟨tA, 0, none⟩)) tA tB eb 2 1 A2 B2 p2 q2 N2 ∧ Inv A2 B2 p2 q2 ∧ fin A2 p2 q2 = fin A p q ∧ cnt p2 q2 + 1 = cnt p q ∧ N2 + 2 * cnt p2 q2 ≤ N + 2 * cnt p q ∧ p2.length + q2.length ≤ cnt p q) := by
  have hc1 : p.length + q.length ≤ cnt p q := by unfold cnt; omega
  cases q with
  | nil => exact .inl ⟨rfl, takeN1 h⟩
  | cons s r =>
    right
    refine (takeS1 h (by omega) (by simp at hc1; omega) (hi.hb.wf s (by simp))).mono ?_
    rintro e w1 ⟨rfl, N2, hp, hN2⟩
    have hc := PR.cnt_take p r s
    have hc2 : (p ++ PR.ans s).length + r.length ≤ cnt (p ++ PR.ans s) r := by unfold cnt; omega
    exact ⟨rfl, _, _, _, _, N2, hp, hi.take, fin_take, hc, by omega, by omega⟩

set_option maxRecDepth 100000 in
set_option maxHeartbeats 4000000 in
theorem drained0 (h : PM w0 w pb (.pointer (some ⟨tA, 0, none⟩)) (.pointer (some ⟨tB, 0, none⟩)) tA tB eb 1 2 A B p q N) (hi : Inv A B p q) (hN : N + 2 * cnt p q ≤ 80000) (hL : cnt p q ≤ 40000) :
    Calls Tryz.prog 11 #[.pointer (some ⟨pb, 0, none⟩), .int .i64 0] w fun e w9 => e = .returned (.int .i64 (cnt p q : Int)) ∧ ∃ A2 B2 N2, PM w0 w9 pb (.pointer (some ⟨tA, 0, none⟩)) (.pointer (some ⟨tB, 0, none⟩)) tA tB eb 1 2 A2 B2 [] [] N2 ∧ A2.st = fin A p q ∧ B2.st = fin A p q ∧ (fin A p q = 0 ∨ fin A p q = 1) := by
  have hf2 := hi.fin2
  have HF2 := hidb hf2
  have HI0 := hidb (⟨h, hi, hN, hL⟩ : _ ∧ _ ∧ _ ∧ _)
  clear h hi hN hL hf2
  go_enter Tryz.func11, Tryz.ntmps11
  go_wp2_with fail
  go_loopw [5] (fun iv wr => ∃ (j : Nat) (A2 B2 : Sd) (p2 q2 : List Sig) (N2 : Nat), iv = .int .i64 (j : Int) ∧ PM w0 wr pb (.pointer (some ⟨tA, 0, none⟩)) (.pointer (some ⟨tB, 0, none⟩)) tA tB eb 1 2 A2 B2 p2 q2 N2 ∧ Inv A2 B2 p2 q2 ∧ fin A2 p2 q2 = fin A p q ∧ j + cnt p2 q2 = cnt p q ∧ N2 + 2 * cnt p2 q2 ≤ N + 2 * cnt p q) (fun iv _ => cnt p q - (intOf iv).toNat)
  case atStart => exact ⟨0, A, B, p, q, N, rfl, HI0.out.1, HI0.out.2.1, rfl, by omega, by omega⟩
  case round =>
  obtain ⟨j, A2, B2, p2, q2, N2, rfl, hP, hV, hf, hj, hN2⟩ := hrel
  have hL := HI0.out.2.2
  have P0 := hP.box
  have k0 := P0.c0
  have k1 := P0.c1
  have k2 := P0.c2
  have HC := hidb hP.count
  have HJ := hidb (⟨hf, hj, hN2⟩ : fin A2 p2 q2 = fin A p q ∧ j + cnt p2 q2 = cnt p q ∧ N2 + 2 * cnt p2 q2 ≤ N + 2 * cnt p q)
  have HW : Hid (wrap64 ((j : Int) + 1) = ((j + 1 : Nat) : Int)) := hidb (by unfold wrap64; omega)
  obtain ⟨m, hm⟩ : ∃ m, p2.length + q2.length = m := ⟨_, rfl⟩
  rw [hm] at HC
  by_cases hz : 0 < m
  · have e1 : (0 : Int) < (m : Int) := by omega
    have hd := deliver0 hP hV (by omega) (by omega)
    rcases hd with ⟨rfl, hd⟩ | hd
    · have hd2 : Hid (Calls Tryz.prog 9 #[.pointer (some ⟨pb, 0, none⟩), .int .i64 0] wr fun e w1 => e = .returned (.bool false) ∧ Hid (Calls Tryz.prog 9 #[.pointer (some ⟨pb, 0, none⟩), .int .i64 1] w1 fun e w9 => e = .returned (.bool true) ∧ Hid (∃ (A2 B2 : Sd) (p2 q2 : List Sig) (N2 : Nat), PM w0 w9 pb (.pointer (some ⟨tA, 0, none⟩)) (.pointer (some ⟨tB, 0, none⟩)) tA tB eb 1 2 A2 B2 p2 q2 N2 ∧ Inv A2 B2 p2 q2 ∧ fin A2 p2 q2 = fin A p q ∧ j + 1 + cnt p2 q2 = cnt p q ∧ N2 + 2 * cnt p2 q2 ≤ N + 2 * cnt p q))) := by
        refine hidb (hd.mono ?_)
        rintro e w1 ⟨rfl, hp1⟩
        refine ⟨rfl, hidb ?_⟩
        have hsw := hp1.swap
        rcases deliver1 hsw hV.swap (by rw [PR.cnt_swap]; omega) (by rw [PR.cnt_swap]; omega) with ⟨hq, -⟩ | hd3
        · subst hq; simp at hm; omega
        · refine hd3.mono ?_
          rintro e w9 ⟨rfl, A3, B3, p3, q3, N3, g1, g2, g3, g4, g5, -⟩
          rw [PR.cnt_swap [] p2] at g4 g5
          exact ⟨rfl, hidb ⟨B3, A3, q3, p3, N3, g1.swap, g2.swap, by rw [fin_swap g2, g3, fin_swap hV]; exact hf, by rw [PR.cnt_swap]; omega, by rw [PR.cnt_swap]; omega⟩⟩
      clear hd hP hV hf hj hN2 hL hm P0
      go_wp2_with (first
        | (go_at_call 10; refine HC.out.mono ?_; clear HC; rintro e w5 ⟨rfl, hw5⟩; (have hw6 := hw5.symm); clear hw5; subst hw6)
        | (go_at_call 9; refine hd2.out.mono ?_; clear hd2; rintro e w1 ⟨rfl, hd4⟩)
        | (go_at_call 9; refine hd4.out.mono ?_; clear hd4; rintro e w9 ⟨rfl, HR⟩))
      go_roundw
      case rel =>
        obtain ⟨A3, B3, p3, q3, N3, g1, g2, g3, g4, g5⟩ := HR.out
        exact ⟨j + 1, A3, B3, p3, q3, N3, by first | rfl | (rw [HW.out]), g1, g2, g3, g4, g5⟩
      case measure =>
        obtain ⟨A3, B3, p3, q3, N3, g1, g2, g3, g4, g5⟩ := HR.out
        try rw [HW.out]
        simp only [RowKit.intOf]
        omega
    · have hd2 : Hid (Calls Tryz.prog 9 #[.pointer (some ⟨pb, 0, none⟩), .int .i64 0] wr fun e w9 => e = .returned (.bool true) ∧ Hid (∃ (A2 B2 : Sd) (p2 q2 : List Sig) (N2 : Nat), PM w0 w9 pb (.pointer (some ⟨tA, 0, none⟩)) (.pointer (some ⟨tB, 0, none⟩)) tA tB eb 1 2 A2 B2 p2 q2 N2 ∧ Inv A2 B2 p2 q2 ∧ fin A2 p2 q2 = fin A p q ∧ j + 1 + cnt p2 q2 = cnt p q ∧ N2 + 2 * cnt p2 q2 ≤ N + 2 * cnt p q)) := by
        refine hidb (hd.mono ?_)
        rintro e w9 ⟨rfl, A3, B3, p3, q3, N3, g1, g2, g3, g4, g5, -⟩
        exact ⟨rfl, hidb ⟨A3, B3, p3, q3, N3, g1, g2, by rw [g3]; exact hf, by omega, by omega⟩⟩
      clear hd hP hV hf hj hN2 hL hm P0
      go_wp2_with (first
        | (go_at_call 10; refine HC.out.mono ?_; clear HC; rintro e w5 ⟨rfl, hw5⟩; (have hw6 := hw5.symm); clear hw5; subst hw6)
        | (go_at_call 9; refine hd2.out.mono ?_; clear hd2; rintro e w9 ⟨rfl, HR⟩))
      go_roundw
      case rel =>
        obtain ⟨A3, B3, p3, q3, N3, g1, g2, g3, g4, g5⟩ := HR.out
        exact ⟨j + 1, A3, B3, p3, q3, N3, by first | rfl | (rw [HW.out]), g1, g2, g3, g4, g5⟩
      case measure =>
        obtain ⟨A3, B3, p3, q3, N3, g1, g2, g3, g4, g5⟩ := HR.out
        try rw [HW.out]
        simp only [RowKit.intOf]
        omega
  · have e1 : ¬ (0 : Int) < (m : Int) := by omega
    have hpn : p2 = [] := List.length_eq_zero_iff.1 (by omega)
    have hqn : q2 = [] := List.length_eq_zero_iff.1 (by omega)
    subst hpn hqn
    obtain rfl : j = cnt p q := by have : cnt ([] : List Sig) [] = 0 := rfl
                                   omega
    have HR : Hid (∃ A2 B2 N2, PM w0 wr pb (.pointer (some ⟨tA, 0, none⟩)) (.pointer (some ⟨tB, 0, none⟩)) tA tB eb 1 2 A2 B2 [] [] N2 ∧ A2.st = fin A p q ∧ B2.st = fin A p q) := hidb ⟨A2, B2, N2, hP, hf, hV.fin.symm.trans hf⟩
    clear hP hV hf hj hN2 hL hm P0
    go_wp2_with (go_at_call 10; refine HC.out.mono ?_; clear HC; rintro e w5 ⟨rfl, hw5⟩; (have hw6 := hw5.symm); clear hw5; subst hw6)
    go_ret
    obtain ⟨A3, B3, N3, g1, g2, g3⟩ := HR.out
    exact ⟨rfl, A3, B3, N3, g1, g2, g3, HF2.out⟩

set_option maxRecDepth 100000 in
set_option maxHeartbeats 4000000 in
theorem drained1 (h : PM w0 w pb (.pointer (some ⟨tB, 0, none⟩)) (.pointer (some ⟨tA, 0, none⟩)) tA tB eb 2 1 A B p q N) (hi : Inv A B p q) (hN : N + 2 * cnt p q ≤ 80000) (hL : cnt p q ≤ 40000) :
    Calls Tryz.prog 11 #[.pointer (some ⟨pb, 0, none⟩), .int .i64 1] w fun e w9 => e = .returned (.int .i64 (cnt p q : Int)) ∧ ∃ A2 B2 N2, PM w0 w9 pb (.pointer (some ⟨tB, 0, none⟩)) (.pointer (some ⟨tA, 0, none⟩)) tA tB eb 2 1 A2 B2 [] [] N2 ∧ A2.st = fin A p q ∧ B2.st = fin A p q ∧ (fin A p q = 0 ∨ fin A p q = 1) := by
  have hf2 := hi.fin2
  have HF2 := hidb hf2
  have HI0 := hidb (⟨h, hi, hN, hL⟩ : _ ∧ _ ∧ _ ∧ _)
  clear h hi hN hL hf2
  go_enter Tryz.func11, Tryz.ntmps11
  go_wp2_with fail
  go_loopw [5] (fun iv wr => ∃ (j : Nat) (A2 B2 : Sd) (p2 q2 : List Sig) (N2 : Nat), iv = .int .i64 (j : Int) ∧ PM w0 wr pb (.pointer (some ⟨tB, 0, none⟩)) (.pointer (some ⟨tA, 0, none⟩)) tA tB eb 2 1 A2 B2 p2 q2 N2 ∧ Inv A2 B2 p2 q2 ∧ fin A2 p2 q2 = fin A p q ∧ j + cnt p2 q2 = cnt p q ∧ N2 + 2 * cnt p2 q2 ≤ N + 2 * cnt p q) (fun iv _ => cnt p q - (intOf iv).toNat)
  case atStart => exact ⟨0, A, B, p, q, N, rfl, HI0.out.1, HI0.out.2.1, rfl, by omega, by omega⟩
  case round =>
  obtain ⟨j, A2, B2, p2, q2, N2, rfl, hP, hV, hf, hj, hN2⟩ := hrel
  have hL := HI0.out.2.2
  have P0 := hP.box
  have k0 := P0.c0
  have k1 := P0.c1
  have k2 := P0.c2
  have HC := hidb hP.count
  have HJ := hidb (⟨hf, hj, hN2⟩ : fin A2 p2 q2 = fin A p q ∧ j + cnt p2 q2 = cnt p q ∧ N2 + 2 * cnt p2 q2 ≤ N + 2 * cnt p q)
  have HW : Hid (wrap64 ((j : Int) + 1) = ((j + 1 : Nat) : Int)) := hidb (by unfold wrap64; omega)
  obtain ⟨m, hm⟩ : ∃ m, p2.length + q2.length = m := ⟨_, rfl⟩
  rw [hm] at HC
  by_cases hz : 0 < m
  · have e1 : (0 : Int) < (m : Int) := by omega
    have hd := deliver1 hP hV (by omega) (by omega)
    rcases hd with ⟨rfl, hd⟩ | hd
    · have hd2 : Hid (Calls Tryz.prog 9 #[.pointer (some ⟨pb, 0, none⟩), .int .i64 1] wr fun e w1 => e = .returned (.bool false) ∧ Hid (Calls Tryz.prog 9 #[.pointer (some ⟨pb, 0, none⟩), .int .i64 0] w1 fun e w9 => e = .returned (.bool true) ∧ Hid (∃ (A2 B2 : Sd) (p2 q2 : List Sig) (N2 : Nat), PM w0 w9 pb (.pointer (some ⟨tB, 0, none⟩)) (.pointer (some ⟨tA, 0, none⟩)) tA tB eb 2 1 A2 B2 p2 q2 N2 ∧ Inv A2 B2 p2 q2 ∧ fin A2 p2 q2 = fin A p q ∧ j + 1 + cnt p2 q2 = cnt p q ∧ N2 + 2 * cnt p2 q2 ≤ N + 2 * cnt p q))) := by
        refine hidb (hd.mono ?_)
        rintro e w1 ⟨rfl, hp1⟩
        refine ⟨rfl, hidb ?_⟩
        have hsw := hp1.swap
        rcases deliver0 hsw hV.swap (by rw [PR.cnt_swap]; omega) (by rw [PR.cnt_swap]; omega) with ⟨hq, -⟩ | hd3
        · subst hq; simp at hm; omega
        · refine hd3.mono ?_
          rintro e w9 ⟨rfl, A3, B3, p3, q3, N3, g1, g2, g3, g4, g5, -⟩
          rw [PR.cnt_swap [] p2] at g4 g5
          exact ⟨rfl, hidb ⟨B3, A3, q3, p3, N3, g1.swap, g2.swap, by rw [fin_swap g2, g3, fin_swap hV]; exact hf, by rw [PR.cnt_swap]; omega, by rw [PR.cnt_swap]; omega⟩⟩
      clear hd hP hV hf hj hN2 hL hm P0
      go_wp2_with (first
        | (go_at_call 10; refine HC.out.mono ?_; clear HC; rintro e w5 ⟨rfl, hw5⟩; (have hw6 := hw5.symm); clear hw5; subst hw6)
        | (go_at_call 9; refine hd2.out.mono ?_; clear hd2; rintro e w1 ⟨rfl, hd4⟩)
        | (go_at_call 9; refine hd4.out.mono ?_; clear hd4; rintro e w9 ⟨rfl, HR⟩))
      go_roundw
      case rel =>
        obtain ⟨A3, B3, p3, q3, N3, g1, g2, g3, g4, g5⟩ := HR.out
        exact ⟨j + 1, A3, B3, p3, q3, N3, by first | rfl | (rw [HW.out]), g1, g2, g3, g4, g5⟩
      case measure =>
        obtain ⟨A3, B3, p3, q3, N3, g1, g2, g3, g4, g5⟩ := HR.out
        try rw [HW.out]
        simp only [RowKit.intOf]
        omega
    · have hd2 : Hid (Calls Tryz.prog 9 #[.pointer (some ⟨pb, 0, none⟩), .int .i64 1] wr fun e w9 => e = .returned (.bool true) ∧ Hid (∃ (A2 B2 : Sd) (p2 q2 : List Sig) (N2 : Nat), PM w0 w9 pb (.pointer (some ⟨tB, 0, none⟩)) (.pointer (some ⟨tA, 0, none⟩)) tA tB eb 2 1 A2 B2 p2 q2 N2 ∧ Inv A2 B2 p2 q2 ∧ fin A2 p2 q2 = fin A p q ∧ j + 1 + cnt p2 q2 = cnt p q ∧ N2 + 2 * cnt p2 q2 ≤ N + 2 * cnt p q)) := by
        refine hidb (hd.mono ?_)
        rintro e w9 ⟨rfl, A3, B3, p3, q3, N3, g1, g2, g3, g4, g5, -⟩
        exact ⟨rfl, hidb ⟨A3, B3, p3, q3, N3, g1, g2, by rw [g3]; exact hf, by omega, by omega⟩⟩
      clear hd hP hV hf hj hN2 hL hm P0
      go_wp2_with (first
        | (go_at_call 10; refine HC.out.mono ?_; clear HC; rintro e w5 ⟨rfl, hw5⟩; (have hw6 := hw5.symm); clear hw5; subst hw6)
        | (go_at_call 9; refine hd2.out.mono ?_; clear hd2; rintro e w9 ⟨rfl, HR⟩))
      go_roundw
      case rel =>
        obtain ⟨A3, B3, p3, q3, N3, g1, g2, g3, g4, g5⟩ := HR.out
        exact ⟨j + 1, A3, B3, p3, q3, N3, by first | rfl | (rw [HW.out]), g1, g2, g3, g4, g5⟩
      case measure =>
        obtain ⟨A3, B3, p3, q3, N3, g1, g2, g3, g4, g5⟩ := HR.out
        try rw [HW.out]
        simp only [RowKit.intOf]
        omega
  · have e1 : ¬ (0 : Int) < (m : Int) := by omega
    have hpn : p2 = [] := List.length_eq_zero_iff.1 (by omega)
    have hqn : q2 = [] := List.length_eq_zero_iff.1 (by omega)
    subst hpn hqn
    obtain rfl : j = cnt p q := by have : cnt ([] : List Sig) [] = 0 := rfl
                                   omega
    have HR : Hid (∃ A2 B2 N2, PM w0 wr pb (.pointer (some ⟨tB, 0, none⟩)) (.pointer (some ⟨tA, 0, none⟩)) tA tB eb 2 1 A2 B2 [] [] N2 ∧ A2.st = fin A p q ∧ B2.st = fin A p q) := hidb ⟨A2, B2, N2, hP, hf, hV.fin.symm.trans hf⟩
    clear hP hV hf hj hN2 hL hm P0
    go_wp2_with (go_at_call 10; refine HC.out.mono ?_; clear HC; rintro e w5 ⟨rfl, hw5⟩; (have hw6 := hw5.symm); clear hw5; subst hw6)
    go_ret
    obtain ⟨A3, B3, N3, g1, g2, g3⟩ := HR.out
    exact ⟨rfl, A3, B3, N3, g1, g2, g3, HF2.out⟩

end Go.Proofs.YtodelafnboimnaaGreat
