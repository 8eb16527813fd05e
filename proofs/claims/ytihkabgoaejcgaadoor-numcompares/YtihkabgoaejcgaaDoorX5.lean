/- Whole of a right float: its number each way, or the limit. -/
import Derived.Test.YtihkabgoaejcgaaDoorX4
import Derived.Test.YtihkabgoaejcgaaDoorN2
import Derived.Test.YtihkabgoaejcgaaDoorX3
namespace Go.Proofs.YtihkabgoaejcgaaDoor
open Go.RowKit
open Flt (ordI exactV)
attribute [local go_sem] store_float
attribute [local go_sem ↓] Go.wp_at_zero Go.wp_at_succ

theorem isWay_at (i : Fin 4) (w : World) : Calls Tryd.prog 56 #[.string (way i)] w fun e w' => e = .returned (.bool true) ∧ w' = w := by
  match i with
  | 0 =>
    show Calls Tryd.prog 56 #[.string ⟨#[116, 114, 117, 110, 99]⟩] w _
    go_enter Tryd.func56, Tryd.ntmps56
    go_wp2
    go_ret
    exact ⟨rfl, rfl⟩
  | 1 =>
    show Calls Tryd.prog 56 #[.string ⟨#[102, 108, 111, 111, 114]⟩] w _
    go_enter Tryd.func56, Tryd.ntmps56
    go_wp2
    go_ret
    exact ⟨rfl, rfl⟩
  | 2 =>
    show Calls Tryd.prog 56 #[.string ⟨#[99, 101, 105, 108]⟩] w _
    go_enter Tryd.func56, Tryd.ntmps56
    go_wp2
    go_ret
    exact ⟨rfl, rfl⟩
  | 3 =>
    show Calls Tryd.prog 56 #[.string ⟨#[114, 111, 117, 110, 100]⟩] w _
    go_enter Tryd.func56, Tryd.ntmps56
    go_wp2
    go_ret
    exact ⟨rfl, rfl⟩

set_option maxHeartbeats 1000000 in
theorem whole_in (how : ByteArray) (n v a1 a2 : Int) (x z : Nat) (s : ByteArray) (a : Option Addr) (l c : Nat) (hx : x < 18446744073709551616) (h : rightB 2 n x s l = true)
    (iw : ∀ w, Calls Tryd.prog 56 #[.string how] w fun e w' => e = .returned (.bool true) ∧ w' = w)
    (wf : ∀ w, Calls Tryd.prog 57 #[.string how, .float .f64 x] w fun e w' => e = .returned (.float .f64 z) ∧ w' = w)
    (e1 : ∀ w, Calls Tryd.prog 30 #[.float .f64 z, .int .i64 (-576460752303423488)] w fun e w' => e = .returned (.int .i64 a1) ∧ w' = w) (d1 : decide (a1 < 0) = false)
    (e2 : ∀ w, Calls Tryd.prog 30 #[.float .f64 z, .int .i64 576460752303423487] w fun e w' => e = .returned (.int .i64 a2) ∧ w' = w) (d2 : decide (0 < a2) = false)
    (c0 : ∀ w, (convert 24 2 (.float .f64 z)).run Tryd.prog w = .ok (.int .i64 v) w) (w : World) :
    Calls Tryd.prog 25 #[.string how, .agg #[.int .i64 2, .int .i64 n, .float .f64 x, .string s, .slice a l c]] w fun e w' =>
      e = .returned (.tuple #[.agg #[.int .i64 ((numInt v).k), .int .i64 ((numInt v).n), .float .f64 ((numInt v).f), .string ⟨#[]⟩, .slice none 0 0], .int .i64 (numInt v).e]) ∧ Below w.heap.size w w' := by
  have HR := hid h
  have IW := hid iw
  have WF := hid wf
  have E1 := hid e1
  have E2 := hid e2
  clear h iw wf e1 e2
  go_enter Tryd.func25, Tryd.ntmps25
  go_wp2_with fail
  refine (valueOf_yes 2 n x s a l c hx HR.out _).mono ?_
  rintro e w1 ⟨rfl, hb1⟩
  obtain ⟨RB, hW⟩ := afterA hb1
  have HRB := hid RB
  clear hb1 RB
  go_wp2_with fail
  refine (IW.out _).mono ?_
  rintro e w' ⟨rfl, rfl⟩
  go_wp2_with fail
  refine (real_at _ _ _ _).mono ?_
  rintro e w' ⟨rfl, rfl⟩
  go_wp2_with fail
  refine (WF.out _).mono ?_
  rintro e w' ⟨rfl, rfl⟩
  go_wp2_with fail
  refine (E1.out _).mono ?_
  rintro e w' ⟨rfl, rfl⟩
  go_wp2_with fail
  refine (E2.out _).mono ?_
  rintro e w' ⟨rfl, rfl⟩
  go_wp2_with fail
  refine (numInt_any _ _).mono ?_
  rintro e w2 ⟨rfl, hb2⟩
  have RB2 := ((HRB.out.alloc _).alloc _).keep hb2
  have hW2 := two_more hW hb2
  obtain ⟨d0', d1', d2', d3', d4', g0, g1, g2, g3, g4, ltr⟩ := RB2
  clear hb2 HRB
  go_wp2
  exact bodyPost_ret (v := .tuple #[.agg #[.int .i64 ((numInt v).k), .int .i64 ((numInt v).n), .float .f64 ((numInt v).f), .string ⟨#[]⟩, .slice none 0 0], .int .i64 (numInt v).e]) (by simp [results, Tryd.results25, go_sem, d0', d1', d2', d3', d4']) rfl ⟨rfl, below_set5 hW2 (by omega) _ _ _ _ _⟩

set_option maxHeartbeats 1000000 in
theorem whole_low (how : ByteArray) (n a1 : Int) (x z : Nat) (s : ByteArray) (a : Option Addr) (l c : Nat) (hx : x < 18446744073709551616) (h : rightB 2 n x s l = true)
    (iw : ∀ w, Calls Tryd.prog 56 #[.string how] w fun e w' => e = .returned (.bool true) ∧ w' = w)
    (wf : ∀ w, Calls Tryd.prog 57 #[.string how, .float .f64 x] w fun e w' => e = .returned (.float .f64 z) ∧ w' = w)
    (e1 : ∀ w, Calls Tryd.prog 30 #[.float .f64 z, .int .i64 (-576460752303423488)] w fun e w' => e = .returned (.int .i64 a1) ∧ w' = w) (d1 : decide (a1 < 0) = true) (w : World) :
    Calls Tryd.prog 25 #[.string how, .agg #[.int .i64 2, .int .i64 n, .float .f64 x, .string s, .slice a l c]] w fun e w' =>
      e = .returned (.tuple #[.agg #[.int .i64 (0), .int .i64 (0), .float .f64 (0), .string ⟨#[]⟩, .slice none 0 0], .int .i64 12]) ∧ Below w.heap.size w w' := by
  have HR := hid h
  have IW := hid iw
  have WF := hid wf
  have E1 := hid e1
  clear h iw wf e1
  go_enter Tryd.func25, Tryd.ntmps25
  go_wp2_with fail
  refine (valueOf_yes 2 n x s a l c hx HR.out _).mono ?_
  rintro e w1 ⟨rfl, hb1⟩
  obtain ⟨RB, hW⟩ := afterA hb1
  have HRB := hid RB
  clear hb1 RB
  go_wp2_with fail
  refine (IW.out _).mono ?_
  rintro e w' ⟨rfl, rfl⟩
  go_wp2_with fail
  refine (real_at _ _ _ _).mono ?_
  rintro e w' ⟨rfl, rfl⟩
  go_wp2_with fail
  refine (WF.out _).mono ?_
  rintro e w' ⟨rfl, rfl⟩
  go_wp2_with fail
  refine (E1.out _).mono ?_
  rintro e w' ⟨rfl, rfl⟩
  have RB2 := (HRB.out.alloc (.cells #[.int .i64 2, .int .i64 n, .int .u64 x] 62)).alloc (.cells #[.int .i64 2, .int .i64 n, .int .u64 x] 62)
  clear HRB
  obtain ⟨d0', d1', d2', d3', d4', g0, g1, g2, g3, g4, ltr⟩ := RB2
  go_wp2
  exact bodyPost_ret (v := .tuple #[.agg #[.int .i64 (0), .int .i64 (0), .float .f64 (0), .string ⟨#[]⟩, .slice none 0 0], .int .i64 12]) (by simp [results, Tryd.results25, go_sem, d0', d1', d2', d3', d4']) rfl ⟨rfl, below_set5 (below_a2 hW _ _) (by omega) _ _ _ _ _⟩

set_option maxHeartbeats 1000000 in
theorem whole_high (how : ByteArray) (n a1 a2 : Int) (x z : Nat) (s : ByteArray) (a : Option Addr) (l c : Nat) (hx : x < 18446744073709551616) (h : rightB 2 n x s l = true)
    (iw : ∀ w, Calls Tryd.prog 56 #[.string how] w fun e w' => e = .returned (.bool true) ∧ w' = w)
    (wf : ∀ w, Calls Tryd.prog 57 #[.string how, .float .f64 x] w fun e w' => e = .returned (.float .f64 z) ∧ w' = w)
    (e1 : ∀ w, Calls Tryd.prog 30 #[.float .f64 z, .int .i64 (-576460752303423488)] w fun e w' => e = .returned (.int .i64 a1) ∧ w' = w) (d1 : decide (a1 < 0) = false)
    (e2 : ∀ w, Calls Tryd.prog 30 #[.float .f64 z, .int .i64 576460752303423487] w fun e w' => e = .returned (.int .i64 a2) ∧ w' = w) (d2 : decide (0 < a2) = true) (w : World) :
    Calls Tryd.prog 25 #[.string how, .agg #[.int .i64 2, .int .i64 n, .float .f64 x, .string s, .slice a l c]] w fun e w' =>
      e = .returned (.tuple #[.agg #[.int .i64 (0), .int .i64 (0), .float .f64 (0), .string ⟨#[]⟩, .slice none 0 0], .int .i64 12]) ∧ Below w.heap.size w w' := by
  have HR := hid h
  have IW := hid iw
  have WF := hid wf
  have E1 := hid e1
  have E2 := hid e2
  clear h iw wf e1 e2
  go_enter Tryd.func25, Tryd.ntmps25
  go_wp2_with fail
  refine (valueOf_yes 2 n x s a l c hx HR.out _).mono ?_
  rintro e w1 ⟨rfl, hb1⟩
  obtain ⟨RB, hW⟩ := afterA hb1
  have HRB := hid RB
  clear hb1 RB
  go_wp2_with fail
  refine (IW.out _).mono ?_
  rintro e w' ⟨rfl, rfl⟩
  go_wp2_with fail
  refine (real_at _ _ _ _).mono ?_
  rintro e w' ⟨rfl, rfl⟩
  go_wp2_with fail
  refine (WF.out _).mono ?_
  rintro e w' ⟨rfl, rfl⟩
  go_wp2_with fail
  refine (E1.out _).mono ?_
  rintro e w' ⟨rfl, rfl⟩
  go_wp2_with fail
  refine (E2.out _).mono ?_
  rintro e w' ⟨rfl, rfl⟩
  have RB2 := (HRB.out.alloc (.cells #[.int .i64 2, .int .i64 n, .int .u64 x] 62)).alloc (.cells #[.int .i64 2, .int .i64 n, .int .u64 x] 62)
  clear HRB
  obtain ⟨d0', d1', d2', d3', d4', g0, g1, g2, g3, g4, ltr⟩ := RB2
  go_wp2
  exact bodyPost_ret (v := .tuple #[.agg #[.int .i64 (0), .int .i64 (0), .float .f64 (0), .string ⟨#[]⟩, .slice none 0 0], .int .i64 12]) (by simp [results, Tryd.results25, go_sem, d0', d1', d2', d3', d4']) rfl ⟨rfl, below_set5 (below_a2 hW _ _) (by omega) _ _ _ _ _⟩

end Go.Proofs.YtihkabgoaejcgaaDoor
