/- The walk of NumWholes over what its calls tell: floats below nothing. -/
import Derived.Test.YtihkabgoaejcgabDoorLNumWholes0
namespace Go.Proofs.YtihkabgoaejcgabDoor
open Go.RowKit
attribute [local go_sem] store_float
attribute [local go_sem ↓] Go.wp_at_zero Go.wp_at_succ

set_option maxRecDepth 100000 in
set_option maxHeartbeats 4000000 in
theorem wholes_lt_true_lo_in (u : Nat) (hu : u < 18446744073709551616) (h : Flt.fin u = true) (lo : Int) (v : Nat) (WF : ∀ w, Calls Tryd.prog 17 #[.string ⟨#[102, 108, 111, 111, 114]⟩, .agg #[.int .i64 (2), .int .i64 (0), .float .f64 (u), .string ⟨#[]⟩, .slice none 0 0]] w fun e w' => e = .returned (.tuple #[.agg #[.int .i64 (1), .int .i64 (lo), .float .f64 (0), .string ⟨#[]⟩, .slice none 0 0], .int .i64 0]) ∧ Below w.heap.size w w') (WC : ∀ w, Calls Tryd.prog 17 #[.string ⟨#[99, 101, 105, 108]⟩, .agg #[.int .i64 (2), .int .i64 (0), .float .f64 (u), .string ⟨#[]⟩, .slice none 0 0]] w fun e w' => e = .returned (.tuple #[.agg #[.int .i64 (1), .int .i64 (lo), .float .f64 (0), .string ⟨#[]⟩, .slice none 0 0], .int .i64 0]) ∧ Below w.heap.size w w') (WT : ∀ w, Calls Tryd.prog 17 #[.string ⟨#[116, 114, 117, 110, 99]⟩, .agg #[.int .i64 (2), .int .i64 (0), .float .f64 (u), .string ⟨#[]⟩, .slice none 0 0]] w fun e w' => e = .returned (.tuple #[.agg #[.int .i64 (1), .int .i64 (lo), .float .f64 (0), .string ⟨#[]⟩, .slice none 0 0], .int .i64 0]) ∧ Below w.heap.size w w') (WR : ∀ w, Calls Tryd.prog 17 #[.string ⟨#[114, 111, 117, 110, 100]⟩, .agg #[.int .i64 (2), .int .i64 (0), .float .f64 (u), .string ⟨#[]⟩, .slice none 0 0]] w fun e w' => e = .returned (.tuple #[.agg #[.int .i64 (1), .int .i64 (lo), .float .f64 (0), .string ⟨#[]⟩, .slice none 0 0], .int .i64 0]) ∧ Below w.heap.size w w') (EL : ∀ w, Calls Tryd.prog 19 #[.float .f64 u, .int .i64 lo] w fun e w' => e = .returned (.int .i64 0) ∧ w' = w) (NG : ∀ w, Calls Tryd.prog 20 #[.agg #[.int .i64 (2), .int .i64 (0), .float .f64 (u), .string ⟨#[]⟩, .slice none 0 0]] w fun e w' => e = .returned (.tuple #[.agg #[.int .i64 (2), .int .i64 (0), .float .f64 (v), .string ⟨#[]⟩, .slice none 0 0], .int .i64 0]) ∧ Below w.heap.size w w') (WN : ∀ w, Calls Tryd.prog 17 #[.string ⟨#[102, 108, 111, 111, 114]⟩, .agg #[.int .i64 (2), .int .i64 (0), .float .f64 (v), .string ⟨#[]⟩, .slice none 0 0]] w fun e w' => e = .returned (.tuple #[.agg #[.int .i64 (1), .int .i64 ((-lo)), .float .f64 (0), .string ⟨#[]⟩, .slice none 0 0], .int .i64 0]) ∧ Below w.heap.size w w') (hl1 : -576460752303423488 ≤ lo) (hl2 : lo ≤ 576460752303423487) (o : FloatKind.f64.format.order u 0 = some .lt) (w : World) (ht : w.cell? ⟨4, 15, none⟩ = some (.int .u8 4)) :
    Calls Tryd.prog 5 #[.int .u64 u] w fun e w' => e = .returned (.bool true) ∧ Below w.heap.size w w' := by
  have HWF := hid WF
  clear WF
  have HWC := hid WC
  clear WC
  have HWT := hid WT
  clear WT
  have HWR := hid WR
  clear WR
  have HEL := hid EL
  clear EL
  have HNG := hid NG
  clear NG
  have HWN := hid WN
  clear WN
  have n5 : IntKind.i64.wrap (lo - lo) = 0 := by rw [IntKind.wrap_i64]; omega
  have n6 : lo - lo = 0 := by omega
  have n9 : IntKind.i64.wrap (-lo) = -lo := by rw [IntKind.wrap_i64]; omega
  have n10 : IntKind.i64.wrap (0 - lo) = -lo := by rw [IntKind.wrap_i64]; omega
  have nb : numBits u = ⟨2, 0, u, 0⟩ := by simp [numBits, h]
  have HU := hid hu
  clear h hu
  go_enter Tryd.func5, Tryd.ntmps5
  go_wp2_with fail
  refine (known_any _ ht).mono ?_
  rintro e w1 ⟨rfl, hb1⟩
  go_wp2_with fail
  refine (numBits_any u HU.out _).mono ?_
  rintro e w2 ⟨rfl, hb2⟩
  rw [nb]
  have hW2 := bthen hb1 hb2
  clear hb1 hb2 nb
  go_wp2_with fail
  refine (HWF.out _).mono ?_
  rintro e w3 ⟨rfl, hb⟩
  obtain ⟨BA, hk, hW3⟩ := boxStep hW2 hb
  have HA := hid BA
  clear BA hb hW2
  clear hk
  obtain ⟨A0, A1, A2, A3, A4, _, _, _, _, _, Al⟩ := HA.out
  go_wp2_with fail
  refine (HWC.out _).mono ?_
  rintro e w4 ⟨rfl, hb⟩
  clear A0 A1 A2 A3 A4 Al
  obtain ⟨BL, hk, hW4⟩ := boxStep hW3 hb
  have HL := hid BL
  clear BL hb hW3
  have KA := hid (HA.out.keep hk)
  clear HA
  have HA := KA
  clear KA
  clear hk
  obtain ⟨A0, A1, A2, A3, A4, _, _, _, _, _, Al⟩ := HA.out
  go_wp2_with fail
  refine (HWT.out _).mono ?_
  rintro e w5 ⟨rfl, hb⟩
  clear A0 A1 A2 A3 A4 Al
  obtain ⟨BI, hk, hW5⟩ := boxStep hW4 hb
  have HI := hid BI
  clear BI hb hW4
  have KA := hid (HA.out.keep hk)
  clear HA
  have HA := KA
  clear KA
  have KL := hid (HL.out.keep hk)
  clear HL
  have HL := KL
  clear KL
  clear hk
  obtain ⟨A0, A1, A2, A3, A4, _, _, _, _, _, Al⟩ := HA.out
  go_wp2_with fail
  refine (HWR.out _).mono ?_
  rintro e w6 ⟨rfl, hb⟩
  clear A0 A1 A2 A3 A4 Al
  obtain ⟨BT, hk, hW6⟩ := boxStep hW5 hb
  have HT := hid BT
  clear BT hb hW5
  have KA := hid (HA.out.keep hk)
  clear HA
  have HA := KA
  clear KA
  have KL := hid (HL.out.keep hk)
  clear HL
  have HL := KL
  clear KL
  have KI := hid (HI.out.keep hk)
  clear HI
  have HI := KI
  clear KI
  clear hk
  obtain ⟨A0, A1, A2, A3, A4, _, _, _, _, _, Al⟩ := HA.out
  obtain ⟨L0, L1, L2, L3, L4, _, _, _, _, _, Ll⟩ := HL.out
  obtain ⟨I0, I1, I2, I3, I4, _, _, _, _, _, Il⟩ := HI.out
  obtain ⟨T0, T1, T2, T3, T4, _, _, _, _, _, Tl⟩ := HT.out
  go_wp2_with fail
  go_quiet ((go_at_call 19; exact Calls.quiet_of_same (HEL.out _)))
  go_wp2_with fail
  refine (HNG.out _).mono ?_
  rintro e w7 ⟨rfl, hb⟩
  clear A0 A1 A2 A3 A4 Al
  clear L0 L1 L2 L3 L4 Ll
  clear I0 I1 I2 I3 I4 Il
  clear T0 T1 T2 T3 T4 Tl
  obtain ⟨hk, hW7⟩ := boxDrew hW6 hb
  clear hb hW6
  have KI := hid (HI.out.keep hk)
  clear HI HA HL HT
  have HI := KI
  clear KI hk
  go_wp2_with fail
  refine (HWN.out _).mono ?_
  rintro e w8 ⟨rfl, hb⟩
  obtain ⟨BB, hk, hW8⟩ := boxStep hW7 hb
  clear BB hb hW7
  have KI := hid (HI.out.keep hk)
  clear HI
  have HI := KI
  clear KI hk
  obtain ⟨I0, I1, I2, I3, I4, _, _, _, _, _, Il⟩ := HI.out
  go_wp2
  go_ret
  exact ⟨rfl, by (first | exact hW8 | exact below_a1 hW8 _)⟩

set_option maxRecDepth 100000 in
set_option maxHeartbeats 4000000 in
theorem wholes_lt_true_lo_out (u : Nat) (hu : u < 18446744073709551616) (h : Flt.fin u = true) (lo : Int) (v : Nat) (WF : ∀ w, Calls Tryd.prog 17 #[.string ⟨#[102, 108, 111, 111, 114]⟩, .agg #[.int .i64 (2), .int .i64 (0), .float .f64 (u), .string ⟨#[]⟩, .slice none 0 0]] w fun e w' => e = .returned (.tuple #[.agg #[.int .i64 (1), .int .i64 (lo), .float .f64 (0), .string ⟨#[]⟩, .slice none 0 0], .int .i64 0]) ∧ Below w.heap.size w w') (WC : ∀ w, Calls Tryd.prog 17 #[.string ⟨#[99, 101, 105, 108]⟩, .agg #[.int .i64 (2), .int .i64 (0), .float .f64 (u), .string ⟨#[]⟩, .slice none 0 0]] w fun e w' => e = .returned (.tuple #[.agg #[.int .i64 (1), .int .i64 (lo), .float .f64 (0), .string ⟨#[]⟩, .slice none 0 0], .int .i64 0]) ∧ Below w.heap.size w w') (WT : ∀ w, Calls Tryd.prog 17 #[.string ⟨#[116, 114, 117, 110, 99]⟩, .agg #[.int .i64 (2), .int .i64 (0), .float .f64 (u), .string ⟨#[]⟩, .slice none 0 0]] w fun e w' => e = .returned (.tuple #[.agg #[.int .i64 (1), .int .i64 (lo), .float .f64 (0), .string ⟨#[]⟩, .slice none 0 0], .int .i64 0]) ∧ Below w.heap.size w w') (WR : ∀ w, Calls Tryd.prog 17 #[.string ⟨#[114, 111, 117, 110, 100]⟩, .agg #[.int .i64 (2), .int .i64 (0), .float .f64 (u), .string ⟨#[]⟩, .slice none 0 0]] w fun e w' => e = .returned (.tuple #[.agg #[.int .i64 (1), .int .i64 (lo), .float .f64 (0), .string ⟨#[]⟩, .slice none 0 0], .int .i64 0]) ∧ Below w.heap.size w w') (EL : ∀ w, Calls Tryd.prog 19 #[.float .f64 u, .int .i64 lo] w fun e w' => e = .returned (.int .i64 0) ∧ w' = w) (NG : ∀ w, Calls Tryd.prog 20 #[.agg #[.int .i64 (2), .int .i64 (0), .float .f64 (u), .string ⟨#[]⟩, .slice none 0 0]] w fun e w' => e = .returned (.tuple #[.agg #[.int .i64 (2), .int .i64 (0), .float .f64 (v), .string ⟨#[]⟩, .slice none 0 0], .int .i64 0]) ∧ Below w.heap.size w w') (WN : ∀ w, Calls Tryd.prog 17 #[.string ⟨#[102, 108, 111, 111, 114]⟩, .agg #[.int .i64 (2), .int .i64 (0), .float .f64 (v), .string ⟨#[]⟩, .slice none 0 0]] w fun e w' => e = .returned (.tuple #[.agg #[.int .i64 (0), .int .i64 (0), .float .f64 (0), .string ⟨#[]⟩, .slice none 0 0], .int .i64 12]) ∧ Below w.heap.size w w') (hl1 : -576460752303423488 ≤ lo) (hl2 : lo ≤ 576460752303423487) (o : FloatKind.f64.format.order u 0 = some .lt) (w : World) (ht : w.cell? ⟨4, 15, none⟩ = some (.int .u8 4)) :
    Calls Tryd.prog 5 #[.int .u64 u] w fun e w' => e = .returned (.bool true) ∧ Below w.heap.size w w' := by
  have HWF := hid WF
  clear WF
  have HWC := hid WC
  clear WC
  have HWT := hid WT
  clear WT
  have HWR := hid WR
  clear WR
  have HEL := hid EL
  clear EL
  have HNG := hid NG
  clear NG
  have HWN := hid WN
  clear WN
  have n5 : IntKind.i64.wrap (lo - lo) = 0 := by rw [IntKind.wrap_i64]; omega
  have n6 : lo - lo = 0 := by omega
  have n9 : IntKind.i64.wrap (-lo) = -lo := by rw [IntKind.wrap_i64]; omega
  have n10 : IntKind.i64.wrap (0 - lo) = -lo := by rw [IntKind.wrap_i64]; omega
  have nb : numBits u = ⟨2, 0, u, 0⟩ := by simp [numBits, h]
  have HU := hid hu
  clear h hu
  go_enter Tryd.func5, Tryd.ntmps5
  go_wp2_with fail
  refine (known_any _ ht).mono ?_
  rintro e w1 ⟨rfl, hb1⟩
  go_wp2_with fail
  refine (numBits_any u HU.out _).mono ?_
  rintro e w2 ⟨rfl, hb2⟩
  rw [nb]
  have hW2 := bthen hb1 hb2
  clear hb1 hb2 nb
  go_wp2_with fail
  refine (HWF.out _).mono ?_
  rintro e w3 ⟨rfl, hb⟩
  obtain ⟨BA, hk, hW3⟩ := boxStep hW2 hb
  have HA := hid BA
  clear BA hb hW2
  clear hk
  obtain ⟨A0, A1, A2, A3, A4, _, _, _, _, _, Al⟩ := HA.out
  go_wp2_with fail
  refine (HWC.out _).mono ?_
  rintro e w4 ⟨rfl, hb⟩
  clear A0 A1 A2 A3 A4 Al
  obtain ⟨BL, hk, hW4⟩ := boxStep hW3 hb
  have HL := hid BL
  clear BL hb hW3
  have KA := hid (HA.out.keep hk)
  clear HA
  have HA := KA
  clear KA
  clear hk
  obtain ⟨A0, A1, A2, A3, A4, _, _, _, _, _, Al⟩ := HA.out
  go_wp2_with fail
  refine (HWT.out _).mono ?_
  rintro e w5 ⟨rfl, hb⟩
  clear A0 A1 A2 A3 A4 Al
  obtain ⟨BI, hk, hW5⟩ := boxStep hW4 hb
  have HI := hid BI
  clear BI hb hW4
  have KA := hid (HA.out.keep hk)
  clear HA
  have HA := KA
  clear KA
  have KL := hid (HL.out.keep hk)
  clear HL
  have HL := KL
  clear KL
  clear hk
  obtain ⟨A0, A1, A2, A3, A4, _, _, _, _, _, Al⟩ := HA.out
  go_wp2_with fail
  refine (HWR.out _).mono ?_
  rintro e w6 ⟨rfl, hb⟩
  clear A0 A1 A2 A3 A4 Al
  obtain ⟨BT, hk, hW6⟩ := boxStep hW5 hb
  have HT := hid BT
  clear BT hb hW5
  have KA := hid (HA.out.keep hk)
  clear HA
  have HA := KA
  clear KA
  have KL := hid (HL.out.keep hk)
  clear HL
  have HL := KL
  clear KL
  have KI := hid (HI.out.keep hk)
  clear HI
  have HI := KI
  clear KI
  clear hk
  obtain ⟨A0, A1, A2, A3, A4, _, _, _, _, _, Al⟩ := HA.out
  obtain ⟨L0, L1, L2, L3, L4, _, _, _, _, _, Ll⟩ := HL.out
  obtain ⟨I0, I1, I2, I3, I4, _, _, _, _, _, Il⟩ := HI.out
  obtain ⟨T0, T1, T2, T3, T4, _, _, _, _, _, Tl⟩ := HT.out
  go_wp2_with fail
  go_quiet ((go_at_call 19; exact Calls.quiet_of_same (HEL.out _)))
  go_wp2_with fail
  refine (HNG.out _).mono ?_
  rintro e w7 ⟨rfl, hb⟩
  clear A0 A1 A2 A3 A4 Al
  clear L0 L1 L2 L3 L4 Ll
  clear I0 I1 I2 I3 I4 Il
  clear T0 T1 T2 T3 T4 Tl
  obtain ⟨hk, hW7⟩ := boxDrew hW6 hb
  clear hb hW6
  have KI := hid (HI.out.keep hk)
  clear HI HA HL HT
  have HI := KI
  clear KI hk
  go_wp2_with fail
  refine (HWN.out _).mono ?_
  rintro e w8 ⟨rfl, hb⟩
  obtain ⟨BB, hk, hW8⟩ := boxStep hW7 hb
  clear BB hb hW7
  have KI := hid (HI.out.keep hk)
  clear HI
  have HI := KI
  clear KI hk
  obtain ⟨I0, I1, I2, I3, I4, _, _, _, _, _, Il⟩ := HI.out
  go_wp2
  go_ret
  exact ⟨rfl, by (first | exact hW8 | exact below_a1 hW8 _)⟩

set_option maxRecDepth 100000 in
set_option maxHeartbeats 4000000 in
theorem wholes_lt_false_lo_in (u : Nat) (hu : u < 18446744073709551616) (h : Flt.fin u = true) (lo hi : Int) (v : Nat) (WF : ∀ w, Calls Tryd.prog 17 #[.string ⟨#[102, 108, 111, 111, 114]⟩, .agg #[.int .i64 (2), .int .i64 (0), .float .f64 (u), .string ⟨#[]⟩, .slice none 0 0]] w fun e w' => e = .returned (.tuple #[.agg #[.int .i64 (1), .int .i64 (lo), .float .f64 (0), .string ⟨#[]⟩, .slice none 0 0], .int .i64 0]) ∧ Below w.heap.size w w') (WC : ∀ w, Calls Tryd.prog 17 #[.string ⟨#[99, 101, 105, 108]⟩, .agg #[.int .i64 (2), .int .i64 (0), .float .f64 (u), .string ⟨#[]⟩, .slice none 0 0]] w fun e w' => e = .returned (.tuple #[.agg #[.int .i64 (1), .int .i64 (hi), .float .f64 (0), .string ⟨#[]⟩, .slice none 0 0], .int .i64 0]) ∧ Below w.heap.size w w') (WT : ∀ w, Calls Tryd.prog 17 #[.string ⟨#[116, 114, 117, 110, 99]⟩, .agg #[.int .i64 (2), .int .i64 (0), .float .f64 (u), .string ⟨#[]⟩, .slice none 0 0]] w fun e w' => e = .returned (.tuple #[.agg #[.int .i64 (1), .int .i64 (hi), .float .f64 (0), .string ⟨#[]⟩, .slice none 0 0], .int .i64 0]) ∧ Below w.heap.size w w') (WR : ∀ w, Calls Tryd.prog 17 #[.string ⟨#[114, 111, 117, 110, 100]⟩, .agg #[.int .i64 (2), .int .i64 (0), .float .f64 (u), .string ⟨#[]⟩, .slice none 0 0]] w fun e w' => e = .returned (.tuple #[.agg #[.int .i64 (1), .int .i64 (lo), .float .f64 (0), .string ⟨#[]⟩, .slice none 0 0], .int .i64 0]) ∧ Below w.heap.size w w') (EL : ∀ w, Calls Tryd.prog 19 #[.float .f64 u, .int .i64 lo] w fun e w' => e = .returned (.int .i64 1) ∧ w' = w) (EH : ∀ w, Calls Tryd.prog 19 #[.float .f64 u, .int .i64 hi] w fun e w' => e = .returned (.int .i64 (-1)) ∧ w' = w) (NG : ∀ w, Calls Tryd.prog 20 #[.agg #[.int .i64 (2), .int .i64 (0), .float .f64 (u), .string ⟨#[]⟩, .slice none 0 0]] w fun e w' => e = .returned (.tuple #[.agg #[.int .i64 (2), .int .i64 (0), .float .f64 (v), .string ⟨#[]⟩, .slice none 0 0], .int .i64 0]) ∧ Below w.heap.size w w') (WN : ∀ w, Calls Tryd.prog 17 #[.string ⟨#[102, 108, 111, 111, 114]⟩, .agg #[.int .i64 (2), .int .i64 (0), .float .f64 (v), .string ⟨#[]⟩, .slice none 0 0]] w fun e w' => e = .returned (.tuple #[.agg #[.int .i64 (1), .int .i64 ((-hi)), .float .f64 (0), .string ⟨#[]⟩, .slice none 0 0], .int .i64 0]) ∧ Below w.heap.size w w') (hl1 : -576460752303423488 ≤ lo) (hl2 : lo ≤ 576460752303423487) (hh : hi = lo + 1) (o : FloatKind.f64.format.order u 0 = some .lt) (w : World) (ht : w.cell? ⟨4, 15, none⟩ = some (.int .u8 4)) :
    Calls Tryd.prog 5 #[.int .u64 u] w fun e w' => e = .returned (.bool true) ∧ Below w.heap.size w w' := by
  have HWF := hid WF
  clear WF
  have HWC := hid WC
  clear WC
  have HWT := hid WT
  clear WT
  have HWR := hid WR
  clear WR
  have HEL := hid EL
  clear EL
  have HEH := hid EH
  clear EH
  have HNG := hid NG
  clear NG
  have HWN := hid WN
  clear WN
  have n1 : ¬ hi = lo := by omega
  have n2 : ¬ lo = hi := by omega
  have n3 : decide (hi < lo) = false := by simp; omega
  have n4 : decide (lo < hi) = true := by simp; omega
  have n5 : IntKind.i64.wrap (hi - lo) = 1 := by rw [IntKind.wrap_i64]; omega
  have n6 : hi - lo = 1 := by omega
  have n7 : hi ≤ 576460752303423488 := by omega
  have n8 : -576460752303423488 ≤ hi := by omega
  have n9 : IntKind.i64.wrap (-hi) = -hi := by rw [IntKind.wrap_i64]; omega
  have n10 : IntKind.i64.wrap (0 - hi) = -hi := by rw [IntKind.wrap_i64]; omega
  have n11 : (lo == hi) = false := by simp; omega
  have n12 : (hi == lo) = false := by simp; omega
  have n13 : (lo != hi) = true := by simp; omega
  have n14 : (hi != lo) = true := by simp; omega
  have n15 : decide (1 < hi - lo) = false := by simp; omega
  clear hh
  have nb : numBits u = ⟨2, 0, u, 0⟩ := by simp [numBits, h]
  have HU := hid hu
  clear h hu
  go_enter Tryd.func5, Tryd.ntmps5
  go_wp2_with fail
  refine (known_any _ ht).mono ?_
  rintro e w1 ⟨rfl, hb1⟩
  go_wp2_with fail
  refine (numBits_any u HU.out _).mono ?_
  rintro e w2 ⟨rfl, hb2⟩
  rw [nb]
  have hW2 := bthen hb1 hb2
  clear hb1 hb2 nb
  go_wp2_with fail
  refine (HWF.out _).mono ?_
  rintro e w3 ⟨rfl, hb⟩
  obtain ⟨BA, hk, hW3⟩ := boxStep hW2 hb
  have HA := hid BA
  clear BA hb hW2
  clear hk
  obtain ⟨A0, A1, A2, A3, A4, _, _, _, _, _, Al⟩ := HA.out
  go_wp2_with fail
  refine (HWC.out _).mono ?_
  rintro e w4 ⟨rfl, hb⟩
  clear A0 A1 A2 A3 A4 Al
  obtain ⟨BL, hk, hW4⟩ := boxStep hW3 hb
  have HL := hid BL
  clear BL hb hW3
  have KA := hid (HA.out.keep hk)
  clear HA
  have HA := KA
  clear KA
  clear hk
  obtain ⟨A0, A1, A2, A3, A4, _, _, _, _, _, Al⟩ := HA.out
  go_wp2_with fail
  refine (HWT.out _).mono ?_
  rintro e w5 ⟨rfl, hb⟩
  clear A0 A1 A2 A3 A4 Al
  obtain ⟨BI, hk, hW5⟩ := boxStep hW4 hb
  have HI := hid BI
  clear BI hb hW4
  have KA := hid (HA.out.keep hk)
  clear HA
  have HA := KA
  clear KA
  have KL := hid (HL.out.keep hk)
  clear HL
  have HL := KL
  clear KL
  clear hk
  obtain ⟨A0, A1, A2, A3, A4, _, _, _, _, _, Al⟩ := HA.out
  go_wp2_with fail
  refine (HWR.out _).mono ?_
  rintro e w6 ⟨rfl, hb⟩
  clear A0 A1 A2 A3 A4 Al
  obtain ⟨BT, hk, hW6⟩ := boxStep hW5 hb
  have HT := hid BT
  clear BT hb hW5
  have KA := hid (HA.out.keep hk)
  clear HA
  have HA := KA
  clear KA
  have KL := hid (HL.out.keep hk)
  clear HL
  have HL := KL
  clear KL
  have KI := hid (HI.out.keep hk)
  clear HI
  have HI := KI
  clear KI
  clear hk
  obtain ⟨A0, A1, A2, A3, A4, _, _, _, _, _, Al⟩ := HA.out
  obtain ⟨L0, L1, L2, L3, L4, _, _, _, _, _, Ll⟩ := HL.out
  obtain ⟨I0, I1, I2, I3, I4, _, _, _, _, _, Il⟩ := HI.out
  obtain ⟨T0, T1, T2, T3, T4, _, _, _, _, _, Tl⟩ := HT.out
  go_wp2_with fail
  go_quiet ((go_at_call 19; (first | with_reducible exact Calls.quiet_of_same (HEL.out _) | with_reducible exact Calls.quiet_of_same (HEH.out _))))
  go_wp2_with fail
  refine (HNG.out _).mono ?_
  rintro e w7 ⟨rfl, hb⟩
  clear A0 A1 A2 A3 A4 Al
  clear L0 L1 L2 L3 L4 Ll
  clear I0 I1 I2 I3 I4 Il
  clear T0 T1 T2 T3 T4 Tl
  obtain ⟨hk, hW7⟩ := boxDrew hW6 hb
  clear hb hW6
  have KI := hid (HI.out.keep hk)
  clear HI HA HL HT
  have HI := KI
  clear KI hk
  go_wp2_with fail
  refine (HWN.out _).mono ?_
  rintro e w8 ⟨rfl, hb⟩
  obtain ⟨BB, hk, hW8⟩ := boxStep hW7 hb
  clear BB hb hW7
  have KI := hid (HI.out.keep hk)
  clear HI
  have HI := KI
  clear KI hk
  obtain ⟨I0, I1, I2, I3, I4, _, _, _, _, _, Il⟩ := HI.out
  go_wp2
  go_ret
  exact ⟨rfl, by (first | exact hW8 | exact below_a1 hW8 _)⟩

set_option maxRecDepth 100000 in
set_option maxHeartbeats 4000000 in
theorem wholes_lt_false_lo_out (u : Nat) (hu : u < 18446744073709551616) (h : Flt.fin u = true) (lo hi : Int) (v : Nat) (WF : ∀ w, Calls Tryd.prog 17 #[.string ⟨#[102, 108, 111, 111, 114]⟩, .agg #[.int .i64 (2), .int .i64 (0), .float .f64 (u), .string ⟨#[]⟩, .slice none 0 0]] w fun e w' => e = .returned (.tuple #[.agg #[.int .i64 (1), .int .i64 (lo), .float .f64 (0), .string ⟨#[]⟩, .slice none 0 0], .int .i64 0]) ∧ Below w.heap.size w w') (WC : ∀ w, Calls Tryd.prog 17 #[.string ⟨#[99, 101, 105, 108]⟩, .agg #[.int .i64 (2), .int .i64 (0), .float .f64 (u), .string ⟨#[]⟩, .slice none 0 0]] w fun e w' => e = .returned (.tuple #[.agg #[.int .i64 (1), .int .i64 (hi), .float .f64 (0), .string ⟨#[]⟩, .slice none 0 0], .int .i64 0]) ∧ Below w.heap.size w w') (WT : ∀ w, Calls Tryd.prog 17 #[.string ⟨#[116, 114, 117, 110, 99]⟩, .agg #[.int .i64 (2), .int .i64 (0), .float .f64 (u), .string ⟨#[]⟩, .slice none 0 0]] w fun e w' => e = .returned (.tuple #[.agg #[.int .i64 (1), .int .i64 (hi), .float .f64 (0), .string ⟨#[]⟩, .slice none 0 0], .int .i64 0]) ∧ Below w.heap.size w w') (WR : ∀ w, Calls Tryd.prog 17 #[.string ⟨#[114, 111, 117, 110, 100]⟩, .agg #[.int .i64 (2), .int .i64 (0), .float .f64 (u), .string ⟨#[]⟩, .slice none 0 0]] w fun e w' => e = .returned (.tuple #[.agg #[.int .i64 (1), .int .i64 (lo), .float .f64 (0), .string ⟨#[]⟩, .slice none 0 0], .int .i64 0]) ∧ Below w.heap.size w w') (EL : ∀ w, Calls Tryd.prog 19 #[.float .f64 u, .int .i64 lo] w fun e w' => e = .returned (.int .i64 1) ∧ w' = w) (EH : ∀ w, Calls Tryd.prog 19 #[.float .f64 u, .int .i64 hi] w fun e w' => e = .returned (.int .i64 (-1)) ∧ w' = w) (NG : ∀ w, Calls Tryd.prog 20 #[.agg #[.int .i64 (2), .int .i64 (0), .float .f64 (u), .string ⟨#[]⟩, .slice none 0 0]] w fun e w' => e = .returned (.tuple #[.agg #[.int .i64 (2), .int .i64 (0), .float .f64 (v), .string ⟨#[]⟩, .slice none 0 0], .int .i64 0]) ∧ Below w.heap.size w w') (WN : ∀ w, Calls Tryd.prog 17 #[.string ⟨#[102, 108, 111, 111, 114]⟩, .agg #[.int .i64 (2), .int .i64 (0), .float .f64 (v), .string ⟨#[]⟩, .slice none 0 0]] w fun e w' => e = .returned (.tuple #[.agg #[.int .i64 (0), .int .i64 (0), .float .f64 (0), .string ⟨#[]⟩, .slice none 0 0], .int .i64 12]) ∧ Below w.heap.size w w') (hl1 : -576460752303423488 ≤ lo) (hl2 : lo ≤ 576460752303423487) (hh : hi = lo + 1) (o : FloatKind.f64.format.order u 0 = some .lt) (w : World) (ht : w.cell? ⟨4, 15, none⟩ = some (.int .u8 4)) :
    Calls Tryd.prog 5 #[.int .u64 u] w fun e w' => e = .returned (.bool true) ∧ Below w.heap.size w w' := by
  have HWF := hid WF
  clear WF
  have HWC := hid WC
  clear WC
  have HWT := hid WT
  clear WT
  have HWR := hid WR
  clear WR
  have HEL := hid EL
  clear EL
  have HEH := hid EH
  clear EH
  have HNG := hid NG
  clear NG
  have HWN := hid WN
  clear WN
  have n1 : ¬ hi = lo := by omega
  have n2 : ¬ lo = hi := by omega
  have n3 : decide (hi < lo) = false := by simp; omega
  have n4 : decide (lo < hi) = true := by simp; omega
  have n5 : IntKind.i64.wrap (hi - lo) = 1 := by rw [IntKind.wrap_i64]; omega
  have n6 : hi - lo = 1 := by omega
  have n7 : hi ≤ 576460752303423488 := by omega
  have n8 : -576460752303423488 ≤ hi := by omega
  have n9 : IntKind.i64.wrap (-hi) = -hi := by rw [IntKind.wrap_i64]; omega
  have n10 : IntKind.i64.wrap (0 - hi) = -hi := by rw [IntKind.wrap_i64]; omega
  have n11 : (lo == hi) = false := by simp; omega
  have n12 : (hi == lo) = false := by simp; omega
  have n13 : (lo != hi) = true := by simp; omega
  have n14 : (hi != lo) = true := by simp; omega
  have n15 : decide (1 < hi - lo) = false := by simp; omega
  clear hh
  have nb : numBits u = ⟨2, 0, u, 0⟩ := by simp [numBits, h]
  have HU := hid hu
  clear h hu
  go_enter Tryd.func5, Tryd.ntmps5
  go_wp2_with fail
  refine (known_any _ ht).mono ?_
  rintro e w1 ⟨rfl, hb1⟩
  go_wp2_with fail
  refine (numBits_any u HU.out _).mono ?_
  rintro e w2 ⟨rfl, hb2⟩
  rw [nb]
  have hW2 := bthen hb1 hb2
  clear hb1 hb2 nb
  go_wp2_with fail
  refine (HWF.out _).mono ?_
  rintro e w3 ⟨rfl, hb⟩
  obtain ⟨BA, hk, hW3⟩ := boxStep hW2 hb
  have HA := hid BA
  clear BA hb hW2
  clear hk
  obtain ⟨A0, A1, A2, A3, A4, _, _, _, _, _, Al⟩ := HA.out
  go_wp2_with fail
  refine (HWC.out _).mono ?_
  rintro e w4 ⟨rfl, hb⟩
  clear A0 A1 A2 A3 A4 Al
  obtain ⟨BL, hk, hW4⟩ := boxStep hW3 hb
  have HL := hid BL
  clear BL hb hW3
  have KA := hid (HA.out.keep hk)
  clear HA
  have HA := KA
  clear KA
  clear hk
  obtain ⟨A0, A1, A2, A3, A4, _, _, _, _, _, Al⟩ := HA.out
  go_wp2_with fail
  refine (HWT.out _).mono ?_
  rintro e w5 ⟨rfl, hb⟩
  clear A0 A1 A2 A3 A4 Al
  obtain ⟨BI, hk, hW5⟩ := boxStep hW4 hb
  have HI := hid BI
  clear BI hb hW4
  have KA := hid (HA.out.keep hk)
  clear HA
  have HA := KA
  clear KA
  have KL := hid (HL.out.keep hk)
  clear HL
  have HL := KL
  clear KL
  clear hk
  obtain ⟨A0, A1, A2, A3, A4, _, _, _, _, _, Al⟩ := HA.out
  go_wp2_with fail
  refine (HWR.out _).mono ?_
  rintro e w6 ⟨rfl, hb⟩
  clear A0 A1 A2 A3 A4 Al
  obtain ⟨BT, hk, hW6⟩ := boxStep hW5 hb
  have HT := hid BT
  clear BT hb hW5
  have KA := hid (HA.out.keep hk)
  clear HA
  have HA := KA
  clear KA
  have KL := hid (HL.out.keep hk)
  clear HL
  have HL := KL
  clear KL
  have KI := hid (HI.out.keep hk)
  clear HI
  have HI := KI
  clear KI
  clear hk
  obtain ⟨A0, A1, A2, A3, A4, _, _, _, _, _, Al⟩ := HA.out
  obtain ⟨L0, L1, L2, L3, L4, _, _, _, _, _, Ll⟩ := HL.out
  obtain ⟨I0, I1, I2, I3, I4, _, _, _, _, _, Il⟩ := HI.out
  obtain ⟨T0, T1, T2, T3, T4, _, _, _, _, _, Tl⟩ := HT.out
  go_wp2_with fail
  go_quiet ((go_at_call 19; (first | with_reducible exact Calls.quiet_of_same (HEL.out _) | with_reducible exact Calls.quiet_of_same (HEH.out _))))
  go_wp2_with fail
  refine (HNG.out _).mono ?_
  rintro e w7 ⟨rfl, hb⟩
  clear A0 A1 A2 A3 A4 Al
  clear L0 L1 L2 L3 L4 Ll
  clear I0 I1 I2 I3 I4 Il
  clear T0 T1 T2 T3 T4 Tl
  obtain ⟨hk, hW7⟩ := boxDrew hW6 hb
  clear hb hW6
  have KI := hid (HI.out.keep hk)
  clear HI HA HL HT
  have HI := KI
  clear KI hk
  go_wp2_with fail
  refine (HWN.out _).mono ?_
  rintro e w8 ⟨rfl, hb⟩
  obtain ⟨BB, hk, hW8⟩ := boxStep hW7 hb
  clear BB hb hW7
  have KI := hid (HI.out.keep hk)
  clear HI
  have HI := KI
  clear KI hk
  obtain ⟨I0, I1, I2, I3, I4, _, _, _, _, _, Il⟩ := HI.out
  go_wp2
  go_ret
  exact ⟨rfl, by (first | exact hW8 | exact below_a1 hW8 _)⟩

set_option maxRecDepth 100000 in
set_option maxHeartbeats 4000000 in
theorem wholes_lt_false_hi_in (u : Nat) (hu : u < 18446744073709551616) (h : Flt.fin u = true) (lo hi : Int) (v : Nat) (WF : ∀ w, Calls Tryd.prog 17 #[.string ⟨#[102, 108, 111, 111, 114]⟩, .agg #[.int .i64 (2), .int .i64 (0), .float .f64 (u), .string ⟨#[]⟩, .slice none 0 0]] w fun e w' => e = .returned (.tuple #[.agg #[.int .i64 (1), .int .i64 (lo), .float .f64 (0), .string ⟨#[]⟩, .slice none 0 0], .int .i64 0]) ∧ Below w.heap.size w w') (WC : ∀ w, Calls Tryd.prog 17 #[.string ⟨#[99, 101, 105, 108]⟩, .agg #[.int .i64 (2), .int .i64 (0), .float .f64 (u), .string ⟨#[]⟩, .slice none 0 0]] w fun e w' => e = .returned (.tuple #[.agg #[.int .i64 (1), .int .i64 (hi), .float .f64 (0), .string ⟨#[]⟩, .slice none 0 0], .int .i64 0]) ∧ Below w.heap.size w w') (WT : ∀ w, Calls Tryd.prog 17 #[.string ⟨#[116, 114, 117, 110, 99]⟩, .agg #[.int .i64 (2), .int .i64 (0), .float .f64 (u), .string ⟨#[]⟩, .slice none 0 0]] w fun e w' => e = .returned (.tuple #[.agg #[.int .i64 (1), .int .i64 (hi), .float .f64 (0), .string ⟨#[]⟩, .slice none 0 0], .int .i64 0]) ∧ Below w.heap.size w w') (WR : ∀ w, Calls Tryd.prog 17 #[.string ⟨#[114, 111, 117, 110, 100]⟩, .agg #[.int .i64 (2), .int .i64 (0), .float .f64 (u), .string ⟨#[]⟩, .slice none 0 0]] w fun e w' => e = .returned (.tuple #[.agg #[.int .i64 (1), .int .i64 (hi), .float .f64 (0), .string ⟨#[]⟩, .slice none 0 0], .int .i64 0]) ∧ Below w.heap.size w w') (EL : ∀ w, Calls Tryd.prog 19 #[.float .f64 u, .int .i64 lo] w fun e w' => e = .returned (.int .i64 1) ∧ w' = w) (EH : ∀ w, Calls Tryd.prog 19 #[.float .f64 u, .int .i64 hi] w fun e w' => e = .returned (.int .i64 (-1)) ∧ w' = w) (NG : ∀ w, Calls Tryd.prog 20 #[.agg #[.int .i64 (2), .int .i64 (0), .float .f64 (u), .string ⟨#[]⟩, .slice none 0 0]] w fun e w' => e = .returned (.tuple #[.agg #[.int .i64 (2), .int .i64 (0), .float .f64 (v), .string ⟨#[]⟩, .slice none 0 0], .int .i64 0]) ∧ Below w.heap.size w w') (WN : ∀ w, Calls Tryd.prog 17 #[.string ⟨#[102, 108, 111, 111, 114]⟩, .agg #[.int .i64 (2), .int .i64 (0), .float .f64 (v), .string ⟨#[]⟩, .slice none 0 0]] w fun e w' => e = .returned (.tuple #[.agg #[.int .i64 (1), .int .i64 ((-hi)), .float .f64 (0), .string ⟨#[]⟩, .slice none 0 0], .int .i64 0]) ∧ Below w.heap.size w w') (hl1 : -576460752303423488 ≤ lo) (hl2 : lo ≤ 576460752303423487) (hh : hi = lo + 1) (o : FloatKind.f64.format.order u 0 = some .lt) (w : World) (ht : w.cell? ⟨4, 15, none⟩ = some (.int .u8 4)) :
    Calls Tryd.prog 5 #[.int .u64 u] w fun e w' => e = .returned (.bool true) ∧ Below w.heap.size w w' := by
  have HWF := hid WF
  clear WF
  have HWC := hid WC
  clear WC
  have HWT := hid WT
  clear WT
  have HWR := hid WR
  clear WR
  have HEL := hid EL
  clear EL
  have HEH := hid EH
  clear EH
  have HNG := hid NG
  clear NG
  have HWN := hid WN
  clear WN
  have n1 : ¬ hi = lo := by omega
  have n2 : ¬ lo = hi := by omega
  have n3 : decide (hi < lo) = false := by simp; omega
  have n4 : decide (lo < hi) = true := by simp; omega
  have n5 : IntKind.i64.wrap (hi - lo) = 1 := by rw [IntKind.wrap_i64]; omega
  have n6 : hi - lo = 1 := by omega
  have n7 : hi ≤ 576460752303423488 := by omega
  have n8 : -576460752303423488 ≤ hi := by omega
  have n9 : IntKind.i64.wrap (-hi) = -hi := by rw [IntKind.wrap_i64]; omega
  have n10 : IntKind.i64.wrap (0 - hi) = -hi := by rw [IntKind.wrap_i64]; omega
  have n11 : (lo == hi) = false := by simp; omega
  have n12 : (hi == lo) = false := by simp; omega
  have n13 : (lo != hi) = true := by simp; omega
  have n14 : (hi != lo) = true := by simp; omega
  have n15 : decide (1 < hi - lo) = false := by simp; omega
  clear hh
  have nb : numBits u = ⟨2, 0, u, 0⟩ := by simp [numBits, h]
  have HU := hid hu
  clear h hu
  go_enter Tryd.func5, Tryd.ntmps5
  go_wp2_with fail
  refine (known_any _ ht).mono ?_
  rintro e w1 ⟨rfl, hb1⟩
  go_wp2_with fail
  refine (numBits_any u HU.out _).mono ?_
  rintro e w2 ⟨rfl, hb2⟩
  rw [nb]
  have hW2 := bthen hb1 hb2
  clear hb1 hb2 nb
  go_wp2_with fail
  refine (HWF.out _).mono ?_
  rintro e w3 ⟨rfl, hb⟩
  obtain ⟨BA, hk, hW3⟩ := boxStep hW2 hb
  have HA := hid BA
  clear BA hb hW2
  clear hk
  obtain ⟨A0, A1, A2, A3, A4, _, _, _, _, _, Al⟩ := HA.out
  go_wp2_with fail
  refine (HWC.out _).mono ?_
  rintro e w4 ⟨rfl, hb⟩
  clear A0 A1 A2 A3 A4 Al
  obtain ⟨BL, hk, hW4⟩ := boxStep hW3 hb
  have HL := hid BL
  clear BL hb hW3
  have KA := hid (HA.out.keep hk)
  clear HA
  have HA := KA
  clear KA
  clear hk
  obtain ⟨A0, A1, A2, A3, A4, _, _, _, _, _, Al⟩ := HA.out
  go_wp2_with fail
  refine (HWT.out _).mono ?_
  rintro e w5 ⟨rfl, hb⟩
  clear A0 A1 A2 A3 A4 Al
  obtain ⟨BI, hk, hW5⟩ := boxStep hW4 hb
  have HI := hid BI
  clear BI hb hW4
  have KA := hid (HA.out.keep hk)
  clear HA
  have HA := KA
  clear KA
  have KL := hid (HL.out.keep hk)
  clear HL
  have HL := KL
  clear KL
  clear hk
  obtain ⟨A0, A1, A2, A3, A4, _, _, _, _, _, Al⟩ := HA.out
  go_wp2_with fail
  refine (HWR.out _).mono ?_
  rintro e w6 ⟨rfl, hb⟩
  clear A0 A1 A2 A3 A4 Al
  obtain ⟨BT, hk, hW6⟩ := boxStep hW5 hb
  have HT := hid BT
  clear BT hb hW5
  have KA := hid (HA.out.keep hk)
  clear HA
  have HA := KA
  clear KA
  have KL := hid (HL.out.keep hk)
  clear HL
  have HL := KL
  clear KL
  have KI := hid (HI.out.keep hk)
  clear HI
  have HI := KI
  clear KI
  clear hk
  obtain ⟨A0, A1, A2, A3, A4, _, _, _, _, _, Al⟩ := HA.out
  obtain ⟨L0, L1, L2, L3, L4, _, _, _, _, _, Ll⟩ := HL.out
  obtain ⟨I0, I1, I2, I3, I4, _, _, _, _, _, Il⟩ := HI.out
  obtain ⟨T0, T1, T2, T3, T4, _, _, _, _, _, Tl⟩ := HT.out
  go_wp2_with fail
  go_quiet ((go_at_call 19; (first | with_reducible exact Calls.quiet_of_same (HEL.out _) | with_reducible exact Calls.quiet_of_same (HEH.out _))))
  go_wp2_with fail
  refine (HNG.out _).mono ?_
  rintro e w7 ⟨rfl, hb⟩
  clear A0 A1 A2 A3 A4 Al
  clear L0 L1 L2 L3 L4 Ll
  clear I0 I1 I2 I3 I4 Il
  clear T0 T1 T2 T3 T4 Tl
  obtain ⟨hk, hW7⟩ := boxDrew hW6 hb
  clear hb hW6
  have KI := hid (HI.out.keep hk)
  clear HI HA HL HT
  have HI := KI
  clear KI hk
  go_wp2_with fail
  refine (HWN.out _).mono ?_
  rintro e w8 ⟨rfl, hb⟩
  obtain ⟨BB, hk, hW8⟩ := boxStep hW7 hb
  clear BB hb hW7
  have KI := hid (HI.out.keep hk)
  clear HI
  have HI := KI
  clear KI hk
  obtain ⟨I0, I1, I2, I3, I4, _, _, _, _, _, Il⟩ := HI.out
  go_wp2
  go_ret
  exact ⟨rfl, by (first | exact hW8 | exact below_a1 hW8 _)⟩

set_option maxRecDepth 100000 in
set_option maxHeartbeats 4000000 in
theorem wholes_lt_false_hi_out (u : Nat) (hu : u < 18446744073709551616) (h : Flt.fin u = true) (lo hi : Int) (v : Nat) (WF : ∀ w, Calls Tryd.prog 17 #[.string ⟨#[102, 108, 111, 111, 114]⟩, .agg #[.int .i64 (2), .int .i64 (0), .float .f64 (u), .string ⟨#[]⟩, .slice none 0 0]] w fun e w' => e = .returned (.tuple #[.agg #[.int .i64 (1), .int .i64 (lo), .float .f64 (0), .string ⟨#[]⟩, .slice none 0 0], .int .i64 0]) ∧ Below w.heap.size w w') (WC : ∀ w, Calls Tryd.prog 17 #[.string ⟨#[99, 101, 105, 108]⟩, .agg #[.int .i64 (2), .int .i64 (0), .float .f64 (u), .string ⟨#[]⟩, .slice none 0 0]] w fun e w' => e = .returned (.tuple #[.agg #[.int .i64 (1), .int .i64 (hi), .float .f64 (0), .string ⟨#[]⟩, .slice none 0 0], .int .i64 0]) ∧ Below w.heap.size w w') (WT : ∀ w, Calls Tryd.prog 17 #[.string ⟨#[116, 114, 117, 110, 99]⟩, .agg #[.int .i64 (2), .int .i64 (0), .float .f64 (u), .string ⟨#[]⟩, .slice none 0 0]] w fun e w' => e = .returned (.tuple #[.agg #[.int .i64 (1), .int .i64 (hi), .float .f64 (0), .string ⟨#[]⟩, .slice none 0 0], .int .i64 0]) ∧ Below w.heap.size w w') (WR : ∀ w, Calls Tryd.prog 17 #[.string ⟨#[114, 111, 117, 110, 100]⟩, .agg #[.int .i64 (2), .int .i64 (0), .float .f64 (u), .string ⟨#[]⟩, .slice none 0 0]] w fun e w' => e = .returned (.tuple #[.agg #[.int .i64 (1), .int .i64 (hi), .float .f64 (0), .string ⟨#[]⟩, .slice none 0 0], .int .i64 0]) ∧ Below w.heap.size w w') (EL : ∀ w, Calls Tryd.prog 19 #[.float .f64 u, .int .i64 lo] w fun e w' => e = .returned (.int .i64 1) ∧ w' = w) (EH : ∀ w, Calls Tryd.prog 19 #[.float .f64 u, .int .i64 hi] w fun e w' => e = .returned (.int .i64 (-1)) ∧ w' = w) (NG : ∀ w, Calls Tryd.prog 20 #[.agg #[.int .i64 (2), .int .i64 (0), .float .f64 (u), .string ⟨#[]⟩, .slice none 0 0]] w fun e w' => e = .returned (.tuple #[.agg #[.int .i64 (2), .int .i64 (0), .float .f64 (v), .string ⟨#[]⟩, .slice none 0 0], .int .i64 0]) ∧ Below w.heap.size w w') (WN : ∀ w, Calls Tryd.prog 17 #[.string ⟨#[102, 108, 111, 111, 114]⟩, .agg #[.int .i64 (2), .int .i64 (0), .float .f64 (v), .string ⟨#[]⟩, .slice none 0 0]] w fun e w' => e = .returned (.tuple #[.agg #[.int .i64 (0), .int .i64 (0), .float .f64 (0), .string ⟨#[]⟩, .slice none 0 0], .int .i64 12]) ∧ Below w.heap.size w w') (hl1 : -576460752303423488 ≤ lo) (hl2 : lo ≤ 576460752303423487) (hh : hi = lo + 1) (o : FloatKind.f64.format.order u 0 = some .lt) (w : World) (ht : w.cell? ⟨4, 15, none⟩ = some (.int .u8 4)) :
    Calls Tryd.prog 5 #[.int .u64 u] w fun e w' => e = .returned (.bool true) ∧ Below w.heap.size w w' := by
  have HWF := hid WF
  clear WF
  have HWC := hid WC
  clear WC
  have HWT := hid WT
  clear WT
  have HWR := hid WR
  clear WR
  have HEL := hid EL
  clear EL
  have HEH := hid EH
  clear EH
  have HNG := hid NG
  clear NG
  have HWN := hid WN
  clear WN
  have n1 : ¬ hi = lo := by omega
  have n2 : ¬ lo = hi := by omega
  have n3 : decide (hi < lo) = false := by simp; omega
  have n4 : decide (lo < hi) = true := by simp; omega
  have n5 : IntKind.i64.wrap (hi - lo) = 1 := by rw [IntKind.wrap_i64]; omega
  have n6 : hi - lo = 1 := by omega
  have n7 : hi ≤ 576460752303423488 := by omega
  have n8 : -576460752303423488 ≤ hi := by omega
  have n9 : IntKind.i64.wrap (-hi) = -hi := by rw [IntKind.wrap_i64]; omega
  have n10 : IntKind.i64.wrap (0 - hi) = -hi := by rw [IntKind.wrap_i64]; omega
  have n11 : (lo == hi) = false := by simp; omega
  have n12 : (hi == lo) = false := by simp; omega
  have n13 : (lo != hi) = true := by simp; omega
  have n14 : (hi != lo) = true := by simp; omega
  have n15 : decide (1 < hi - lo) = false := by simp; omega
  clear hh
  have nb : numBits u = ⟨2, 0, u, 0⟩ := by simp [numBits, h]
  have HU := hid hu
  clear h hu
  go_enter Tryd.func5, Tryd.ntmps5
  go_wp2_with fail
  refine (known_any _ ht).mono ?_
  rintro e w1 ⟨rfl, hb1⟩
  go_wp2_with fail
  refine (numBits_any u HU.out _).mono ?_
  rintro e w2 ⟨rfl, hb2⟩
  rw [nb]
  have hW2 := bthen hb1 hb2
  clear hb1 hb2 nb
  go_wp2_with fail
  refine (HWF.out _).mono ?_
  rintro e w3 ⟨rfl, hb⟩
  obtain ⟨BA, hk, hW3⟩ := boxStep hW2 hb
  have HA := hid BA
  clear BA hb hW2
  clear hk
  obtain ⟨A0, A1, A2, A3, A4, _, _, _, _, _, Al⟩ := HA.out
  go_wp2_with fail
  refine (HWC.out _).mono ?_
  rintro e w4 ⟨rfl, hb⟩
  clear A0 A1 A2 A3 A4 Al
  obtain ⟨BL, hk, hW4⟩ := boxStep hW3 hb
  have HL := hid BL
  clear BL hb hW3
  have KA := hid (HA.out.keep hk)
  clear HA
  have HA := KA
  clear KA
  clear hk
  obtain ⟨A0, A1, A2, A3, A4, _, _, _, _, _, Al⟩ := HA.out
  go_wp2_with fail
  refine (HWT.out _).mono ?_
  rintro e w5 ⟨rfl, hb⟩
  clear A0 A1 A2 A3 A4 Al
  obtain ⟨BI, hk, hW5⟩ := boxStep hW4 hb
  have HI := hid BI
  clear BI hb hW4
  have KA := hid (HA.out.keep hk)
  clear HA
  have HA := KA
  clear KA
  have KL := hid (HL.out.keep hk)
  clear HL
  have HL := KL
  clear KL
  clear hk
  obtain ⟨A0, A1, A2, A3, A4, _, _, _, _, _, Al⟩ := HA.out
  go_wp2_with fail
  refine (HWR.out _).mono ?_
  rintro e w6 ⟨rfl, hb⟩
  clear A0 A1 A2 A3 A4 Al
  obtain ⟨BT, hk, hW6⟩ := boxStep hW5 hb
  have HT := hid BT
  clear BT hb hW5
  have KA := hid (HA.out.keep hk)
  clear HA
  have HA := KA
  clear KA
  have KL := hid (HL.out.keep hk)
  clear HL
  have HL := KL
  clear KL
  have KI := hid (HI.out.keep hk)
  clear HI
  have HI := KI
  clear KI
  clear hk
  obtain ⟨A0, A1, A2, A3, A4, _, _, _, _, _, Al⟩ := HA.out
  obtain ⟨L0, L1, L2, L3, L4, _, _, _, _, _, Ll⟩ := HL.out
  obtain ⟨I0, I1, I2, I3, I4, _, _, _, _, _, Il⟩ := HI.out
  obtain ⟨T0, T1, T2, T3, T4, _, _, _, _, _, Tl⟩ := HT.out
  go_wp2_with fail
  go_quiet ((go_at_call 19; (first | with_reducible exact Calls.quiet_of_same (HEL.out _) | with_reducible exact Calls.quiet_of_same (HEH.out _))))
  go_wp2_with fail
  refine (HNG.out _).mono ?_
  rintro e w7 ⟨rfl, hb⟩
  clear A0 A1 A2 A3 A4 Al
  clear L0 L1 L2 L3 L4 Ll
  clear I0 I1 I2 I3 I4 Il
  clear T0 T1 T2 T3 T4 Tl
  obtain ⟨hk, hW7⟩ := boxDrew hW6 hb
  clear hb hW6
  have KI := hid (HI.out.keep hk)
  clear HI HA HL HT
  have HI := KI
  clear KI hk
  go_wp2_with fail
  refine (HWN.out _).mono ?_
  rintro e w8 ⟨rfl, hb⟩
  obtain ⟨BB, hk, hW8⟩ := boxStep hW7 hb
  clear BB hb hW7
  have KI := hid (HI.out.keep hk)
  clear HI
  have HI := KI
  clear KI hk
  obtain ⟨I0, I1, I2, I3, I4, _, _, _, _, _, Il⟩ := HI.out
  go_wp2
  go_ret
  exact ⟨rfl, by (first | exact hW8 | exact below_a1 hW8 _)⟩

end Go.Proofs.YtihkabgoaejcgabDoor
