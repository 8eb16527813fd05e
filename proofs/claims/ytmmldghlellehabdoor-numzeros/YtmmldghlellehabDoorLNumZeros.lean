/- The walk of NumZeros: it returns true, and nothing that was there has turned. -/
import Derived.Test.YtmmldghlellehabDoorZ2
namespace Go.Proofs.YtmmldghlellehabDoor
open Go.RowKit Go.Sort
attribute [local go_sem] store_float

theorem same_pm (w : World) : Calls Tryd.prog 15 #[.agg #[.int .i64 (2), .int .i64 (0), .float .f64 (0), .string ⟨#[]⟩, .slice none 0 0], .agg #[.int .i64 (2), .int .i64 (0), .float .f64 (9223372036854775808), .string ⟨#[]⟩, .slice none 0 0]] w fun e w' => e = .returned (.bool false) ∧ Below w.heap.size w w' :=
  (same2 2 2 0 0 0 9223372036854775808 (by decide) (by decide) (by simp [rightB, Flt.fin]) (by simp [rightB, Flt.fin]) w).mono fun _ _ h => h

theorem nz_1 : numBits (0 ^^^ 9223372036854775808) = ⟨2, 0, 9223372036854775808, 0⟩ := by kernel_rfl
theorem nz_2 : fltR (floatBits .add .f64 (realV 2 0 0) (realV 2 0 9223372036854775808)) = ⟨2, 0, 0, 0⟩ := by kernel_rfl
theorem nz_3 : fltR (floatBits .add .f64 (realV 2 0 9223372036854775808) (realV 2 0 9223372036854775808)) = ⟨2, 0, 9223372036854775808, 0⟩ := by kernel_rfl

theorem cells_up {wr : World} {S j : Nat} {v : Value} (h : wr.cell? ⟨S, j, none⟩ = some v) : (∀ o1, (wr.alloc o1).cell? ⟨S, j, none⟩ = some v) ∧ (∀ o1 o2, ((wr.alloc o1).alloc o2).cell? ⟨S, j, none⟩ = some v) ∧ (∀ o1 o2 o3, (((wr.alloc o1).alloc o2).alloc o3).cell? ⟨S, j, none⟩ = some v) := by
  have k : ∀ (w : World) (o : Obj), w.cell? ⟨S, j, none⟩ = some v → (w.alloc o).cell? ⟨S, j, none⟩ = some v := fun w o h => by rw [(below_new w o).cell (block_lt_of_cell h)]; exact h
  exact ⟨fun o1 => k _ _ h, fun o1 o2 => k _ _ (k _ _ h), fun o1 o2 o3 => k _ _ (k _ _ (k _ _ h))⟩

/-- three boxes laid behind a call, kept behind the next one -/
theorem box3n {w w3 w4 : World} {t1 t2 t3 : TypeId} {a0 a1 a2 a3 a4 b0 b1 b2 b3 b4 c0 c1 c2 c3 c4 : Value} (hW : Below w.heap.size w w3)
    (hb : Below (((w3.alloc (.cells #[a0, a1, a2, a3, a4] t1)).alloc (.cells #[b0, b1, b2, b3, b4] t2)).alloc (.cells #[c0, c1, c2, c3, c4] t3)).heap.size (((w3.alloc (.cells #[a0, a1, a2, a3, a4] t1)).alloc (.cells #[b0, b1, b2, b3, b4] t2)).alloc (.cells #[c0, c1, c2, c3, c4] t3)) w4) :
    Box w4 w3.heap.size a0 a1 a2 a3 a4 ∧ Box w4 (w3.heap.size + 1) b0 b1 b2 b3 b4 ∧ Box w4 (w3.heap.size + 1 + 1) c0 c1 c2 c3 c4 ∧ Below w3.heap.size w3 w4 ∧ Below w.heap.size w w4 := by
  have e1 : (w3.alloc (.cells #[a0, a1, a2, a3, a4] t1)).heap.size = w3.heap.size + 1 := by simp
  have e2 : ((w3.alloc (.cells #[a0, a1, a2, a3, a4] t1)).alloc (.cells #[b0, b1, b2, b3, b4] t2)).heap.size = w3.heap.size + 1 + 1 := by simp
  have hk : Below w3.heap.size w3 w4 := (((below_new w3 _).alloc (by simp) _).alloc (by simp; omega) _).trans (hb.mono (by simp; omega))
  refine ⟨(((Box.new _ _ _ _ _ _ _).alloc _).alloc _).keep hb, ?_, ?_, hk, bthen hW hk⟩
  · rw [← e1]; exact ((Box.new _ _ _ _ _ _ _).alloc _).keep hb
  · rw [← e2]; exact (Box.new _ _ _ _ _ _ _).keep hb

set_option maxRecDepth 100000 in
set_option maxHeartbeats 4000000 in
theorem numZeros_not (u : Nat) (hu : u < 18446744073709551616) (hf : Flt.fin u = false) (w : World) (ht : w.cell? ⟨4, 15, none⟩ = some (.int .u8 4)) :
    Calls Tryd.prog 8 #[.int .u64 u] w fun e w' => e = .returned (.bool true) ∧ Below w.heap.size w w' := by
  have HNB := hid (show numBits u = ⟨0, 0, 0, 11⟩ by simp [numBits, hf])
  have hfb := f64frombits
  have hf64 := f64bits
  go_enter Tryd.func8, Tryd.ntmps8
  go_wp2_with fail
  refine (known_any _ ht).mono ?_
  rintro e w1 ⟨rfl, hWw1⟩
  clear ht
  go_wp2_with fail
  refine (f_any _ _).mono ?_
  rintro e w2 ⟨rfl, hb⟩
  have hWw2 : Below w.heap.size w w2 := bthen hWw1 hb
  clear hb hWw1
  go_wp2_with fail
  refine (f_any _ _).mono ?_
  rintro e w3 ⟨rfl, hb⟩
  obtain ⟨BP, hk, hWw3⟩ := boxStep hWw2 hb
  have HP := hid BP
  clear BP hk hb hWw2
  go_wp2_with fail
  have BP5 := HP.out.alloc (.cells #[.int .i64 2, .int .i64 0, .float .f64 9223372036854775808, .string ⟨#[]⟩, .slice none 0 0] 26)
  have BM5 := Box.new w3 26 (.int .i64 2) (.int .i64 0) (.float .f64 9223372036854775808) (.string ⟨#[]⟩) (.slice none 0 0)
  have hW5 : Below w.heap.size w (w3.alloc (.cells #[.int .i64 2, .int .i64 0, .float .f64 9223372036854775808, .string ⟨#[]⟩, .slice none 0 0] 26)) := hWw3.alloc hWw3.size _
  clear HP hWw3
  generalize w3.alloc (.cells #[.int .i64 2, .int .i64 0, .float .f64 9223372036854775808, .string ⟨#[]⟩, .slice none 0 0] 26) = W at *
  have kp0 := cell_regrown BP5.c0
  have kp1 := cell_regrown BP5.c1
  have kp2 := cell_regrown BP5.c2
  have kp3 := cell_regrown BP5.c3
  have kp4 := cell_regrown BP5.c4
  have km0 := cell_regrown BM5.c0
  have km1 := cell_regrown BM5.c1
  have km2 := cell_regrown BM5.c2
  have km3 := cell_regrown BM5.c3
  have km4 := cell_regrown BM5.c4
  have HBP := hid BP5
  have HBM := hid BM5
  clear BP5 BM5
  refine wp_region_quiet_below (by kernel_rfl) (by kernel_rfl) ?_
  iterate 2 (first | go_big_quiet_step (fail) | quiet_step (fail))
  first | go_big_quiet_step ((go_at_call 14; exact Calls.regrown_of (cmp_zz 0 9223372036854775808 (by decide) (by decide) _))) | quiet_step ((go_at_call 14; exact Calls.regrown_of (cmp_zz 0 9223372036854775808 (by decide) (by decide) _)))
  iterate 4 (first | go_big_quiet_step (fail) | quiet_step (fail))
  first | go_big_quiet_step ((go_at_call 15; exact Calls.regrown_of (same_pm _))) | quiet_step ((go_at_call 15; exact Calls.regrown_of (same_pm _)))
  iterate 3 (first | go_big_quiet_step (fail) | quiet_step (fail))
  first | go_big_quiet_step ((go_at_call 11; exact Calls.regrown_of (i_any _ _))) | quiet_step ((go_at_call 11; exact Calls.regrown_of (i_any _ _)))
  first | go_big_quiet_step ((go_at_call 14; exact Calls.regrown_of (cmp_zi 0 (by decide) _))) | quiet_step ((go_at_call 14; exact Calls.regrown_of (cmp_zi 0 (by decide) _)))
  iterate 4 (first | go_big_quiet_step (fail) | quiet_step (fail))
  first | go_big_quiet_step ((go_at_call 11; exact Calls.regrown_of (i_any _ _))) | quiet_step ((go_at_call 11; exact Calls.regrown_of (i_any _ _)))
  first | go_big_quiet_step ((go_at_call 14; exact Calls.regrown_of (cmp_zi 9223372036854775808 (by decide) _))) | quiet_step ((go_at_call 14; exact Calls.regrown_of (cmp_zi 9223372036854775808 (by decide) _)))
  repeat (first | go_big_quiet_step (fail) | quiet_step (fail))
  refine wpQuiet_nil ?_
  intro _ hw'
  obtain ⟨⟨dq, osq⟩, hw2⟩ := hw'
  subst hw2
  clear kp0 km0 kp1 km1 kp2 km2 kp3 km3 kp4 km4
  have hbq := below_regrown W dq osq
  have hWw4 := bthen hW5 hbq
  have KP := HBP.out.keep hbq
  have KM := HBM.out.keep hbq
  generalize grow (redrawn W dq) osq = w4 at *
  have HP := hid KP
  have HM := hid KM
  clear KP KM HBP HBM hbq hW5
  obtain ⟨P0, P1, P2, P3, P4, _, _, _, _, _, Pl⟩ := HP.out
  go_wp2_with fail
  refine (neg_f 0 (by decide) (by decide) _).mono ?_
  rintro e w5 ⟨rfl, hb⟩
  rw [nz_1]
  clear P0 P1 P2 P3 P4 Pl
  have hWw5 : Below w.heap.size w w5 := bthen hWw4 hb
  have KP := HP.out.keep hb
  have KM := HM.out.keep hb
  clear HP HM
  have HP := hid KP
  have HM := hid KM
  clear KP KM
  clear hb hWw4
  obtain ⟨M0, M1, M2, M3, M4, _, _, _, _, _, Ml⟩ := HM.out
  go_wp2_with fail
  refine (abs_minus _).mono ?_
  rintro e w6 ⟨rfl, hb⟩
  clear M0 M1 M2 M3 M4 Ml
  obtain ⟨BN, hk, hWw6⟩ := boxStep hWw5 hb
  have KP := HP.out.keep hk
  have KM := HM.out.keep hk
  clear HP HM
  have HP := hid KP
  have HM := hid KM
  clear KP KM
  have HN := hid BN
  clear BN hk hb hWw5
  obtain ⟨P0, P1, P2, P3, P4, _, _, _, _, _, Pl⟩ := HP.out
  obtain ⟨M0, M1, M2, M3, M4, _, _, _, _, _, Ml⟩ := HM.out
  go_wp2_with fail
  refine (op_fadd 2 2 0 0 0 9223372036854775808 ⟨#[]⟩ ⟨#[]⟩ none none 0 0 0 0 (by simp [rightB, Flt.fin]) (by simp [rightB, Flt.fin]) (by decide) (by decide) (by decide) _).mono ?_
  rintro e w7 ⟨rfl, hb⟩
  rw [nz_2]
  clear P0 P1 P2 P3 P4 Pl M0 M1 M2 M3 M4 Ml
  obtain ⟨BA, hk, hWw7⟩ := boxStep hWw6 hb
  have KP := HP.out.keep hk
  have KM := HM.out.keep hk
  have KN := HN.out.keep hk
  clear HP HM HN
  have HP := hid KP
  have HM := hid KM
  have HN := hid KN
  clear KP KM KN
  have HA := hid BA
  clear BA hk hb hWw6
  obtain ⟨M0, M1, M2, M3, M4, _, _, _, _, _, Ml⟩ := HM.out
  go_wp2_with fail
  refine (op_fadd 2 2 0 0 9223372036854775808 9223372036854775808 ⟨#[]⟩ ⟨#[]⟩ none none 0 0 0 0 (by simp [rightB, Flt.fin]) (by simp [rightB, Flt.fin]) (by decide) (by decide) (by decide) _).mono ?_
  rintro e w8 ⟨rfl, hb⟩
  rw [nz_3]
  clear M0 M1 M2 M3 M4 Ml
  obtain ⟨BB, hk, hWw8⟩ := boxStep hWw7 hb
  have KP := HP.out.keep hk
  have KM := HM.out.keep hk
  have KN := HN.out.keep hk
  have KA := HA.out.keep hk
  clear HP HM HN HA
  have HP := hid KP
  have HM := hid KM
  have HN := hid KN
  have HA := hid KA
  clear KP KM KN KA
  have HB := hid BB
  clear BB hk hb hWw7
  obtain ⟨N0, N1, N2, N3, N4, _, _, _, _, _, Nl⟩ := HN.out
  obtain ⟨M0, M1, M2, M3, M4, _, _, _, _, _, Ml⟩ := HM.out
  go_wp2_with fail
  refine (same_true _ _ _ _).mono ?_
  rintro e w9 ⟨rfl, hb⟩
  clear N0 N1 N2 N3 N4 Nl M0 M1 M2 M3 M4 Ml
  obtain ⟨BC, hk, hWw9⟩ := boxStep hWw8 hb
  have KP := HP.out.keep hk
  have KM := HM.out.keep hk
  have KN := HN.out.keep hk
  have KA := HA.out.keep hk
  have KB := HB.out.keep hk
  clear HP HM HN HA HB
  have HP := hid KP
  have HM := hid KM
  have HN := hid KN
  have HA := hid KA
  have HB := hid KB
  clear KP KM KN KA KB
  have HC := hid BC
  clear BC hk hb hWw8
  obtain ⟨A0, A1, A2, A3, A4, _, _, _, _, _, Al⟩ := HA.out
  obtain ⟨P0, P1, P2, P3, P4, _, _, _, _, _, Pl⟩ := HP.out
  go_wp2_with fail
  refine (same_true _ _ _ _).mono ?_
  rintro e w10 ⟨rfl, hb⟩
  clear A0 A1 A2 A3 A4 Al P0 P1 P2 P3 P4 Pl
  have hWw10 : Below w.heap.size w w10 := bthen hWw9 hb
  have KP := HP.out.keep hb
  have KM := HM.out.keep hb
  have KN := HN.out.keep hb
  have KA := HA.out.keep hb
  have KB := HB.out.keep hb
  have KC := HC.out.keep hb
  clear HP HM HN HA HB HC
  have HP := hid KP
  have HM := hid KM
  have HN := hid KN
  have HA := hid KA
  have HB := hid KB
  have HC := hid KC
  clear KP KM KN KA KB KC
  clear hb hWw9
  obtain ⟨B0, B1, B2, B3, B4, _, _, _, _, _, Bl⟩ := HB.out
  obtain ⟨P0, P1, P2, P3, P4, _, _, _, _, _, Pl⟩ := HP.out
  go_wp2_with fail
  refine (same_true _ _ _ _).mono ?_
  rintro e w11 ⟨rfl, hb⟩
  clear B0 B1 B2 B3 B4 Bl P0 P1 P2 P3 P4 Pl
  have hWw11 : Below w.heap.size w w11 := bthen hWw10 hb
  have KP := HP.out.keep hb
  have KM := HM.out.keep hb
  have KN := HN.out.keep hb
  have KA := HA.out.keep hb
  have KB := HB.out.keep hb
  have KC := HC.out.keep hb
  clear HP HM HN HA HB HC
  have HP := hid KP
  have HM := hid KM
  have HN := hid KN
  have HA := hid KA
  have HB := hid KB
  have HC := hid KC
  clear KP KM KN KA KB KC
  clear hb hWw10
  obtain ⟨C0, C1, C2, C3, C4, _, _, _, _, _, Cl⟩ := HC.out
  obtain ⟨M0, M1, M2, M3, M4, _, _, _, _, _, Ml⟩ := HM.out
  go_wp2_with fail
  refine (same_true _ _ _ _).mono ?_
  rintro e w12 ⟨rfl, hb⟩
  clear C0 C1 C2 C3 C4 Cl M0 M1 M2 M3 M4 Ml
  have hWw12 : Below w.heap.size w w12 := bthen hWw11 hb
  have KP := HP.out.keep hb
  have KM := HM.out.keep hb
  have KN := HN.out.keep hb
  have KA := HA.out.keep hb
  have KB := HB.out.keep hb
  have KC := HC.out.keep hb
  clear HP HM HN HA HB HC
  have HP := hid KP
  have HM := hid KM
  have HN := hid KN
  have HA := hid KA
  have HB := hid KB
  have HC := hid KC
  clear KP KM KN KA KB KC
  clear hb hWw11
  clear HN HA HB HC
  go_wp2_with fail
  refine (numBits_any u hu _).mono ?_
  rintro e w13 ⟨rfl, hb⟩
  rw [HNB.out]
  have hWw13 : Below w.heap.size w w13 := bthen hWw12 hb
  clear hb
  go_wp2
  go_ret
  exact ⟨rfl, hWw13.alloc hWw13.size _⟩

set_option maxRecDepth 100000 in
set_option maxHeartbeats 8000000 in
theorem numZeros_pos (u : Nat) (hu : u < 18446744073709551616) (hf : Flt.fin u = true) (hs : u < 9223372036854775808) (w : World) (ht : w.cell? ⟨4, 15, none⟩ = some (.int .u8 4)) :
    Calls Tryd.prog 8 #[.int .u64 u] w fun e w' => e = .returned (.bool true) ∧ Below w.heap.size w w' := by
  have HNB := hid (numBits_fin hf)
  have HRU := hid (show rightB 2 0 u ⟨#[]⟩ 0 = true by simp [rightB, hf])
  have HD1 := hid (show fltR (floatBits .sub .f64 (realV 2 0 u) (realV 2 0 u)) = ⟨2, 0, 0, 0⟩ by rw [realV2, show floatBits .sub .f64 u u = some 0 from Flt.sub_self_fin hf]; rfl)
  have HD2 := hid (show fltR (floatBits .mul .f64 (realV 2 0 u) (realV 2 0 0)) = ⟨2, 0, 0, 0⟩ by rw [realV2, realV2, show floatBits .mul .f64 u 0 = some 0 from (mul_zero_bits hu hf false).trans (by simp; omega)]; rfl)
  have HD3 := hid (show fltR (floatBits .mul .f64 (realV 2 0 u) (realV 2 0 9223372036854775808)) = ⟨2, 0, 9223372036854775808, 0⟩ by rw [realV2, realV2, show floatBits .mul .f64 u 9223372036854775808 = some 9223372036854775808 from (mul_zero_bits hu hf true).trans (by simp; omega)]; rfl)
  have hsg : ((u : Int) / 9223372036854775808 == 1) = false := by rw [beq_eq_false_iff_ne]; omega
  have HSG := hid hsg
  clear hsg hs hf
  have hfb := f64frombits
  have hf64 := f64bits
  go_enter Tryd.func8, Tryd.ntmps8
  go_wp2_with fail
  refine (known_any _ ht).mono ?_
  rintro e w1 ⟨rfl, hWw1⟩
  clear ht
  go_wp2_with fail
  refine (f_any _ _).mono ?_
  rintro e w2 ⟨rfl, hb⟩
  have hWw2 : Below w.heap.size w w2 := bthen hWw1 hb
  clear hb hWw1
  go_wp2_with fail
  refine (f_any _ _).mono ?_
  rintro e w3 ⟨rfl, hb⟩
  obtain ⟨BP, hk, hWw3⟩ := boxStep hWw2 hb
  have HP := hid BP
  clear BP hk hb hWw2
  go_wp2_with fail
  have BP5 := HP.out.alloc (.cells #[.int .i64 2, .int .i64 0, .float .f64 9223372036854775808, .string ⟨#[]⟩, .slice none 0 0] 26)
  have BM5 := Box.new w3 26 (.int .i64 2) (.int .i64 0) (.float .f64 9223372036854775808) (.string ⟨#[]⟩) (.slice none 0 0)
  have hW5 : Below w.heap.size w (w3.alloc (.cells #[.int .i64 2, .int .i64 0, .float .f64 9223372036854775808, .string ⟨#[]⟩, .slice none 0 0] 26)) := hWw3.alloc hWw3.size _
  clear HP hWw3
  generalize w3.alloc (.cells #[.int .i64 2, .int .i64 0, .float .f64 9223372036854775808, .string ⟨#[]⟩, .slice none 0 0] 26) = W at *
  have kp0 := cell_regrown BP5.c0
  have kp1 := cell_regrown BP5.c1
  have kp2 := cell_regrown BP5.c2
  have kp3 := cell_regrown BP5.c3
  have kp4 := cell_regrown BP5.c4
  have km0 := cell_regrown BM5.c0
  have km1 := cell_regrown BM5.c1
  have km2 := cell_regrown BM5.c2
  have km3 := cell_regrown BM5.c3
  have km4 := cell_regrown BM5.c4
  have HBP := hid BP5
  have HBM := hid BM5
  clear BP5 BM5
  refine wp_region_quiet_below (by kernel_rfl) (by kernel_rfl) ?_
  iterate 2 (first | go_big_quiet_step (fail) | quiet_step (fail))
  first | go_big_quiet_step ((go_at_call 14; exact Calls.regrown_of (cmp_zz 0 9223372036854775808 (by decide) (by decide) _))) | quiet_step ((go_at_call 14; exact Calls.regrown_of (cmp_zz 0 9223372036854775808 (by decide) (by decide) _)))
  iterate 4 (first | go_big_quiet_step (fail) | quiet_step (fail))
  first | go_big_quiet_step ((go_at_call 15; exact Calls.regrown_of (same_pm _))) | quiet_step ((go_at_call 15; exact Calls.regrown_of (same_pm _)))
  iterate 3 (first | go_big_quiet_step (fail) | quiet_step (fail))
  first | go_big_quiet_step ((go_at_call 11; exact Calls.regrown_of (i_any _ _))) | quiet_step ((go_at_call 11; exact Calls.regrown_of (i_any _ _)))
  first | go_big_quiet_step ((go_at_call 14; exact Calls.regrown_of (cmp_zi 0 (by decide) _))) | quiet_step ((go_at_call 14; exact Calls.regrown_of (cmp_zi 0 (by decide) _)))
  iterate 4 (first | go_big_quiet_step (fail) | quiet_step (fail))
  first | go_big_quiet_step ((go_at_call 11; exact Calls.regrown_of (i_any _ _))) | quiet_step ((go_at_call 11; exact Calls.regrown_of (i_any _ _)))
  first | go_big_quiet_step ((go_at_call 14; exact Calls.regrown_of (cmp_zi 9223372036854775808 (by decide) _))) | quiet_step ((go_at_call 14; exact Calls.regrown_of (cmp_zi 9223372036854775808 (by decide) _)))
  repeat (first | go_big_quiet_step (fail) | quiet_step (fail))
  refine wpQuiet_nil ?_
  intro _ hw'
  obtain ⟨⟨dq, osq⟩, hw2⟩ := hw'
  subst hw2
  clear kp0 km0 kp1 km1 kp2 km2 kp3 km3 kp4 km4
  have hbq := below_regrown W dq osq
  have hWw4 := bthen hW5 hbq
  have KP := HBP.out.keep hbq
  have KM := HBM.out.keep hbq
  generalize grow (redrawn W dq) osq = w4 at *
  have HP := hid KP
  have HM := hid KM
  clear KP KM HBP HBM hbq hW5
  obtain ⟨P0, P1, P2, P3, P4, _, _, _, _, _, Pl⟩ := HP.out
  go_wp2_with fail
  refine (neg_f 0 (by decide) (by decide) _).mono ?_
  rintro e w5 ⟨rfl, hb⟩
  rw [nz_1]
  clear P0 P1 P2 P3 P4 Pl
  have hWw5 : Below w.heap.size w w5 := bthen hWw4 hb
  have KP := HP.out.keep hb
  have KM := HM.out.keep hb
  clear HP HM
  have HP := hid KP
  have HM := hid KM
  clear KP KM
  clear hb hWw4
  obtain ⟨M0, M1, M2, M3, M4, _, _, _, _, _, Ml⟩ := HM.out
  go_wp2_with fail
  refine (abs_minus _).mono ?_
  rintro e w6 ⟨rfl, hb⟩
  clear M0 M1 M2 M3 M4 Ml
  obtain ⟨BN, hk, hWw6⟩ := boxStep hWw5 hb
  have KP := HP.out.keep hk
  have KM := HM.out.keep hk
  clear HP HM
  have HP := hid KP
  have HM := hid KM
  clear KP KM
  have HN := hid BN
  clear BN hk hb hWw5
  obtain ⟨P0, P1, P2, P3, P4, _, _, _, _, _, Pl⟩ := HP.out
  obtain ⟨M0, M1, M2, M3, M4, _, _, _, _, _, Ml⟩ := HM.out
  go_wp2_with fail
  refine (op_fadd 2 2 0 0 0 9223372036854775808 ⟨#[]⟩ ⟨#[]⟩ none none 0 0 0 0 (by simp [rightB, Flt.fin]) (by simp [rightB, Flt.fin]) (by decide) (by decide) (by decide) _).mono ?_
  rintro e w7 ⟨rfl, hb⟩
  rw [nz_2]
  clear P0 P1 P2 P3 P4 Pl M0 M1 M2 M3 M4 Ml
  obtain ⟨BA, hk, hWw7⟩ := boxStep hWw6 hb
  have KP := HP.out.keep hk
  have KM := HM.out.keep hk
  have KN := HN.out.keep hk
  clear HP HM HN
  have HP := hid KP
  have HM := hid KM
  have HN := hid KN
  clear KP KM KN
  have HA := hid BA
  clear BA hk hb hWw6
  obtain ⟨M0, M1, M2, M3, M4, _, _, _, _, _, Ml⟩ := HM.out
  go_wp2_with fail
  refine (op_fadd 2 2 0 0 9223372036854775808 9223372036854775808 ⟨#[]⟩ ⟨#[]⟩ none none 0 0 0 0 (by simp [rightB, Flt.fin]) (by simp [rightB, Flt.fin]) (by decide) (by decide) (by decide) _).mono ?_
  rintro e w8 ⟨rfl, hb⟩
  rw [nz_3]
  clear M0 M1 M2 M3 M4 Ml
  obtain ⟨BB, hk, hWw8⟩ := boxStep hWw7 hb
  have KP := HP.out.keep hk
  have KM := HM.out.keep hk
  have KN := HN.out.keep hk
  have KA := HA.out.keep hk
  clear HP HM HN HA
  have HP := hid KP
  have HM := hid KM
  have HN := hid KN
  have HA := hid KA
  clear KP KM KN KA
  have HB := hid BB
  clear BB hk hb hWw7
  obtain ⟨N0, N1, N2, N3, N4, _, _, _, _, _, Nl⟩ := HN.out
  obtain ⟨M0, M1, M2, M3, M4, _, _, _, _, _, Ml⟩ := HM.out
  go_wp2_with fail
  refine (same_true _ _ _ _).mono ?_
  rintro e w9 ⟨rfl, hb⟩
  clear N0 N1 N2 N3 N4 Nl M0 M1 M2 M3 M4 Ml
  obtain ⟨BC, hk, hWw9⟩ := boxStep hWw8 hb
  have KP := HP.out.keep hk
  have KM := HM.out.keep hk
  have KN := HN.out.keep hk
  have KA := HA.out.keep hk
  have KB := HB.out.keep hk
  clear HP HM HN HA HB
  have HP := hid KP
  have HM := hid KM
  have HN := hid KN
  have HA := hid KA
  have HB := hid KB
  clear KP KM KN KA KB
  have HC := hid BC
  clear BC hk hb hWw8
  obtain ⟨A0, A1, A2, A3, A4, _, _, _, _, _, Al⟩ := HA.out
  obtain ⟨P0, P1, P2, P3, P4, _, _, _, _, _, Pl⟩ := HP.out
  go_wp2_with fail
  refine (same_true _ _ _ _).mono ?_
  rintro e w10 ⟨rfl, hb⟩
  clear A0 A1 A2 A3 A4 Al P0 P1 P2 P3 P4 Pl
  have hWw10 : Below w.heap.size w w10 := bthen hWw9 hb
  have KP := HP.out.keep hb
  have KM := HM.out.keep hb
  have KN := HN.out.keep hb
  have KA := HA.out.keep hb
  have KB := HB.out.keep hb
  have KC := HC.out.keep hb
  clear HP HM HN HA HB HC
  have HP := hid KP
  have HM := hid KM
  have HN := hid KN
  have HA := hid KA
  have HB := hid KB
  have HC := hid KC
  clear KP KM KN KA KB KC
  clear hb hWw9
  obtain ⟨B0, B1, B2, B3, B4, _, _, _, _, _, Bl⟩ := HB.out
  obtain ⟨P0, P1, P2, P3, P4, _, _, _, _, _, Pl⟩ := HP.out
  go_wp2_with fail
  refine (same_true _ _ _ _).mono ?_
  rintro e w11 ⟨rfl, hb⟩
  clear B0 B1 B2 B3 B4 Bl P0 P1 P2 P3 P4 Pl
  have hWw11 : Below w.heap.size w w11 := bthen hWw10 hb
  have KP := HP.out.keep hb
  have KM := HM.out.keep hb
  have KN := HN.out.keep hb
  have KA := HA.out.keep hb
  have KB := HB.out.keep hb
  have KC := HC.out.keep hb
  clear HP HM HN HA HB HC
  have HP := hid KP
  have HM := hid KM
  have HN := hid KN
  have HA := hid KA
  have HB := hid KB
  have HC := hid KC
  clear KP KM KN KA KB KC
  clear hb hWw10
  obtain ⟨C0, C1, C2, C3, C4, _, _, _, _, _, Cl⟩ := HC.out
  obtain ⟨M0, M1, M2, M3, M4, _, _, _, _, _, Ml⟩ := HM.out
  go_wp2_with fail
  refine (same_true _ _ _ _).mono ?_
  rintro e w12 ⟨rfl, hb⟩
  clear C0 C1 C2 C3 C4 Cl M0 M1 M2 M3 M4 Ml
  have hWw12 : Below w.heap.size w w12 := bthen hWw11 hb
  have KP := HP.out.keep hb
  have KM := HM.out.keep hb
  have KN := HN.out.keep hb
  have KA := HA.out.keep hb
  have KB := HB.out.keep hb
  have KC := HC.out.keep hb
  clear HP HM HN HA HB HC
  have HP := hid KP
  have HM := hid KM
  have HN := hid KN
  have HA := hid KA
  have HB := hid KB
  have HC := hid KC
  clear KP KM KN KA KB KC
  clear hb hWw11
  clear HN HA HB HC
  go_wp2_with fail
  refine (numBits_any u hu _).mono ?_
  rintro e w13 ⟨rfl, hb⟩
  rw [HNB.out]
  have hWw13 : Below w.heap.size w w13 := bthen hWw12 hb
  have KP := HP.out.keep hb
  have KM := HM.out.keep hb
  clear HP HM
  have HP := hid KP
  have HM := hid KM
  clear KP KM
  clear hb hWw12
  go_wp2_with fail
  refine (op_fsub 2 2 0 0 u u ⟨#[]⟩ ⟨#[]⟩ none none 0 0 0 0 HRU.out HRU.out hu hu (by decide) _).mono ?_
  rintro e w14 ⟨rfl, hb⟩
  rw [HD1.out]
  obtain ⟨BX, hk, hWw14⟩ := boxStep hWw13 hb
  have KP := HP.out.keep hk
  have KM := HM.out.keep hk
  clear HP HM
  have HP := hid KP
  have HM := hid KM
  clear KP KM
  have HX := hid BX
  clear BX hk hb hWw13
  obtain ⟨X0, X1, X2, X3, X4, _, _, _, _, _, Xl⟩ := HX.out
  obtain ⟨P0, P1, P2, P3, P4, _, _, _, _, _, Pl⟩ := HP.out
  go_wp2_with fail
  refine (op_fmul 2 2 0 0 u 0 ⟨#[]⟩ ⟨#[]⟩ none none 0 0 0 0 HRU.out (by simp [rightB, Flt.fin]) hu (by decide) (by decide) _).mono ?_
  rintro e w15 ⟨rfl, hb⟩
  rw [HD2.out]
  clear X0 X1 X2 X3 X4 Xl P0 P1 P2 P3 P4 Pl
  obtain ⟨BD, hk, hWw15⟩ := boxStep hWw14 hb
  have KP := HP.out.keep hk
  have KM := HM.out.keep hk
  have KX := HX.out.keep hk
  clear HP HM HX
  have HP := hid KP
  have HM := hid KM
  have HX := hid KX
  clear KP KM KX
  have HD := hid BD
  clear BD hk hb hWw14
  obtain ⟨X0, X1, X2, X3, X4, _, _, _, _, _, Xl⟩ := HX.out
  obtain ⟨M0, M1, M2, M3, M4, _, _, _, _, _, Ml⟩ := HM.out
  go_wp2_with fail
  refine (op_fmul 2 2 0 0 u 9223372036854775808 ⟨#[]⟩ ⟨#[]⟩ none none 0 0 0 0 HRU.out (by simp [rightB, Flt.fin]) hu (by decide) (by decide) _).mono ?_
  rintro e w16 ⟨rfl, hb⟩
  rw [HD3.out]
  clear X0 X1 X2 X3 X4 Xl M0 M1 M2 M3 M4 Ml
  obtain ⟨BR, hk, hWw16⟩ := boxStep hWw15 hb
  have KP := HP.out.keep hk
  have KM := HM.out.keep hk
  have KX := HX.out.keep hk
  have KD := HD.out.keep hk
  clear HP HM HX HD
  have HP := hid KP
  have HM := hid KM
  have HX := hid KX
  have HD := hid KD
  clear KP KM KX KD
  have HR := hid BR
  clear BR hk hb hWw15
  obtain ⟨X0, X1, X2, X3, X4, _, _, _, _, _, Xl⟩ := HX.out
  obtain ⟨P0, P1, P2, P3, P4, _, _, _, _, _, Pl⟩ := HP.out
  obtain ⟨M0, M1, M2, M3, M4, _, _, _, _, _, Ml⟩ := HM.out
  obtain ⟨D0, D1, D2, D3, D4, _, _, _, _, _, Dl⟩ := HD.out
  obtain ⟨_, Pb0, Pc0⟩ := cells_up P0
  obtain ⟨_, Pb1, Pc1⟩ := cells_up P1
  obtain ⟨_, Pb2, Pc2⟩ := cells_up P2
  obtain ⟨_, Pb3, Pc3⟩ := cells_up P3
  obtain ⟨_, Pb4, Pc4⟩ := cells_up P4
  obtain ⟨_, Mb0, Mc0⟩ := cells_up M0
  obtain ⟨_, Mb1, Mc1⟩ := cells_up M1
  obtain ⟨_, Mb2, Mc2⟩ := cells_up M2
  obtain ⟨_, Mb3, Mc3⟩ := cells_up M3
  obtain ⟨_, Mb4, Mc4⟩ := cells_up M4
  obtain ⟨_, Db0, Dc0⟩ := cells_up D0
  obtain ⟨_, Db1, Dc1⟩ := cells_up D1
  obtain ⟨_, Db2, Dc2⟩ := cells_up D2
  obtain ⟨_, Db3, Dc3⟩ := cells_up D3
  obtain ⟨_, Db4, Dc4⟩ := cells_up D4
  have hsg := HSG.out
  go_wp2_with fail
  refine (same_true _ _ _ _).mono ?_
  rintro e w17 ⟨rfl, hb⟩
  clear X0 X1 X2 X3 X4 Xl P0 P1 P2 P3 P4 Pl M0 M1 M2 M3 M4 Ml D0 D1 D2 D3 D4 Dl
  clear Pb0 Pc0 Pb1 Pc1 Pb2 Pc2 Pb3 Pc3 Pb4 Pc4 Mb0 Mc0 Mb1 Mc1 Mb2 Mc2 Mb3 Mc3 Mb4 Mc4 Db0 Dc0 Db1 Dc1 Db2 Dc2 Db3 Dc3 Db4 Dc4
  obtain ⟨BQ, BW, BO, hk, hWw17⟩ := box3n hWw16 hb
  have KR := HR.out.keep hk
  have HR2 := hid KR
  have HQ := hid BQ
  have HW := hid BW
  have HO := hid BO
  clear HR KR BQ BW BO hb hk HX HP HM HD hWw16
  obtain ⟨R0, R1, R2, R3, R4, _, _, _, _, _, Rl⟩ := HR2.out
  obtain ⟨W0, W1, W2, W3, W4, _, _, _, _, _, Wl⟩ := HW.out
  go_wp2_with fail
  refine (same_true _ _ _ _).mono ?_
  rintro e w18 ⟨rfl, hb⟩
  clear R0 R1 R2 R3 R4 Rl W0 W1 W2 W3 W4 Wl
  have hWw18 : Below w.heap.size w w18 := bthen hWw17 hb
  have KQ := HQ.out.keep hb
  have KO := HO.out.keep hb
  obtain ⟨Q0, Q1, Q2, Q3, Q4, _, _, _, _, _, Ql⟩ := KQ
  obtain ⟨O0, O1, O2, O3, O4, _, _, _, _, _, Ol⟩ := KO
  clear hb
  go_wp2_with fail
  refine (same_true _ _ _ _).mono ?_
  rintro e w19 ⟨rfl, hb⟩
  clear Q0 Q1 Q2 Q3 Q4 Ql O0 O1 O2 O3 O4 Ol
  have hWw19 : Below w.heap.size w w19 := bthen hWw18 hb
  go_wp2
  go_ret
  exact ⟨rfl, hWw19⟩

set_option maxRecDepth 100000 in
set_option maxHeartbeats 8000000 in
theorem numZeros_neg (u : Nat) (hu : u < 18446744073709551616) (hf : Flt.fin u = true) (hs : 9223372036854775808 ≤ u) (w : World) (ht : w.cell? ⟨4, 15, none⟩ = some (.int .u8 4)) :
    Calls Tryd.prog 8 #[.int .u64 u] w fun e w' => e = .returned (.bool true) ∧ Below w.heap.size w w' := by
  have HNB := hid (numBits_fin hf)
  have HRU := hid (show rightB 2 0 u ⟨#[]⟩ 0 = true by simp [rightB, hf])
  have HD1 := hid (show fltR (floatBits .sub .f64 (realV 2 0 u) (realV 2 0 u)) = ⟨2, 0, 0, 0⟩ by rw [realV2, show floatBits .sub .f64 u u = some 0 from Flt.sub_self_fin hf]; rfl)
  have HD2 := hid (show fltR (floatBits .mul .f64 (realV 2 0 u) (realV 2 0 0)) = ⟨2, 0, 9223372036854775808, 0⟩ by rw [realV2, realV2, show floatBits .mul .f64 u 0 = some 9223372036854775808 from (mul_zero_bits hu hf false).trans (by simp[hs])]; rfl)
  have HD3 := hid (show fltR (floatBits .mul .f64 (realV 2 0 u) (realV 2 0 9223372036854775808)) = ⟨2, 0, 0, 0⟩ by rw [realV2, realV2, show floatBits .mul .f64 u 9223372036854775808 = some 0 from (mul_zero_bits hu hf true).trans (by simp[hs])]; rfl)
  have hsg : ((u : Int) / 9223372036854775808 == 1) = true := by rw [beq_iff_eq]; omega
  have HSG := hid hsg
  clear hsg hs hf
  have hfb := f64frombits
  have hf64 := f64bits
  go_enter Tryd.func8, Tryd.ntmps8
  go_wp2_with fail
  refine (known_any _ ht).mono ?_
  rintro e w1 ⟨rfl, hWw1⟩
  clear ht
  go_wp2_with fail
  refine (f_any _ _).mono ?_
  rintro e w2 ⟨rfl, hb⟩
  have hWw2 : Below w.heap.size w w2 := bthen hWw1 hb
  clear hb hWw1
  go_wp2_with fail
  refine (f_any _ _).mono ?_
  rintro e w3 ⟨rfl, hb⟩
  obtain ⟨BP, hk, hWw3⟩ := boxStep hWw2 hb
  have HP := hid BP
  clear BP hk hb hWw2
  go_wp2_with fail
  have BP5 := HP.out.alloc (.cells #[.int .i64 2, .int .i64 0, .float .f64 9223372036854775808, .string ⟨#[]⟩, .slice none 0 0] 26)
  have BM5 := Box.new w3 26 (.int .i64 2) (.int .i64 0) (.float .f64 9223372036854775808) (.string ⟨#[]⟩) (.slice none 0 0)
  have hW5 : Below w.heap.size w (w3.alloc (.cells #[.int .i64 2, .int .i64 0, .float .f64 9223372036854775808, .string ⟨#[]⟩, .slice none 0 0] 26)) := hWw3.alloc hWw3.size _
  clear HP hWw3
  generalize w3.alloc (.cells #[.int .i64 2, .int .i64 0, .float .f64 9223372036854775808, .string ⟨#[]⟩, .slice none 0 0] 26) = W at *
  have kp0 := cell_regrown BP5.c0
  have kp1 := cell_regrown BP5.c1
  have kp2 := cell_regrown BP5.c2
  have kp3 := cell_regrown BP5.c3
  have kp4 := cell_regrown BP5.c4
  have km0 := cell_regrown BM5.c0
  have km1 := cell_regrown BM5.c1
  have km2 := cell_regrown BM5.c2
  have km3 := cell_regrown BM5.c3
  have km4 := cell_regrown BM5.c4
  have HBP := hid BP5
  have HBM := hid BM5
  clear BP5 BM5
  refine wp_region_quiet_below (by kernel_rfl) (by kernel_rfl) ?_
  iterate 2 (first | go_big_quiet_step (fail) | quiet_step (fail))
  first | go_big_quiet_step ((go_at_call 14; exact Calls.regrown_of (cmp_zz 0 9223372036854775808 (by decide) (by decide) _))) | quiet_step ((go_at_call 14; exact Calls.regrown_of (cmp_zz 0 9223372036854775808 (by decide) (by decide) _)))
  iterate 4 (first | go_big_quiet_step (fail) | quiet_step (fail))
  first | go_big_quiet_step ((go_at_call 15; exact Calls.regrown_of (same_pm _))) | quiet_step ((go_at_call 15; exact Calls.regrown_of (same_pm _)))
  iterate 3 (first | go_big_quiet_step (fail) | quiet_step (fail))
  first | go_big_quiet_step ((go_at_call 11; exact Calls.regrown_of (i_any _ _))) | quiet_step ((go_at_call 11; exact Calls.regrown_of (i_any _ _)))
  first | go_big_quiet_step ((go_at_call 14; exact Calls.regrown_of (cmp_zi 0 (by decide) _))) | quiet_step ((go_at_call 14; exact Calls.regrown_of (cmp_zi 0 (by decide) _)))
  iterate 4 (first | go_big_quiet_step (fail) | quiet_step (fail))
  first | go_big_quiet_step ((go_at_call 11; exact Calls.regrown_of (i_any _ _))) | quiet_step ((go_at_call 11; exact Calls.regrown_of (i_any _ _)))
  first | go_big_quiet_step ((go_at_call 14; exact Calls.regrown_of (cmp_zi 9223372036854775808 (by decide) _))) | quiet_step ((go_at_call 14; exact Calls.regrown_of (cmp_zi 9223372036854775808 (by decide) _)))
  repeat (first | go_big_quiet_step (fail) | quiet_step (fail))
  refine wpQuiet_nil ?_
  intro _ hw'
  obtain ⟨⟨dq, osq⟩, hw2⟩ := hw'
  subst hw2
  clear kp0 km0 kp1 km1 kp2 km2 kp3 km3 kp4 km4
  have hbq := below_regrown W dq osq
  have hWw4 := bthen hW5 hbq
  have KP := HBP.out.keep hbq
  have KM := HBM.out.keep hbq
  generalize grow (redrawn W dq) osq = w4 at *
  have HP := hid KP
  have HM := hid KM
  clear KP KM HBP HBM hbq hW5
  obtain ⟨P0, P1, P2, P3, P4, _, _, _, _, _, Pl⟩ := HP.out
  go_wp2_with fail
  refine (neg_f 0 (by decide) (by decide) _).mono ?_
  rintro e w5 ⟨rfl, hb⟩
  rw [nz_1]
  clear P0 P1 P2 P3 P4 Pl
  have hWw5 : Below w.heap.size w w5 := bthen hWw4 hb
  have KP := HP.out.keep hb
  have KM := HM.out.keep hb
  clear HP HM
  have HP := hid KP
  have HM := hid KM
  clear KP KM
  clear hb hWw4
  obtain ⟨M0, M1, M2, M3, M4, _, _, _, _, _, Ml⟩ := HM.out
  go_wp2_with fail
  refine (abs_minus _).mono ?_
  rintro e w6 ⟨rfl, hb⟩
  clear M0 M1 M2 M3 M4 Ml
  obtain ⟨BN, hk, hWw6⟩ := boxStep hWw5 hb
  have KP := HP.out.keep hk
  have KM := HM.out.keep hk
  clear HP HM
  have HP := hid KP
  have HM := hid KM
  clear KP KM
  have HN := hid BN
  clear BN hk hb hWw5
  obtain ⟨P0, P1, P2, P3, P4, _, _, _, _, _, Pl⟩ := HP.out
  obtain ⟨M0, M1, M2, M3, M4, _, _, _, _, _, Ml⟩ := HM.out
  go_wp2_with fail
  refine (op_fadd 2 2 0 0 0 9223372036854775808 ⟨#[]⟩ ⟨#[]⟩ none none 0 0 0 0 (by simp [rightB, Flt.fin]) (by simp [rightB, Flt.fin]) (by decide) (by decide) (by decide) _).mono ?_
  rintro e w7 ⟨rfl, hb⟩
  rw [nz_2]
  clear P0 P1 P2 P3 P4 Pl M0 M1 M2 M3 M4 Ml
  obtain ⟨BA, hk, hWw7⟩ := boxStep hWw6 hb
  have KP := HP.out.keep hk
  have KM := HM.out.keep hk
  have KN := HN.out.keep hk
  clear HP HM HN
  have HP := hid KP
  have HM := hid KM
  have HN := hid KN
  clear KP KM KN
  have HA := hid BA
  clear BA hk hb hWw6
  obtain ⟨M0, M1, M2, M3, M4, _, _, _, _, _, Ml⟩ := HM.out
  go_wp2_with fail
  refine (op_fadd 2 2 0 0 9223372036854775808 9223372036854775808 ⟨#[]⟩ ⟨#[]⟩ none none 0 0 0 0 (by simp [rightB, Flt.fin]) (by simp [rightB, Flt.fin]) (by decide) (by decide) (by decide) _).mono ?_
  rintro e w8 ⟨rfl, hb⟩
  rw [nz_3]
  clear M0 M1 M2 M3 M4 Ml
  obtain ⟨BB, hk, hWw8⟩ := boxStep hWw7 hb
  have KP := HP.out.keep hk
  have KM := HM.out.keep hk
  have KN := HN.out.keep hk
  have KA := HA.out.keep hk
  clear HP HM HN HA
  have HP := hid KP
  have HM := hid KM
  have HN := hid KN
  have HA := hid KA
  clear KP KM KN KA
  have HB := hid BB
  clear BB hk hb hWw7
  obtain ⟨N0, N1, N2, N3, N4, _, _, _, _, _, Nl⟩ := HN.out
  obtain ⟨M0, M1, M2, M3, M4, _, _, _, _, _, Ml⟩ := HM.out
  go_wp2_with fail
  refine (same_true _ _ _ _).mono ?_
  rintro e w9 ⟨rfl, hb⟩
  clear N0 N1 N2 N3 N4 Nl M0 M1 M2 M3 M4 Ml
  obtain ⟨BC, hk, hWw9⟩ := boxStep hWw8 hb
  have KP := HP.out.keep hk
  have KM := HM.out.keep hk
  have KN := HN.out.keep hk
  have KA := HA.out.keep hk
  have KB := HB.out.keep hk
  clear HP HM HN HA HB
  have HP := hid KP
  have HM := hid KM
  have HN := hid KN
  have HA := hid KA
  have HB := hid KB
  clear KP KM KN KA KB
  have HC := hid BC
  clear BC hk hb hWw8
  obtain ⟨A0, A1, A2, A3, A4, _, _, _, _, _, Al⟩ := HA.out
  obtain ⟨P0, P1, P2, P3, P4, _, _, _, _, _, Pl⟩ := HP.out
  go_wp2_with fail
  refine (same_true _ _ _ _).mono ?_
  rintro e w10 ⟨rfl, hb⟩
  clear A0 A1 A2 A3 A4 Al P0 P1 P2 P3 P4 Pl
  have hWw10 : Below w.heap.size w w10 := bthen hWw9 hb
  have KP := HP.out.keep hb
  have KM := HM.out.keep hb
  have KN := HN.out.keep hb
  have KA := HA.out.keep hb
  have KB := HB.out.keep hb
  have KC := HC.out.keep hb
  clear HP HM HN HA HB HC
  have HP := hid KP
  have HM := hid KM
  have HN := hid KN
  have HA := hid KA
  have HB := hid KB
  have HC := hid KC
  clear KP KM KN KA KB KC
  clear hb hWw9
  obtain ⟨B0, B1, B2, B3, B4, _, _, _, _, _, Bl⟩ := HB.out
  obtain ⟨P0, P1, P2, P3, P4, _, _, _, _, _, Pl⟩ := HP.out
  go_wp2_with fail
  refine (same_true _ _ _ _).mono ?_
  rintro e w11 ⟨rfl, hb⟩
  clear B0 B1 B2 B3 B4 Bl P0 P1 P2 P3 P4 Pl
  have hWw11 : Below w.heap.size w w11 := bthen hWw10 hb
  have KP := HP.out.keep hb
  have KM := HM.out.keep hb
  have KN := HN.out.keep hb
  have KA := HA.out.keep hb
  have KB := HB.out.keep hb
  have KC := HC.out.keep hb
  clear HP HM HN HA HB HC
  have HP := hid KP
  have HM := hid KM
  have HN := hid KN
  have HA := hid KA
  have HB := hid KB
  have HC := hid KC
  clear KP KM KN KA KB KC
  clear hb hWw10
  obtain ⟨C0, C1, C2, C3, C4, _, _, _, _, _, Cl⟩ := HC.out
  obtain ⟨M0, M1, M2, M3, M4, _, _, _, _, _, Ml⟩ := HM.out
  go_wp2_with fail
  refine (same_true _ _ _ _).mono ?_
  rintro e w12 ⟨rfl, hb⟩
  clear C0 C1 C2 C3 C4 Cl M0 M1 M2 M3 M4 Ml
  have hWw12 : Below w.heap.size w w12 := bthen hWw11 hb
  have KP := HP.out.keep hb
  have KM := HM.out.keep hb
  have KN := HN.out.keep hb
  have KA := HA.out.keep hb
  have KB := HB.out.keep hb
  have KC := HC.out.keep hb
  clear HP HM HN HA HB HC
  have HP := hid KP
  have HM := hid KM
  have HN := hid KN
  have HA := hid KA
  have HB := hid KB
  have HC := hid KC
  clear KP KM KN KA KB KC
  clear hb hWw11
  clear HN HA HB HC
  go_wp2_with fail
  refine (numBits_any u hu _).mono ?_
  rintro e w13 ⟨rfl, hb⟩
  rw [HNB.out]
  have hWw13 : Below w.heap.size w w13 := bthen hWw12 hb
  have KP := HP.out.keep hb
  have KM := HM.out.keep hb
  clear HP HM
  have HP := hid KP
  have HM := hid KM
  clear KP KM
  clear hb hWw12
  go_wp2_with fail
  refine (op_fsub 2 2 0 0 u u ⟨#[]⟩ ⟨#[]⟩ none none 0 0 0 0 HRU.out HRU.out hu hu (by decide) _).mono ?_
  rintro e w14 ⟨rfl, hb⟩
  rw [HD1.out]
  obtain ⟨BX, hk, hWw14⟩ := boxStep hWw13 hb
  have KP := HP.out.keep hk
  have KM := HM.out.keep hk
  clear HP HM
  have HP := hid KP
  have HM := hid KM
  clear KP KM
  have HX := hid BX
  clear BX hk hb hWw13
  obtain ⟨X0, X1, X2, X3, X4, _, _, _, _, _, Xl⟩ := HX.out
  obtain ⟨P0, P1, P2, P3, P4, _, _, _, _, _, Pl⟩ := HP.out
  go_wp2_with fail
  refine (op_fmul 2 2 0 0 u 0 ⟨#[]⟩ ⟨#[]⟩ none none 0 0 0 0 HRU.out (by simp [rightB, Flt.fin]) hu (by decide) (by decide) _).mono ?_
  rintro e w15 ⟨rfl, hb⟩
  rw [HD2.out]
  clear X0 X1 X2 X3 X4 Xl P0 P1 P2 P3 P4 Pl
  obtain ⟨BD, hk, hWw15⟩ := boxStep hWw14 hb
  have KP := HP.out.keep hk
  have KM := HM.out.keep hk
  have KX := HX.out.keep hk
  clear HP HM HX
  have HP := hid KP
  have HM := hid KM
  have HX := hid KX
  clear KP KM KX
  have HD := hid BD
  clear BD hk hb hWw14
  obtain ⟨X0, X1, X2, X3, X4, _, _, _, _, _, Xl⟩ := HX.out
  obtain ⟨M0, M1, M2, M3, M4, _, _, _, _, _, Ml⟩ := HM.out
  go_wp2_with fail
  refine (op_fmul 2 2 0 0 u 9223372036854775808 ⟨#[]⟩ ⟨#[]⟩ none none 0 0 0 0 HRU.out (by simp [rightB, Flt.fin]) hu (by decide) (by decide) _).mono ?_
  rintro e w16 ⟨rfl, hb⟩
  rw [HD3.out]
  clear X0 X1 X2 X3 X4 Xl M0 M1 M2 M3 M4 Ml
  obtain ⟨BR, hk, hWw16⟩ := boxStep hWw15 hb
  have KP := HP.out.keep hk
  have KM := HM.out.keep hk
  have KX := HX.out.keep hk
  have KD := HD.out.keep hk
  clear HP HM HX HD
  have HP := hid KP
  have HM := hid KM
  have HX := hid KX
  have HD := hid KD
  clear KP KM KX KD
  have HR := hid BR
  clear BR hk hb hWw15
  obtain ⟨X0, X1, X2, X3, X4, _, _, _, _, _, Xl⟩ := HX.out
  obtain ⟨P0, P1, P2, P3, P4, _, _, _, _, _, Pl⟩ := HP.out
  obtain ⟨M0, M1, M2, M3, M4, _, _, _, _, _, Ml⟩ := HM.out
  obtain ⟨D0, D1, D2, D3, D4, _, _, _, _, _, Dl⟩ := HD.out
  obtain ⟨_, Pb0, Pc0⟩ := cells_up P0
  obtain ⟨_, Pb1, Pc1⟩ := cells_up P1
  obtain ⟨_, Pb2, Pc2⟩ := cells_up P2
  obtain ⟨_, Pb3, Pc3⟩ := cells_up P3
  obtain ⟨_, Pb4, Pc4⟩ := cells_up P4
  obtain ⟨_, Mb0, Mc0⟩ := cells_up M0
  obtain ⟨_, Mb1, Mc1⟩ := cells_up M1
  obtain ⟨_, Mb2, Mc2⟩ := cells_up M2
  obtain ⟨_, Mb3, Mc3⟩ := cells_up M3
  obtain ⟨_, Mb4, Mc4⟩ := cells_up M4
  obtain ⟨_, Db0, Dc0⟩ := cells_up D0
  obtain ⟨_, Db1, Dc1⟩ := cells_up D1
  obtain ⟨_, Db2, Dc2⟩ := cells_up D2
  obtain ⟨_, Db3, Dc3⟩ := cells_up D3
  obtain ⟨_, Db4, Dc4⟩ := cells_up D4
  have hsg := HSG.out
  go_wp2_with fail
  refine (same_true _ _ _ _).mono ?_
  rintro e w17 ⟨rfl, hb⟩
  clear X0 X1 X2 X3 X4 Xl P0 P1 P2 P3 P4 Pl M0 M1 M2 M3 M4 Ml D0 D1 D2 D3 D4 Dl
  clear Pb0 Pc0 Pb1 Pc1 Pb2 Pc2 Pb3 Pc3 Pb4 Pc4 Mb0 Mc0 Mb1 Mc1 Mb2 Mc2 Mb3 Mc3 Mb4 Mc4 Db0 Dc0 Db1 Dc1 Db2 Dc2 Db3 Dc3 Db4 Dc4
  obtain ⟨BQ, BW, BO, hk, hWw17⟩ := box3n hWw16 hb
  have KR := HR.out.keep hk
  have HR2 := hid KR
  have HQ := hid BQ
  have HW := hid BW
  have HO := hid BO
  clear HR KR BQ BW BO hb hk HX HP HM HD hWw16
  obtain ⟨R0, R1, R2, R3, R4, _, _, _, _, _, Rl⟩ := HR2.out
  obtain ⟨W0, W1, W2, W3, W4, _, _, _, _, _, Wl⟩ := HW.out
  go_wp2_with fail
  refine (same_true _ _ _ _).mono ?_
  rintro e w18 ⟨rfl, hb⟩
  clear R0 R1 R2 R3 R4 Rl W0 W1 W2 W3 W4 Wl
  have hWw18 : Below w.heap.size w w18 := bthen hWw17 hb
  have KQ := HQ.out.keep hb
  have KO := HO.out.keep hb
  obtain ⟨Q0, Q1, Q2, Q3, Q4, _, _, _, _, _, Ql⟩ := KQ
  obtain ⟨O0, O1, O2, O3, O4, _, _, _, _, _, Ol⟩ := KO
  clear hb
  go_wp2_with fail
  refine (same_true _ _ _ _).mono ?_
  rintro e w19 ⟨rfl, hb⟩
  clear Q0 Q1 Q2 Q3 Q4 Ql O0 O1 O2 O3 O4 Ol
  have hWw19 : Below w.heap.size w w19 := bthen hWw18 hb
  go_wp2
  go_ret
  exact ⟨rfl, hWw19⟩

theorem numZeros_any (u : Nat) (hu : u < 18446744073709551616) (w : World) (ht : w.cell? ⟨4, 15, none⟩ = some (.int .u8 4)) :
    Calls Tryd.prog 8 #[.int .u64 u] w fun e w' => e = .returned (.bool true) ∧ Below w.heap.size w w' := by
  cases hf : Flt.fin u
  · exact numZeros_not u hu hf w ht
  · rcases Nat.lt_or_ge u 9223372036854775808 with hs | hs
    · exact numZeros_pos u hu hf hs w ht
    · exact numZeros_neg u hu hf hs w ht
end Go.Proofs.YtmmldghlellehabDoor
