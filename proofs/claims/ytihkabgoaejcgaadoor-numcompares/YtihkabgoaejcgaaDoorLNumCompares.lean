/- The walk of NumCompares: it returns true, and nothing that was there has turned. -/
import Derived.Test.YtihkabgoaejcgaaDoorC1
import Derived.Test.YtihkabgoaejcgaaDoorK1
import Derived.Deep.DrawnRows
namespace Go.Proofs.YtihkabgoaejcgaaDoor
open Go.RowKit Go.Sort
open Flt (ordI exactV)
attribute [local go_sem] store_float
attribute [local go_sem ↓] Go.wp_at_zero Go.wp_at_succ

theorem two_boxesC {w w1 : World} {t1 t2 : TypeId} {a0 a1 a2 a3 a4 b0 b1 b2 b3 b4 : Value}
    (hb : Below ((w.alloc (.cells #[a0, a1, a2, a3, a4] t1)).alloc (.cells #[b0, b1, b2, b3, b4] t2)).heap.size ((w.alloc (.cells #[a0, a1, a2, a3, a4] t1)).alloc (.cells #[b0, b1, b2, b3, b4] t2)) w1) :
    Box w1 w.heap.size a0 a1 a2 a3 a4 ∧ Box w1 (w.heap.size + 1) b0 b1 b2 b3 b4 ∧ Below w.heap.size w w1 := by
  have e1 : (w.alloc (.cells #[a0, a1, a2, a3, a4] t1)).heap.size = w.heap.size + 1 := by simp
  refine ⟨((Box.new w t1 a0 a1 a2 a3 a4).alloc _).keep hb, ?_, ((below_new w _).alloc (by simp) _).trans (hb.mono (by simp; omega))⟩
  rw [← e1]; exact (Box.new _ _ _ _ _ _ _).keep hb

theorem cell_twoC {w : World} {S j : Nat} {v : Value} (h : w.cell? ⟨S, j, none⟩ = some v) : ∀ o1 o2, ((w.alloc o1).alloc o2).cell? ⟨S, j, none⟩ = some v := by
  have k : ∀ (w : World) (o : Obj), w.cell? ⟨S, j, none⟩ = some v → (w.alloc o).cell? ⟨S, j, none⟩ = some v := fun w o h => by rw [(below_new w o).cell (block_lt_of_cell h)]; exact h
  exact fun o1 o2 => k _ _ (k _ _ h)

set_option maxRecDepth 100000 in
set_option maxHeartbeats 4000000 in
theorem comp_na (ka na : Int) (fa : Nat) (sa : ByteArray) (aa : Option Addr) (la ca : Nat) (kb nb : Int) (fb : Nat) (sb : ByteArray) (ab : Option Addr) (lb cb : Nat) (hra : rightB ka na fa sa la = false) (w : World) (ht : w.cell? ⟨4, 15, none⟩ = some (.int .u8 4)) :
    Calls Tryd.prog 7 #[.agg #[.int .i64 ka, .int .i64 na, .float .f64 fa, .string sa, .slice aa la ca], .agg #[.int .i64 kb, .int .i64 nb, .float .f64 fb, .string sb, .slice ab lb cb]] w fun e w' => e = .returned (.bool true) ∧ Below w.heap.size w w' := by
  have HRA := hidE hra
  clear hra
  have htl := cell_twoC ht
  go_enter Tryd.func7, Tryd.ntmps7
  go_wp2_with fail
  refine (known_any _ (htl _ _)).mono ?_
  rintro e w1 ⟨rfl, hb⟩
  obtain ⟨BA, BB, hW1⟩ := two_boxesC hb
  have HA := hidE BA
  have HB := hidE BB
  clear hb htl BA BB
  obtain ⟨A0, A1, A2, A3, A4, _, _, _, _, _, Al⟩ := HA.out
  go_wp2_with fail
  refine (refRight_any ka na fa sa aa la ca _).mono ?_
  rintro e w2 ⟨rfl, hb⟩
  rw [HRA.out]
  clear A0 A1 A2 A3 A4 Al
  have hW2 := bthen hW1 hb
  have KA := hidE (HA.out.keep hb)
  have KB := hidE (HB.out.keep hb)
  clear hb hW1 HA HB
  clear KA KB ht
  go_wp2
  go_ret
  exact ⟨rfl, hW2⟩

set_option maxRecDepth 100000 in
set_option maxHeartbeats 4000000 in
theorem comp_nb (ka na : Int) (fa : Nat) (sa : ByteArray) (aa : Option Addr) (la ca : Nat) (kb nb : Int) (fb : Nat) (sb : ByteArray) (ab : Option Addr) (lb cb : Nat) (hra : rightB ka na fa sa la = true) (hrb : rightB kb nb fb sb lb = false) (w : World) (ht : w.cell? ⟨4, 15, none⟩ = some (.int .u8 4)) :
    Calls Tryd.prog 7 #[.agg #[.int .i64 ka, .int .i64 na, .float .f64 fa, .string sa, .slice aa la ca], .agg #[.int .i64 kb, .int .i64 nb, .float .f64 fb, .string sb, .slice ab lb cb]] w fun e w' => e = .returned (.bool true) ∧ Below w.heap.size w w' := by
  have HRA := hidE hra
  have HRB := hidE hrb
  clear hra hrb
  have htl := cell_twoC ht
  go_enter Tryd.func7, Tryd.ntmps7
  go_wp2_with fail
  refine (known_any _ (htl _ _)).mono ?_
  rintro e w1 ⟨rfl, hb⟩
  obtain ⟨BA, BB, hW1⟩ := two_boxesC hb
  have HA := hidE BA
  have HB := hidE BB
  clear hb htl BA BB
  obtain ⟨A0, A1, A2, A3, A4, _, _, _, _, _, Al⟩ := HA.out
  go_wp2_with fail
  refine (refRight_any ka na fa sa aa la ca _).mono ?_
  rintro e w2 ⟨rfl, hb⟩
  rw [HRA.out]
  clear A0 A1 A2 A3 A4 Al
  have hW2 := bthen hW1 hb
  have KA := hidE (HA.out.keep hb)
  have KB := hidE (HB.out.keep hb)
  clear hb hW1 HA HB
  obtain ⟨B0, B1, B2, B3, B4, _, _, _, _, _, Bl⟩ := KB.out
  go_wp2_with fail
  refine (refRight_any kb nb fb sb ab lb cb _).mono ?_
  rintro e w3 ⟨rfl, hb⟩
  rw [HRB.out]
  clear B0 B1 B2 B3 B4 Bl
  have hW3 := bthen hW2 hb
  have HA := hidE (KA.out.keep hb)
  have HB := hidE (KB.out.keep hb)
  clear hb hW2 KA KB
  clear HA HB ht
  go_wp2
  go_ret
  exact ⟨rfl, hW3⟩

set_option maxRecDepth 100000 in
set_option maxHeartbeats 4000000 in
theorem comp_walk (ka na : Int) (fa : Nat) (sa : ByteArray) (aa : Option Addr) (la ca : Nat) (kb nb : Int) (fb : Nat) (sb : ByteArray) (ab : Option Addr) (lb cb : Nat) (hra : rightB ka na fa sa la = true) (hrb : rightB kb nb fb sb lb = true) (r : Int) (b : Bool) (S : ByteArray) (C1 : ∀ w, Calls Tryd.prog 33 #[.agg #[.int .i64 ka, .int .i64 na, .float .f64 fa, .string sa, .slice aa la ca], .agg #[.int .i64 kb, .int .i64 nb, .float .f64 fb, .string sb, .slice ab lb cb]] w fun e w' => e = .returned (.int .i64 r) ∧ Below w.heap.size w w') (C2 : ∀ w, Calls Tryd.prog 34 #[.agg #[.int .i64 ka, .int .i64 na, .float .f64 fa, .string sa, .slice aa la ca], .agg #[.int .i64 kb, .int .i64 nb, .float .f64 fb, .string sb, .slice ab lb cb]] w fun e w' => e = .returned (.int .i64 r) ∧ Below w.heap.size w w') (S1 : ∀ w, Calls Tryd.prog 35 #[.agg #[.int .i64 ka, .int .i64 na, .float .f64 fa, .string sa, .slice aa la ca], .agg #[.int .i64 kb, .int .i64 nb, .float .f64 fb, .string sb, .slice ab lb cb]] w fun e w' => e = .returned (.bool b) ∧ Below w.heap.size w w') (S2 : ∀ w, Calls Tryd.prog 36 #[.agg #[.int .i64 ka, .int .i64 na, .float .f64 fa, .string sa, .slice aa la ca], .agg #[.int .i64 kb, .int .i64 nb, .float .f64 fb, .string sb, .slice ab lb cb]] w fun e w' => e = .returned (.bool b) ∧ Below w.heap.size w w') (T1 : ∀ w, w.cell? ⟨4, 15, none⟩ = some (.int .u8 4) → Lib.TabIs Tryd.prog w "internal/strconv.uint64pow10" .u64 Lib.pow10Tab → Calls Tryd.prog 37 #[.agg #[.int .i64 ka, .int .i64 na, .float .f64 fa, .string sa, .slice aa la ca]] w fun e w' => e = .returned (.string S) ∧ Below w.heap.size w w') (T2 : ∀ w, Calls Tryd.prog 38 #[.agg #[.int .i64 ka, .int .i64 na, .float .f64 fa, .string sa, .slice aa la ca]] w fun e w' => e = .returned (.string S) ∧ Below w.heap.size w w') (w : World) (tab : Lib.TabIs Tryd.prog w "internal/strconv.uint64pow10" .u64 Lib.pow10Tab) (ht : w.cell? ⟨4, 15, none⟩ = some (.int .u8 4)) :
    Calls Tryd.prog 7 #[.agg #[.int .i64 ka, .int .i64 na, .float .f64 fa, .string sa, .slice aa la ca], .agg #[.int .i64 kb, .int .i64 nb, .float .f64 fb, .string sb, .slice ab lb cb]] w fun e w' => e = .returned (.bool true) ∧ Below w.heap.size w w' := by
  have HRA := hidE hra
  have HRB := hidE hrb
  have HC1 := hidE C1
  have HC2 := hidE C2
  have HS1 := hidE S1
  have HS2 := hidE S2
  have HT1 := hidE T1
  have HT2 := hidE T2
  have HP := hidE tab
  clear hra hrb C1 C2 S1 S2 T1 T2 tab
  have htl := cell_twoC ht
  go_enter Tryd.func7, Tryd.ntmps7
  go_wp2_with fail
  refine (known_any _ (htl _ _)).mono ?_
  rintro e w1 ⟨rfl, hb⟩
  obtain ⟨BA, BB, hW1⟩ := two_boxesC hb
  have HA := hidE BA
  have HB := hidE BB
  clear hb htl BA BB
  obtain ⟨A0, A1, A2, A3, A4, _, _, _, _, _, Al⟩ := HA.out
  go_wp2_with fail
  refine (refRight_any ka na fa sa aa la ca _).mono ?_
  rintro e w2 ⟨rfl, hb⟩
  rw [HRA.out]
  clear A0 A1 A2 A3 A4 Al
  have hW2 := bthen hW1 hb
  have KA := hidE (HA.out.keep hb)
  have KB := hidE (HB.out.keep hb)
  clear hb hW1 HA HB
  obtain ⟨B0, B1, B2, B3, B4, _, _, _, _, _, Bl⟩ := KB.out
  go_wp2_with fail
  refine (refRight_any kb nb fb sb ab lb cb _).mono ?_
  rintro e w3 ⟨rfl, hb⟩
  rw [HRB.out]
  clear B0 B1 B2 B3 B4 Bl
  have hW3 := bthen hW2 hb
  have HA := hidE (KA.out.keep hb)
  have HB := hidE (KB.out.keep hb)
  clear hb hW2 KA KB
  have ht3 := (hW3.cell (block_lt_of_cell ht)).trans ht
  have tb3 := tab_keep HP.out hW3
  have kt := cell_regrown ht3
  have kp := fun d os => tab_keep tb3 (below_regrown w3 d os)
  have KT := hidE kt
  have KP := hidE kp
  clear ht ht3 tb3 kt kp
  go_wp2_with fail
  have ka0 := cell_regrown HA.out.c0
  have ka1 := cell_regrown HA.out.c1
  have ka2 := cell_regrown HA.out.c2
  have ka3 := cell_regrown HA.out.c3
  have ka4 := cell_regrown HA.out.c4
  have kb0 := cell_regrown HB.out.c0
  have kb1 := cell_regrown HB.out.c1
  have kb2 := cell_regrown HB.out.c2
  have kb3 := cell_regrown HB.out.c3
  have kb4 := cell_regrown HB.out.c4
  clear HA HB
  refine wp_region_quiet_below (by kernel_rfl) (by kernel_rfl) ?_
  repeat (first
    | go_big_quiet_step (first | (go_at_call 33; exact Calls.regrown_of (HC1.out _)) | (go_at_call 34; exact Calls.regrown_of (HC2.out _)) | (go_at_call 35; exact Calls.regrown_of (HS1.out _)) | (go_at_call 36; exact Calls.regrown_of (HS2.out _)) | (go_at_call 38; exact Calls.regrown_of (HT2.out _)) | (go_at_call 37; exact Calls.regrown_of (HT1.out _ (KT.out _ _) (KP.out _ _))))
    | quiet_step (first | (go_at_call 33; exact Calls.regrown_of (HC1.out _)) | (go_at_call 34; exact Calls.regrown_of (HC2.out _)) | (go_at_call 35; exact Calls.regrown_of (HS1.out _)) | (go_at_call 36; exact Calls.regrown_of (HS2.out _)) | (go_at_call 38; exact Calls.regrown_of (HT2.out _)) | (go_at_call 37; exact Calls.regrown_of (HT1.out _ (KT.out _ _) (KP.out _ _)))))
  refine wpQuiet_nil ?_
  intro _ hw'
  obtain ⟨⟨dq, osq⟩, hw2⟩ := hw'
  subst hw2
  go_wp2
  go_ret
  exact ⟨rfl, bthen hW3 (below_regrown w3 dq osq)⟩

theorem numCompares_any (ka na : Int) (fa : Nat) (sa : ByteArray) (aa : Option Addr) (la ca : Nat) (kb nb : Int) (fb : Nat) (sb : ByteArray) (ab : Option Addr) (lb cb : Nat) (hfa : fa < 18446744073709551616) (hfb : fb < 18446744073709551616) (w : World) (tab : Lib.TabIs Tryd.prog w "internal/strconv.uint64pow10" .u64 Lib.pow10Tab) (ht : w.cell? ⟨4, 15, none⟩ = some (.int .u8 4)) :
    Calls Tryd.prog 7 #[.agg #[.int .i64 ka, .int .i64 na, .float .f64 fa, .string sa, .slice aa la ca], .agg #[.int .i64 kb, .int .i64 nb, .float .f64 fb, .string sb, .slice ab lb cb]] w fun e w' => e = .returned (.bool true) ∧ Below w.heap.size w w' := by
  cases hra : rightB ka na fa sa la
  · exact comp_na ka na fa sa aa la ca kb nb fb sb ab lb cb hra w ht
  cases hrb : rightB kb nb fb sb lb
  · exact comp_nb ka na fa sa aa la ca kb nb fb sb ab lb cb hra hrb w ht
  have C1 := cmp_any ka na kb nb fa fb sa sb aa ab la ca lb cb hfa hfb hra hrb
  have C2 := rcmp_any ka kb na nb fa fb sa sb aa ab la ca lb cb hfa hfb hra hrb
  have S1 := nsame_any ka na kb nb fa fb sa sb aa ab la ca lb cb hfa hfb hra hrb
  have S2 := rsame_any ka kb na nb fa fb sa sb aa ab la ca lb cb
  rcases right_kind hra with rfl | rfl
  · have hw := int_wide hra
    exact comp_walk 1 na fa sa aa la ca kb nb fb sb ab lb cb hra hrb _ _ _ C1 C2 S1 S2 (fun w _ tb => text_int na fa sa aa la ca hfa hra (by omega) (by omega) w tb) (rtext_int na fa sa aa la ca (by omega) (by omega)) w tab ht
  · exact comp_walk 2 na fa sa aa la ca kb nb fb sb ab lb cb hra hrb _ _ _ C1 C2 S1 S2 (fun w h _ => text_flt na fa sa aa la ca hfa hra w h) (rtext_flt na fa sa aa la ca hfa) w tab ht
end Go.Proofs.YtihkabgoaejcgaaDoor
