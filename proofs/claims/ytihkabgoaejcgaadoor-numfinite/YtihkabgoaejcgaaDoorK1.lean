/- The statements' own examples: known tells true. -/
import Derived.Test.YtihkabgoaejcgaaDoorO3
import Derived.Test.YtihkabgoaejcgaaDoorT1
namespace Go.Proofs.YtihkabgoaejcgaaDoor
open Go.RowKit Go.Sort
attribute [local go_sem] store_float

theorem same_true (k n : Int) (f : Nat) (w : World) : Calls Tryd.prog 12 #[.agg #[.int .i64 (k), .int .i64 (n), .float .f64 (f), .string ⟨#[]⟩, .slice none 0 0], .agg #[.int .i64 (k), .int .i64 (n), .float .f64 (f), .string ⟨#[]⟩, .slice none 0 0]] w fun e w' => e = .returned (.bool true) ∧ Below w.heap.size w w' :=
  (same_any k n f ⟨#[]⟩ none 0 0 k n f ⟨#[]⟩ none 0 0 w).mono fun e w' h => by rw [sameB_self] at h; exact h

theorem known_1 : numInt (576460752303423487 + 1) = ⟨0, 0, 0, 12⟩ := by simp [numInt, whB]
theorem known_2 : fltR (floatBits .quo .f64 (realV 1 1 0) (realV 1 2 0)) = ⟨2, 0, 4602678819172646912, 0⟩ := by kernel_rfl
theorem known_3 : numBits 9223372036854775808 = ⟨2, 0, 9223372036854775808, 0⟩ := by simp [numBits, Flt.fin]
theorem known_4 : numBits 9218868437227405312 = ⟨0, 0, 0, 11⟩ := by simp [numBits, Flt.fin]
theorem known_5 : zB (realV 1 2 0) = false := by decide +kernel

/-- a box laid behind a call, kept behind the next one -/
theorem boxStep {w w3 w4 : World} {t : TypeId} {v0 v1 v2 v3 v4 : Value} (hW : Below w.heap.size w w3) (hb : Below (w3.alloc (.cells #[v0, v1, v2, v3, v4] t)).heap.size (w3.alloc (.cells #[v0, v1, v2, v3, v4] t)) w4) :
    Box w4 w3.heap.size v0 v1 v2 v3 v4 ∧ Below w3.heap.size w3 w4 ∧ Below w.heap.size w w4 :=
  ⟨(Box.new _ _ _ _ _ _ _).keep hb, (below_new _ _).trans (hb.mono (by simp)), (hW.alloc hW.size _).trans (hb.mono (by have := hW.size; simp; omega))⟩

set_option maxHeartbeats 2000000 in
theorem known_any (w : World) (ht : w.cell? ⟨4, 15, none⟩ = some (.int .u8 4)) :
    Calls Tryd.prog 9 #[] w fun e w' => e = .returned (.bool true) ∧ Below w.heap.size w w' := by
  have hfb := f64frombits
  go_enter Tryd.func9, Tryd.ntmps9
  go_wp2_with fail
  refine (i_any _ _).mono ?_
  rintro e w1 ⟨rfl, hb1⟩
  go_wp2_with fail
  refine (i_any _ _).mono ?_
  rintro e w2 ⟨rfl, hb2⟩
  have hW2 : Below w.heap.size w w2 := bthen hb1 hb2
  clear hb1 hb2
  go_wp2_with fail
  refine (op_wadd 576460752303423487 1 0 0 ⟨#[]⟩ ⟨#[]⟩ none none 0 0 0 0 (by simp [rightB, whB]) (by simp [rightB, whB]) (by decide) (by decide) (by simp [whB]) (by simp [whB]) _).mono ?_
  rintro e w3 ⟨rfl, hb3⟩
  have hW3 : Below w.heap.size w w3 := bthen hW2 hb3
  rw [known_1]
  clear hb3 hW2
  go_wp2_with fail
  refine (i_any _ _).mono ?_
  rintro e w4 ⟨rfl, hb4⟩
  obtain ⟨BA, _, hW4⟩ := boxStep hW3 hb4
  clear hb4 hW3
  go_wp2_with fail
  refine (i_any _ _).mono ?_
  rintro e w5 ⟨rfl, hb5⟩
  have BA5 := BA.keep hb5
  have hW5 : Below w.heap.size w w5 := bthen hW4 hb5
  clear hb5 hW4 BA
  go_wp2_with fail
  refine (op_quo 1 1 1 2 0 0 ⟨#[]⟩ ⟨#[]⟩ none none 0 0 0 0 (by simp [rightB, whB]) (by simp [rightB, whB]) (by decide) (by decide) known_5 _).mono ?_
  rintro e w6 ⟨rfl, hb6⟩
  have BA6 := BA5.keep hb6
  have hW6 : Below w.heap.size w w6 := bthen hW5 hb6
  rw [known_2]
  clear hb6 hW5 BA5
  go_wp2_with fail
  refine (numBits_any 9223372036854775808 (by decide) _).mono ?_
  rintro e w7 ⟨rfl, hb7⟩
  obtain ⟨BB, hk, hW7⟩ := boxStep hW6 hb7
  have BA7 := BA6.keep hk
  rw [known_3]
  clear hb7 hW6 BA6 hk
  go_wp2_with fail
  refine (numFloat_any 9218868437227405312 (by decide) _).mono ?_
  rintro e w8 ⟨rfl, hb8⟩
  obtain ⟨BC, hk, hW8⟩ := boxStep hW7 hb8
  have BA8 := BA7.keep hk
  have BB8 := BB.keep hk
  rw [known_4]
  clear hb8 hW7 BA7 BB hk
  go_wp2_with fail
  have BA9 := BA8.alloc (.cells #[.int .i64 0, .int .i64 0, .float .f64 0, .string ⟨#[]⟩, .slice none 0 0] 27)
  have BB9 := BB8.alloc (.cells #[.int .i64 0, .int .i64 0, .float .f64 0, .string ⟨#[]⟩, .slice none 0 0] 27)
  have BC9 := BC.alloc (.cells #[.int .i64 0, .int .i64 0, .float .f64 0, .string ⟨#[]⟩, .slice none 0 0] 27)
  have BD9 := Box.new w8 27 (.int .i64 0) (.int .i64 0) (.float .f64 0) (.string ⟨#[]⟩) (.slice none 0 0)
  have hW9 : Below w.heap.size w (w8.alloc (.cells #[.int .i64 0, .int .i64 0, .float .f64 0, .string ⟨#[]⟩, .slice none 0 0] 27)) := hW8.alloc hW8.size _
  have ht9 := (hW9.cell (block_lt_of_cell ht)).trans ht
  clear BA8 BB8 BC hW8 ht
  generalize w8.alloc (.cells #[.int .i64 0, .int .i64 0, .float .f64 0, .string ⟨#[]⟩, .slice none 0 0] 27) = W at *
  have kt := cell_regrown ht9
  have ka0 := cell_regrown BA9.c0
  have ka1 := cell_regrown BA9.c1
  have ka2 := cell_regrown BA9.c2
  have ka3 := cell_regrown BA9.c3
  have ka4 := cell_regrown BA9.c4
  have kb0 := cell_regrown BB9.c0
  have kb1 := cell_regrown BB9.c1
  have kb2 := cell_regrown BB9.c2
  have kb3 := cell_regrown BB9.c3
  have kb4 := cell_regrown BB9.c4
  have kc0 := cell_regrown BC9.c0
  have kc1 := cell_regrown BC9.c1
  have kc2 := cell_regrown BC9.c2
  have kc3 := cell_regrown BC9.c3
  have kc4 := cell_regrown BC9.c4
  have kd0 := cell_regrown BD9.c0
  have kd1 := cell_regrown BD9.c1
  have kd2 := cell_regrown BD9.c2
  have kd3 := cell_regrown BD9.c3
  have kd4 := cell_regrown BD9.c4
  clear BA9 BB9 BC9 BD9 ht9
  refine wp_region_quiet_below (by kernel_rfl) (by kernel_rfl) ?_
  repeat (first
    | go_big_quiet_step (first | (go_at_call 12; exact Calls.regrown_of (same_true _ _ _ _)) | (go_at_call 40; exact Calls.regrown_of (f_any _ _)) | (go_at_call 37; exact Calls.regrown_of (text_minus _ (kt _ _))))
    | quiet_step (first | (go_at_call 12; exact Calls.regrown_of (same_true _ _ _ _)) | (go_at_call 40; exact Calls.regrown_of (f_any _ _)) | (go_at_call 37; exact Calls.regrown_of (text_minus _ (kt _ _)))))
  refine wpQuiet_nil ?_
  intro _ hw'
  obtain ⟨⟨dq, osq⟩, hw2⟩ := hw'
  subst hw2
  go_wp2
  go_ret
  exact ⟨rfl, bthen hW9 (below_regrown W dq osq)⟩
end Go.Proofs.YtihkabgoaejcgaaDoor
