/- The document's Cmp and Same. -/
import Derived.Test.YtihkabgoaejcgaaDoorH3
import Derived.Test.YtihkabgoaejcgaaDoorV4
import Derived.Deep.DrawnRows
namespace Go.Proofs.YtihkabgoaejcgaaDoor
open Go.RowKit Go.Sort
open Flt (ordI exactV)
attribute [local go_sem] store_float
attribute [local go_sem ↓] Go.wp_at_zero Go.wp_at_succ

theorem two_newC {w : World} (o1 o2 : Obj) : Below w.heap.size w ((w.alloc o1).alloc o2) := (below_new w o1).alloc (by simp) o2

set_option maxHeartbeats 1000000 in
theorem rcmp_11l (na nb : Int) (fa fb : Nat) (sa sb : ByteArray) (aa ab : Option Addr) (la ca lb cb : Nat) (h : decide (na < nb) = true) (w : World) : Calls Tryd.prog 34 #[.agg #[.int .i64 1, .int .i64 na, .float .f64 fa, .string sa, .slice aa la ca], .agg #[.int .i64 1, .int .i64 nb, .float .f64 fb, .string sb, .slice ab lb cb]] w fun e w' => e = .returned (.int .i64 (-1)) ∧ Below w.heap.size w w' := by
  go_enter Tryd.func34, Tryd.ntmps34
  go_wp2
  go_ret
  exact ⟨rfl, by
    (repeat (first | refine Below.drew ?_ | refine below_drewN ?_ _))
    exact two_newC _ _⟩

set_option maxHeartbeats 1000000 in
theorem rcmp_11g (na nb : Int) (fa fb : Nat) (sa sb : ByteArray) (aa ab : Option Addr) (la ca lb cb : Nat) (h : decide (na < nb) = false) (h2 : decide (nb < na) = true) (w : World) : Calls Tryd.prog 34 #[.agg #[.int .i64 1, .int .i64 na, .float .f64 fa, .string sa, .slice aa la ca], .agg #[.int .i64 1, .int .i64 nb, .float .f64 fb, .string sb, .slice ab lb cb]] w fun e w' => e = .returned (.int .i64 1) ∧ Below w.heap.size w w' := by
  go_enter Tryd.func34, Tryd.ntmps34
  go_wp2
  go_ret
  exact ⟨rfl, by
    (repeat (first | refine Below.drew ?_ | refine below_drewN ?_ _))
    exact two_newC _ _⟩

set_option maxHeartbeats 1000000 in
theorem rcmp_11e (na nb : Int) (fa fb : Nat) (sa sb : ByteArray) (aa ab : Option Addr) (la ca lb cb : Nat) (h : decide (na < nb) = false) (h2 : decide (nb < na) = false) (w : World) : Calls Tryd.prog 34 #[.agg #[.int .i64 1, .int .i64 na, .float .f64 fa, .string sa, .slice aa la ca], .agg #[.int .i64 1, .int .i64 nb, .float .f64 fb, .string sb, .slice ab lb cb]] w fun e w' => e = .returned (.int .i64 0) ∧ Below w.heap.size w w' := by
  go_enter Tryd.func34, Tryd.ntmps34
  go_wp2
  go_ret
  exact ⟨rfl, by
    (repeat (first | refine Below.drew ?_ | refine below_drewN ?_ _))
    exact two_newC _ _⟩

set_option maxHeartbeats 1000000 in
theorem rcmp_22l (na nb : Int) (fa fb : Nat) (sa sb : ByteArray) (aa ab : Option Addr) (la ca lb cb : Nat) (h : FloatKind.f64.format.order fa fb = some .lt) (w : World) : Calls Tryd.prog 34 #[.agg #[.int .i64 2, .int .i64 na, .float .f64 fa, .string sa, .slice aa la ca], .agg #[.int .i64 2, .int .i64 nb, .float .f64 fb, .string sb, .slice ab lb cb]] w fun e w' => e = .returned (.int .i64 (-1)) ∧ Below w.heap.size w w' := by
  go_enter Tryd.func34, Tryd.ntmps34
  go_wp2
  go_ret
  exact ⟨rfl, by
    (repeat (first | refine Below.drew ?_ | refine below_drewN ?_ _))
    exact two_newC _ _⟩

set_option maxHeartbeats 1000000 in
theorem rcmp_22g (na nb : Int) (fa fb : Nat) (sa sb : ByteArray) (aa ab : Option Addr) (la ca lb cb : Nat) (h : FloatKind.f64.format.order fa fb = some .gt) (w : World) : Calls Tryd.prog 34 #[.agg #[.int .i64 2, .int .i64 na, .float .f64 fa, .string sa, .slice aa la ca], .agg #[.int .i64 2, .int .i64 nb, .float .f64 fb, .string sb, .slice ab lb cb]] w fun e w' => e = .returned (.int .i64 1) ∧ Below w.heap.size w w' := by
  go_enter Tryd.func34, Tryd.ntmps34
  go_wp2
  go_ret
  exact ⟨rfl, by
    (repeat (first | refine Below.drew ?_ | refine below_drewN ?_ _))
    exact two_newC _ _⟩

set_option maxHeartbeats 1000000 in
theorem rcmp_22e (na nb : Int) (fa fb : Nat) (sa sb : ByteArray) (aa ab : Option Addr) (la ca lb cb : Nat) (h : FloatKind.f64.format.order fa fb = some .eq) (w : World) : Calls Tryd.prog 34 #[.agg #[.int .i64 2, .int .i64 na, .float .f64 fa, .string sa, .slice aa la ca], .agg #[.int .i64 2, .int .i64 nb, .float .f64 fb, .string sb, .slice ab lb cb]] w fun e w' => e = .returned (.int .i64 0) ∧ Below w.heap.size w w' := by
  go_enter Tryd.func34, Tryd.ntmps34
  go_wp2
  go_ret
  exact ⟨rfl, by
    (repeat (first | refine Below.drew ?_ | refine below_drewN ?_ _))
    exact two_newC _ _⟩

set_option maxHeartbeats 1000000 in
theorem rcmp_21 (na nb : Int) (fa fb : Nat) (sa sb : ByteArray) (aa ab : Option Addr) (la ca lb cb : Nat) (r : Int) (ex : ∀ w, Calls Tryd.prog 31 #[.float .f64 fa, .int .i64 nb] w fun e w' => e = .returned (.int .i64 r) ∧ w' = w) (w : World) : Calls Tryd.prog 34 #[.agg #[.int .i64 2, .int .i64 na, .float .f64 fa, .string sa, .slice aa la ca], .agg #[.int .i64 1, .int .i64 nb, .float .f64 fb, .string sb, .slice ab lb cb]] w fun e w' => e = .returned (.int .i64 r) ∧ Below w.heap.size w w' := by
  have EX := hidE ex
  clear ex
  go_enter Tryd.func34, Tryd.ntmps34
  go_wp2_with (go_at_call 31; refine (EX.out _).mono ?_; rintro e w' ⟨rfl, rfl⟩)
  go_ret
  exact ⟨rfl, by
    (repeat (first | refine Below.drew ?_ | refine below_drewN ?_ _))
    exact two_newC _ _⟩

set_option maxHeartbeats 1000000 in
theorem rcmp_12 (na nb : Int) (fa fb : Nat) (sa sb : ByteArray) (aa ab : Option Addr) (la ca lb cb : Nat) (r : Int) (ex : ∀ w, Calls Tryd.prog 31 #[.float .f64 fb, .int .i64 na] w fun e w' => e = .returned (.int .i64 r) ∧ w' = w) (r1 : -1 ≤ r) (r2 : r ≤ 1) (w : World) : Calls Tryd.prog 34 #[.agg #[.int .i64 1, .int .i64 na, .float .f64 fa, .string sa, .slice aa la ca], .agg #[.int .i64 2, .int .i64 nb, .float .f64 fb, .string sb, .slice ab lb cb]] w fun e w' => e = .returned (.int .i64 (-r)) ∧ Below w.heap.size w w' := by
  have EX := hidE ex
  clear ex
  go_enter Tryd.func34, Tryd.ntmps34
  go_wp2_with (go_at_call 31; refine (EX.out _).mono ?_; rintro e w' ⟨rfl, rfl⟩)
  go_ret
  exact ⟨rfl, by
    (repeat (first | refine Below.drew ?_ | refine below_drewN ?_ _))
    exact two_newC _ _⟩

set_option maxHeartbeats 1000000 in
theorem rsame_any (ka kb : Int) (na nb : Int) (fa fb : Nat) (sa sb : ByteArray) (aa ab : Option Addr) (la ca lb cb : Nat) (w : World) : Calls Tryd.prog 36 #[.agg #[.int .i64 ka, .int .i64 na, .float .f64 fa, .string sa, .slice aa la ca], .agg #[.int .i64 kb, .int .i64 nb, .float .f64 fb, .string sb, .slice ab lb cb]] w fun e w' => e = .returned (.bool (ka == kb && (na == nb && (fa : Int) == (fb : Int)))) ∧ Below w.heap.size w w' := by
  have hb := f64bits
  go_enter Tryd.func36, Tryd.ntmps36
  go_wp2
  refine wp_region_quiet_lit (by kernel_rfl) (by kernel_rfl) ?_
  repeat (any_goals (first | go_big_quiet_step (fail) | quiet_step (fail) | (refine wpQuiet_step (fun K hK => ?_); go_simp; split <;> (refine hK _ ?_; clear hK K))))
  all_goals
    refine wpQuiet_nil ?_
    intro _ hw'
    obtain ⟨nq, hw''⟩ := hw'
    subst hw''
    go_wp2
    go_ret
    refine ⟨?_, below_drewN (((Below.refl _ _).alloc (Nat.le_refl _) _).alloc (by simp) _) nq⟩
    clear hb
    simp [*]

theorem rcmp_any (ka kb : Int) (na nb : Int) (fa fb : Nat) (sa sb : ByteArray) (aa ab : Option Addr) (la ca lb cb : Nat) (hfa : fa < 18446744073709551616) (hfb : fb < 18446744073709551616) (ha : rightB ka na fa sa la = true) (hb : rightB kb nb fb sb lb = true) (w : World) :
    Calls Tryd.prog 34 #[.agg #[.int .i64 ka, .int .i64 na, .float .f64 fa, .string sa, .slice aa la ca], .agg #[.int .i64 kb, .int .i64 nb, .float .f64 fb, .string sb, .slice ab lb cb]] w fun e w' => e = .returned (.int .i64 (ordI (compare (valU ka na fa) (valU kb nb fb)))) ∧ Below w.heap.size w w' := by
  rcases right_kind ha with rfl | rfl <;> rcases right_kind hb with rfl | rfl
  · rw [valU_1, valU_1, compare_P]
    rcases Int.lt_trichotomy na nb with h | h | h
    · rw [Int.compare_eq_lt.2 h]
      exact rcmp_11l na nb fa fb sa sb aa ab la ca lb cb (by simpa using h) w
    · rw [Int.compare_eq_eq.2 h]
      exact rcmp_11e na nb fa fb sa sb aa ab la ca lb cb (by simp; omega) (by simp; omega) w
    · rw [Int.compare_eq_gt.2 h]
      exact rcmp_11g na nb fa fb sa sb aa ab la ca lb cb (by simp; omega) (by simpa using h) w
  · have hw := int_wide ha
    rw [valU_1, valU_2, ← ord_neg]
    have hob : -1 ≤ ordI (compare (Flt.U fb) (na * Flt.P)) ∧ ordI (compare (Flt.U fb) (na * Flt.P)) ≤ 1 := by cases compare (Flt.U fb) (na * Flt.P) <;> decide
    exact rcmp_12 na nb fa fb sa sb aa ab la ca lb cb _ (refExact_val fb na hfb (flt_fin hb) (by omega) (by omega)) hob.1 hob.2 w
  · have hw := int_wide hb
    rw [valU_1, valU_2]
    exact rcmp_21 na nb fa fb sa sb aa ab la ca lb cb _ (refExact_val fa nb hfa (flt_fin ha) (by omega) (by omega)) w
  · rw [valU_2, valU_2]
    have o : FloatKind.f64.format.order fa fb = some (compare (Flt.U fa) (Flt.U fb)) := Flt.order_U hfa hfb (flt_fin ha) (flt_fin hb)
    cases hc : compare (Flt.U fa) (Flt.U fb) <;> rw [hc] at o
    · exact rcmp_22l na nb fa fb sa sb aa ab la ca lb cb o w
    · exact rcmp_22e na nb fa fb sa sb aa ab la ca lb cb o w
    · exact rcmp_22g na nb fa fb sa sb aa ab la ca lb cb o w
end Go.Proofs.YtihkabgoaejcgaaDoor
