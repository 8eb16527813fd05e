import Derived.Test.YtgljglindgbjaaaGreatDoorG28
import Derived.Deep.DrawnRows
import Derived.Test.YtgljglindgbjaaaGreatDoorG04
import Derived.Test.YtgljglindgbjaaaGreatDoorG12
/- The document's Op walked: quotients. -/
namespace Go.Proofs.YtgljglindgbjaaaGreatDoor
open Go.RowKit
attribute [local go_sem] store_float
attribute [local go_sem ↓] Go.wp_at_zero Go.wp_at_succ

set_option maxHeartbeats 2000000 in
theorem rop_quo_na (ka : Int) (kb : Int) (na nb : Int) (fa fb : Nat) (sa sb : ByteArray) (aa ab : Option Addr) (la ca lb cb : Nat) (ha : rightB ka na fa sa la = false) (w : World) :
    Calls Tryz.prog 20 #[.string ⟨#[47]⟩, .agg #[.int .i64 ka, .int .i64 na, .float .f64 fa, .string sa, .slice aa la ca], .agg #[.int .i64 kb, .int .i64 nb, .float .f64 fb, .string sb, .slice ab lb cb]] w fun e w' => e = .returned (.tuple #[.agg #[.int .i64 (0), .int .i64 (0), .float .f64 (0), .string ⟨#[]⟩, .slice none 0 0], .int .i64 11]) ∧ Below w.heap.size w w' := by
  have HA := hid ha
  clear ha
  go_enter Tryz.func20, Tryz.ntmps20
  go_wp2_with fail
  refine (refRight_any ka na fa sa aa la ca _).mono ?_
  rintro e w1 ⟨rfl, hb1⟩
  rw [HA.out]
  obtain ⟨BA, BB, RB, hW1⟩ := afterABC hb1
  have XA := hid BA
  have XB := hid BB
  have XR := hid RB
  clear hb1 BA BB RB
  obtain ⟨d0, d1, d2, d3, d4, g0, g1, g2, g3, g4, ltr⟩ := XR.out
  go_wp2
  exact bodyPost_ret (v := .tuple #[.agg #[.int .i64 (0), .int .i64 (0), .float .f64 (0), .string ⟨#[]⟩, .slice none 0 0], .int .i64 11]) (by simp [results, Tryz.results20, go_sem, d0, d1, d2, d3, d4]) rfl ⟨rfl, below_set5 hW1 (by omega) _ _ _ _ _⟩

set_option maxHeartbeats 2000000 in
theorem rop_quo_nb (ka : Int) (kb : Int) (na nb : Int) (fa fb : Nat) (sa sb : ByteArray) (aa ab : Option Addr) (la ca lb cb : Nat) (ha : rightB ka na fa sa la = true) (hb : rightB kb nb fb sb lb = false) (w : World) :
    Calls Tryz.prog 20 #[.string ⟨#[47]⟩, .agg #[.int .i64 ka, .int .i64 na, .float .f64 fa, .string sa, .slice aa la ca], .agg #[.int .i64 kb, .int .i64 nb, .float .f64 fb, .string sb, .slice ab lb cb]] w fun e w' => e = .returned (.tuple #[.agg #[.int .i64 (0), .int .i64 (0), .float .f64 (0), .string ⟨#[]⟩, .slice none 0 0], .int .i64 11]) ∧ Below w.heap.size w w' := by
  have HA := hid ha
  clear ha
  have HB := hid hb
  clear hb
  go_enter Tryz.func20, Tryz.ntmps20
  go_wp2_with fail
  refine (refRight_any ka na fa sa aa la ca _).mono ?_
  rintro e w1 ⟨rfl, hb1⟩
  rw [HA.out]
  obtain ⟨BA, BB, RB, hW1⟩ := afterABC hb1
  have XA := hid BA
  have XB := hid BB
  have XR := hid RB
  clear hb1 BA BB RB
  obtain ⟨b0, b1, b2, b3, b4, _, _, _, _, _, bl⟩ := XB.out
  go_wp2_with fail
  refine (refRight_any kb nb fb sb ab lb cb _).mono ?_
  rintro e w2 ⟨rfl, hb⟩
  rw [HB.out]
  clear b0 b1 b2 b3 b4 bl
  have K := hid (XA.out.keep hb)
  clear XA
  have XA := K
  clear K
  have K := hid (XB.out.keep hb)
  clear XB
  have XB := K
  clear K
  have K := hid (XR.out.keep hb)
  clear XR
  have XR := K
  clear K
  have hW2 := bthen hW1 hb
  clear hb hW1
  obtain ⟨d0, d1, d2, d3, d4, g0, g1, g2, g3, g4, ltr⟩ := XR.out
  go_wp2
  exact bodyPost_ret (v := .tuple #[.agg #[.int .i64 (0), .int .i64 (0), .float .f64 (0), .string ⟨#[]⟩, .slice none 0 0], .int .i64 11]) (by simp [results, Tryz.results20, go_sem, d0, d1, d2, d3, d4]) rfl ⟨rfl, below_set5 hW2 (by omega) _ _ _ _ _⟩

set_option maxHeartbeats 2000000 in
theorem rop_quo_zero11 (na nb : Int) (fa fb : Nat) (sa sb : ByteArray) (aa ab : Option Addr) (la ca lb cb : Nat) (ha : rightB 1 na fa sa la = true) (hb : rightB 1 nb fb sb lb = true) (p1 : -9223372036854775808 ≤ na) (p2 : na ≤ 9223372036854775807) (q1 : -9223372036854775808 ≤ nb) (q2 : nb ≤ 9223372036854775807) (x y : Nat) (hx : (floatOfInt .f64 na) = x) (hy : (floatOfInt .f64 nb) = y) (oz : FloatKind.f64.format.order y 0 = some .eq) (w : World) :
    Calls Tryz.prog 20 #[.string ⟨#[47]⟩, .agg #[.int .i64 1, .int .i64 na, .float .f64 fa, .string sa, .slice aa la ca], .agg #[.int .i64 1, .int .i64 nb, .float .f64 fb, .string sb, .slice ab lb cb]] w fun e w' => e = .returned (.tuple #[.agg #[.int .i64 (0), .int .i64 (0), .float .f64 (0), .string ⟨#[]⟩, .slice none 0 0], .int .i64 11]) ∧ Below w.heap.size w w' := by
  have HA := hid ha
  clear ha
  have HB := hid hb
  clear hb
  have HX := hid hx
  have HY := hid hy
  clear hx hy
  go_enter Tryz.func20, Tryz.ntmps20
  go_wp2_with fail
  refine (refRight_any 1 na fa sa aa la ca _).mono ?_
  rintro e w1 ⟨rfl, hb1⟩
  rw [HA.out]
  obtain ⟨BA, BB, RB, hW1⟩ := afterABC hb1
  have XA := hid BA
  have XB := hid BB
  have XR := hid RB
  clear hb1 BA BB RB
  obtain ⟨b0, b1, b2, b3, b4, _, _, _, _, _, bl⟩ := XB.out
  go_wp2_with fail
  refine (refRight_any 1 nb fb sb ab lb cb _).mono ?_
  rintro e w2 ⟨rfl, hb⟩
  rw [HB.out]
  clear b0 b1 b2 b3 b4 bl
  have K := hid (XA.out.keep hb)
  clear XA
  have XA := K
  clear K
  have K := hid (XB.out.keep hb)
  clear XB
  have XB := K
  clear K
  have K := hid (XR.out.keep hb)
  clear XR
  have XR := K
  clear K
  have hW2 := bthen hW1 hb
  clear hb hW1
  obtain ⟨a0, a1, a2, a3, a4, _, _, _, _, _, al⟩ := XA.out
  obtain ⟨b0, b1, b2, b3, b4, _, _, _, _, _, bl⟩ := XB.out
  go_wp2_with fail
  refine (rreal1 na fa sa aa la ca p1 p2 _).mono ?_
  rintro e w3 ⟨rfl, hb⟩
  rw [HX.out]
  clear a0 a1 a2 a3 a4 al
  clear b0 b1 b2 b3 b4 bl
  have K := hid (XA.out.keep hb)
  clear XA
  have XA := K
  clear K
  have K := hid (XB.out.keep hb)
  clear XB
  have XB := K
  clear K
  have K := hid (XR.out.keep hb)
  clear XR
  have XR := K
  clear K
  have hW3 := bthen hW2 hb
  clear hb hW2
  obtain ⟨b0, b1, b2, b3, b4, _, _, _, _, _, bl⟩ := XB.out
  go_wp2_with fail
  refine (rreal1 nb fb sb ab lb cb q1 q2 _).mono ?_
  rintro e w4 ⟨rfl, hb⟩
  rw [HY.out]
  clear b0 b1 b2 b3 b4 bl
  have K := hid (XA.out.keep hb)
  clear XA
  have XA := K
  clear K
  have K := hid (XB.out.keep hb)
  clear XB
  have XB := K
  clear K
  have K := hid (XR.out.keep hb)
  clear XR
  have XR := K
  clear K
  have hW4 := bthen hW3 hb
  clear hb hW3
  obtain ⟨d0, d1, d2, d3, d4, g0, g1, g2, g3, g4, ltr⟩ := XR.out
  go_wp2
  exact bodyPost_ret (v := .tuple #[.agg #[.int .i64 (0), .int .i64 (0), .float .f64 (0), .string ⟨#[]⟩, .slice none 0 0], .int .i64 11]) (by simp [results, Tryz.results20, go_sem, d0, d1, d2, d3, d4]) rfl ⟨rfl, below_set5 hW4 (by omega) _ _ _ _ _⟩

set_option maxHeartbeats 2000000 in
theorem rop_quo_some11 (na nb : Int) (fa fb : Nat) (sa sb : ByteArray) (aa ab : Option Addr) (la ca lb cb : Nat) (ha : rightB 1 na fa sa la = true) (hb : rightB 1 nb fb sb lb = true) (p1 : -9223372036854775808 ≤ na) (p2 : na ≤ 9223372036854775807) (q1 : -9223372036854775808 ≤ nb) (q2 : nb ≤ 9223372036854775807) (x y : Nat) (hx : (floatOfInt .f64 na) = x) (hy : (floatOfInt .f64 nb) = y) (oz : FloatKind.f64.format.order y 0 = some .lt ∨ FloatKind.f64.format.order y 0 = some .gt) (r : Nat) (hr : floatBits .quo .f64 x y = some r) (w : World) :
    Calls Tryz.prog 20 #[.string ⟨#[47]⟩, .agg #[.int .i64 1, .int .i64 na, .float .f64 fa, .string sa, .slice aa la ca], .agg #[.int .i64 1, .int .i64 nb, .float .f64 fb, .string sb, .slice ab lb cb]] w fun e w' => e = .returned (.tuple #[.agg #[.int .i64 ((numBits r).k), .int .i64 ((numBits r).n), .float .f64 ((numBits r).f), .string ⟨#[]⟩, .slice none 0 0], .int .i64 (numBits r).e]) ∧ Below w.heap.size w w' := by
  have HA := hid ha
  clear ha
  have HB := hid hb
  clear hb
  have hz : ∀ t (w : World), (binOp .quo t (.float .f64 x) (.float .f64 y)).run Tryz.prog w = .ok (.float .f64 r) w := fun t w => run_float_arith w .quo t .f64 _ _ _ hr
  clear hr
  have HX := hid hx
  have HY := hid hy
  clear hx hy
  go_enter Tryz.func20, Tryz.ntmps20
  go_wp2_with fail
  refine (refRight_any 1 na fa sa aa la ca _).mono ?_
  rintro e w1 ⟨rfl, hb1⟩
  rw [HA.out]
  obtain ⟨BA, BB, RB, hW1⟩ := afterABC hb1
  have XA := hid BA
  have XB := hid BB
  have XR := hid RB
  clear hb1 BA BB RB
  obtain ⟨b0, b1, b2, b3, b4, _, _, _, _, _, bl⟩ := XB.out
  go_wp2_with fail
  refine (refRight_any 1 nb fb sb ab lb cb _).mono ?_
  rintro e w2 ⟨rfl, hb⟩
  rw [HB.out]
  clear b0 b1 b2 b3 b4 bl
  have K := hid (XA.out.keep hb)
  clear XA
  have XA := K
  clear K
  have K := hid (XB.out.keep hb)
  clear XB
  have XB := K
  clear K
  have K := hid (XR.out.keep hb)
  clear XR
  have XR := K
  clear K
  have hW2 := bthen hW1 hb
  clear hb hW1
  obtain ⟨a0, a1, a2, a3, a4, _, _, _, _, _, al⟩ := XA.out
  obtain ⟨b0, b1, b2, b3, b4, _, _, _, _, _, bl⟩ := XB.out
  go_wp2_with fail
  refine (rreal1 na fa sa aa la ca p1 p2 _).mono ?_
  rintro e w3 ⟨rfl, hb⟩
  rw [HX.out]
  clear a0 a1 a2 a3 a4 al
  clear b0 b1 b2 b3 b4 bl
  have K := hid (XA.out.keep hb)
  clear XA
  have XA := K
  clear K
  have K := hid (XB.out.keep hb)
  clear XB
  have XB := K
  clear K
  have K := hid (XR.out.keep hb)
  clear XR
  have XR := K
  clear K
  have hW3 := bthen hW2 hb
  clear hb hW2
  obtain ⟨b0, b1, b2, b3, b4, _, _, _, _, _, bl⟩ := XB.out
  go_wp2_with fail
  refine (rreal1 nb fb sb ab lb cb q1 q2 _).mono ?_
  rintro e w4 ⟨rfl, hb⟩
  rw [HY.out]
  clear b0 b1 b2 b3 b4 bl
  have K := hid (XA.out.keep hb)
  clear XA
  have XA := K
  clear K
  have K := hid (XB.out.keep hb)
  clear XB
  have XB := K
  clear K
  have K := hid (XR.out.keep hb)
  clear XR
  have XR := K
  clear K
  have hW4 := bthen hW3 hb
  clear hb hW3
  rcases oz with oz | oz
  all_goals
    go_wp2_with fail
    refine (refFloat_any _ _).mono ?_
    rintro e w5 ⟨rfl, hb⟩
    have K := hid (XA.out.keep hb)
    clear XA
    have XA := K
    clear K
    have K := hid (XB.out.keep hb)
    clear XB
    have XB := K
    clear K
    have K := hid (XR.out.keep hb)
    clear XR
    have XR := K
    clear K
    have hW5 := bthen hW4 hb
    clear hb
    obtain ⟨d0, d1, d2, d3, d4, g0, g1, g2, g3, g4, ltr⟩ := XR.out
    go_wp2
    exact bodyPost_ret (v := .tuple #[.agg #[.int .i64 ((numBits r).k), .int .i64 ((numBits r).n), .float .f64 ((numBits r).f), .string ⟨#[]⟩, .slice none 0 0], .int .i64 (numBits r).e]) (by simp [results, Tryz.results20, go_sem, d0, d1, d2, d3, d4]) rfl ⟨rfl, below_set5 hW5 (by omega) _ _ _ _ _⟩

set_option maxHeartbeats 2000000 in
theorem rop_quo_none11 (na nb : Int) (fa fb : Nat) (sa sb : ByteArray) (aa ab : Option Addr) (la ca lb cb : Nat) (ha : rightB 1 na fa sa la = true) (hb : rightB 1 nb fb sb lb = true) (p1 : -9223372036854775808 ≤ na) (p2 : na ≤ 9223372036854775807) (q1 : -9223372036854775808 ≤ nb) (q2 : nb ≤ 9223372036854775807) (x y : Nat) (hx : (floatOfInt .f64 na) = x) (hy : (floatOfInt .f64 nb) = y) (oz : FloatKind.f64.format.order y 0 = some .lt ∨ FloatKind.f64.format.order y 0 = some .gt) (hr : floatBits .quo .f64 x y = none) (w : World) :
    Calls Tryz.prog 20 #[.string ⟨#[47]⟩, .agg #[.int .i64 1, .int .i64 na, .float .f64 fa, .string sa, .slice aa la ca], .agg #[.int .i64 1, .int .i64 nb, .float .f64 fb, .string sb, .slice ab lb cb]] w fun e w' => e = .returned (.tuple #[.agg #[.int .i64 (0), .int .i64 (0), .float .f64 (0), .string ⟨#[]⟩, .slice none 0 0], .int .i64 11]) ∧ Below w.heap.size w w' := by
  have HA := hid ha
  clear ha
  have HB := hid hb
  clear hb
  have hz := fun t w => flt_nan .quo t x y hr (by simp) w
  clear hr
  have HX := hid hx
  have HY := hid hy
  clear hx hy
  go_enter Tryz.func20, Tryz.ntmps20
  go_wp2_with fail
  refine (refRight_any 1 na fa sa aa la ca _).mono ?_
  rintro e w1 ⟨rfl, hb1⟩
  rw [HA.out]
  obtain ⟨BA, BB, RB, hW1⟩ := afterABC hb1
  have XA := hid BA
  have XB := hid BB
  have XR := hid RB
  clear hb1 BA BB RB
  obtain ⟨b0, b1, b2, b3, b4, _, _, _, _, _, bl⟩ := XB.out
  go_wp2_with fail
  refine (refRight_any 1 nb fb sb ab lb cb _).mono ?_
  rintro e w2 ⟨rfl, hb⟩
  rw [HB.out]
  clear b0 b1 b2 b3 b4 bl
  have K := hid (XA.out.keep hb)
  clear XA
  have XA := K
  clear K
  have K := hid (XB.out.keep hb)
  clear XB
  have XB := K
  clear K
  have K := hid (XR.out.keep hb)
  clear XR
  have XR := K
  clear K
  have hW2 := bthen hW1 hb
  clear hb hW1
  obtain ⟨a0, a1, a2, a3, a4, _, _, _, _, _, al⟩ := XA.out
  obtain ⟨b0, b1, b2, b3, b4, _, _, _, _, _, bl⟩ := XB.out
  go_wp2_with fail
  refine (rreal1 na fa sa aa la ca p1 p2 _).mono ?_
  rintro e w3 ⟨rfl, hb⟩
  rw [HX.out]
  clear a0 a1 a2 a3 a4 al
  clear b0 b1 b2 b3 b4 bl
  have K := hid (XA.out.keep hb)
  clear XA
  have XA := K
  clear K
  have K := hid (XB.out.keep hb)
  clear XB
  have XB := K
  clear K
  have K := hid (XR.out.keep hb)
  clear XR
  have XR := K
  clear K
  have hW3 := bthen hW2 hb
  clear hb hW2
  obtain ⟨b0, b1, b2, b3, b4, _, _, _, _, _, bl⟩ := XB.out
  go_wp2_with fail
  refine (rreal1 nb fb sb ab lb cb q1 q2 _).mono ?_
  rintro e w4 ⟨rfl, hb⟩
  rw [HY.out]
  clear b0 b1 b2 b3 b4 bl
  have K := hid (XA.out.keep hb)
  clear XA
  have XA := K
  clear K
  have K := hid (XB.out.keep hb)
  clear XB
  have XB := K
  clear K
  have K := hid (XR.out.keep hb)
  clear XR
  have XR := K
  clear K
  have hW4 := bthen hW3 hb
  clear hb hW3
  rcases oz with oz | oz
  all_goals
    go_wp2_with fail
    refine (refFloat_any _ _).mono ?_
    rintro e w5 ⟨rfl, hb0⟩
    rw [numBits_nan]
    have hb := drew_then hb0
    have K := hid (XA.out.keep hb)
    clear XA
    have XA := K
    clear K
    have K := hid (XB.out.keep hb)
    clear XB
    have XB := K
    clear K
    have K := hid (XR.out.keep hb)
    clear XR
    have XR := K
    clear K
    have hW5 := bthen hW4 hb
    clear hb hb0
    obtain ⟨d0, d1, d2, d3, d4, g0, g1, g2, g3, g4, ltr⟩ := XR.out
    go_wp2
    exact bodyPost_ret (v := .tuple #[.agg #[.int .i64 (0), .int .i64 (0), .float .f64 (0), .string ⟨#[]⟩, .slice none 0 0], .int .i64 11]) (by simp [results, Tryz.results20, go_sem, d0, d1, d2, d3, d4]) rfl ⟨rfl, below_set5 hW5 (by omega) _ _ _ _ _⟩

set_option maxHeartbeats 2000000 in
theorem rop_quo_zero12 (na nb : Int) (fa fb : Nat) (sa sb : ByteArray) (aa ab : Option Addr) (la ca lb cb : Nat) (ha : rightB 1 na fa sa la = true) (hb : rightB 2 nb fb sb lb = true) (p1 : -9223372036854775808 ≤ na) (p2 : na ≤ 9223372036854775807) (x y : Nat) (hx : (floatOfInt .f64 na) = x) (hy : fb = y) (oz : FloatKind.f64.format.order y 0 = some .eq) (w : World) :
    Calls Tryz.prog 20 #[.string ⟨#[47]⟩, .agg #[.int .i64 1, .int .i64 na, .float .f64 fa, .string sa, .slice aa la ca], .agg #[.int .i64 2, .int .i64 nb, .float .f64 fb, .string sb, .slice ab lb cb]] w fun e w' => e = .returned (.tuple #[.agg #[.int .i64 (0), .int .i64 (0), .float .f64 (0), .string ⟨#[]⟩, .slice none 0 0], .int .i64 11]) ∧ Below w.heap.size w w' := by
  have HA := hid ha
  clear ha
  have HB := hid hb
  clear hb
  have HX := hid hx
  have HY := hid hy
  clear hx hy
  go_enter Tryz.func20, Tryz.ntmps20
  go_wp2_with fail
  refine (refRight_any 1 na fa sa aa la ca _).mono ?_
  rintro e w1 ⟨rfl, hb1⟩
  rw [HA.out]
  obtain ⟨BA, BB, RB, hW1⟩ := afterABC hb1
  have XA := hid BA
  have XB := hid BB
  have XR := hid RB
  clear hb1 BA BB RB
  obtain ⟨b0, b1, b2, b3, b4, _, _, _, _, _, bl⟩ := XB.out
  go_wp2_with fail
  refine (refRight_any 2 nb fb sb ab lb cb _).mono ?_
  rintro e w2 ⟨rfl, hb⟩
  rw [HB.out]
  clear b0 b1 b2 b3 b4 bl
  have K := hid (XA.out.keep hb)
  clear XA
  have XA := K
  clear K
  have K := hid (XB.out.keep hb)
  clear XB
  have XB := K
  clear K
  have K := hid (XR.out.keep hb)
  clear XR
  have XR := K
  clear K
  have hW2 := bthen hW1 hb
  clear hb hW1
  obtain ⟨a0, a1, a2, a3, a4, _, _, _, _, _, al⟩ := XA.out
  obtain ⟨b0, b1, b2, b3, b4, _, _, _, _, _, bl⟩ := XB.out
  go_wp2_with fail
  refine (rreal1 na fa sa aa la ca p1 p2 _).mono ?_
  rintro e w3 ⟨rfl, hb⟩
  rw [HX.out]
  clear a0 a1 a2 a3 a4 al
  clear b0 b1 b2 b3 b4 bl
  have K := hid (XA.out.keep hb)
  clear XA
  have XA := K
  clear K
  have K := hid (XB.out.keep hb)
  clear XB
  have XB := K
  clear K
  have K := hid (XR.out.keep hb)
  clear XR
  have XR := K
  clear K
  have hW3 := bthen hW2 hb
  clear hb hW2
  obtain ⟨b0, b1, b2, b3, b4, _, _, _, _, _, bl⟩ := XB.out
  go_wp2_with fail
  refine (rreal2 nb fb sb ab lb cb _).mono ?_
  rintro e w4 ⟨rfl, hb⟩
  rw [HY.out]
  clear b0 b1 b2 b3 b4 bl
  have K := hid (XA.out.keep hb)
  clear XA
  have XA := K
  clear K
  have K := hid (XB.out.keep hb)
  clear XB
  have XB := K
  clear K
  have K := hid (XR.out.keep hb)
  clear XR
  have XR := K
  clear K
  have hW4 := bthen hW3 hb
  clear hb hW3
  obtain ⟨d0, d1, d2, d3, d4, g0, g1, g2, g3, g4, ltr⟩ := XR.out
  go_wp2
  exact bodyPost_ret (v := .tuple #[.agg #[.int .i64 (0), .int .i64 (0), .float .f64 (0), .string ⟨#[]⟩, .slice none 0 0], .int .i64 11]) (by simp [results, Tryz.results20, go_sem, d0, d1, d2, d3, d4]) rfl ⟨rfl, below_set5 hW4 (by omega) _ _ _ _ _⟩

set_option maxHeartbeats 2000000 in
theorem rop_quo_some12 (na nb : Int) (fa fb : Nat) (sa sb : ByteArray) (aa ab : Option Addr) (la ca lb cb : Nat) (ha : rightB 1 na fa sa la = true) (hb : rightB 2 nb fb sb lb = true) (p1 : -9223372036854775808 ≤ na) (p2 : na ≤ 9223372036854775807) (x y : Nat) (hx : (floatOfInt .f64 na) = x) (hy : fb = y) (oz : FloatKind.f64.format.order y 0 = some .lt ∨ FloatKind.f64.format.order y 0 = some .gt) (r : Nat) (hr : floatBits .quo .f64 x y = some r) (w : World) :
    Calls Tryz.prog 20 #[.string ⟨#[47]⟩, .agg #[.int .i64 1, .int .i64 na, .float .f64 fa, .string sa, .slice aa la ca], .agg #[.int .i64 2, .int .i64 nb, .float .f64 fb, .string sb, .slice ab lb cb]] w fun e w' => e = .returned (.tuple #[.agg #[.int .i64 ((numBits r).k), .int .i64 ((numBits r).n), .float .f64 ((numBits r).f), .string ⟨#[]⟩, .slice none 0 0], .int .i64 (numBits r).e]) ∧ Below w.heap.size w w' := by
  have HA := hid ha
  clear ha
  have HB := hid hb
  clear hb
  have hz : ∀ t (w : World), (binOp .quo t (.float .f64 x) (.float .f64 y)).run Tryz.prog w = .ok (.float .f64 r) w := fun t w => run_float_arith w .quo t .f64 _ _ _ hr
  clear hr
  have HX := hid hx
  have HY := hid hy
  clear hx hy
  go_enter Tryz.func20, Tryz.ntmps20
  go_wp2_with fail
  refine (refRight_any 1 na fa sa aa la ca _).mono ?_
  rintro e w1 ⟨rfl, hb1⟩
  rw [HA.out]
  obtain ⟨BA, BB, RB, hW1⟩ := afterABC hb1
  have XA := hid BA
  have XB := hid BB
  have XR := hid RB
  clear hb1 BA BB RB
  obtain ⟨b0, b1, b2, b3, b4, _, _, _, _, _, bl⟩ := XB.out
  go_wp2_with fail
  refine (refRight_any 2 nb fb sb ab lb cb _).mono ?_
  rintro e w2 ⟨rfl, hb⟩
  rw [HB.out]
  clear b0 b1 b2 b3 b4 bl
  have K := hid (XA.out.keep hb)
  clear XA
  have XA := K
  clear K
  have K := hid (XB.out.keep hb)
  clear XB
  have XB := K
  clear K
  have K := hid (XR.out.keep hb)
  clear XR
  have XR := K
  clear K
  have hW2 := bthen hW1 hb
  clear hb hW1
  obtain ⟨a0, a1, a2, a3, a4, _, _, _, _, _, al⟩ := XA.out
  obtain ⟨b0, b1, b2, b3, b4, _, _, _, _, _, bl⟩ := XB.out
  go_wp2_with fail
  refine (rreal1 na fa sa aa la ca p1 p2 _).mono ?_
  rintro e w3 ⟨rfl, hb⟩
  rw [HX.out]
  clear a0 a1 a2 a3 a4 al
  clear b0 b1 b2 b3 b4 bl
  have K := hid (XA.out.keep hb)
  clear XA
  have XA := K
  clear K
  have K := hid (XB.out.keep hb)
  clear XB
  have XB := K
  clear K
  have K := hid (XR.out.keep hb)
  clear XR
  have XR := K
  clear K
  have hW3 := bthen hW2 hb
  clear hb hW2
  obtain ⟨b0, b1, b2, b3, b4, _, _, _, _, _, bl⟩ := XB.out
  go_wp2_with fail
  refine (rreal2 nb fb sb ab lb cb _).mono ?_
  rintro e w4 ⟨rfl, hb⟩
  rw [HY.out]
  clear b0 b1 b2 b3 b4 bl
  have K := hid (XA.out.keep hb)
  clear XA
  have XA := K
  clear K
  have K := hid (XB.out.keep hb)
  clear XB
  have XB := K
  clear K
  have K := hid (XR.out.keep hb)
  clear XR
  have XR := K
  clear K
  have hW4 := bthen hW3 hb
  clear hb hW3
  rcases oz with oz | oz
  all_goals
    go_wp2_with fail
    refine (refFloat_any _ _).mono ?_
    rintro e w5 ⟨rfl, hb⟩
    have K := hid (XA.out.keep hb)
    clear XA
    have XA := K
    clear K
    have K := hid (XB.out.keep hb)
    clear XB
    have XB := K
    clear K
    have K := hid (XR.out.keep hb)
    clear XR
    have XR := K
    clear K
    have hW5 := bthen hW4 hb
    clear hb
    obtain ⟨d0, d1, d2, d3, d4, g0, g1, g2, g3, g4, ltr⟩ := XR.out
    go_wp2
    exact bodyPost_ret (v := .tuple #[.agg #[.int .i64 ((numBits r).k), .int .i64 ((numBits r).n), .float .f64 ((numBits r).f), .string ⟨#[]⟩, .slice none 0 0], .int .i64 (numBits r).e]) (by simp [results, Tryz.results20, go_sem, d0, d1, d2, d3, d4]) rfl ⟨rfl, below_set5 hW5 (by omega) _ _ _ _ _⟩

set_option maxHeartbeats 2000000 in
theorem rop_quo_none12 (na nb : Int) (fa fb : Nat) (sa sb : ByteArray) (aa ab : Option Addr) (la ca lb cb : Nat) (ha : rightB 1 na fa sa la = true) (hb : rightB 2 nb fb sb lb = true) (p1 : -9223372036854775808 ≤ na) (p2 : na ≤ 9223372036854775807) (x y : Nat) (hx : (floatOfInt .f64 na) = x) (hy : fb = y) (oz : FloatKind.f64.format.order y 0 = some .lt ∨ FloatKind.f64.format.order y 0 = some .gt) (hr : floatBits .quo .f64 x y = none) (w : World) :
    Calls Tryz.prog 20 #[.string ⟨#[47]⟩, .agg #[.int .i64 1, .int .i64 na, .float .f64 fa, .string sa, .slice aa la ca], .agg #[.int .i64 2, .int .i64 nb, .float .f64 fb, .string sb, .slice ab lb cb]] w fun e w' => e = .returned (.tuple #[.agg #[.int .i64 (0), .int .i64 (0), .float .f64 (0), .string ⟨#[]⟩, .slice none 0 0], .int .i64 11]) ∧ Below w.heap.size w w' := by
  have HA := hid ha
  clear ha
  have HB := hid hb
  clear hb
  have hz := fun t w => flt_nan .quo t x y hr (by simp) w
  clear hr
  have HX := hid hx
  have HY := hid hy
  clear hx hy
  go_enter Tryz.func20, Tryz.ntmps20
  go_wp2_with fail
  refine (refRight_any 1 na fa sa aa la ca _).mono ?_
  rintro e w1 ⟨rfl, hb1⟩
  rw [HA.out]
  obtain ⟨BA, BB, RB, hW1⟩ := afterABC hb1
  have XA := hid BA
  have XB := hid BB
  have XR := hid RB
  clear hb1 BA BB RB
  obtain ⟨b0, b1, b2, b3, b4, _, _, _, _, _, bl⟩ := XB.out
  go_wp2_with fail
  refine (refRight_any 2 nb fb sb ab lb cb _).mono ?_
  rintro e w2 ⟨rfl, hb⟩
  rw [HB.out]
  clear b0 b1 b2 b3 b4 bl
  have K := hid (XA.out.keep hb)
  clear XA
  have XA := K
  clear K
  have K := hid (XB.out.keep hb)
  clear XB
  have XB := K
  clear K
  have K := hid (XR.out.keep hb)
  clear XR
  have XR := K
  clear K
  have hW2 := bthen hW1 hb
  clear hb hW1
  obtain ⟨a0, a1, a2, a3, a4, _, _, _, _, _, al⟩ := XA.out
  obtain ⟨b0, b1, b2, b3, b4, _, _, _, _, _, bl⟩ := XB.out
  go_wp2_with fail
  refine (rreal1 na fa sa aa la ca p1 p2 _).mono ?_
  rintro e w3 ⟨rfl, hb⟩
  rw [HX.out]
  clear a0 a1 a2 a3 a4 al
  clear b0 b1 b2 b3 b4 bl
  have K := hid (XA.out.keep hb)
  clear XA
  have XA := K
  clear K
  have K := hid (XB.out.keep hb)
  clear XB
  have XB := K
  clear K
  have K := hid (XR.out.keep hb)
  clear XR
  have XR := K
  clear K
  have hW3 := bthen hW2 hb
  clear hb hW2
  obtain ⟨b0, b1, b2, b3, b4, _, _, _, _, _, bl⟩ := XB.out
  go_wp2_with fail
  refine (rreal2 nb fb sb ab lb cb _).mono ?_
  rintro e w4 ⟨rfl, hb⟩
  rw [HY.out]
  clear b0 b1 b2 b3 b4 bl
  have K := hid (XA.out.keep hb)
  clear XA
  have XA := K
  clear K
  have K := hid (XB.out.keep hb)
  clear XB
  have XB := K
  clear K
  have K := hid (XR.out.keep hb)
  clear XR
  have XR := K
  clear K
  have hW4 := bthen hW3 hb
  clear hb hW3
  rcases oz with oz | oz
  all_goals
    go_wp2_with fail
    refine (refFloat_any _ _).mono ?_
    rintro e w5 ⟨rfl, hb0⟩
    rw [numBits_nan]
    have hb := drew_then hb0
    have K := hid (XA.out.keep hb)
    clear XA
    have XA := K
    clear K
    have K := hid (XB.out.keep hb)
    clear XB
    have XB := K
    clear K
    have K := hid (XR.out.keep hb)
    clear XR
    have XR := K
    clear K
    have hW5 := bthen hW4 hb
    clear hb hb0
    obtain ⟨d0, d1, d2, d3, d4, g0, g1, g2, g3, g4, ltr⟩ := XR.out
    go_wp2
    exact bodyPost_ret (v := .tuple #[.agg #[.int .i64 (0), .int .i64 (0), .float .f64 (0), .string ⟨#[]⟩, .slice none 0 0], .int .i64 11]) (by simp [results, Tryz.results20, go_sem, d0, d1, d2, d3, d4]) rfl ⟨rfl, below_set5 hW5 (by omega) _ _ _ _ _⟩

set_option maxHeartbeats 2000000 in
theorem rop_quo_zero21 (na nb : Int) (fa fb : Nat) (sa sb : ByteArray) (aa ab : Option Addr) (la ca lb cb : Nat) (ha : rightB 2 na fa sa la = true) (hb : rightB 1 nb fb sb lb = true) (q1 : -9223372036854775808 ≤ nb) (q2 : nb ≤ 9223372036854775807) (x y : Nat) (hx : fa = x) (hy : (floatOfInt .f64 nb) = y) (oz : FloatKind.f64.format.order y 0 = some .eq) (w : World) :
    Calls Tryz.prog 20 #[.string ⟨#[47]⟩, .agg #[.int .i64 2, .int .i64 na, .float .f64 fa, .string sa, .slice aa la ca], .agg #[.int .i64 1, .int .i64 nb, .float .f64 fb, .string sb, .slice ab lb cb]] w fun e w' => e = .returned (.tuple #[.agg #[.int .i64 (0), .int .i64 (0), .float .f64 (0), .string ⟨#[]⟩, .slice none 0 0], .int .i64 11]) ∧ Below w.heap.size w w' := by
  have HA := hid ha
  clear ha
  have HB := hid hb
  clear hb
  have HX := hid hx
  have HY := hid hy
  clear hx hy
  go_enter Tryz.func20, Tryz.ntmps20
  go_wp2_with fail
  refine (refRight_any 2 na fa sa aa la ca _).mono ?_
  rintro e w1 ⟨rfl, hb1⟩
  rw [HA.out]
  obtain ⟨BA, BB, RB, hW1⟩ := afterABC hb1
  have XA := hid BA
  have XB := hid BB
  have XR := hid RB
  clear hb1 BA BB RB
  obtain ⟨b0, b1, b2, b3, b4, _, _, _, _, _, bl⟩ := XB.out
  go_wp2_with fail
  refine (refRight_any 1 nb fb sb ab lb cb _).mono ?_
  rintro e w2 ⟨rfl, hb⟩
  rw [HB.out]
  clear b0 b1 b2 b3 b4 bl
  have K := hid (XA.out.keep hb)
  clear XA
  have XA := K
  clear K
  have K := hid (XB.out.keep hb)
  clear XB
  have XB := K
  clear K
  have K := hid (XR.out.keep hb)
  clear XR
  have XR := K
  clear K
  have hW2 := bthen hW1 hb
  clear hb hW1
  obtain ⟨a0, a1, a2, a3, a4, _, _, _, _, _, al⟩ := XA.out
  obtain ⟨b0, b1, b2, b3, b4, _, _, _, _, _, bl⟩ := XB.out
  go_wp2_with fail
  refine (rreal2 na fa sa aa la ca _).mono ?_
  rintro e w3 ⟨rfl, hb⟩
  rw [HX.out]
  clear a0 a1 a2 a3 a4 al
  clear b0 b1 b2 b3 b4 bl
  have K := hid (XA.out.keep hb)
  clear XA
  have XA := K
  clear K
  have K := hid (XB.out.keep hb)
  clear XB
  have XB := K
  clear K
  have K := hid (XR.out.keep hb)
  clear XR
  have XR := K
  clear K
  have hW3 := bthen hW2 hb
  clear hb hW2
  obtain ⟨b0, b1, b2, b3, b4, _, _, _, _, _, bl⟩ := XB.out
  go_wp2_with fail
  refine (rreal1 nb fb sb ab lb cb q1 q2 _).mono ?_
  rintro e w4 ⟨rfl, hb⟩
  rw [HY.out]
  clear b0 b1 b2 b3 b4 bl
  have K := hid (XA.out.keep hb)
  clear XA
  have XA := K
  clear K
  have K := hid (XB.out.keep hb)
  clear XB
  have XB := K
  clear K
  have K := hid (XR.out.keep hb)
  clear XR
  have XR := K
  clear K
  have hW4 := bthen hW3 hb
  clear hb hW3
  obtain ⟨d0, d1, d2, d3, d4, g0, g1, g2, g3, g4, ltr⟩ := XR.out
  go_wp2
  exact bodyPost_ret (v := .tuple #[.agg #[.int .i64 (0), .int .i64 (0), .float .f64 (0), .string ⟨#[]⟩, .slice none 0 0], .int .i64 11]) (by simp [results, Tryz.results20, go_sem, d0, d1, d2, d3, d4]) rfl ⟨rfl, below_set5 hW4 (by omega) _ _ _ _ _⟩

set_option maxHeartbeats 2000000 in
theorem rop_quo_some21 (na nb : Int) (fa fb : Nat) (sa sb : ByteArray) (aa ab : Option Addr) (la ca lb cb : Nat) (ha : rightB 2 na fa sa la = true) (hb : rightB 1 nb fb sb lb = true) (q1 : -9223372036854775808 ≤ nb) (q2 : nb ≤ 9223372036854775807) (x y : Nat) (hx : fa = x) (hy : (floatOfInt .f64 nb) = y) (oz : FloatKind.f64.format.order y 0 = some .lt ∨ FloatKind.f64.format.order y 0 = some .gt) (r : Nat) (hr : floatBits .quo .f64 x y = some r) (w : World) :
    Calls Tryz.prog 20 #[.string ⟨#[47]⟩, .agg #[.int .i64 2, .int .i64 na, .float .f64 fa, .string sa, .slice aa la ca], .agg #[.int .i64 1, .int .i64 nb, .float .f64 fb, .string sb, .slice ab lb cb]] w fun e w' => e = .returned (.tuple #[.agg #[.int .i64 ((numBits r).k), .int .i64 ((numBits r).n), .float .f64 ((numBits r).f), .string ⟨#[]⟩, .slice none 0 0], .int .i64 (numBits r).e]) ∧ Below w.heap.size w w' := by
  have HA := hid ha
  clear ha
  have HB := hid hb
  clear hb
  have hz : ∀ t (w : World), (binOp .quo t (.float .f64 x) (.float .f64 y)).run Tryz.prog w = .ok (.float .f64 r) w := fun t w => run_float_arith w .quo t .f64 _ _ _ hr
  clear hr
  have HX := hid hx
  have HY := hid hy
  clear hx hy
  go_enter Tryz.func20, Tryz.ntmps20
  go_wp2_with fail
  refine (refRight_any 2 na fa sa aa la ca _).mono ?_
  rintro e w1 ⟨rfl, hb1⟩
  rw [HA.out]
  obtain ⟨BA, BB, RB, hW1⟩ := afterABC hb1
  have XA := hid BA
  have XB := hid BB
  have XR := hid RB
  clear hb1 BA BB RB
  obtain ⟨b0, b1, b2, b3, b4, _, _, _, _, _, bl⟩ := XB.out
  go_wp2_with fail
  refine (refRight_any 1 nb fb sb ab lb cb _).mono ?_
  rintro e w2 ⟨rfl, hb⟩
  rw [HB.out]
  clear b0 b1 b2 b3 b4 bl
  have K := hid (XA.out.keep hb)
  clear XA
  have XA := K
  clear K
  have K := hid (XB.out.keep hb)
  clear XB
  have XB := K
  clear K
  have K := hid (XR.out.keep hb)
  clear XR
  have XR := K
  clear K
  have hW2 := bthen hW1 hb
  clear hb hW1
  obtain ⟨a0, a1, a2, a3, a4, _, _, _, _, _, al⟩ := XA.out
  obtain ⟨b0, b1, b2, b3, b4, _, _, _, _, _, bl⟩ := XB.out
  go_wp2_with fail
  refine (rreal2 na fa sa aa la ca _).mono ?_
  rintro e w3 ⟨rfl, hb⟩
  rw [HX.out]
  clear a0 a1 a2 a3 a4 al
  clear b0 b1 b2 b3 b4 bl
  have K := hid (XA.out.keep hb)
  clear XA
  have XA := K
  clear K
  have K := hid (XB.out.keep hb)
  clear XB
  have XB := K
  clear K
  have K := hid (XR.out.keep hb)
  clear XR
  have XR := K
  clear K
  have hW3 := bthen hW2 hb
  clear hb hW2
  obtain ⟨b0, b1, b2, b3, b4, _, _, _, _, _, bl⟩ := XB.out
  go_wp2_with fail
  refine (rreal1 nb fb sb ab lb cb q1 q2 _).mono ?_
  rintro e w4 ⟨rfl, hb⟩
  rw [HY.out]
  clear b0 b1 b2 b3 b4 bl
  have K := hid (XA.out.keep hb)
  clear XA
  have XA := K
  clear K
  have K := hid (XB.out.keep hb)
  clear XB
  have XB := K
  clear K
  have K := hid (XR.out.keep hb)
  clear XR
  have XR := K
  clear K
  have hW4 := bthen hW3 hb
  clear hb hW3
  rcases oz with oz | oz
  all_goals
    go_wp2_with fail
    refine (refFloat_any _ _).mono ?_
    rintro e w5 ⟨rfl, hb⟩
    have K := hid (XA.out.keep hb)
    clear XA
    have XA := K
    clear K
    have K := hid (XB.out.keep hb)
    clear XB
    have XB := K
    clear K
    have K := hid (XR.out.keep hb)
    clear XR
    have XR := K
    clear K
    have hW5 := bthen hW4 hb
    clear hb
    obtain ⟨d0, d1, d2, d3, d4, g0, g1, g2, g3, g4, ltr⟩ := XR.out
    go_wp2
    exact bodyPost_ret (v := .tuple #[.agg #[.int .i64 ((numBits r).k), .int .i64 ((numBits r).n), .float .f64 ((numBits r).f), .string ⟨#[]⟩, .slice none 0 0], .int .i64 (numBits r).e]) (by simp [results, Tryz.results20, go_sem, d0, d1, d2, d3, d4]) rfl ⟨rfl, below_set5 hW5 (by omega) _ _ _ _ _⟩

set_option maxHeartbeats 2000000 in
theorem rop_quo_none21 (na nb : Int) (fa fb : Nat) (sa sb : ByteArray) (aa ab : Option Addr) (la ca lb cb : Nat) (ha : rightB 2 na fa sa la = true) (hb : rightB 1 nb fb sb lb = true) (q1 : -9223372036854775808 ≤ nb) (q2 : nb ≤ 9223372036854775807) (x y : Nat) (hx : fa = x) (hy : (floatOfInt .f64 nb) = y) (oz : FloatKind.f64.format.order y 0 = some .lt ∨ FloatKind.f64.format.order y 0 = some .gt) (hr : floatBits .quo .f64 x y = none) (w : World) :
    Calls Tryz.prog 20 #[.string ⟨#[47]⟩, .agg #[.int .i64 2, .int .i64 na, .float .f64 fa, .string sa, .slice aa la ca], .agg #[.int .i64 1, .int .i64 nb, .float .f64 fb, .string sb, .slice ab lb cb]] w fun e w' => e = .returned (.tuple #[.agg #[.int .i64 (0), .int .i64 (0), .float .f64 (0), .string ⟨#[]⟩, .slice none 0 0], .int .i64 11]) ∧ Below w.heap.size w w' := by
  have HA := hid ha
  clear ha
  have HB := hid hb
  clear hb
  have hz := fun t w => flt_nan .quo t x y hr (by simp) w
  clear hr
  have HX := hid hx
  have HY := hid hy
  clear hx hy
  go_enter Tryz.func20, Tryz.ntmps20
  go_wp2_with fail
  refine (refRight_any 2 na fa sa aa la ca _).mono ?_
  rintro e w1 ⟨rfl, hb1⟩
  rw [HA.out]
  obtain ⟨BA, BB, RB, hW1⟩ := afterABC hb1
  have XA := hid BA
  have XB := hid BB
  have XR := hid RB
  clear hb1 BA BB RB
  obtain ⟨b0, b1, b2, b3, b4, _, _, _, _, _, bl⟩ := XB.out
  go_wp2_with fail
  refine (refRight_any 1 nb fb sb ab lb cb _).mono ?_
  rintro e w2 ⟨rfl, hb⟩
  rw [HB.out]
  clear b0 b1 b2 b3 b4 bl
  have K := hid (XA.out.keep hb)
  clear XA
  have XA := K
  clear K
  have K := hid (XB.out.keep hb)
  clear XB
  have XB := K
  clear K
  have K := hid (XR.out.keep hb)
  clear XR
  have XR := K
  clear K
  have hW2 := bthen hW1 hb
  clear hb hW1
  obtain ⟨a0, a1, a2, a3, a4, _, _, _, _, _, al⟩ := XA.out
  obtain ⟨b0, b1, b2, b3, b4, _, _, _, _, _, bl⟩ := XB.out
  go_wp2_with fail
  refine (rreal2 na fa sa aa la ca _).mono ?_
  rintro e w3 ⟨rfl, hb⟩
  rw [HX.out]
  clear a0 a1 a2 a3 a4 al
  clear b0 b1 b2 b3 b4 bl
  have K := hid (XA.out.keep hb)
  clear XA
  have XA := K
  clear K
  have K := hid (XB.out.keep hb)
  clear XB
  have XB := K
  clear K
  have K := hid (XR.out.keep hb)
  clear XR
  have XR := K
  clear K
  have hW3 := bthen hW2 hb
  clear hb hW2
  obtain ⟨b0, b1, b2, b3, b4, _, _, _, _, _, bl⟩ := XB.out
  go_wp2_with fail
  refine (rreal1 nb fb sb ab lb cb q1 q2 _).mono ?_
  rintro e w4 ⟨rfl, hb⟩
  rw [HY.out]
  clear b0 b1 b2 b3 b4 bl
  have K := hid (XA.out.keep hb)
  clear XA
  have XA := K
  clear K
  have K := hid (XB.out.keep hb)
  clear XB
  have XB := K
  clear K
  have K := hid (XR.out.keep hb)
  clear XR
  have XR := K
  clear K
  have hW4 := bthen hW3 hb
  clear hb hW3
  rcases oz with oz | oz
  all_goals
    go_wp2_with fail
    refine (refFloat_any _ _).mono ?_
    rintro e w5 ⟨rfl, hb0⟩
    rw [numBits_nan]
    have hb := drew_then hb0
    have K := hid (XA.out.keep hb)
    clear XA
    have XA := K
    clear K
    have K := hid (XB.out.keep hb)
    clear XB
    have XB := K
    clear K
    have K := hid (XR.out.keep hb)
    clear XR
    have XR := K
    clear K
    have hW5 := bthen hW4 hb
    clear hb hb0
    obtain ⟨d0, d1, d2, d3, d4, g0, g1, g2, g3, g4, ltr⟩ := XR.out
    go_wp2
    exact bodyPost_ret (v := .tuple #[.agg #[.int .i64 (0), .int .i64 (0), .float .f64 (0), .string ⟨#[]⟩, .slice none 0 0], .int .i64 11]) (by simp [results, Tryz.results20, go_sem, d0, d1, d2, d3, d4]) rfl ⟨rfl, below_set5 hW5 (by omega) _ _ _ _ _⟩

set_option maxHeartbeats 2000000 in
theorem rop_quo_zero22 (na nb : Int) (fa fb : Nat) (sa sb : ByteArray) (aa ab : Option Addr) (la ca lb cb : Nat) (ha : rightB 2 na fa sa la = true) (hb : rightB 2 nb fb sb lb = true) (x y : Nat) (hx : fa = x) (hy : fb = y) (oz : FloatKind.f64.format.order y 0 = some .eq) (w : World) :
    Calls Tryz.prog 20 #[.string ⟨#[47]⟩, .agg #[.int .i64 2, .int .i64 na, .float .f64 fa, .string sa, .slice aa la ca], .agg #[.int .i64 2, .int .i64 nb, .float .f64 fb, .string sb, .slice ab lb cb]] w fun e w' => e = .returned (.tuple #[.agg #[.int .i64 (0), .int .i64 (0), .float .f64 (0), .string ⟨#[]⟩, .slice none 0 0], .int .i64 11]) ∧ Below w.heap.size w w' := by
  have HA := hid ha
  clear ha
  have HB := hid hb
  clear hb
  have HX := hid hx
  have HY := hid hy
  clear hx hy
  go_enter Tryz.func20, Tryz.ntmps20
  go_wp2_with fail
  refine (refRight_any 2 na fa sa aa la ca _).mono ?_
  rintro e w1 ⟨rfl, hb1⟩
  rw [HA.out]
  obtain ⟨BA, BB, RB, hW1⟩ := afterABC hb1
  have XA := hid BA
  have XB := hid BB
  have XR := hid RB
  clear hb1 BA BB RB
  obtain ⟨b0, b1, b2, b3, b4, _, _, _, _, _, bl⟩ := XB.out
  go_wp2_with fail
  refine (refRight_any 2 nb fb sb ab lb cb _).mono ?_
  rintro e w2 ⟨rfl, hb⟩
  rw [HB.out]
  clear b0 b1 b2 b3 b4 bl
  have K := hid (XA.out.keep hb)
  clear XA
  have XA := K
  clear K
  have K := hid (XB.out.keep hb)
  clear XB
  have XB := K
  clear K
  have K := hid (XR.out.keep hb)
  clear XR
  have XR := K
  clear K
  have hW2 := bthen hW1 hb
  clear hb hW1
  obtain ⟨a0, a1, a2, a3, a4, _, _, _, _, _, al⟩ := XA.out
  obtain ⟨b0, b1, b2, b3, b4, _, _, _, _, _, bl⟩ := XB.out
  go_wp2_with fail
  refine (rreal2 na fa sa aa la ca _).mono ?_
  rintro e w3 ⟨rfl, hb⟩
  rw [HX.out]
  clear a0 a1 a2 a3 a4 al
  clear b0 b1 b2 b3 b4 bl
  have K := hid (XA.out.keep hb)
  clear XA
  have XA := K
  clear K
  have K := hid (XB.out.keep hb)
  clear XB
  have XB := K
  clear K
  have K := hid (XR.out.keep hb)
  clear XR
  have XR := K
  clear K
  have hW3 := bthen hW2 hb
  clear hb hW2
  obtain ⟨b0, b1, b2, b3, b4, _, _, _, _, _, bl⟩ := XB.out
  go_wp2_with fail
  refine (rreal2 nb fb sb ab lb cb _).mono ?_
  rintro e w4 ⟨rfl, hb⟩
  rw [HY.out]
  clear b0 b1 b2 b3 b4 bl
  have K := hid (XA.out.keep hb)
  clear XA
  have XA := K
  clear K
  have K := hid (XB.out.keep hb)
  clear XB
  have XB := K
  clear K
  have K := hid (XR.out.keep hb)
  clear XR
  have XR := K
  clear K
  have hW4 := bthen hW3 hb
  clear hb hW3
  obtain ⟨d0, d1, d2, d3, d4, g0, g1, g2, g3, g4, ltr⟩ := XR.out
  go_wp2
  exact bodyPost_ret (v := .tuple #[.agg #[.int .i64 (0), .int .i64 (0), .float .f64 (0), .string ⟨#[]⟩, .slice none 0 0], .int .i64 11]) (by simp [results, Tryz.results20, go_sem, d0, d1, d2, d3, d4]) rfl ⟨rfl, below_set5 hW4 (by omega) _ _ _ _ _⟩

set_option maxHeartbeats 2000000 in
theorem rop_quo_some22 (na nb : Int) (fa fb : Nat) (sa sb : ByteArray) (aa ab : Option Addr) (la ca lb cb : Nat) (ha : rightB 2 na fa sa la = true) (hb : rightB 2 nb fb sb lb = true) (x y : Nat) (hx : fa = x) (hy : fb = y) (oz : FloatKind.f64.format.order y 0 = some .lt ∨ FloatKind.f64.format.order y 0 = some .gt) (r : Nat) (hr : floatBits .quo .f64 x y = some r) (w : World) :
    Calls Tryz.prog 20 #[.string ⟨#[47]⟩, .agg #[.int .i64 2, .int .i64 na, .float .f64 fa, .string sa, .slice aa la ca], .agg #[.int .i64 2, .int .i64 nb, .float .f64 fb, .string sb, .slice ab lb cb]] w fun e w' => e = .returned (.tuple #[.agg #[.int .i64 ((numBits r).k), .int .i64 ((numBits r).n), .float .f64 ((numBits r).f), .string ⟨#[]⟩, .slice none 0 0], .int .i64 (numBits r).e]) ∧ Below w.heap.size w w' := by
  have HA := hid ha
  clear ha
  have HB := hid hb
  clear hb
  have hz : ∀ t (w : World), (binOp .quo t (.float .f64 x) (.float .f64 y)).run Tryz.prog w = .ok (.float .f64 r) w := fun t w => run_float_arith w .quo t .f64 _ _ _ hr
  clear hr
  have HX := hid hx
  have HY := hid hy
  clear hx hy
  go_enter Tryz.func20, Tryz.ntmps20
  go_wp2_with fail
  refine (refRight_any 2 na fa sa aa la ca _).mono ?_
  rintro e w1 ⟨rfl, hb1⟩
  rw [HA.out]
  obtain ⟨BA, BB, RB, hW1⟩ := afterABC hb1
  have XA := hid BA
  have XB := hid BB
  have XR := hid RB
  clear hb1 BA BB RB
  obtain ⟨b0, b1, b2, b3, b4, _, _, _, _, _, bl⟩ := XB.out
  go_wp2_with fail
  refine (refRight_any 2 nb fb sb ab lb cb _).mono ?_
  rintro e w2 ⟨rfl, hb⟩
  rw [HB.out]
  clear b0 b1 b2 b3 b4 bl
  have K := hid (XA.out.keep hb)
  clear XA
  have XA := K
  clear K
  have K := hid (XB.out.keep hb)
  clear XB
  have XB := K
  clear K
  have K := hid (XR.out.keep hb)
  clear XR
  have XR := K
  clear K
  have hW2 := bthen hW1 hb
  clear hb hW1
  obtain ⟨a0, a1, a2, a3, a4, _, _, _, _, _, al⟩ := XA.out
  obtain ⟨b0, b1, b2, b3, b4, _, _, _, _, _, bl⟩ := XB.out
  go_wp2_with fail
  refine (rreal2 na fa sa aa la ca _).mono ?_
  rintro e w3 ⟨rfl, hb⟩
  rw [HX.out]
  clear a0 a1 a2 a3 a4 al
  clear b0 b1 b2 b3 b4 bl
  have K := hid (XA.out.keep hb)
  clear XA
  have XA := K
  clear K
  have K := hid (XB.out.keep hb)
  clear XB
  have XB := K
  clear K
  have K := hid (XR.out.keep hb)
  clear XR
  have XR := K
  clear K
  have hW3 := bthen hW2 hb
  clear hb hW2
  obtain ⟨b0, b1, b2, b3, b4, _, _, _, _, _, bl⟩ := XB.out
  go_wp2_with fail
  refine (rreal2 nb fb sb ab lb cb _).mono ?_
  rintro e w4 ⟨rfl, hb⟩
  rw [HY.out]
  clear b0 b1 b2 b3 b4 bl
  have K := hid (XA.out.keep hb)
  clear XA
  have XA := K
  clear K
  have K := hid (XB.out.keep hb)
  clear XB
  have XB := K
  clear K
  have K := hid (XR.out.keep hb)
  clear XR
  have XR := K
  clear K
  have hW4 := bthen hW3 hb
  clear hb hW3
  rcases oz with oz | oz
  all_goals
    go_wp2_with fail
    refine (refFloat_any _ _).mono ?_
    rintro e w5 ⟨rfl, hb⟩
    have K := hid (XA.out.keep hb)
    clear XA
    have XA := K
    clear K
    have K := hid (XB.out.keep hb)
    clear XB
    have XB := K
    clear K
    have K := hid (XR.out.keep hb)
    clear XR
    have XR := K
    clear K
    have hW5 := bthen hW4 hb
    clear hb
    obtain ⟨d0, d1, d2, d3, d4, g0, g1, g2, g3, g4, ltr⟩ := XR.out
    go_wp2
    exact bodyPost_ret (v := .tuple #[.agg #[.int .i64 ((numBits r).k), .int .i64 ((numBits r).n), .float .f64 ((numBits r).f), .string ⟨#[]⟩, .slice none 0 0], .int .i64 (numBits r).e]) (by simp [results, Tryz.results20, go_sem, d0, d1, d2, d3, d4]) rfl ⟨rfl, below_set5 hW5 (by omega) _ _ _ _ _⟩

set_option maxHeartbeats 2000000 in
theorem rop_quo_none22 (na nb : Int) (fa fb : Nat) (sa sb : ByteArray) (aa ab : Option Addr) (la ca lb cb : Nat) (ha : rightB 2 na fa sa la = true) (hb : rightB 2 nb fb sb lb = true) (x y : Nat) (hx : fa = x) (hy : fb = y) (oz : FloatKind.f64.format.order y 0 = some .lt ∨ FloatKind.f64.format.order y 0 = some .gt) (hr : floatBits .quo .f64 x y = none) (w : World) :
    Calls Tryz.prog 20 #[.string ⟨#[47]⟩, .agg #[.int .i64 2, .int .i64 na, .float .f64 fa, .string sa, .slice aa la ca], .agg #[.int .i64 2, .int .i64 nb, .float .f64 fb, .string sb, .slice ab lb cb]] w fun e w' => e = .returned (.tuple #[.agg #[.int .i64 (0), .int .i64 (0), .float .f64 (0), .string ⟨#[]⟩, .slice none 0 0], .int .i64 11]) ∧ Below w.heap.size w w' := by
  have HA := hid ha
  clear ha
  have HB := hid hb
  clear hb
  have hz := fun t w => flt_nan .quo t x y hr (by simp) w
  clear hr
  have HX := hid hx
  have HY := hid hy
  clear hx hy
  go_enter Tryz.func20, Tryz.ntmps20
  go_wp2_with fail
  refine (refRight_any 2 na fa sa aa la ca _).mono ?_
  rintro e w1 ⟨rfl, hb1⟩
  rw [HA.out]
  obtain ⟨BA, BB, RB, hW1⟩ := afterABC hb1
  have XA := hid BA
  have XB := hid BB
  have XR := hid RB
  clear hb1 BA BB RB
  obtain ⟨b0, b1, b2, b3, b4, _, _, _, _, _, bl⟩ := XB.out
  go_wp2_with fail
  refine (refRight_any 2 nb fb sb ab lb cb _).mono ?_
  rintro e w2 ⟨rfl, hb⟩
  rw [HB.out]
  clear b0 b1 b2 b3 b4 bl
  have K := hid (XA.out.keep hb)
  clear XA
  have XA := K
  clear K
  have K := hid (XB.out.keep hb)
  clear XB
  have XB := K
  clear K
  have K := hid (XR.out.keep hb)
  clear XR
  have XR := K
  clear K
  have hW2 := bthen hW1 hb
  clear hb hW1
  obtain ⟨a0, a1, a2, a3, a4, _, _, _, _, _, al⟩ := XA.out
  obtain ⟨b0, b1, b2, b3, b4, _, _, _, _, _, bl⟩ := XB.out
  go_wp2_with fail
  refine (rreal2 na fa sa aa la ca _).mono ?_
  rintro e w3 ⟨rfl, hb⟩
  rw [HX.out]
  clear a0 a1 a2 a3 a4 al
  clear b0 b1 b2 b3 b4 bl
  have K := hid (XA.out.keep hb)
  clear XA
  have XA := K
  clear K
  have K := hid (XB.out.keep hb)
  clear XB
  have XB := K
  clear K
  have K := hid (XR.out.keep hb)
  clear XR
  have XR := K
  clear K
  have hW3 := bthen hW2 hb
  clear hb hW2
  obtain ⟨b0, b1, b2, b3, b4, _, _, _, _, _, bl⟩ := XB.out
  go_wp2_with fail
  refine (rreal2 nb fb sb ab lb cb _).mono ?_
  rintro e w4 ⟨rfl, hb⟩
  rw [HY.out]
  clear b0 b1 b2 b3 b4 bl
  have K := hid (XA.out.keep hb)
  clear XA
  have XA := K
  clear K
  have K := hid (XB.out.keep hb)
  clear XB
  have XB := K
  clear K
  have K := hid (XR.out.keep hb)
  clear XR
  have XR := K
  clear K
  have hW4 := bthen hW3 hb
  clear hb hW3
  rcases oz with oz | oz
  all_goals
    go_wp2_with fail
    refine (refFloat_any _ _).mono ?_
    rintro e w5 ⟨rfl, hb0⟩
    rw [numBits_nan]
    have hb := drew_then hb0
    have K := hid (XA.out.keep hb)
    clear XA
    have XA := K
    clear K
    have K := hid (XB.out.keep hb)
    clear XB
    have XB := K
    clear K
    have K := hid (XR.out.keep hb)
    clear XR
    have XR := K
    clear K
    have hW5 := bthen hW4 hb
    clear hb hb0
    obtain ⟨d0, d1, d2, d3, d4, g0, g1, g2, g3, g4, ltr⟩ := XR.out
    go_wp2
    exact bodyPost_ret (v := .tuple #[.agg #[.int .i64 (0), .int .i64 (0), .float .f64 (0), .string ⟨#[]⟩, .slice none 0 0], .int .i64 11]) (by simp [results, Tryz.results20, go_sem, d0, d1, d2, d3, d4]) rfl ⟨rfl, below_set5 hW5 (by omega) _ _ _ _ _⟩

end Go.Proofs.YtgljglindgbjaaaGreatDoor


/- Contracts of Op where it refuses: terms that are no right numbers, signs that are none, div and rem of floats. -/
namespace Go.Proofs.YtgljglindgbjaaaGreatDoor
open Go.RowKit
attribute [local go_sem] store_float
attribute [local go_sem ↓] Go.wp_at_zero Go.wp_at_succ

set_option maxHeartbeats 2000000 in
theorem op_nn (g : ByteArray) (ka kb : Int) (na nb : Int) (fa fb : Nat) (sa sb : ByteArray) (aa ab : Option Addr) (la ca lb cb : Nat) (ha : rightB ka na fa sa la = false) (hb : rightB kb nb fb sb lb = false) (hfa : fa < 18446744073709551616) (hfb : fb < 18446744073709551616) (is : ∀ w, Calls Tryz.prog 142 #[.string g] w fun e w' => e = .returned (.bool true) ∧ w' = w) (w : World) :
    Calls Tryz.prog 98 #[.string g, .agg #[.int .i64 ka, .int .i64 na, .float .f64 fa, .string sa, .slice aa la ca], .agg #[.int .i64 kb, .int .i64 nb, .float .f64 fb, .string sb, .slice ab lb cb]] w fun e w' => e = .returned (.tuple #[.agg #[.int .i64 (0), .int .i64 (0), .float .f64 (0), .string ⟨#[]⟩, .slice none 0 0], .int .i64 11]) ∧ Below w.heap.size w w' := by
  have HA := hid ha
  have HB := hid hb
  clear ha hb
  have IS := hid is
  clear is
  go_enter Tryz.func98, Tryz.ntmps98
  go_wp2_with fail
  refine (IS.out _).mono ?_
  rintro e w' ⟨rfl, rfl⟩
  go_wp2_with fail
  refine (valueOf_no ka na fa sa aa la ca hfa HA.out _).mono ?_
  rintro e w1 ⟨rfl, hb1⟩
  obtain ⟨⟨c0, c1, c2, c3, c4, _, _, _, _, _, lt⟩, RB, hW⟩ := after3 hb1
  have HRB := hid RB
  clear hb1 RB
  go_wp2_with fail
  refine (valueOf_no kb nb fb sb ab lb cb hfb HB.out _).mono ?_
  rintro e w2 ⟨rfl, hb2⟩
  clear c0 c1 c2 c3 c4 lt
  obtain ⟨⟨x0, x1, x2, ltx⟩, hk, hW2⟩ := later3 hW hb2
  have HRB2 := hid (HRB.out.keep hk)
  clear hb2 hk hW HRB
  have RB3 := HRB2.out.alloc (.cells #[.int .i64 0, .int .i64 0, .int .u64 0] 114)
  obtain ⟨d0, d1, d2, d3, d4, g0, g1, g2, g3, g4, ltr⟩ := RB3
  go_wp2
  all_goals exact bodyPost_ret (v := .tuple #[.agg #[.int .i64 (0), .int .i64 (0), .float .f64 (0), .string ⟨#[]⟩, .slice none 0 0], .int .i64 11]) (by simp [results, Tryz.results98, go_sem, d0, d1, d2, d3, d4]) rfl ⟨rfl, below_set5 (below_a1 hW2 _) (by omega) _ _ _ _ _⟩

set_option maxHeartbeats 2000000 in
theorem op_ny (g : ByteArray) (ka kb : Int) (na nb : Int) (fa fb : Nat) (sa sb : ByteArray) (aa ab : Option Addr) (la ca lb cb : Nat) (ha : rightB ka na fa sa la = false) (hb : rightB kb nb fb sb lb = true) (hfa : fa < 18446744073709551616) (hfb : fb < 18446744073709551616) (is : ∀ w, Calls Tryz.prog 142 #[.string g] w fun e w' => e = .returned (.bool true) ∧ w' = w) (w : World) :
    Calls Tryz.prog 98 #[.string g, .agg #[.int .i64 ka, .int .i64 na, .float .f64 fa, .string sa, .slice aa la ca], .agg #[.int .i64 kb, .int .i64 nb, .float .f64 fb, .string sb, .slice ab lb cb]] w fun e w' => e = .returned (.tuple #[.agg #[.int .i64 (0), .int .i64 (0), .float .f64 (0), .string ⟨#[]⟩, .slice none 0 0], .int .i64 11]) ∧ Below w.heap.size w w' := by
  have HA := hid ha
  have HB := hid hb
  clear ha hb
  have IS := hid is
  clear is
  go_enter Tryz.func98, Tryz.ntmps98
  go_wp2_with fail
  refine (IS.out _).mono ?_
  rintro e w' ⟨rfl, rfl⟩
  go_wp2_with fail
  refine (valueOf_no ka na fa sa aa la ca hfa HA.out _).mono ?_
  rintro e w1 ⟨rfl, hb1⟩
  obtain ⟨⟨c0, c1, c2, c3, c4, _, _, _, _, _, lt⟩, RB, hW⟩ := after3 hb1
  have HRB := hid RB
  clear hb1 RB
  go_wp2_with fail
  refine (valueOf_yes kb nb fb sb ab lb cb hfb HB.out _).mono ?_
  rintro e w2 ⟨rfl, hb2⟩
  clear c0 c1 c2 c3 c4 lt
  obtain ⟨⟨x0, x1, x2, ltx⟩, hk, hW2⟩ := later3 hW hb2
  have HRB2 := hid (HRB.out.keep hk)
  clear hb2 hk hW HRB
  have RB3 := HRB2.out.alloc (.cells #[.int .i64 kb, .int .i64 nb, .int .u64 fb] 114)
  obtain ⟨d0, d1, d2, d3, d4, g0, g1, g2, g3, g4, ltr⟩ := RB3
  go_wp2
  all_goals exact bodyPost_ret (v := .tuple #[.agg #[.int .i64 (0), .int .i64 (0), .float .f64 (0), .string ⟨#[]⟩, .slice none 0 0], .int .i64 11]) (by simp [results, Tryz.results98, go_sem, d0, d1, d2, d3, d4]) rfl ⟨rfl, below_set5 (below_a1 hW2 _) (by omega) _ _ _ _ _⟩

set_option maxHeartbeats 2000000 in
theorem op_yn (g : ByteArray) (ka kb : Int) (na nb : Int) (fa fb : Nat) (sa sb : ByteArray) (aa ab : Option Addr) (la ca lb cb : Nat) (ha : rightB ka na fa sa la = true) (hb : rightB kb nb fb sb lb = false) (hfa : fa < 18446744073709551616) (hfb : fb < 18446744073709551616) (is : ∀ w, Calls Tryz.prog 142 #[.string g] w fun e w' => e = .returned (.bool true) ∧ w' = w) (w : World) :
    Calls Tryz.prog 98 #[.string g, .agg #[.int .i64 ka, .int .i64 na, .float .f64 fa, .string sa, .slice aa la ca], .agg #[.int .i64 kb, .int .i64 nb, .float .f64 fb, .string sb, .slice ab lb cb]] w fun e w' => e = .returned (.tuple #[.agg #[.int .i64 (0), .int .i64 (0), .float .f64 (0), .string ⟨#[]⟩, .slice none 0 0], .int .i64 11]) ∧ Below w.heap.size w w' := by
  have HA := hid ha
  have HB := hid hb
  clear ha hb
  have IS := hid is
  clear is
  go_enter Tryz.func98, Tryz.ntmps98
  go_wp2_with fail
  refine (IS.out _).mono ?_
  rintro e w' ⟨rfl, rfl⟩
  go_wp2_with fail
  refine (valueOf_yes ka na fa sa aa la ca hfa HA.out _).mono ?_
  rintro e w1 ⟨rfl, hb1⟩
  obtain ⟨⟨c0, c1, c2, c3, c4, _, _, _, _, _, lt⟩, RB, hW⟩ := after3 hb1
  have HRB := hid RB
  clear hb1 RB
  go_wp2_with fail
  refine (valueOf_no kb nb fb sb ab lb cb hfb HB.out _).mono ?_
  rintro e w2 ⟨rfl, hb2⟩
  clear c0 c1 c2 c3 c4 lt
  obtain ⟨⟨x0, x1, x2, ltx⟩, hk, hW2⟩ := later3 hW hb2
  have HRB2 := hid (HRB.out.keep hk)
  clear hb2 hk hW HRB
  have RB3 := HRB2.out.alloc (.cells #[.int .i64 0, .int .i64 0, .int .u64 0] 114)
  obtain ⟨d0, d1, d2, d3, d4, g0, g1, g2, g3, g4, ltr⟩ := RB3
  go_wp2
  all_goals exact bodyPost_ret (v := .tuple #[.agg #[.int .i64 (0), .int .i64 (0), .float .f64 (0), .string ⟨#[]⟩, .slice none 0 0], .int .i64 11]) (by simp [results, Tryz.results98, go_sem, d0, d1, d2, d3, d4]) rfl ⟨rfl, below_set5 (below_a1 hW2 _) (by omega) _ _ _ _ _⟩

set_option maxHeartbeats 2000000 in
theorem op_mdiv_a (ka kb : Int) (na nb : Int) (fa fb : Nat) (sa sb : ByteArray) (aa ab : Option Addr) (la ca lb cb : Nat) (ha : rightB ka na fa sa la = true) (hb : rightB kb nb fb sb lb = true) (hfa : fa < 18446744073709551616) (hfb : fb < 18446744073709551616) (hka : (ka == 1) = true) (hkb : (kb == 1) = false) (w : World) :
    Calls Tryz.prog 98 #[.string ⟨#[100, 105, 118]⟩, .agg #[.int .i64 ka, .int .i64 na, .float .f64 fa, .string sa, .slice aa la ca], .agg #[.int .i64 kb, .int .i64 nb, .float .f64 fb, .string sb, .slice ab lb cb]] w fun e w' => e = .returned (.tuple #[.agg #[.int .i64 (0), .int .i64 (0), .float .f64 (0), .string ⟨#[]⟩, .slice none 0 0], .int .i64 11]) ∧ Below w.heap.size w w' := by
  have HA := hid ha
  have HB := hid hb
  clear ha hb
  go_enter Tryz.func98, Tryz.ntmps98
  go_wp2_with fail
  refine (isSign_yes _ (by simp) _).mono ?_
  rintro e w' ⟨rfl, rfl⟩
  go_wp2_with fail
  refine (valueOf_yes ka na fa sa aa la ca hfa HA.out _).mono ?_
  rintro e w1 ⟨rfl, hb1⟩
  obtain ⟨⟨c0, c1, c2, c3, c4, _, _, _, _, _, lt⟩, RB, hW⟩ := after3 hb1
  have HRB := hid RB
  clear hb1 RB
  go_wp2_with fail
  refine (valueOf_yes kb nb fb sb ab lb cb hfb HB.out _).mono ?_
  rintro e w2 ⟨rfl, hb2⟩
  clear c0 c1 c2 c3 c4 lt
  obtain ⟨⟨x0, x1, x2, ltx⟩, hk, hW2⟩ := later3 hW hb2
  have HRB2 := hid (HRB.out.keep hk)
  clear hb2 hk hW HRB
  have RB3 := HRB2.out.alloc (.cells #[.int .i64 kb, .int .i64 nb, .int .u64 fb] 114)
  obtain ⟨d0, d1, d2, d3, d4, g0, g1, g2, g3, g4, ltr⟩ := RB3
  go_wp2
  all_goals exact bodyPost_ret (v := .tuple #[.agg #[.int .i64 (0), .int .i64 (0), .float .f64 (0), .string ⟨#[]⟩, .slice none 0 0], .int .i64 11]) (by simp [results, Tryz.results98, go_sem, d0, d1, d2, d3, d4]) rfl ⟨rfl, below_set5 (below_a1 hW2 _) (by omega) _ _ _ _ _⟩

set_option maxHeartbeats 2000000 in
theorem op_mdiv_b (ka kb : Int) (na nb : Int) (fa fb : Nat) (sa sb : ByteArray) (aa ab : Option Addr) (la ca lb cb : Nat) (ha : rightB ka na fa sa la = true) (hb : rightB kb nb fb sb lb = true) (hfa : fa < 18446744073709551616) (hfb : fb < 18446744073709551616) (hka : (ka == 1) = false) (w : World) :
    Calls Tryz.prog 98 #[.string ⟨#[100, 105, 118]⟩, .agg #[.int .i64 ka, .int .i64 na, .float .f64 fa, .string sa, .slice aa la ca], .agg #[.int .i64 kb, .int .i64 nb, .float .f64 fb, .string sb, .slice ab lb cb]] w fun e w' => e = .returned (.tuple #[.agg #[.int .i64 (0), .int .i64 (0), .float .f64 (0), .string ⟨#[]⟩, .slice none 0 0], .int .i64 11]) ∧ Below w.heap.size w w' := by
  have HA := hid ha
  have HB := hid hb
  clear ha hb
  go_enter Tryz.func98, Tryz.ntmps98
  go_wp2_with fail
  refine (isSign_yes _ (by simp) _).mono ?_
  rintro e w' ⟨rfl, rfl⟩
  go_wp2_with fail
  refine (valueOf_yes ka na fa sa aa la ca hfa HA.out _).mono ?_
  rintro e w1 ⟨rfl, hb1⟩
  obtain ⟨⟨c0, c1, c2, c3, c4, _, _, _, _, _, lt⟩, RB, hW⟩ := after3 hb1
  have HRB := hid RB
  clear hb1 RB
  go_wp2_with fail
  refine (valueOf_yes kb nb fb sb ab lb cb hfb HB.out _).mono ?_
  rintro e w2 ⟨rfl, hb2⟩
  clear c0 c1 c2 c3 c4 lt
  obtain ⟨⟨x0, x1, x2, ltx⟩, hk, hW2⟩ := later3 hW hb2
  have HRB2 := hid (HRB.out.keep hk)
  clear hb2 hk hW HRB
  have RB3 := HRB2.out.alloc (.cells #[.int .i64 kb, .int .i64 nb, .int .u64 fb] 114)
  obtain ⟨d0, d1, d2, d3, d4, g0, g1, g2, g3, g4, ltr⟩ := RB3
  go_wp2
  all_goals exact bodyPost_ret (v := .tuple #[.agg #[.int .i64 (0), .int .i64 (0), .float .f64 (0), .string ⟨#[]⟩, .slice none 0 0], .int .i64 11]) (by simp [results, Tryz.results98, go_sem, d0, d1, d2, d3, d4]) rfl ⟨rfl, below_set5 (below_a1 hW2 _) (by omega) _ _ _ _ _⟩

set_option maxHeartbeats 2000000 in
theorem op_mrem_a (ka kb : Int) (na nb : Int) (fa fb : Nat) (sa sb : ByteArray) (aa ab : Option Addr) (la ca lb cb : Nat) (ha : rightB ka na fa sa la = true) (hb : rightB kb nb fb sb lb = true) (hfa : fa < 18446744073709551616) (hfb : fb < 18446744073709551616) (hka : (ka == 1) = true) (hkb : (kb == 1) = false) (w : World) :
    Calls Tryz.prog 98 #[.string ⟨#[114, 101, 109]⟩, .agg #[.int .i64 ka, .int .i64 na, .float .f64 fa, .string sa, .slice aa la ca], .agg #[.int .i64 kb, .int .i64 nb, .float .f64 fb, .string sb, .slice ab lb cb]] w fun e w' => e = .returned (.tuple #[.agg #[.int .i64 (0), .int .i64 (0), .float .f64 (0), .string ⟨#[]⟩, .slice none 0 0], .int .i64 11]) ∧ Below w.heap.size w w' := by
  have HA := hid ha
  have HB := hid hb
  clear ha hb
  go_enter Tryz.func98, Tryz.ntmps98
  go_wp2_with fail
  refine (isSign_yes _ (by simp) _).mono ?_
  rintro e w' ⟨rfl, rfl⟩
  go_wp2_with fail
  refine (valueOf_yes ka na fa sa aa la ca hfa HA.out _).mono ?_
  rintro e w1 ⟨rfl, hb1⟩
  obtain ⟨⟨c0, c1, c2, c3, c4, _, _, _, _, _, lt⟩, RB, hW⟩ := after3 hb1
  have HRB := hid RB
  clear hb1 RB
  go_wp2_with fail
  refine (valueOf_yes kb nb fb sb ab lb cb hfb HB.out _).mono ?_
  rintro e w2 ⟨rfl, hb2⟩
  clear c0 c1 c2 c3 c4 lt
  obtain ⟨⟨x0, x1, x2, ltx⟩, hk, hW2⟩ := later3 hW hb2
  have HRB2 := hid (HRB.out.keep hk)
  clear hb2 hk hW HRB
  have RB3 := HRB2.out.alloc (.cells #[.int .i64 kb, .int .i64 nb, .int .u64 fb] 114)
  obtain ⟨d0, d1, d2, d3, d4, g0, g1, g2, g3, g4, ltr⟩ := RB3
  go_wp2
  all_goals exact bodyPost_ret (v := .tuple #[.agg #[.int .i64 (0), .int .i64 (0), .float .f64 (0), .string ⟨#[]⟩, .slice none 0 0], .int .i64 11]) (by simp [results, Tryz.results98, go_sem, d0, d1, d2, d3, d4]) rfl ⟨rfl, below_set5 (below_a1 hW2 _) (by omega) _ _ _ _ _⟩

set_option maxHeartbeats 2000000 in
theorem op_mrem_b (ka kb : Int) (na nb : Int) (fa fb : Nat) (sa sb : ByteArray) (aa ab : Option Addr) (la ca lb cb : Nat) (ha : rightB ka na fa sa la = true) (hb : rightB kb nb fb sb lb = true) (hfa : fa < 18446744073709551616) (hfb : fb < 18446744073709551616) (hka : (ka == 1) = false) (w : World) :
    Calls Tryz.prog 98 #[.string ⟨#[114, 101, 109]⟩, .agg #[.int .i64 ka, .int .i64 na, .float .f64 fa, .string sa, .slice aa la ca], .agg #[.int .i64 kb, .int .i64 nb, .float .f64 fb, .string sb, .slice ab lb cb]] w fun e w' => e = .returned (.tuple #[.agg #[.int .i64 (0), .int .i64 (0), .float .f64 (0), .string ⟨#[]⟩, .slice none 0 0], .int .i64 11]) ∧ Below w.heap.size w w' := by
  have HA := hid ha
  have HB := hid hb
  clear ha hb
  go_enter Tryz.func98, Tryz.ntmps98
  go_wp2_with fail
  refine (isSign_yes _ (by simp) _).mono ?_
  rintro e w' ⟨rfl, rfl⟩
  go_wp2_with fail
  refine (valueOf_yes ka na fa sa aa la ca hfa HA.out _).mono ?_
  rintro e w1 ⟨rfl, hb1⟩
  obtain ⟨⟨c0, c1, c2, c3, c4, _, _, _, _, _, lt⟩, RB, hW⟩ := after3 hb1
  have HRB := hid RB
  clear hb1 RB
  go_wp2_with fail
  refine (valueOf_yes kb nb fb sb ab lb cb hfb HB.out _).mono ?_
  rintro e w2 ⟨rfl, hb2⟩
  clear c0 c1 c2 c3 c4 lt
  obtain ⟨⟨x0, x1, x2, ltx⟩, hk, hW2⟩ := later3 hW hb2
  have HRB2 := hid (HRB.out.keep hk)
  clear hb2 hk hW HRB
  have RB3 := HRB2.out.alloc (.cells #[.int .i64 kb, .int .i64 nb, .int .u64 fb] 114)
  obtain ⟨d0, d1, d2, d3, d4, g0, g1, g2, g3, g4, ltr⟩ := RB3
  go_wp2
  all_goals exact bodyPost_ret (v := .tuple #[.agg #[.int .i64 (0), .int .i64 (0), .float .f64 (0), .string ⟨#[]⟩, .slice none 0 0], .int .i64 11]) (by simp [results, Tryz.results98, go_sem, d0, d1, d2, d3, d4]) rfl ⟨rfl, below_set5 (below_a1 hW2 _) (by omega) _ _ _ _ _⟩

theorem isSign_not (g : ByteArray) (h1 : (g.toList == [43]) = false) (h2 : (g.toList == [45]) = false) (h3 : (g.toList == [42]) = false) (h4 : (g.toList == [47]) = false) (h5 : (g.toList == [100, 105, 118]) = false) (h6 : (g.toList == [114, 101, 109]) = false) (w : World) : Calls Tryz.prog 142 #[.string g] w fun e w' => e = .returned (.bool false) ∧ w' = w := by
  go_enter Tryz.func142, Tryz.ntmps142
  go_wp2
  go_ret
  exact ⟨rfl, rfl⟩

theorem three_new {w : World} (o1 o2 o3 : Obj) : Below w.heap.size w (((w.alloc o1).alloc o2).alloc o3) := ((below_new w o1).alloc (by simp) o2).alloc (by simp; omega) o3

set_option maxHeartbeats 2000000 in
theorem op_bad (g : ByteArray) (ka kb : Int) (na nb : Int) (fa fb : Nat) (sa sb : ByteArray) (aa ab : Option Addr) (la ca lb cb : Nat) (is : ∀ w, Calls Tryz.prog 142 #[.string g] w fun e w' => e = .returned (.bool false) ∧ w' = w) (w : World) :
    Calls Tryz.prog 98 #[.string g, .agg #[.int .i64 ka, .int .i64 na, .float .f64 fa, .string sa, .slice aa la ca], .agg #[.int .i64 kb, .int .i64 nb, .float .f64 fb, .string sb, .slice ab lb cb]] w fun e w' => e = .returned (.tuple #[.agg #[.int .i64 (0), .int .i64 (0), .float .f64 (0), .string ⟨#[]⟩, .slice none 0 0], .int .i64 13]) ∧ Below w.heap.size w w' := by
  have IS := hid is
  clear is
  go_enter Tryz.func98, Tryz.ntmps98
  go_wp2_with fail
  refine (IS.out _).mono ?_
  rintro e w' ⟨rfl, rfl⟩
  go_wp2
  exact bodyPost_ret (v := .tuple #[.agg #[.int .i64 (0), .int .i64 (0), .float .f64 (0), .string ⟨#[]⟩, .slice none 0 0], .int .i64 13]) (by simp [results, Tryz.results98, go_sem]) rfl ⟨rfl, three_new _ _ _⟩
end Go.Proofs.YtgljglindgbjaaaGreatDoor


