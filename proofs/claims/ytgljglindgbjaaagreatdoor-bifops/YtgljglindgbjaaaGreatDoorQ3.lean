import Derived.Test.YtgljglindgbjaaaGreatDoorG28
import Derived.Deep.DrawnRows
/- The document's Op walked: products, div and rem. -/
namespace Go.Proofs.YtgljglindgbjaaaGreatDoor
open Go.RowKit
attribute [local go_sem] store_float
attribute [local go_sem ↓] Go.wp_at_zero Go.wp_at_succ

set_option maxHeartbeats 2000000 in
theorem rop_mul_na (ka : Int) (kb : Int) (na nb : Int) (fa fb : Nat) (sa sb : ByteArray) (aa ab : Option Addr) (la ca lb cb : Nat) (ha : rightB ka na fa sa la = false) (w : World) :
    Calls Tryz.prog 20 #[.string ⟨#[42]⟩, .agg #[.int .i64 ka, .int .i64 na, .float .f64 fa, .string sa, .slice aa la ca], .agg #[.int .i64 kb, .int .i64 nb, .float .f64 fb, .string sb, .slice ab lb cb]] w fun e w' => e = .returned (.tuple #[.agg #[.int .i64 (0), .int .i64 (0), .float .f64 (0), .string ⟨#[]⟩, .slice none 0 0], .int .i64 11]) ∧ Below w.heap.size w w' := by
  have HA := hid ha
  clear ha
  go_enter Tryz.func20, Tryz.ntmps20
  go_wp2_with fail
  refine (refRight_any ka na fa sa aa la ca _).mono ?_
  rintro e w1 ⟨rfl, hb1⟩
  rw [HA.out]
  obtain ⟨BA, BB, RB, hW1⟩ := afterABC hb1
  have XA := hid BA
  have XB := hid BB
  have XR := hid RB
  clear hb1 BA BB RB
  obtain ⟨d0, d1, d2, d3, d4, g0, g1, g2, g3, g4, ltr⟩ := XR.out
  go_wp2
  exact bodyPost_ret (v := .tuple #[.agg #[.int .i64 (0), .int .i64 (0), .float .f64 (0), .string ⟨#[]⟩, .slice none 0 0], .int .i64 11]) (by simp [results, Tryz.results20, go_sem, d0, d1, d2, d3, d4]) rfl ⟨rfl, below_set5 hW1 (by omega) _ _ _ _ _⟩

set_option maxHeartbeats 2000000 in
theorem rop_mul_nb (ka : Int) (kb : Int) (na nb : Int) (fa fb : Nat) (sa sb : ByteArray) (aa ab : Option Addr) (la ca lb cb : Nat) (ha : rightB ka na fa sa la = true) (hb : rightB kb nb fb sb lb = false) (w : World) :
    Calls Tryz.prog 20 #[.string ⟨#[42]⟩, .agg #[.int .i64 ka, .int .i64 na, .float .f64 fa, .string sa, .slice aa la ca], .agg #[.int .i64 kb, .int .i64 nb, .float .f64 fb, .string sb, .slice ab lb cb]] w fun e w' => e = .returned (.tuple #[.agg #[.int .i64 (0), .int .i64 (0), .float .f64 (0), .string ⟨#[]⟩, .slice none 0 0], .int .i64 11]) ∧ Below w.heap.size w w' := by
  have HA := hid ha
  clear ha
  have HB := hid hb
  clear hb
  go_enter Tryz.func20, Tryz.ntmps20
  go_wp2_with fail
  refine (refRight_any ka na fa sa aa la ca _).mono ?_
  rintro e w1 ⟨rfl, hb1⟩
  rw [HA.out]
  obtain ⟨BA, BB, RB, hW1⟩ := afterABC hb1
  have XA := hid BA
  have XB := hid BB
  have XR := hid RB
  clear hb1 BA BB RB
  obtain ⟨b0, b1, b2, b3, b4, _, _, _, _, _, bl⟩ := XB.out
  go_wp2_with fail
  refine (refRight_any kb nb fb sb ab lb cb _).mono ?_
  rintro e w2 ⟨rfl, hb⟩
  rw [HB.out]
  clear b0 b1 b2 b3 b4 bl
  have K := hid (XA.out.keep hb)
  clear XA
  have XA := K
  clear K
  have K := hid (XB.out.keep hb)
  clear XB
  have XB := K
  clear K
  have K := hid (XR.out.keep hb)
  clear XR
  have XR := K
  clear K
  have hW2 := bthen hW1 hb
  clear hb hW1
  obtain ⟨d0, d1, d2, d3, d4, g0, g1, g2, g3, g4, ltr⟩ := XR.out
  go_wp2
  exact bodyPost_ret (v := .tuple #[.agg #[.int .i64 (0), .int .i64 (0), .float .f64 (0), .string ⟨#[]⟩, .slice none 0 0], .int .i64 11]) (by simp [results, Tryz.results20, go_sem, d0, d1, d2, d3, d4]) rfl ⟨rfl, below_set5 hW2 (by omega) _ _ _ _ _⟩

set_option maxHeartbeats 2000000 in
theorem rop_mul_w (na nb : Int) (fa fb : Nat) (sa sb : ByteArray) (aa ab : Option Addr) (la ca lb cb : Nat) (ha : rightB 1 na fa sa la = true) (hb : rightB 1 nb fb sb lb = true) (hna : whB na = true) (hnb : whB nb = true) (w : World) :
    Calls Tryz.prog 20 #[.string ⟨#[42]⟩, .agg #[.int .i64 1, .int .i64 na, .float .f64 fa, .string sa, .slice aa la ca], .agg #[.int .i64 1, .int .i64 nb, .float .f64 fb, .string sb, .slice ab lb cb]] w fun e w' => e = .returned (.tuple #[.agg #[.int .i64 ((numInt (na * nb)).k), .int .i64 ((numInt (na * nb)).n), .float .f64 ((numInt (na * nb)).f), .string ⟨#[]⟩, .slice none 0 0], .int .i64 (numInt (na * nb)).e]) ∧ Below w.heap.size w w' := by
  have HA := hid ha
  clear ha
  have HB := hid hb
  clear hb
  go_enter Tryz.func20, Tryz.ntmps20
  go_wp2_with fail
  refine (refRight_any 1 na fa sa aa la ca _).mono ?_
  rintro e w1 ⟨rfl, hb1⟩
  rw [HA.out]
  obtain ⟨BA, BB, RB, hW1⟩ := afterABC hb1
  have XA := hid BA
  have XB := hid BB
  have XR := hid RB
  clear hb1 BA BB RB
  obtain ⟨b0, b1, b2, b3, b4, _, _, _, _, _, bl⟩ := XB.out
  go_wp2_with fail
  refine (refRight_any 1 nb fb sb ab lb cb _).mono ?_
  rintro e w2 ⟨rfl, hb⟩
  rw [HB.out]
  clear b0 b1 b2 b3 b4 bl
  have K := hid (XA.out.keep hb)
  clear XA
  have XA := K
  clear K
  have K := hid (XB.out.keep hb)
  clear XB
  have XB := K
  clear K
  have K := hid (XR.out.keep hb)
  clear XR
  have XR := K
  clear K
  have hW2 := bthen hW1 hb
  clear hb hW1
  obtain ⟨a0, a1, a2, a3, a4, _, _, _, _, _, al⟩ := XA.out
  obtain ⟨b0, b1, b2, b3, b4, _, _, _, _, _, bl⟩ := XB.out
  go_wp2_with fail
  refine (rrk_mul na nb hna hnb _).mono ?_
  rintro e w3 ⟨rfl, hb⟩
  clear a0 a1 a2 a3 a4 al
  clear b0 b1 b2 b3 b4 bl
  have K := hid (XA.out.keep hb)
  clear XA
  have XA := K
  clear K
  have K := hid (XB.out.keep hb)
  clear XB
  have XB := K
  clear K
  have K := hid (XR.out.keep hb)
  clear XR
  have XR := K
  clear K
  have hW3 := bthen hW2 hb
  clear hb hW2
  obtain ⟨d0, d1, d2, d3, d4, g0, g1, g2, g3, g4, ltr⟩ := XR.out
  go_wp2
  exact bodyPost_ret (v := .tuple #[.agg #[.int .i64 ((numInt (na * nb)).k), .int .i64 ((numInt (na * nb)).n), .float .f64 ((numInt (na * nb)).f), .string ⟨#[]⟩, .slice none 0 0], .int .i64 (numInt (na * nb)).e]) (by simp [results, Tryz.results20, go_sem, d0, d1, d2, d3, d4]) rfl ⟨rfl, below_set5 hW3 (by omega) _ _ _ _ _⟩

set_option maxHeartbeats 2000000 in
theorem rop_mul_some12 (na nb : Int) (fa fb : Nat) (sa sb : ByteArray) (aa ab : Option Addr) (la ca lb cb : Nat) (ha : rightB 1 na fa sa la = true) (hb : rightB 2 nb fb sb lb = true) (p1 : -9223372036854775808 ≤ na) (p2 : na ≤ 9223372036854775807) (x y : Nat) (hx : (floatOfInt .f64 na) = x) (hy : fb = y) (r : Nat) (hr : floatBits .mul .f64 x y = some r) (w : World) :
    Calls Tryz.prog 20 #[.string ⟨#[42]⟩, .agg #[.int .i64 1, .int .i64 na, .float .f64 fa, .string sa, .slice aa la ca], .agg #[.int .i64 2, .int .i64 nb, .float .f64 fb, .string sb, .slice ab lb cb]] w fun e w' => e = .returned (.tuple #[.agg #[.int .i64 ((numBits r).k), .int .i64 ((numBits r).n), .float .f64 ((numBits r).f), .string ⟨#[]⟩, .slice none 0 0], .int .i64 (numBits r).e]) ∧ Below w.heap.size w w' := by
  have HA := hid ha
  clear ha
  have HB := hid hb
  clear hb
  have hz : ∀ t (w : World), (binOp .mul t (.float .f64 x) (.float .f64 y)).run Tryz.prog w = .ok (.float .f64 r) w := fun t w => run_float_arith w .mul t .f64 _ _ _ hr
  clear hr
  have HX := hid hx
  have HY := hid hy
  clear hx hy
  go_enter Tryz.func20, Tryz.ntmps20
  go_wp2_with fail
  refine (refRight_any 1 na fa sa aa la ca _).mono ?_
  rintro e w1 ⟨rfl, hb1⟩
  rw [HA.out]
  obtain ⟨BA, BB, RB, hW1⟩ := afterABC hb1
  have XA := hid BA
  have XB := hid BB
  have XR := hid RB
  clear hb1 BA BB RB
  obtain ⟨b0, b1, b2, b3, b4, _, _, _, _, _, bl⟩ := XB.out
  go_wp2_with fail
  refine (refRight_any 2 nb fb sb ab lb cb _).mono ?_
  rintro e w2 ⟨rfl, hb⟩
  rw [HB.out]
  clear b0 b1 b2 b3 b4 bl
  have K := hid (XA.out.keep hb)
  clear XA
  have XA := K
  clear K
  have K := hid (XB.out.keep hb)
  clear XB
  have XB := K
  clear K
  have K := hid (XR.out.keep hb)
  clear XR
  have XR := K
  clear K
  have hW2 := bthen hW1 hb
  clear hb hW1
  obtain ⟨a0, a1, a2, a3, a4, _, _, _, _, _, al⟩ := XA.out
  obtain ⟨b0, b1, b2, b3, b4, _, _, _, _, _, bl⟩ := XB.out
  go_wp2_with fail
  refine (rreal1 na fa sa aa la ca p1 p2 _).mono ?_
  rintro e w3 ⟨rfl, hb⟩
  rw [HX.out]
  clear a0 a1 a2 a3 a4 al
  clear b0 b1 b2 b3 b4 bl
  have K := hid (XA.out.keep hb)
  clear XA
  have XA := K
  clear K
  have K := hid (XB.out.keep hb)
  clear XB
  have XB := K
  clear K
  have K := hid (XR.out.keep hb)
  clear XR
  have XR := K
  clear K
  have hW3 := bthen hW2 hb
  clear hb hW2
  obtain ⟨b0, b1, b2, b3, b4, _, _, _, _, _, bl⟩ := XB.out
  go_wp2_with fail
  refine (rreal2 nb fb sb ab lb cb _).mono ?_
  rintro e w4 ⟨rfl, hb⟩
  rw [HY.out]
  clear b0 b1 b2 b3 b4 bl
  have K := hid (XA.out.keep hb)
  clear XA
  have XA := K
  clear K
  have K := hid (XB.out.keep hb)
  clear XB
  have XB := K
  clear K
  have K := hid (XR.out.keep hb)
  clear XR
  have XR := K
  clear K
  have hW4 := bthen hW3 hb
  clear hb hW3
  go_wp2_with fail
  refine (refFloat_any _ _).mono ?_
  rintro e w5 ⟨rfl, hb⟩
  have K := hid (XA.out.keep hb)
  clear XA
  have XA := K
  clear K
  have K := hid (XB.out.keep hb)
  clear XB
  have XB := K
  clear K
  have K := hid (XR.out.keep hb)
  clear XR
  have XR := K
  clear K
  have hW5 := bthen hW4 hb
  clear hb
  obtain ⟨d0, d1, d2, d3, d4, g0, g1, g2, g3, g4, ltr⟩ := XR.out
  go_wp2
  exact bodyPost_ret (v := .tuple #[.agg #[.int .i64 ((numBits r).k), .int .i64 ((numBits r).n), .float .f64 ((numBits r).f), .string ⟨#[]⟩, .slice none 0 0], .int .i64 (numBits r).e]) (by simp [results, Tryz.results20, go_sem, d0, d1, d2, d3, d4]) rfl ⟨rfl, below_set5 hW5 (by omega) _ _ _ _ _⟩

set_option maxHeartbeats 2000000 in
theorem rop_mul_none12 (na nb : Int) (fa fb : Nat) (sa sb : ByteArray) (aa ab : Option Addr) (la ca lb cb : Nat) (ha : rightB 1 na fa sa la = true) (hb : rightB 2 nb fb sb lb = true) (p1 : -9223372036854775808 ≤ na) (p2 : na ≤ 9223372036854775807) (x y : Nat) (hx : (floatOfInt .f64 na) = x) (hy : fb = y) (hr : floatBits .mul .f64 x y = none) (w : World) :
    Calls Tryz.prog 20 #[.string ⟨#[42]⟩, .agg #[.int .i64 1, .int .i64 na, .float .f64 fa, .string sa, .slice aa la ca], .agg #[.int .i64 2, .int .i64 nb, .float .f64 fb, .string sb, .slice ab lb cb]] w fun e w' => e = .returned (.tuple #[.agg #[.int .i64 (0), .int .i64 (0), .float .f64 (0), .string ⟨#[]⟩, .slice none 0 0], .int .i64 11]) ∧ Below w.heap.size w w' := by
  have HA := hid ha
  clear ha
  have HB := hid hb
  clear hb
  have hz := fun t w => flt_nan .mul t x y hr (by simp) w
  clear hr
  have HX := hid hx
  have HY := hid hy
  clear hx hy
  go_enter Tryz.func20, Tryz.ntmps20
  go_wp2_with fail
  refine (refRight_any 1 na fa sa aa la ca _).mono ?_
  rintro e w1 ⟨rfl, hb1⟩
  rw [HA.out]
  obtain ⟨BA, BB, RB, hW1⟩ := afterABC hb1
  have XA := hid BA
  have XB := hid BB
  have XR := hid RB
  clear hb1 BA BB RB
  obtain ⟨b0, b1, b2, b3, b4, _, _, _, _, _, bl⟩ := XB.out
  go_wp2_with fail
  refine (refRight_any 2 nb fb sb ab lb cb _).mono ?_
  rintro e w2 ⟨rfl, hb⟩
  rw [HB.out]
  clear b0 b1 b2 b3 b4 bl
  have K := hid (XA.out.keep hb)
  clear XA
  have XA := K
  clear K
  have K := hid (XB.out.keep hb)
  clear XB
  have XB := K
  clear K
  have K := hid (XR.out.keep hb)
  clear XR
  have XR := K
  clear K
  have hW2 := bthen hW1 hb
  clear hb hW1
  obtain ⟨a0, a1, a2, a3, a4, _, _, _, _, _, al⟩ := XA.out
  obtain ⟨b0, b1, b2, b3, b4, _, _, _, _, _, bl⟩ := XB.out
  go_wp2_with fail
  refine (rreal1 na fa sa aa la ca p1 p2 _).mono ?_
  rintro e w3 ⟨rfl, hb⟩
  rw [HX.out]
  clear a0 a1 a2 a3 a4 al
  clear b0 b1 b2 b3 b4 bl
  have K := hid (XA.out.keep hb)
  clear XA
  have XA := K
  clear K
  have K := hid (XB.out.keep hb)
  clear XB
  have XB := K
  clear K
  have K := hid (XR.out.keep hb)
  clear XR
  have XR := K
  clear K
  have hW3 := bthen hW2 hb
  clear hb hW2
  obtain ⟨b0, b1, b2, b3, b4, _, _, _, _, _, bl⟩ := XB.out
  go_wp2_with fail
  refine (rreal2 nb fb sb ab lb cb _).mono ?_
  rintro e w4 ⟨rfl, hb⟩
  rw [HY.out]
  clear b0 b1 b2 b3 b4 bl
  have K := hid (XA.out.keep hb)
  clear XA
  have XA := K
  clear K
  have K := hid (XB.out.keep hb)
  clear XB
  have XB := K
  clear K
  have K := hid (XR.out.keep hb)
  clear XR
  have XR := K
  clear K
  have hW4 := bthen hW3 hb
  clear hb hW3
  go_wp2_with fail
  refine (refFloat_any _ _).mono ?_
  rintro e w5 ⟨rfl, hb0⟩
  rw [numBits_nan]
  have hb := drew_then hb0
  have K := hid (XA.out.keep hb)
  clear XA
  have XA := K
  clear K
  have K := hid (XB.out.keep hb)
  clear XB
  have XB := K
  clear K
  have K := hid (XR.out.keep hb)
  clear XR
  have XR := K
  clear K
  have hW5 := bthen hW4 hb
  clear hb hb0
  obtain ⟨d0, d1, d2, d3, d4, g0, g1, g2, g3, g4, ltr⟩ := XR.out
  go_wp2
  exact bodyPost_ret (v := .tuple #[.agg #[.int .i64 (0), .int .i64 (0), .float .f64 (0), .string ⟨#[]⟩, .slice none 0 0], .int .i64 11]) (by simp [results, Tryz.results20, go_sem, d0, d1, d2, d3, d4]) rfl ⟨rfl, below_set5 hW5 (by omega) _ _ _ _ _⟩

set_option maxHeartbeats 2000000 in
theorem rop_mul_some21 (na nb : Int) (fa fb : Nat) (sa sb : ByteArray) (aa ab : Option Addr) (la ca lb cb : Nat) (ha : rightB 2 na fa sa la = true) (hb : rightB 1 nb fb sb lb = true) (q1 : -9223372036854775808 ≤ nb) (q2 : nb ≤ 9223372036854775807) (x y : Nat) (hx : fa = x) (hy : (floatOfInt .f64 nb) = y) (r : Nat) (hr : floatBits .mul .f64 x y = some r) (w : World) :
    Calls Tryz.prog 20 #[.string ⟨#[42]⟩, .agg #[.int .i64 2, .int .i64 na, .float .f64 fa, .string sa, .slice aa la ca], .agg #[.int .i64 1, .int .i64 nb, .float .f64 fb, .string sb, .slice ab lb cb]] w fun e w' => e = .returned (.tuple #[.agg #[.int .i64 ((numBits r).k), .int .i64 ((numBits r).n), .float .f64 ((numBits r).f), .string ⟨#[]⟩, .slice none 0 0], .int .i64 (numBits r).e]) ∧ Below w.heap.size w w' := by
  have HA := hid ha
  clear ha
  have HB := hid hb
  clear hb
  have hz : ∀ t (w : World), (binOp .mul t (.float .f64 x) (.float .f64 y)).run Tryz.prog w = .ok (.float .f64 r) w := fun t w => run_float_arith w .mul t .f64 _ _ _ hr
  clear hr
  have HX := hid hx
  have HY := hid hy
  clear hx hy
  go_enter Tryz.func20, Tryz.ntmps20
  go_wp2_with fail
  refine (refRight_any 2 na fa sa aa la ca _).mono ?_
  rintro e w1 ⟨rfl, hb1⟩
  rw [HA.out]
  obtain ⟨BA, BB, RB, hW1⟩ := afterABC hb1
  have XA := hid BA
  have XB := hid BB
  have XR := hid RB
  clear hb1 BA BB RB
  obtain ⟨b0, b1, b2, b3, b4, _, _, _, _, _, bl⟩ := XB.out
  go_wp2_with fail
  refine (refRight_any 1 nb fb sb ab lb cb _).mono ?_
  rintro e w2 ⟨rfl, hb⟩
  rw [HB.out]
  clear b0 b1 b2 b3 b4 bl
  have K := hid (XA.out.keep hb)
  clear XA
  have XA := K
  clear K
  have K := hid (XB.out.keep hb)
  clear XB
  have XB := K
  clear K
  have K := hid (XR.out.keep hb)
  clear XR
  have XR := K
  clear K
  have hW2 := bthen hW1 hb
  clear hb hW1
  obtain ⟨a0, a1, a2, a3, a4, _, _, _, _, _, al⟩ := XA.out
  obtain ⟨b0, b1, b2, b3, b4, _, _, _, _, _, bl⟩ := XB.out
  go_wp2_with fail
  refine (rreal2 na fa sa aa la ca _).mono ?_
  rintro e w3 ⟨rfl, hb⟩
  rw [HX.out]
  clear a0 a1 a2 a3 a4 al
  clear b0 b1 b2 b3 b4 bl
  have K := hid (XA.out.keep hb)
  clear XA
  have XA := K
  clear K
  have K := hid (XB.out.keep hb)
  clear XB
  have XB := K
  clear K
  have K := hid (XR.out.keep hb)
  clear XR
  have XR := K
  clear K
  have hW3 := bthen hW2 hb
  clear hb hW2
  obtain ⟨b0, b1, b2, b3, b4, _, _, _, _, _, bl⟩ := XB.out
  go_wp2_with fail
  refine (rreal1 nb fb sb ab lb cb q1 q2 _).mono ?_
  rintro e w4 ⟨rfl, hb⟩
  rw [HY.out]
  clear b0 b1 b2 b3 b4 bl
  have K := hid (XA.out.keep hb)
  clear XA
  have XA := K
  clear K
  have K := hid (XB.out.keep hb)
  clear XB
  have XB := K
  clear K
  have K := hid (XR.out.keep hb)
  clear XR
  have XR := K
  clear K
  have hW4 := bthen hW3 hb
  clear hb hW3
  go_wp2_with fail
  refine (refFloat_any _ _).mono ?_
  rintro e w5 ⟨rfl, hb⟩
  have K := hid (XA.out.keep hb)
  clear XA
  have XA := K
  clear K
  have K := hid (XB.out.keep hb)
  clear XB
  have XB := K
  clear K
  have K := hid (XR.out.keep hb)
  clear XR
  have XR := K
  clear K
  have hW5 := bthen hW4 hb
  clear hb
  obtain ⟨d0, d1, d2, d3, d4, g0, g1, g2, g3, g4, ltr⟩ := XR.out
  go_wp2
  exact bodyPost_ret (v := .tuple #[.agg #[.int .i64 ((numBits r).k), .int .i64 ((numBits r).n), .float .f64 ((numBits r).f), .string ⟨#[]⟩, .slice none 0 0], .int .i64 (numBits r).e]) (by simp [results, Tryz.results20, go_sem, d0, d1, d2, d3, d4]) rfl ⟨rfl, below_set5 hW5 (by omega) _ _ _ _ _⟩

set_option maxHeartbeats 2000000 in
theorem rop_mul_none21 (na nb : Int) (fa fb : Nat) (sa sb : ByteArray) (aa ab : Option Addr) (la ca lb cb : Nat) (ha : rightB 2 na fa sa la = true) (hb : rightB 1 nb fb sb lb = true) (q1 : -9223372036854775808 ≤ nb) (q2 : nb ≤ 9223372036854775807) (x y : Nat) (hx : fa = x) (hy : (floatOfInt .f64 nb) = y) (hr : floatBits .mul .f64 x y = none) (w : World) :
    Calls Tryz.prog 20 #[.string ⟨#[42]⟩, .agg #[.int .i64 2, .int .i64 na, .float .f64 fa, .string sa, .slice aa la ca], .agg #[.int .i64 1, .int .i64 nb, .float .f64 fb, .string sb, .slice ab lb cb]] w fun e w' => e = .returned (.tuple #[.agg #[.int .i64 (0), .int .i64 (0), .float .f64 (0), .string ⟨#[]⟩, .slice none 0 0], .int .i64 11]) ∧ Below w.heap.size w w' := by
  have HA := hid ha
  clear ha
  have HB := hid hb
  clear hb
  have hz := fun t w => flt_nan .mul t x y hr (by simp) w
  clear hr
  have HX := hid hx
  have HY := hid hy
  clear hx hy
  go_enter Tryz.func20, Tryz.ntmps20
  go_wp2_with fail
  refine (refRight_any 2 na fa sa aa la ca _).mono ?_
  rintro e w1 ⟨rfl, hb1⟩
  rw [HA.out]
  obtain ⟨BA, BB, RB, hW1⟩ := afterABC hb1
  have XA := hid BA
  have XB := hid BB
  have XR := hid RB
  clear hb1 BA BB RB
  obtain ⟨b0, b1, b2, b3, b4, _, _, _, _, _, bl⟩ := XB.out
  go_wp2_with fail
  refine (refRight_any 1 nb fb sb ab lb cb _).mono ?_
  rintro e w2 ⟨rfl, hb⟩
  rw [HB.out]
  clear b0 b1 b2 b3 b4 bl
  have K := hid (XA.out.keep hb)
  clear XA
  have XA := K
  clear K
  have K := hid (XB.out.keep hb)
  clear XB
  have XB := K
  clear K
  have K := hid (XR.out.keep hb)
  clear XR
  have XR := K
  clear K
  have hW2 := bthen hW1 hb
  clear hb hW1
  obtain ⟨a0, a1, a2, a3, a4, _, _, _, _, _, al⟩ := XA.out
  obtain ⟨b0, b1, b2, b3, b4, _, _, _, _, _, bl⟩ := XB.out
  go_wp2_with fail
  refine (rreal2 na fa sa aa la ca _).mono ?_
  rintro e w3 ⟨rfl, hb⟩
  rw [HX.out]
  clear a0 a1 a2 a3 a4 al
  clear b0 b1 b2 b3 b4 bl
  have K := hid (XA.out.keep hb)
  clear XA
  have XA := K
  clear K
  have K := hid (XB.out.keep hb)
  clear XB
  have XB := K
  clear K
  have K := hid (XR.out.keep hb)
  clear XR
  have XR := K
  clear K
  have hW3 := bthen hW2 hb
  clear hb hW2
  obtain ⟨b0, b1, b2, b3, b4, _, _, _, _, _, bl⟩ := XB.out
  go_wp2_with fail
  refine (rreal1 nb fb sb ab lb cb q1 q2 _).mono ?_
  rintro e w4 ⟨rfl, hb⟩
  rw [HY.out]
  clear b0 b1 b2 b3 b4 bl
  have K := hid (XA.out.keep hb)
  clear XA
  have XA := K
  clear K
  have K := hid (XB.out.keep hb)
  clear XB
  have XB := K
  clear K
  have K := hid (XR.out.keep hb)
  clear XR
  have XR := K
  clear K
  have hW4 := bthen hW3 hb
  clear hb hW3
  go_wp2_with fail
  refine (refFloat_any _ _).mono ?_
  rintro e w5 ⟨rfl, hb0⟩
  rw [numBits_nan]
  have hb := drew_then hb0
  have K := hid (XA.out.keep hb)
  clear XA
  have XA := K
  clear K
  have K := hid (XB.out.keep hb)
  clear XB
  have XB := K
  clear K
  have K := hid (XR.out.keep hb)
  clear XR
  have XR := K
  clear K
  have hW5 := bthen hW4 hb
  clear hb hb0
  obtain ⟨d0, d1, d2, d3, d4, g0, g1, g2, g3, g4, ltr⟩ := XR.out
  go_wp2
  exact bodyPost_ret (v := .tuple #[.agg #[.int .i64 (0), .int .i64 (0), .float .f64 (0), .string ⟨#[]⟩, .slice none 0 0], .int .i64 11]) (by simp [results, Tryz.results20, go_sem, d0, d1, d2, d3, d4]) rfl ⟨rfl, below_set5 hW5 (by omega) _ _ _ _ _⟩

set_option maxHeartbeats 2000000 in
theorem rop_mul_some22 (na nb : Int) (fa fb : Nat) (sa sb : ByteArray) (aa ab : Option Addr) (la ca lb cb : Nat) (ha : rightB 2 na fa sa la = true) (hb : rightB 2 nb fb sb lb = true) (x y : Nat) (hx : fa = x) (hy : fb = y) (r : Nat) (hr : floatBits .mul .f64 x y = some r) (w : World) :
    Calls Tryz.prog 20 #[.string ⟨#[42]⟩, .agg #[.int .i64 2, .int .i64 na, .float .f64 fa, .string sa, .slice aa la ca], .agg #[.int .i64 2, .int .i64 nb, .float .f64 fb, .string sb, .slice ab lb cb]] w fun e w' => e = .returned (.tuple #[.agg #[.int .i64 ((numBits r).k), .int .i64 ((numBits r).n), .float .f64 ((numBits r).f), .string ⟨#[]⟩, .slice none 0 0], .int .i64 (numBits r).e]) ∧ Below w.heap.size w w' := by
  have HA := hid ha
  clear ha
  have HB := hid hb
  clear hb
  have hz : ∀ t (w : World), (binOp .mul t (.float .f64 x) (.float .f64 y)).run Tryz.prog w = .ok (.float .f64 r) w := fun t w => run_float_arith w .mul t .f64 _ _ _ hr
  clear hr
  have HX := hid hx
  have HY := hid hy
  clear hx hy
  go_enter Tryz.func20, Tryz.ntmps20
  go_wp2_with fail
  refine (refRight_any 2 na fa sa aa la ca _).mono ?_
  rintro e w1 ⟨rfl, hb1⟩
  rw [HA.out]
  obtain ⟨BA, BB, RB, hW1⟩ := afterABC hb1
  have XA := hid BA
  have XB := hid BB
  have XR := hid RB
  clear hb1 BA BB RB
  obtain ⟨b0, b1, b2, b3, b4, _, _, _, _, _, bl⟩ := XB.out
  go_wp2_with fail
  refine (refRight_any 2 nb fb sb ab lb cb _).mono ?_
  rintro e w2 ⟨rfl, hb⟩
  rw [HB.out]
  clear b0 b1 b2 b3 b4 bl
  have K := hid (XA.out.keep hb)
  clear XA
  have XA := K
  clear K
  have K := hid (XB.out.keep hb)
  clear XB
  have XB := K
  clear K
  have K := hid (XR.out.keep hb)
  clear XR
  have XR := K
  clear K
  have hW2 := bthen hW1 hb
  clear hb hW1
  obtain ⟨a0, a1, a2, a3, a4, _, _, _, _, _, al⟩ := XA.out
  obtain ⟨b0, b1, b2, b3, b4, _, _, _, _, _, bl⟩ := XB.out
  go_wp2_with fail
  refine (rreal2 na fa sa aa la ca _).mono ?_
  rintro e w3 ⟨rfl, hb⟩
  rw [HX.out]
  clear a0 a1 a2 a3 a4 al
  clear b0 b1 b2 b3 b4 bl
  have K := hid (XA.out.keep hb)
  clear XA
  have XA := K
  clear K
  have K := hid (XB.out.keep hb)
  clear XB
  have XB := K
  clear K
  have K := hid (XR.out.keep hb)
  clear XR
  have XR := K
  clear K
  have hW3 := bthen hW2 hb
  clear hb hW2
  obtain ⟨b0, b1, b2, b3, b4, _, _, _, _, _, bl⟩ := XB.out
  go_wp2_with fail
  refine (rreal2 nb fb sb ab lb cb _).mono ?_
  rintro e w4 ⟨rfl, hb⟩
  rw [HY.out]
  clear b0 b1 b2 b3 b4 bl
  have K := hid (XA.out.keep hb)
  clear XA
  have XA := K
  clear K
  have K := hid (XB.out.keep hb)
  clear XB
  have XB := K
  clear K
  have K := hid (XR.out.keep hb)
  clear XR
  have XR := K
  clear K
  have hW4 := bthen hW3 hb
  clear hb hW3
  go_wp2_with fail
  refine (refFloat_any _ _).mono ?_
  rintro e w5 ⟨rfl, hb⟩
  have K := hid (XA.out.keep hb)
  clear XA
  have XA := K
  clear K
  have K := hid (XB.out.keep hb)
  clear XB
  have XB := K
  clear K
  have K := hid (XR.out.keep hb)
  clear XR
  have XR := K
  clear K
  have hW5 := bthen hW4 hb
  clear hb
  obtain ⟨d0, d1, d2, d3, d4, g0, g1, g2, g3, g4, ltr⟩ := XR.out
  go_wp2
  exact bodyPost_ret (v := .tuple #[.agg #[.int .i64 ((numBits r).k), .int .i64 ((numBits r).n), .float .f64 ((numBits r).f), .string ⟨#[]⟩, .slice none 0 0], .int .i64 (numBits r).e]) (by simp [results, Tryz.results20, go_sem, d0, d1, d2, d3, d4]) rfl ⟨rfl, below_set5 hW5 (by omega) _ _ _ _ _⟩

set_option maxHeartbeats 2000000 in
theorem rop_mul_none22 (na nb : Int) (fa fb : Nat) (sa sb : ByteArray) (aa ab : Option Addr) (la ca lb cb : Nat) (ha : rightB 2 na fa sa la = true) (hb : rightB 2 nb fb sb lb = true) (x y : Nat) (hx : fa = x) (hy : fb = y) (hr : floatBits .mul .f64 x y = none) (w : World) :
    Calls Tryz.prog 20 #[.string ⟨#[42]⟩, .agg #[.int .i64 2, .int .i64 na, .float .f64 fa, .string sa, .slice aa la ca], .agg #[.int .i64 2, .int .i64 nb, .float .f64 fb, .string sb, .slice ab lb cb]] w fun e w' => e = .returned (.tuple #[.agg #[.int .i64 (0), .int .i64 (0), .float .f64 (0), .string ⟨#[]⟩, .slice none 0 0], .int .i64 11]) ∧ Below w.heap.size w w' := by
  have HA := hid ha
  clear ha
  have HB := hid hb
  clear hb
  have hz := fun t w => flt_nan .mul t x y hr (by simp) w
  clear hr
  have HX := hid hx
  have HY := hid hy
  clear hx hy
  go_enter Tryz.func20, Tryz.ntmps20
  go_wp2_with fail
  refine (refRight_any 2 na fa sa aa la ca _).mono ?_
  rintro e w1 ⟨rfl, hb1⟩
  rw [HA.out]
  obtain ⟨BA, BB, RB, hW1⟩ := afterABC hb1
  have XA := hid BA
  have XB := hid BB
  have XR := hid RB
  clear hb1 BA BB RB
  obtain ⟨b0, b1, b2, b3, b4, _, _, _, _, _, bl⟩ := XB.out
  go_wp2_with fail
  refine (refRight_any 2 nb fb sb ab lb cb _).mono ?_
  rintro e w2 ⟨rfl, hb⟩
  rw [HB.out]
  clear b0 b1 b2 b3 b4 bl
  have K := hid (XA.out.keep hb)
  clear XA
  have XA := K
  clear K
  have K := hid (XB.out.keep hb)
  clear XB
  have XB := K
  clear K
  have K := hid (XR.out.keep hb)
  clear XR
  have XR := K
  clear K
  have hW2 := bthen hW1 hb
  clear hb hW1
  obtain ⟨a0, a1, a2, a3, a4, _, _, _, _, _, al⟩ := XA.out
  obtain ⟨b0, b1, b2, b3, b4, _, _, _, _, _, bl⟩ := XB.out
  go_wp2_with fail
  refine (rreal2 na fa sa aa la ca _).mono ?_
  rintro e w3 ⟨rfl, hb⟩
  rw [HX.out]
  clear a0 a1 a2 a3 a4 al
  clear b0 b1 b2 b3 b4 bl
  have K := hid (XA.out.keep hb)
  clear XA
  have XA := K
  clear K
  have K := hid (XB.out.keep hb)
  clear XB
  have XB := K
  clear K
  have K := hid (XR.out.keep hb)
  clear XR
  have XR := K
  clear K
  have hW3 := bthen hW2 hb
  clear hb hW2
  obtain ⟨b0, b1, b2, b3, b4, _, _, _, _, _, bl⟩ := XB.out
  go_wp2_with fail
  refine (rreal2 nb fb sb ab lb cb _).mono ?_
  rintro e w4 ⟨rfl, hb⟩
  rw [HY.out]
  clear b0 b1 b2 b3 b4 bl
  have K := hid (XA.out.keep hb)
  clear XA
  have XA := K
  clear K
  have K := hid (XB.out.keep hb)
  clear XB
  have XB := K
  clear K
  have K := hid (XR.out.keep hb)
  clear XR
  have XR := K
  clear K
  have hW4 := bthen hW3 hb
  clear hb hW3
  go_wp2_with fail
  refine (refFloat_any _ _).mono ?_
  rintro e w5 ⟨rfl, hb0⟩
  rw [numBits_nan]
  have hb := drew_then hb0
  have K := hid (XA.out.keep hb)
  clear XA
  have XA := K
  clear K
  have K := hid (XB.out.keep hb)
  clear XB
  have XB := K
  clear K
  have K := hid (XR.out.keep hb)
  clear XR
  have XR := K
  clear K
  have hW5 := bthen hW4 hb
  clear hb hb0
  obtain ⟨d0, d1, d2, d3, d4, g0, g1, g2, g3, g4, ltr⟩ := XR.out
  go_wp2
  exact bodyPost_ret (v := .tuple #[.agg #[.int .i64 (0), .int .i64 (0), .float .f64 (0), .string ⟨#[]⟩, .slice none 0 0], .int .i64 11]) (by simp [results, Tryz.results20, go_sem, d0, d1, d2, d3, d4]) rfl ⟨rfl, below_set5 hW5 (by omega) _ _ _ _ _⟩

set_option maxHeartbeats 2000000 in
theorem rop_div_na (ka : Int) (kb : Int) (na nb : Int) (fa fb : Nat) (sa sb : ByteArray) (aa ab : Option Addr) (la ca lb cb : Nat) (ha : rightB ka na fa sa la = false) (w : World) :
    Calls Tryz.prog 20 #[.string ⟨#[100, 105, 118]⟩, .agg #[.int .i64 ka, .int .i64 na, .float .f64 fa, .string sa, .slice aa la ca], .agg #[.int .i64 kb, .int .i64 nb, .float .f64 fb, .string sb, .slice ab lb cb]] w fun e w' => e = .returned (.tuple #[.agg #[.int .i64 (0), .int .i64 (0), .float .f64 (0), .string ⟨#[]⟩, .slice none 0 0], .int .i64 11]) ∧ Below w.heap.size w w' := by
  have HA := hid ha
  clear ha
  go_enter Tryz.func20, Tryz.ntmps20
  go_wp2_with fail
  refine (refRight_any ka na fa sa aa la ca _).mono ?_
  rintro e w1 ⟨rfl, hb1⟩
  rw [HA.out]
  obtain ⟨BA, BB, RB, hW1⟩ := afterABC hb1
  have XA := hid BA
  have XB := hid BB
  have XR := hid RB
  clear hb1 BA BB RB
  obtain ⟨d0, d1, d2, d3, d4, g0, g1, g2, g3, g4, ltr⟩ := XR.out
  go_wp2
  exact bodyPost_ret (v := .tuple #[.agg #[.int .i64 (0), .int .i64 (0), .float .f64 (0), .string ⟨#[]⟩, .slice none 0 0], .int .i64 11]) (by simp [results, Tryz.results20, go_sem, d0, d1, d2, d3, d4]) rfl ⟨rfl, below_set5 hW1 (by omega) _ _ _ _ _⟩

set_option maxHeartbeats 2000000 in
theorem rop_div_nb (ka : Int) (kb : Int) (na nb : Int) (fa fb : Nat) (sa sb : ByteArray) (aa ab : Option Addr) (la ca lb cb : Nat) (ha : rightB ka na fa sa la = true) (hb : rightB kb nb fb sb lb = false) (w : World) :
    Calls Tryz.prog 20 #[.string ⟨#[100, 105, 118]⟩, .agg #[.int .i64 ka, .int .i64 na, .float .f64 fa, .string sa, .slice aa la ca], .agg #[.int .i64 kb, .int .i64 nb, .float .f64 fb, .string sb, .slice ab lb cb]] w fun e w' => e = .returned (.tuple #[.agg #[.int .i64 (0), .int .i64 (0), .float .f64 (0), .string ⟨#[]⟩, .slice none 0 0], .int .i64 11]) ∧ Below w.heap.size w w' := by
  have HA := hid ha
  clear ha
  have HB := hid hb
  clear hb
  go_enter Tryz.func20, Tryz.ntmps20
  go_wp2_with fail
  refine (refRight_any ka na fa sa aa la ca _).mono ?_
  rintro e w1 ⟨rfl, hb1⟩
  rw [HA.out]
  obtain ⟨BA, BB, RB, hW1⟩ := afterABC hb1
  have XA := hid BA
  have XB := hid BB
  have XR := hid RB
  clear hb1 BA BB RB
  obtain ⟨b0, b1, b2, b3, b4, _, _, _, _, _, bl⟩ := XB.out
  go_wp2_with fail
  refine (refRight_any kb nb fb sb ab lb cb _).mono ?_
  rintro e w2 ⟨rfl, hb⟩
  rw [HB.out]
  clear b0 b1 b2 b3 b4 bl
  have K := hid (XA.out.keep hb)
  clear XA
  have XA := K
  clear K
  have K := hid (XB.out.keep hb)
  clear XB
  have XB := K
  clear K
  have K := hid (XR.out.keep hb)
  clear XR
  have XR := K
  clear K
  have hW2 := bthen hW1 hb
  clear hb hW1
  obtain ⟨d0, d1, d2, d3, d4, g0, g1, g2, g3, g4, ltr⟩ := XR.out
  go_wp2
  exact bodyPost_ret (v := .tuple #[.agg #[.int .i64 (0), .int .i64 (0), .float .f64 (0), .string ⟨#[]⟩, .slice none 0 0], .int .i64 11]) (by simp [results, Tryz.results20, go_sem, d0, d1, d2, d3, d4]) rfl ⟨rfl, below_set5 hW2 (by omega) _ _ _ _ _⟩

set_option maxHeartbeats 2000000 in
theorem rop_div_m12 (na nb : Int) (fa fb : Nat) (sa sb : ByteArray) (aa ab : Option Addr) (la ca lb cb : Nat) (ha : rightB 1 na fa sa la = true) (hb : rightB 2 nb fb sb lb = true) (w : World) :
    Calls Tryz.prog 20 #[.string ⟨#[100, 105, 118]⟩, .agg #[.int .i64 1, .int .i64 na, .float .f64 fa, .string sa, .slice aa la ca], .agg #[.int .i64 2, .int .i64 nb, .float .f64 fb, .string sb, .slice ab lb cb]] w fun e w' => e = .returned (.tuple #[.agg #[.int .i64 (0), .int .i64 (0), .float .f64 (0), .string ⟨#[]⟩, .slice none 0 0], .int .i64 11]) ∧ Below w.heap.size w w' := by
  have HA := hid ha
  clear ha
  have HB := hid hb
  clear hb
  go_enter Tryz.func20, Tryz.ntmps20
  go_wp2_with fail
  refine (refRight_any 1 na fa sa aa la ca _).mono ?_
  rintro e w1 ⟨rfl, hb1⟩
  rw [HA.out]
  obtain ⟨BA, BB, RB, hW1⟩ := afterABC hb1
  have XA := hid BA
  have XB := hid BB
  have XR := hid RB
  clear hb1 BA BB RB
  obtain ⟨b0, b1, b2, b3, b4, _, _, _, _, _, bl⟩ := XB.out
  go_wp2_with fail
  refine (refRight_any 2 nb fb sb ab lb cb _).mono ?_
  rintro e w2 ⟨rfl, hb⟩
  rw [HB.out]
  clear b0 b1 b2 b3 b4 bl
  have K := hid (XA.out.keep hb)
  clear XA
  have XA := K
  clear K
  have K := hid (XB.out.keep hb)
  clear XB
  have XB := K
  clear K
  have K := hid (XR.out.keep hb)
  clear XR
  have XR := K
  clear K
  have hW2 := bthen hW1 hb
  clear hb hW1
  obtain ⟨a0, a1, a2, a3, a4, _, _, _, _, _, al⟩ := XA.out
  obtain ⟨b0, b1, b2, b3, b4, _, _, _, _, _, bl⟩ := XB.out
  obtain ⟨d0, d1, d2, d3, d4, g0, g1, g2, g3, g4, ltr⟩ := XR.out
  go_wp2
  exact bodyPost_ret (v := .tuple #[.agg #[.int .i64 (0), .int .i64 (0), .float .f64 (0), .string ⟨#[]⟩, .slice none 0 0], .int .i64 11]) (by simp [results, Tryz.results20, go_sem, d0, d1, d2, d3, d4]) rfl ⟨rfl, below_set5 hW2 (by omega) _ _ _ _ _⟩

set_option maxHeartbeats 2000000 in
theorem rop_div_m21 (na nb : Int) (fa fb : Nat) (sa sb : ByteArray) (aa ab : Option Addr) (la ca lb cb : Nat) (ha : rightB 2 na fa sa la = true) (hb : rightB 1 nb fb sb lb = true) (w : World) :
    Calls Tryz.prog 20 #[.string ⟨#[100, 105, 118]⟩, .agg #[.int .i64 2, .int .i64 na, .float .f64 fa, .string sa, .slice aa la ca], .agg #[.int .i64 1, .int .i64 nb, .float .f64 fb, .string sb, .slice ab lb cb]] w fun e w' => e = .returned (.tuple #[.agg #[.int .i64 (0), .int .i64 (0), .float .f64 (0), .string ⟨#[]⟩, .slice none 0 0], .int .i64 11]) ∧ Below w.heap.size w w' := by
  have HA := hid ha
  clear ha
  have HB := hid hb
  clear hb
  go_enter Tryz.func20, Tryz.ntmps20
  go_wp2_with fail
  refine (refRight_any 2 na fa sa aa la ca _).mono ?_
  rintro e w1 ⟨rfl, hb1⟩
  rw [HA.out]
  obtain ⟨BA, BB, RB, hW1⟩ := afterABC hb1
  have XA := hid BA
  have XB := hid BB
  have XR := hid RB
  clear hb1 BA BB RB
  obtain ⟨b0, b1, b2, b3, b4, _, _, _, _, _, bl⟩ := XB.out
  go_wp2_with fail
  refine (refRight_any 1 nb fb sb ab lb cb _).mono ?_
  rintro e w2 ⟨rfl, hb⟩
  rw [HB.out]
  clear b0 b1 b2 b3 b4 bl
  have K := hid (XA.out.keep hb)
  clear XA
  have XA := K
  clear K
  have K := hid (XB.out.keep hb)
  clear XB
  have XB := K
  clear K
  have K := hid (XR.out.keep hb)
  clear XR
  have XR := K
  clear K
  have hW2 := bthen hW1 hb
  clear hb hW1
  obtain ⟨a0, a1, a2, a3, a4, _, _, _, _, _, al⟩ := XA.out
  obtain ⟨b0, b1, b2, b3, b4, _, _, _, _, _, bl⟩ := XB.out
  obtain ⟨d0, d1, d2, d3, d4, g0, g1, g2, g3, g4, ltr⟩ := XR.out
  go_wp2
  exact bodyPost_ret (v := .tuple #[.agg #[.int .i64 (0), .int .i64 (0), .float .f64 (0), .string ⟨#[]⟩, .slice none 0 0], .int .i64 11]) (by simp [results, Tryz.results20, go_sem, d0, d1, d2, d3, d4]) rfl ⟨rfl, below_set5 hW2 (by omega) _ _ _ _ _⟩

set_option maxHeartbeats 2000000 in
theorem rop_div_m22 (na nb : Int) (fa fb : Nat) (sa sb : ByteArray) (aa ab : Option Addr) (la ca lb cb : Nat) (ha : rightB 2 na fa sa la = true) (hb : rightB 2 nb fb sb lb = true) (w : World) :
    Calls Tryz.prog 20 #[.string ⟨#[100, 105, 118]⟩, .agg #[.int .i64 2, .int .i64 na, .float .f64 fa, .string sa, .slice aa la ca], .agg #[.int .i64 2, .int .i64 nb, .float .f64 fb, .string sb, .slice ab lb cb]] w fun e w' => e = .returned (.tuple #[.agg #[.int .i64 (0), .int .i64 (0), .float .f64 (0), .string ⟨#[]⟩, .slice none 0 0], .int .i64 11]) ∧ Below w.heap.size w w' := by
  have HA := hid ha
  clear ha
  have HB := hid hb
  clear hb
  go_enter Tryz.func20, Tryz.ntmps20
  go_wp2_with fail
  refine (refRight_any 2 na fa sa aa la ca _).mono ?_
  rintro e w1 ⟨rfl, hb1⟩
  rw [HA.out]
  obtain ⟨BA, BB, RB, hW1⟩ := afterABC hb1
  have XA := hid BA
  have XB := hid BB
  have XR := hid RB
  clear hb1 BA BB RB
  obtain ⟨b0, b1, b2, b3, b4, _, _, _, _, _, bl⟩ := XB.out
  go_wp2_with fail
  refine (refRight_any 2 nb fb sb ab lb cb _).mono ?_
  rintro e w2 ⟨rfl, hb⟩
  rw [HB.out]
  clear b0 b1 b2 b3 b4 bl
  have K := hid (XA.out.keep hb)
  clear XA
  have XA := K
  clear K
  have K := hid (XB.out.keep hb)
  clear XB
  have XB := K
  clear K
  have K := hid (XR.out.keep hb)
  clear XR
  have XR := K
  clear K
  have hW2 := bthen hW1 hb
  clear hb hW1
  obtain ⟨a0, a1, a2, a3, a4, _, _, _, _, _, al⟩ := XA.out
  obtain ⟨b0, b1, b2, b3, b4, _, _, _, _, _, bl⟩ := XB.out
  obtain ⟨d0, d1, d2, d3, d4, g0, g1, g2, g3, g4, ltr⟩ := XR.out
  go_wp2
  exact bodyPost_ret (v := .tuple #[.agg #[.int .i64 (0), .int .i64 (0), .float .f64 (0), .string ⟨#[]⟩, .slice none 0 0], .int .i64 11]) (by simp [results, Tryz.results20, go_sem, d0, d1, d2, d3, d4]) rfl ⟨rfl, below_set5 hW2 (by omega) _ _ _ _ _⟩

set_option maxHeartbeats 2000000 in
theorem rop_div_0 (na nb : Int) (fa fb : Nat) (sa sb : ByteArray) (aa ab : Option Addr) (la ca lb cb : Nat) (ha : rightB 1 na fa sa la = true) (hb : rightB 1 nb fb sb lb = true) (h0 : nb = 0) (w : World) :
    Calls Tryz.prog 20 #[.string ⟨#[100, 105, 118]⟩, .agg #[.int .i64 1, .int .i64 na, .float .f64 fa, .string sa, .slice aa la ca], .agg #[.int .i64 1, .int .i64 nb, .float .f64 fb, .string sb, .slice ab lb cb]] w fun e w' => e = .returned (.tuple #[.agg #[.int .i64 (0), .int .i64 (0), .float .f64 (0), .string ⟨#[]⟩, .slice none 0 0], .int .i64 11]) ∧ Below w.heap.size w w' := by
  have HA := hid ha
  clear ha
  have HB := hid hb
  clear hb
  subst h0
  go_enter Tryz.func20, Tryz.ntmps20
  go_wp2_with fail
  refine (refRight_any 1 na fa sa aa la ca _).mono ?_
  rintro e w1 ⟨rfl, hb1⟩
  rw [HA.out]
  obtain ⟨BA, BB, RB, hW1⟩ := afterABC hb1
  have XA := hid BA
  have XB := hid BB
  have XR := hid RB
  clear hb1 BA BB RB
  obtain ⟨b0, b1, b2, b3, b4, _, _, _, _, _, bl⟩ := XB.out
  go_wp2_with fail
  refine (refRight_any 1 0 fb sb ab lb cb _).mono ?_
  rintro e w2 ⟨rfl, hb⟩
  rw [HB.out]
  clear b0 b1 b2 b3 b4 bl
  have K := hid (XA.out.keep hb)
  clear XA
  have XA := K
  clear K
  have K := hid (XB.out.keep hb)
  clear XB
  have XB := K
  clear K
  have K := hid (XR.out.keep hb)
  clear XR
  have XR := K
  clear K
  have hW2 := bthen hW1 hb
  clear hb hW1
  obtain ⟨a0, a1, a2, a3, a4, _, _, _, _, _, al⟩ := XA.out
  obtain ⟨b0, b1, b2, b3, b4, _, _, _, _, _, bl⟩ := XB.out
  obtain ⟨d0, d1, d2, d3, d4, g0, g1, g2, g3, g4, ltr⟩ := XR.out
  go_wp2
  exact bodyPost_ret (v := .tuple #[.agg #[.int .i64 (0), .int .i64 (0), .float .f64 (0), .string ⟨#[]⟩, .slice none 0 0], .int .i64 11]) (by simp [results, Tryz.results20, go_sem, d0, d1, d2, d3, d4]) rfl ⟨rfl, below_set5 hW2 (by omega) _ _ _ _ _⟩

set_option maxHeartbeats 2000000 in
theorem rop_div_d (na nb : Int) (fa fb : Nat) (sa sb : ByteArray) (aa ab : Option Addr) (la ca lb cb : Nat) (ha : rightB 1 na fa sa la = true) (hb : rightB 1 nb fb sb lb = true) (h0 : (nb == 0) = false) (hna : whB na = true) (hnb : whB nb = true) (w : World) :
    Calls Tryz.prog 20 #[.string ⟨#[100, 105, 118]⟩, .agg #[.int .i64 1, .int .i64 na, .float .f64 fa, .string sa, .slice aa la ca], .agg #[.int .i64 1, .int .i64 nb, .float .f64 fb, .string sb, .slice ab lb cb]] w fun e w' => e = .returned (.tuple #[.agg #[.int .i64 ((numInt (na.tdiv nb)).k), .int .i64 ((numInt (na.tdiv nb)).n), .float .f64 ((numInt (na.tdiv nb)).f), .string ⟨#[]⟩, .slice none 0 0], .int .i64 (numInt (na.tdiv nb)).e]) ∧ Below w.heap.size w w' := by
  have HA := hid ha
  clear ha
  have HB := hid hb
  clear hb
  obtain ⟨a1, a2⟩ := whB_yes hna
  obtain ⟨b1, b2⟩ := whB_yes hnb
  have b0 : nb ≠ 0 := by simpa using h0
  have hd : -576460752303423488 ≤ na.tdiv nb ∧ na.tdiv nb ≤ 576460752303423488 := div_bounds a1 a2 b1 b2 b0
  go_enter Tryz.func20, Tryz.ntmps20
  go_wp2_with fail
  refine (refRight_any 1 na fa sa aa la ca _).mono ?_
  rintro e w1 ⟨rfl, hb1⟩
  rw [HA.out]
  obtain ⟨BA, BB, RB, hW1⟩ := afterABC hb1
  have XA := hid BA
  have XB := hid BB
  have XR := hid RB
  clear hb1 BA BB RB
  obtain ⟨b0, b1, b2, b3, b4, _, _, _, _, _, bl⟩ := XB.out
  go_wp2_with fail
  refine (refRight_any 1 nb fb sb ab lb cb _).mono ?_
  rintro e w2 ⟨rfl, hb⟩
  rw [HB.out]
  clear b0 b1 b2 b3 b4 bl
  have K := hid (XA.out.keep hb)
  clear XA
  have XA := K
  clear K
  have K := hid (XB.out.keep hb)
  clear XB
  have XB := K
  clear K
  have K := hid (XR.out.keep hb)
  clear XR
  have XR := K
  clear K
  have hW2 := bthen hW1 hb
  clear hb hW1
  obtain ⟨a0, a1, a2, a3, a4, _, _, _, _, _, al⟩ := XA.out
  obtain ⟨b0, b1, b2, b3, b4, _, _, _, _, _, bl⟩ := XB.out
  go_wp2_with fail
  refine (refInt_any _ _).mono ?_
  rintro e w3 ⟨rfl, hb⟩
  clear a0 a1 a2 a3 a4 al
  clear b0 b1 b2 b3 b4 bl
  have K := hid (XA.out.keep hb)
  clear XA
  have XA := K
  clear K
  have K := hid (XB.out.keep hb)
  clear XB
  have XB := K
  clear K
  have K := hid (XR.out.keep hb)
  clear XR
  have XR := K
  clear K
  have hW3 := bthen hW2 hb
  clear hb hW2
  obtain ⟨d0, d1, d2, d3, d4, g0, g1, g2, g3, g4, ltr⟩ := XR.out
  go_wp2
  exact bodyPost_ret (v := .tuple #[.agg #[.int .i64 ((numInt (na.tdiv nb)).k), .int .i64 ((numInt (na.tdiv nb)).n), .float .f64 ((numInt (na.tdiv nb)).f), .string ⟨#[]⟩, .slice none 0 0], .int .i64 (numInt (na.tdiv nb)).e]) (by simp [results, Tryz.results20, go_sem, d0, d1, d2, d3, d4]) rfl ⟨rfl, below_set5 hW3 (by omega) _ _ _ _ _⟩

set_option maxHeartbeats 2000000 in
theorem rop_rem_na (ka : Int) (kb : Int) (na nb : Int) (fa fb : Nat) (sa sb : ByteArray) (aa ab : Option Addr) (la ca lb cb : Nat) (ha : rightB ka na fa sa la = false) (w : World) :
    Calls Tryz.prog 20 #[.string ⟨#[114, 101, 109]⟩, .agg #[.int .i64 ka, .int .i64 na, .float .f64 fa, .string sa, .slice aa la ca], .agg #[.int .i64 kb, .int .i64 nb, .float .f64 fb, .string sb, .slice ab lb cb]] w fun e w' => e = .returned (.tuple #[.agg #[.int .i64 (0), .int .i64 (0), .float .f64 (0), .string ⟨#[]⟩, .slice none 0 0], .int .i64 11]) ∧ Below w.heap.size w w' := by
  have HA := hid ha
  clear ha
  go_enter Tryz.func20, Tryz.ntmps20
  go_wp2_with fail
  refine (refRight_any ka na fa sa aa la ca _).mono ?_
  rintro e w1 ⟨rfl, hb1⟩
  rw [HA.out]
  obtain ⟨BA, BB, RB, hW1⟩ := afterABC hb1
  have XA := hid BA
  have XB := hid BB
  have XR := hid RB
  clear hb1 BA BB RB
  obtain ⟨d0, d1, d2, d3, d4, g0, g1, g2, g3, g4, ltr⟩ := XR.out
  go_wp2
  exact bodyPost_ret (v := .tuple #[.agg #[.int .i64 (0), .int .i64 (0), .float .f64 (0), .string ⟨#[]⟩, .slice none 0 0], .int .i64 11]) (by simp [results, Tryz.results20, go_sem, d0, d1, d2, d3, d4]) rfl ⟨rfl, below_set5 hW1 (by omega) _ _ _ _ _⟩

set_option maxHeartbeats 2000000 in
theorem rop_rem_nb (ka : Int) (kb : Int) (na nb : Int) (fa fb : Nat) (sa sb : ByteArray) (aa ab : Option Addr) (la ca lb cb : Nat) (ha : rightB ka na fa sa la = true) (hb : rightB kb nb fb sb lb = false) (w : World) :
    Calls Tryz.prog 20 #[.string ⟨#[114, 101, 109]⟩, .agg #[.int .i64 ka, .int .i64 na, .float .f64 fa, .string sa, .slice aa la ca], .agg #[.int .i64 kb, .int .i64 nb, .float .f64 fb, .string sb, .slice ab lb cb]] w fun e w' => e = .returned (.tuple #[.agg #[.int .i64 (0), .int .i64 (0), .float .f64 (0), .string ⟨#[]⟩, .slice none 0 0], .int .i64 11]) ∧ Below w.heap.size w w' := by
  have HA := hid ha
  clear ha
  have HB := hid hb
  clear hb
  go_enter Tryz.func20, Tryz.ntmps20
  go_wp2_with fail
  refine (refRight_any ka na fa sa aa la ca _).mono ?_
  rintro e w1 ⟨rfl, hb1⟩
  rw [HA.out]
  obtain ⟨BA, BB, RB, hW1⟩ := afterABC hb1
  have XA := hid BA
  have XB := hid BB
  have XR := hid RB
  clear hb1 BA BB RB
  obtain ⟨b0, b1, b2, b3, b4, _, _, _, _, _, bl⟩ := XB.out
  go_wp2_with fail
  refine (refRight_any kb nb fb sb ab lb cb _).mono ?_
  rintro e w2 ⟨rfl, hb⟩
  rw [HB.out]
  clear b0 b1 b2 b3 b4 bl
  have K := hid (XA.out.keep hb)
  clear XA
  have XA := K
  clear K
  have K := hid (XB.out.keep hb)
  clear XB
  have XB := K
  clear K
  have K := hid (XR.out.keep hb)
  clear XR
  have XR := K
  clear K
  have hW2 := bthen hW1 hb
  clear hb hW1
  obtain ⟨d0, d1, d2, d3, d4, g0, g1, g2, g3, g4, ltr⟩ := XR.out
  go_wp2
  exact bodyPost_ret (v := .tuple #[.agg #[.int .i64 (0), .int .i64 (0), .float .f64 (0), .string ⟨#[]⟩, .slice none 0 0], .int .i64 11]) (by simp [results, Tryz.results20, go_sem, d0, d1, d2, d3, d4]) rfl ⟨rfl, below_set5 hW2 (by omega) _ _ _ _ _⟩

set_option maxHeartbeats 2000000 in
theorem rop_rem_m12 (na nb : Int) (fa fb : Nat) (sa sb : ByteArray) (aa ab : Option Addr) (la ca lb cb : Nat) (ha : rightB 1 na fa sa la = true) (hb : rightB 2 nb fb sb lb = true) (w : World) :
    Calls Tryz.prog 20 #[.string ⟨#[114, 101, 109]⟩, .agg #[.int .i64 1, .int .i64 na, .float .f64 fa, .string sa, .slice aa la ca], .agg #[.int .i64 2, .int .i64 nb, .float .f64 fb, .string sb, .slice ab lb cb]] w fun e w' => e = .returned (.tuple #[.agg #[.int .i64 (0), .int .i64 (0), .float .f64 (0), .string ⟨#[]⟩, .slice none 0 0], .int .i64 11]) ∧ Below w.heap.size w w' := by
  have HA := hid ha
  clear ha
  have HB := hid hb
  clear hb
  go_enter Tryz.func20, Tryz.ntmps20
  go_wp2_with fail
  refine (refRight_any 1 na fa sa aa la ca _).mono ?_
  rintro e w1 ⟨rfl, hb1⟩
  rw [HA.out]
  obtain ⟨BA, BB, RB, hW1⟩ := afterABC hb1
  have XA := hid BA
  have XB := hid BB
  have XR := hid RB
  clear hb1 BA BB RB
  obtain ⟨b0, b1, b2, b3, b4, _, _, _, _, _, bl⟩ := XB.out
  go_wp2_with fail
  refine (refRight_any 2 nb fb sb ab lb cb _).mono ?_
  rintro e w2 ⟨rfl, hb⟩
  rw [HB.out]
  clear b0 b1 b2 b3 b4 bl
  have K := hid (XA.out.keep hb)
  clear XA
  have XA := K
  clear K
  have K := hid (XB.out.keep hb)
  clear XB
  have XB := K
  clear K
  have K := hid (XR.out.keep hb)
  clear XR
  have XR := K
  clear K
  have hW2 := bthen hW1 hb
  clear hb hW1
  obtain ⟨a0, a1, a2, a3, a4, _, _, _, _, _, al⟩ := XA.out
  obtain ⟨b0, b1, b2, b3, b4, _, _, _, _, _, bl⟩ := XB.out
  obtain ⟨d0, d1, d2, d3, d4, g0, g1, g2, g3, g4, ltr⟩ := XR.out
  go_wp2
  exact bodyPost_ret (v := .tuple #[.agg #[.int .i64 (0), .int .i64 (0), .float .f64 (0), .string ⟨#[]⟩, .slice none 0 0], .int .i64 11]) (by simp [results, Tryz.results20, go_sem, d0, d1, d2, d3, d4]) rfl ⟨rfl, below_set5 hW2 (by omega) _ _ _ _ _⟩

set_option maxHeartbeats 2000000 in
theorem rop_rem_m21 (na nb : Int) (fa fb : Nat) (sa sb : ByteArray) (aa ab : Option Addr) (la ca lb cb : Nat) (ha : rightB 2 na fa sa la = true) (hb : rightB 1 nb fb sb lb = true) (w : World) :
    Calls Tryz.prog 20 #[.string ⟨#[114, 101, 109]⟩, .agg #[.int .i64 2, .int .i64 na, .float .f64 fa, .string sa, .slice aa la ca], .agg #[.int .i64 1, .int .i64 nb, .float .f64 fb, .string sb, .slice ab lb cb]] w fun e w' => e = .returned (.tuple #[.agg #[.int .i64 (0), .int .i64 (0), .float .f64 (0), .string ⟨#[]⟩, .slice none 0 0], .int .i64 11]) ∧ Below w.heap.size w w' := by
  have HA := hid ha
  clear ha
  have HB := hid hb
  clear hb
  go_enter Tryz.func20, Tryz.ntmps20
  go_wp2_with fail
  refine (refRight_any 2 na fa sa aa la ca _).mono ?_
  rintro e w1 ⟨rfl, hb1⟩
  rw [HA.out]
  obtain ⟨BA, BB, RB, hW1⟩ := afterABC hb1
  have XA := hid BA
  have XB := hid BB
  have XR := hid RB
  clear hb1 BA BB RB
  obtain ⟨b0, b1, b2, b3, b4, _, _, _, _, _, bl⟩ := XB.out
  go_wp2_with fail
  refine (refRight_any 1 nb fb sb ab lb cb _).mono ?_
  rintro e w2 ⟨rfl, hb⟩
  rw [HB.out]
  clear b0 b1 b2 b3 b4 bl
  have K := hid (XA.out.keep hb)
  clear XA
  have XA := K
  clear K
  have K := hid (XB.out.keep hb)
  clear XB
  have XB := K
  clear K
  have K := hid (XR.out.keep hb)
  clear XR
  have XR := K
  clear K
  have hW2 := bthen hW1 hb
  clear hb hW1
  obtain ⟨a0, a1, a2, a3, a4, _, _, _, _, _, al⟩ := XA.out
  obtain ⟨b0, b1, b2, b3, b4, _, _, _, _, _, bl⟩ := XB.out
  obtain ⟨d0, d1, d2, d3, d4, g0, g1, g2, g3, g4, ltr⟩ := XR.out
  go_wp2
  exact bodyPost_ret (v := .tuple #[.agg #[.int .i64 (0), .int .i64 (0), .float .f64 (0), .string ⟨#[]⟩, .slice none 0 0], .int .i64 11]) (by simp [results, Tryz.results20, go_sem, d0, d1, d2, d3, d4]) rfl ⟨rfl, below_set5 hW2 (by omega) _ _ _ _ _⟩

set_option maxHeartbeats 2000000 in
theorem rop_rem_m22 (na nb : Int) (fa fb : Nat) (sa sb : ByteArray) (aa ab : Option Addr) (la ca lb cb : Nat) (ha : rightB 2 na fa sa la = true) (hb : rightB 2 nb fb sb lb = true) (w : World) :
    Calls Tryz.prog 20 #[.string ⟨#[114, 101, 109]⟩, .agg #[.int .i64 2, .int .i64 na, .float .f64 fa, .string sa, .slice aa la ca], .agg #[.int .i64 2, .int .i64 nb, .float .f64 fb, .string sb, .slice ab lb cb]] w fun e w' => e = .returned (.tuple #[.agg #[.int .i64 (0), .int .i64 (0), .float .f64 (0), .string ⟨#[]⟩, .slice none 0 0], .int .i64 11]) ∧ Below w.heap.size w w' := by
  have HA := hid ha
  clear ha
  have HB := hid hb
  clear hb
  go_enter Tryz.func20, Tryz.ntmps20
  go_wp2_with fail
  refine (refRight_any 2 na fa sa aa la ca _).mono ?_
  rintro e w1 ⟨rfl, hb1⟩
  rw [HA.out]
  obtain ⟨BA, BB, RB, hW1⟩ := afterABC hb1
  have XA := hid BA
  have XB := hid BB
  have XR := hid RB
  clear hb1 BA BB RB
  obtain ⟨b0, b1, b2, b3, b4, _, _, _, _, _, bl⟩ := XB.out
  go_wp2_with fail
  refine (refRight_any 2 nb fb sb ab lb cb _).mono ?_
  rintro e w2 ⟨rfl, hb⟩
  rw [HB.out]
  clear b0 b1 b2 b3 b4 bl
  have K := hid (XA.out.keep hb)
  clear XA
  have XA := K
  clear K
  have K := hid (XB.out.keep hb)
  clear XB
  have XB := K
  clear K
  have K := hid (XR.out.keep hb)
  clear XR
  have XR := K
  clear K
  have hW2 := bthen hW1 hb
  clear hb hW1
  obtain ⟨a0, a1, a2, a3, a4, _, _, _, _, _, al⟩ := XA.out
  obtain ⟨b0, b1, b2, b3, b4, _, _, _, _, _, bl⟩ := XB.out
  obtain ⟨d0, d1, d2, d3, d4, g0, g1, g2, g3, g4, ltr⟩ := XR.out
  go_wp2
  exact bodyPost_ret (v := .tuple #[.agg #[.int .i64 (0), .int .i64 (0), .float .f64 (0), .string ⟨#[]⟩, .slice none 0 0], .int .i64 11]) (by simp [results, Tryz.results20, go_sem, d0, d1, d2, d3, d4]) rfl ⟨rfl, below_set5 hW2 (by omega) _ _ _ _ _⟩

set_option maxHeartbeats 2000000 in
theorem rop_rem_0 (na nb : Int) (fa fb : Nat) (sa sb : ByteArray) (aa ab : Option Addr) (la ca lb cb : Nat) (ha : rightB 1 na fa sa la = true) (hb : rightB 1 nb fb sb lb = true) (h0 : nb = 0) (w : World) :
    Calls Tryz.prog 20 #[.string ⟨#[114, 101, 109]⟩, .agg #[.int .i64 1, .int .i64 na, .float .f64 fa, .string sa, .slice aa la ca], .agg #[.int .i64 1, .int .i64 nb, .float .f64 fb, .string sb, .slice ab lb cb]] w fun e w' => e = .returned (.tuple #[.agg #[.int .i64 (0), .int .i64 (0), .float .f64 (0), .string ⟨#[]⟩, .slice none 0 0], .int .i64 11]) ∧ Below w.heap.size w w' := by
  have HA := hid ha
  clear ha
  have HB := hid hb
  clear hb
  subst h0
  go_enter Tryz.func20, Tryz.ntmps20
  go_wp2_with fail
  refine (refRight_any 1 na fa sa aa la ca _).mono ?_
  rintro e w1 ⟨rfl, hb1⟩
  rw [HA.out]
  obtain ⟨BA, BB, RB, hW1⟩ := afterABC hb1
  have XA := hid BA
  have XB := hid BB
  have XR := hid RB
  clear hb1 BA BB RB
  obtain ⟨b0, b1, b2, b3, b4, _, _, _, _, _, bl⟩ := XB.out
  go_wp2_with fail
  refine (refRight_any 1 0 fb sb ab lb cb _).mono ?_
  rintro e w2 ⟨rfl, hb⟩
  rw [HB.out]
  clear b0 b1 b2 b3 b4 bl
  have K := hid (XA.out.keep hb)
  clear XA
  have XA := K
  clear K
  have K := hid (XB.out.keep hb)
  clear XB
  have XB := K
  clear K
  have K := hid (XR.out.keep hb)
  clear XR
  have XR := K
  clear K
  have hW2 := bthen hW1 hb
  clear hb hW1
  obtain ⟨a0, a1, a2, a3, a4, _, _, _, _, _, al⟩ := XA.out
  obtain ⟨b0, b1, b2, b3, b4, _, _, _, _, _, bl⟩ := XB.out
  obtain ⟨d0, d1, d2, d3, d4, g0, g1, g2, g3, g4, ltr⟩ := XR.out
  go_wp2
  exact bodyPost_ret (v := .tuple #[.agg #[.int .i64 (0), .int .i64 (0), .float .f64 (0), .string ⟨#[]⟩, .slice none 0 0], .int .i64 11]) (by simp [results, Tryz.results20, go_sem, d0, d1, d2, d3, d4]) rfl ⟨rfl, below_set5 hW2 (by omega) _ _ _ _ _⟩

set_option maxHeartbeats 2000000 in
theorem rop_rem_d (na nb : Int) (fa fb : Nat) (sa sb : ByteArray) (aa ab : Option Addr) (la ca lb cb : Nat) (ha : rightB 1 na fa sa la = true) (hb : rightB 1 nb fb sb lb = true) (h0 : (nb == 0) = false) (hna : whB na = true) (hnb : whB nb = true) (w : World) :
    Calls Tryz.prog 20 #[.string ⟨#[114, 101, 109]⟩, .agg #[.int .i64 1, .int .i64 na, .float .f64 fa, .string sa, .slice aa la ca], .agg #[.int .i64 1, .int .i64 nb, .float .f64 fb, .string sb, .slice ab lb cb]] w fun e w' => e = .returned (.tuple #[.agg #[.int .i64 ((numInt (na.tmod nb)).k), .int .i64 ((numInt (na.tmod nb)).n), .float .f64 ((numInt (na.tmod nb)).f), .string ⟨#[]⟩, .slice none 0 0], .int .i64 (numInt (na.tmod nb)).e]) ∧ Below w.heap.size w w' := by
  have HA := hid ha
  clear ha
  have HB := hid hb
  clear hb
  obtain ⟨a1, a2⟩ := whB_yes hna
  obtain ⟨b1, b2⟩ := whB_yes hnb
  have b0 : nb ≠ 0 := by simpa using h0
  go_enter Tryz.func20, Tryz.ntmps20
  go_wp2_with fail
  refine (refRight_any 1 na fa sa aa la ca _).mono ?_
  rintro e w1 ⟨rfl, hb1⟩
  rw [HA.out]
  obtain ⟨BA, BB, RB, hW1⟩ := afterABC hb1
  have XA := hid BA
  have XB := hid BB
  have XR := hid RB
  clear hb1 BA BB RB
  obtain ⟨b0, b1, b2, b3, b4, _, _, _, _, _, bl⟩ := XB.out
  go_wp2_with fail
  refine (refRight_any 1 nb fb sb ab lb cb _).mono ?_
  rintro e w2 ⟨rfl, hb⟩
  rw [HB.out]
  clear b0 b1 b2 b3 b4 bl
  have K := hid (XA.out.keep hb)
  clear XA
  have XA := K
  clear K
  have K := hid (XB.out.keep hb)
  clear XB
  have XB := K
  clear K
  have K := hid (XR.out.keep hb)
  clear XR
  have XR := K
  clear K
  have hW2 := bthen hW1 hb
  clear hb hW1
  obtain ⟨a0, a1, a2, a3, a4, _, _, _, _, _, al⟩ := XA.out
  obtain ⟨b0, b1, b2, b3, b4, _, _, _, _, _, bl⟩ := XB.out
  go_wp2_with fail
  refine (refInt_any _ _).mono ?_
  rintro e w3 ⟨rfl, hb⟩
  clear a0 a1 a2 a3 a4 al
  clear b0 b1 b2 b3 b4 bl
  have K := hid (XA.out.keep hb)
  clear XA
  have XA := K
  clear K
  have K := hid (XB.out.keep hb)
  clear XB
  have XB := K
  clear K
  have K := hid (XR.out.keep hb)
  clear XR
  have XR := K
  clear K
  have hW3 := bthen hW2 hb
  clear hb hW2
  obtain ⟨d0, d1, d2, d3, d4, g0, g1, g2, g3, g4, ltr⟩ := XR.out
  go_wp2
  exact bodyPost_ret (v := .tuple #[.agg #[.int .i64 ((numInt (na.tmod nb)).k), .int .i64 ((numInt (na.tmod nb)).n), .float .f64 ((numInt (na.tmod nb)).f), .string ⟨#[]⟩, .slice none 0 0], .int .i64 (numInt (na.tmod nb)).e]) (by simp [results, Tryz.results20, go_sem, d0, d1, d2, d3, d4]) rfl ⟨rfl, below_set5 hW3 (by omega) _ _ _ _ _⟩

end Go.Proofs.YtgljglindgbjaaaGreatDoor


