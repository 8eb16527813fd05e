import Derived.Test.YtgljglindgbjaaaGreatDoorG04
import Derived.Deep.DrawnRows
/- Contracts of Op: by a zero. -/
namespace Go.Proofs.YtgljglindgbjaaaGreatDoor
open Go.RowKit
attribute [local go_sem] store_float
attribute [local go_sem ↓] Go.wp_at_zero Go.wp_at_succ

set_option maxHeartbeats 2000000 in
theorem op_quoz_a (ka kb : Int) (na nb : Int) (fa fb : Nat) (sa sb : ByteArray) (aa ab : Option Addr) (la ca lb cb : Nat) (ha : rightB ka na fa sa la = true) (hb : rightB kb nb fb sb lb = true) (hfa : fa < 18446744073709551616) (hfb : fb < 18446744073709551616) (hka : (ka == 1) = true) (hz : zB (realV kb nb fb) = true) (w : World) :
    Calls Tryz.prog 98 #[.string ⟨#[47]⟩, .agg #[.int .i64 ka, .int .i64 na, .float .f64 fa, .string sa, .slice aa la ca], .agg #[.int .i64 kb, .int .i64 nb, .float .f64 fb, .string sb, .slice ab lb cb]] w fun e w' => e = .returned (.tuple #[.agg #[.int .i64 ((⟨0, 0, 0, 11⟩ : R).k), .int .i64 ((⟨0, 0, 0, 11⟩ : R).n), .float .f64 ((⟨0, 0, 0, 11⟩ : R).f), .string ⟨#[]⟩, .slice none 0 0], .int .i64 (⟨0, 0, 0, 11⟩ : R).e]) ∧ Below w.heap.size w w' := by
  have HA : Hid (rightB ka na fa sa la = true) := ha
  have HB : Hid (rightB kb nb fb sb lb = true) := hb
  clear ha hb
  have HZ : Hid (zB (realV kb nb fb) = true) := hz
  clear hz
  go_enter Tryz.func98, Tryz.ntmps98
  go_wp2_with fail
  refine (isSign_yes _ (by simp) _).mono ?_
  rintro e w' ⟨rfl, rfl⟩
  go_wp2_with fail
  refine (valueOf_yes ka na fa sa aa la ca hfa HA.out _).mono ?_
  rintro e w1 ⟨rfl, hb1⟩
  obtain ⟨⟨c0, c1, c2, c3, c4, _, _, _, _, _, lt⟩, RB, hW⟩ := after3 hb1
  have HRB := hid RB
  clear hb1 RB
  go_wp2_with fail
  refine (valueOf_yes kb nb fb sb ab lb cb hfb HB.out _).mono ?_
  rintro e w2 ⟨rfl, hb2⟩
  clear c0 c1 c2 c3 c4 lt
  obtain ⟨⟨x0, x1, x2, ltx⟩, hk, hW2⟩ := later3 hW hb2
  have HRB2 := hid (HRB.out.keep hk)
  clear hb2 hk hW HRB
  go_wp2_with fail
  go_region_with (first
    | (go_at_call 146; refine (real_at _ _ _ _).mono ?_; rintro e w' ⟨rfl, rfl⟩)
    | (go_at_call 145; refine (rf_zero _ _ HZ.out _).mono ?_; rintro e w3 ⟨rfl, hb3⟩; obtain ⟨⟨d0, d1, d2, d3, d4, g0, g1, g2, g3, g4, ltr⟩, hW3⟩ := keepR HRB2.out hW2 hb3; clear hb3))
  all_goals go_wp2
  all_goals exact bodyPost_ret (v := .tuple #[.agg #[.int .i64 ((⟨0, 0, 0, 11⟩ : R).k), .int .i64 ((⟨0, 0, 0, 11⟩ : R).n), .float .f64 ((⟨0, 0, 0, 11⟩ : R).f), .string ⟨#[]⟩, .slice none 0 0], .int .i64 (⟨0, 0, 0, 11⟩ : R).e]) (by simp [results, Tryz.results98, go_sem, d0, d1, d2, d3, d4]) rfl ⟨rfl, below_set5 hW3 (by omega) _ _ _ _ _⟩

set_option maxHeartbeats 2000000 in
theorem op_quoz_b (ka kb : Int) (na nb : Int) (fa fb : Nat) (sa sb : ByteArray) (aa ab : Option Addr) (la ca lb cb : Nat) (ha : rightB ka na fa sa la = true) (hb : rightB kb nb fb sb lb = true) (hfa : fa < 18446744073709551616) (hfb : fb < 18446744073709551616) (hka : (ka == 1) = false) (hz : zB (realV kb nb fb) = true) (w : World) :
    Calls Tryz.prog 98 #[.string ⟨#[47]⟩, .agg #[.int .i64 ka, .int .i64 na, .float .f64 fa, .string sa, .slice aa la ca], .agg #[.int .i64 kb, .int .i64 nb, .float .f64 fb, .string sb, .slice ab lb cb]] w fun e w' => e = .returned (.tuple #[.agg #[.int .i64 ((⟨0, 0, 0, 11⟩ : R).k), .int .i64 ((⟨0, 0, 0, 11⟩ : R).n), .float .f64 ((⟨0, 0, 0, 11⟩ : R).f), .string ⟨#[]⟩, .slice none 0 0], .int .i64 (⟨0, 0, 0, 11⟩ : R).e]) ∧ Below w.heap.size w w' := by
  have HA : Hid (rightB ka na fa sa la = true) := ha
  have HB : Hid (rightB kb nb fb sb lb = true) := hb
  clear ha hb
  have HZ : Hid (zB (realV kb nb fb) = true) := hz
  clear hz
  go_enter Tryz.func98, Tryz.ntmps98
  go_wp2_with fail
  refine (isSign_yes _ (by simp) _).mono ?_
  rintro e w' ⟨rfl, rfl⟩
  go_wp2_with fail
  refine (valueOf_yes ka na fa sa aa la ca hfa HA.out _).mono ?_
  rintro e w1 ⟨rfl, hb1⟩
  obtain ⟨⟨c0, c1, c2, c3, c4, _, _, _, _, _, lt⟩, RB, hW⟩ := after3 hb1
  have HRB := hid RB
  clear hb1 RB
  go_wp2_with fail
  refine (valueOf_yes kb nb fb sb ab lb cb hfb HB.out _).mono ?_
  rintro e w2 ⟨rfl, hb2⟩
  clear c0 c1 c2 c3 c4 lt
  obtain ⟨⟨x0, x1, x2, ltx⟩, hk, hW2⟩ := later3 hW hb2
  have HRB2 := hid (HRB.out.keep hk)
  clear hb2 hk hW HRB
  go_wp2_with fail
  go_region_with (first
    | (go_at_call 146; refine (real_at _ _ _ _).mono ?_; rintro e w' ⟨rfl, rfl⟩)
    | (go_at_call 145; refine (rf_zero _ _ HZ.out _).mono ?_; rintro e w3 ⟨rfl, hb3⟩; obtain ⟨⟨d0, d1, d2, d3, d4, g0, g1, g2, g3, g4, ltr⟩, hW3⟩ := keepR HRB2.out hW2 hb3; clear hb3))
  all_goals go_wp2
  all_goals exact bodyPost_ret (v := .tuple #[.agg #[.int .i64 ((⟨0, 0, 0, 11⟩ : R).k), .int .i64 ((⟨0, 0, 0, 11⟩ : R).n), .float .f64 ((⟨0, 0, 0, 11⟩ : R).f), .string ⟨#[]⟩, .slice none 0 0], .int .i64 (⟨0, 0, 0, 11⟩ : R).e]) (by simp [results, Tryz.results98, go_sem, d0, d1, d2, d3, d4]) rfl ⟨rfl, below_set5 hW3 (by omega) _ _ _ _ _⟩

theorem op_quoz (ka kb : Int) (na nb : Int) (fa fb : Nat) (sa sb : ByteArray) (aa ab : Option Addr) (la ca lb cb : Nat) (ha : rightB ka na fa sa la = true) (hb : rightB kb nb fb sb lb = true) (hfa : fa < 18446744073709551616) (hfb : fb < 18446744073709551616) (hz : zB (realV kb nb fb) = true) (w : World) :
    Calls Tryz.prog 98 #[.string ⟨#[47]⟩, .agg #[.int .i64 ka, .int .i64 na, .float .f64 fa, .string sa, .slice aa la ca], .agg #[.int .i64 kb, .int .i64 nb, .float .f64 fb, .string sb, .slice ab lb cb]] w fun e w' => e = .returned (.tuple #[.agg #[.int .i64 ((⟨0, 0, 0, 11⟩ : R).k), .int .i64 ((⟨0, 0, 0, 11⟩ : R).n), .float .f64 ((⟨0, 0, 0, 11⟩ : R).f), .string ⟨#[]⟩, .slice none 0 0], .int .i64 (⟨0, 0, 0, 11⟩ : R).e]) ∧ Below w.heap.size w w' := by
  cases hka : (ka == 1)
  · exact op_quoz_b ka kb na nb fa fb sa sb aa ab la ca lb cb ha hb hfa hfb hka hz w
  · exact op_quoz_a ka kb na nb fa fb sa sb aa ab la ca lb cb ha hb hfa hfb hka hz w
end Go.Proofs.YtgljglindgbjaaaGreatDoor


/- Contracts of Op on numbers that are reckoned as floats: sums. -/
namespace Go.Proofs.YtgljglindgbjaaaGreatDoor
open Go.RowKit
attribute [local go_sem] store_float
attribute [local go_sem ↓] Go.wp_at_zero Go.wp_at_succ

set_option maxHeartbeats 2000000 in
theorem op_fadd_a (ka kb : Int) (na nb : Int) (fa fb : Nat) (sa sb : ByteArray) (aa ab : Option Addr) (la ca lb cb : Nat) (ha : rightB ka na fa sa la = true) (hb : rightB kb nb fb sb lb = true) (hfa : fa < 18446744073709551616) (hfb : fb < 18446744073709551616) (hka : (ka == 1) = true) (hkb : (kb == 1) = false) (w : World) :
    Calls Tryz.prog 98 #[.string ⟨#[43]⟩, .agg #[.int .i64 ka, .int .i64 na, .float .f64 fa, .string sa, .slice aa la ca], .agg #[.int .i64 kb, .int .i64 nb, .float .f64 fb, .string sb, .slice ab lb cb]] w fun e w' => e = .returned (.tuple #[.agg #[.int .i64 ((fltR (floatBits .add .f64 (realV ka na fa) (realV kb nb fb))).k), .int .i64 ((fltR (floatBits .add .f64 (realV ka na fa) (realV kb nb fb))).n), .float .f64 ((fltR (floatBits .add .f64 (realV ka na fa) (realV kb nb fb))).f), .string ⟨#[]⟩, .slice none 0 0], .int .i64 (fltR (floatBits .add .f64 (realV ka na fa) (realV kb nb fb))).e]) ∧ Below w.heap.size w w' := by
  have HA : Hid (rightB ka na fa sa la = true) := ha
  have HB : Hid (rightB kb nb fb sb lb = true) := hb
  clear ha hb
  go_enter Tryz.func98, Tryz.ntmps98
  go_wp2_with fail
  refine (isSign_yes _ (by simp) _).mono ?_
  rintro e w' ⟨rfl, rfl⟩
  go_wp2_with fail
  refine (valueOf_yes ka na fa sa aa la ca hfa HA.out _).mono ?_
  rintro e w1 ⟨rfl, hb1⟩
  obtain ⟨⟨c0, c1, c2, c3, c4, _, _, _, _, _, lt⟩, RB, hW⟩ := after3 hb1
  have HRB := hid RB
  clear hb1 RB
  go_wp2_with fail
  refine (valueOf_yes kb nb fb sb ab lb cb hfb HB.out _).mono ?_
  rintro e w2 ⟨rfl, hb2⟩
  clear c0 c1 c2 c3 c4 lt
  obtain ⟨⟨x0, x1, x2, ltx⟩, hk, hW2⟩ := later3 hW hb2
  have HRB2 := hid (HRB.out.keep hk)
  clear hb2 hk hW HRB
  go_wp2_with fail
  go_region_with (first
    | (go_at_call 146; refine (real_at _ _ _ _).mono ?_; rintro e w' ⟨rfl, rfl⟩)
    | (go_at_call 145; refine (rf_add _ _ _).mono ?_; rintro e w3 ⟨rfl, hb3⟩; obtain ⟨⟨d0, d1, d2, d3, d4, g0, g1, g2, g3, g4, ltr⟩, hW3⟩ := keepR HRB2.out hW2 hb3; clear hb3))
  all_goals go_wp2
  all_goals exact bodyPost_ret (v := .tuple #[.agg #[.int .i64 ((fltR (floatBits .add .f64 (realV ka na fa) (realV kb nb fb))).k), .int .i64 ((fltR (floatBits .add .f64 (realV ka na fa) (realV kb nb fb))).n), .float .f64 ((fltR (floatBits .add .f64 (realV ka na fa) (realV kb nb fb))).f), .string ⟨#[]⟩, .slice none 0 0], .int .i64 (fltR (floatBits .add .f64 (realV ka na fa) (realV kb nb fb))).e]) (by simp [results, Tryz.results98, go_sem, d0, d1, d2, d3, d4]) rfl ⟨rfl, below_set5 hW3 (by omega) _ _ _ _ _⟩

set_option maxHeartbeats 2000000 in
theorem op_fadd_b (ka kb : Int) (na nb : Int) (fa fb : Nat) (sa sb : ByteArray) (aa ab : Option Addr) (la ca lb cb : Nat) (ha : rightB ka na fa sa la = true) (hb : rightB kb nb fb sb lb = true) (hfa : fa < 18446744073709551616) (hfb : fb < 18446744073709551616) (hka : (ka == 1) = false) (w : World) :
    Calls Tryz.prog 98 #[.string ⟨#[43]⟩, .agg #[.int .i64 ka, .int .i64 na, .float .f64 fa, .string sa, .slice aa la ca], .agg #[.int .i64 kb, .int .i64 nb, .float .f64 fb, .string sb, .slice ab lb cb]] w fun e w' => e = .returned (.tuple #[.agg #[.int .i64 ((fltR (floatBits .add .f64 (realV ka na fa) (realV kb nb fb))).k), .int .i64 ((fltR (floatBits .add .f64 (realV ka na fa) (realV kb nb fb))).n), .float .f64 ((fltR (floatBits .add .f64 (realV ka na fa) (realV kb nb fb))).f), .string ⟨#[]⟩, .slice none 0 0], .int .i64 (fltR (floatBits .add .f64 (realV ka na fa) (realV kb nb fb))).e]) ∧ Below w.heap.size w w' := by
  have HA : Hid (rightB ka na fa sa la = true) := ha
  have HB : Hid (rightB kb nb fb sb lb = true) := hb
  clear ha hb
  go_enter Tryz.func98, Tryz.ntmps98
  go_wp2_with fail
  refine (isSign_yes _ (by simp) _).mono ?_
  rintro e w' ⟨rfl, rfl⟩
  go_wp2_with fail
  refine (valueOf_yes ka na fa sa aa la ca hfa HA.out _).mono ?_
  rintro e w1 ⟨rfl, hb1⟩
  obtain ⟨⟨c0, c1, c2, c3, c4, _, _, _, _, _, lt⟩, RB, hW⟩ := after3 hb1
  have HRB := hid RB
  clear hb1 RB
  go_wp2_with fail
  refine (valueOf_yes kb nb fb sb ab lb cb hfb HB.out _).mono ?_
  rintro e w2 ⟨rfl, hb2⟩
  clear c0 c1 c2 c3 c4 lt
  obtain ⟨⟨x0, x1, x2, ltx⟩, hk, hW2⟩ := later3 hW hb2
  have HRB2 := hid (HRB.out.keep hk)
  clear hb2 hk hW HRB
  go_wp2_with fail
  go_region_with (first
    | (go_at_call 146; refine (real_at _ _ _ _).mono ?_; rintro e w' ⟨rfl, rfl⟩)
    | (go_at_call 145; refine (rf_add _ _ _).mono ?_; rintro e w3 ⟨rfl, hb3⟩; obtain ⟨⟨d0, d1, d2, d3, d4, g0, g1, g2, g3, g4, ltr⟩, hW3⟩ := keepR HRB2.out hW2 hb3; clear hb3))
  all_goals go_wp2
  all_goals exact bodyPost_ret (v := .tuple #[.agg #[.int .i64 ((fltR (floatBits .add .f64 (realV ka na fa) (realV kb nb fb))).k), .int .i64 ((fltR (floatBits .add .f64 (realV ka na fa) (realV kb nb fb))).n), .float .f64 ((fltR (floatBits .add .f64 (realV ka na fa) (realV kb nb fb))).f), .string ⟨#[]⟩, .slice none 0 0], .int .i64 (fltR (floatBits .add .f64 (realV ka na fa) (realV kb nb fb))).e]) (by simp [results, Tryz.results98, go_sem, d0, d1, d2, d3, d4]) rfl ⟨rfl, below_set5 hW3 (by omega) _ _ _ _ _⟩

theorem op_fadd (ka kb : Int) (na nb : Int) (fa fb : Nat) (sa sb : ByteArray) (aa ab : Option Addr) (la ca lb cb : Nat) (ha : rightB ka na fa sa la = true) (hb : rightB kb nb fb sb lb = true) (hfa : fa < 18446744073709551616) (hfb : fb < 18446744073709551616) (hk : ¬ (ka = 1 ∧ kb = 1)) (w : World) :
    Calls Tryz.prog 98 #[.string ⟨#[43]⟩, .agg #[.int .i64 ka, .int .i64 na, .float .f64 fa, .string sa, .slice aa la ca], .agg #[.int .i64 kb, .int .i64 nb, .float .f64 fb, .string sb, .slice ab lb cb]] w fun e w' => e = .returned (.tuple #[.agg #[.int .i64 ((fltR (floatBits .add .f64 (realV ka na fa) (realV kb nb fb))).k), .int .i64 ((fltR (floatBits .add .f64 (realV ka na fa) (realV kb nb fb))).n), .float .f64 ((fltR (floatBits .add .f64 (realV ka na fa) (realV kb nb fb))).f), .string ⟨#[]⟩, .slice none 0 0], .int .i64 (fltR (floatBits .add .f64 (realV ka na fa) (realV kb nb fb))).e]) ∧ Below w.heap.size w w' := by
  cases hka : (ka == 1)
  · exact op_fadd_b ka kb na nb fa fb sa sb aa ab la ca lb cb ha hb hfa hfb hka w
  · exact op_fadd_a ka kb na nb fa fb sa sb aa ab la ca lb cb ha hb hfa hfb hka (by simp at hka ⊢; exact fun h => hk ⟨hka, h⟩) w
end Go.Proofs.YtgljglindgbjaaaGreatDoor


/- Contracts of Op on numbers that are reckoned as floats: differences. -/
namespace Go.Proofs.YtgljglindgbjaaaGreatDoor
open Go.RowKit
attribute [local go_sem] store_float
attribute [local go_sem ↓] Go.wp_at_zero Go.wp_at_succ

set_option maxHeartbeats 2000000 in
theorem op_fsub_a (ka kb : Int) (na nb : Int) (fa fb : Nat) (sa sb : ByteArray) (aa ab : Option Addr) (la ca lb cb : Nat) (ha : rightB ka na fa sa la = true) (hb : rightB kb nb fb sb lb = true) (hfa : fa < 18446744073709551616) (hfb : fb < 18446744073709551616) (hka : (ka == 1) = true) (hkb : (kb == 1) = false) (w : World) :
    Calls Tryz.prog 98 #[.string ⟨#[45]⟩, .agg #[.int .i64 ka, .int .i64 na, .float .f64 fa, .string sa, .slice aa la ca], .agg #[.int .i64 kb, .int .i64 nb, .float .f64 fb, .string sb, .slice ab lb cb]] w fun e w' => e = .returned (.tuple #[.agg #[.int .i64 ((fltR (floatBits .sub .f64 (realV ka na fa) (realV kb nb fb))).k), .int .i64 ((fltR (floatBits .sub .f64 (realV ka na fa) (realV kb nb fb))).n), .float .f64 ((fltR (floatBits .sub .f64 (realV ka na fa) (realV kb nb fb))).f), .string ⟨#[]⟩, .slice none 0 0], .int .i64 (fltR (floatBits .sub .f64 (realV ka na fa) (realV kb nb fb))).e]) ∧ Below w.heap.size w w' := by
  have HA : Hid (rightB ka na fa sa la = true) := ha
  have HB : Hid (rightB kb nb fb sb lb = true) := hb
  clear ha hb
  go_enter Tryz.func98, Tryz.ntmps98
  go_wp2_with fail
  refine (isSign_yes _ (by simp) _).mono ?_
  rintro e w' ⟨rfl, rfl⟩
  go_wp2_with fail
  refine (valueOf_yes ka na fa sa aa la ca hfa HA.out _).mono ?_
  rintro e w1 ⟨rfl, hb1⟩
  obtain ⟨⟨c0, c1, c2, c3, c4, _, _, _, _, _, lt⟩, RB, hW⟩ := after3 hb1
  have HRB := hid RB
  clear hb1 RB
  go_wp2_with fail
  refine (valueOf_yes kb nb fb sb ab lb cb hfb HB.out _).mono ?_
  rintro e w2 ⟨rfl, hb2⟩
  clear c0 c1 c2 c3 c4 lt
  obtain ⟨⟨x0, x1, x2, ltx⟩, hk, hW2⟩ := later3 hW hb2
  have HRB2 := hid (HRB.out.keep hk)
  clear hb2 hk hW HRB
  go_wp2_with fail
  go_region_with (first
    | (go_at_call 146; refine (real_at _ _ _ _).mono ?_; rintro e w' ⟨rfl, rfl⟩)
    | (go_at_call 145; refine (rf_sub _ _ _).mono ?_; rintro e w3 ⟨rfl, hb3⟩; obtain ⟨⟨d0, d1, d2, d3, d4, g0, g1, g2, g3, g4, ltr⟩, hW3⟩ := keepR HRB2.out hW2 hb3; clear hb3))
  all_goals go_wp2
  all_goals exact bodyPost_ret (v := .tuple #[.agg #[.int .i64 ((fltR (floatBits .sub .f64 (realV ka na fa) (realV kb nb fb))).k), .int .i64 ((fltR (floatBits .sub .f64 (realV ka na fa) (realV kb nb fb))).n), .float .f64 ((fltR (floatBits .sub .f64 (realV ka na fa) (realV kb nb fb))).f), .string ⟨#[]⟩, .slice none 0 0], .int .i64 (fltR (floatBits .sub .f64 (realV ka na fa) (realV kb nb fb))).e]) (by simp [results, Tryz.results98, go_sem, d0, d1, d2, d3, d4]) rfl ⟨rfl, below_set5 hW3 (by omega) _ _ _ _ _⟩

set_option maxHeartbeats 2000000 in
theorem op_fsub_b (ka kb : Int) (na nb : Int) (fa fb : Nat) (sa sb : ByteArray) (aa ab : Option Addr) (la ca lb cb : Nat) (ha : rightB ka na fa sa la = true) (hb : rightB kb nb fb sb lb = true) (hfa : fa < 18446744073709551616) (hfb : fb < 18446744073709551616) (hka : (ka == 1) = false) (w : World) :
    Calls Tryz.prog 98 #[.string ⟨#[45]⟩, .agg #[.int .i64 ka, .int .i64 na, .float .f64 fa, .string sa, .slice aa la ca], .agg #[.int .i64 kb, .int .i64 nb, .float .f64 fb, .string sb, .slice ab lb cb]] w fun e w' => e = .returned (.tuple #[.agg #[.int .i64 ((fltR (floatBits .sub .f64 (realV ka na fa) (realV kb nb fb))).k), .int .i64 ((fltR (floatBits .sub .f64 (realV ka na fa) (realV kb nb fb))).n), .float .f64 ((fltR (floatBits .sub .f64 (realV ka na fa) (realV kb nb fb))).f), .string ⟨#[]⟩, .slice none 0 0], .int .i64 (fltR (floatBits .sub .f64 (realV ka na fa) (realV kb nb fb))).e]) ∧ Below w.heap.size w w' := by
  have HA : Hid (rightB ka na fa sa la = true) := ha
  have HB : Hid (rightB kb nb fb sb lb = true) := hb
  clear ha hb
  go_enter Tryz.func98, Tryz.ntmps98
  go_wp2_with fail
  refine (isSign_yes _ (by simp) _).mono ?_
  rintro e w' ⟨rfl, rfl⟩
  go_wp2_with fail
  refine (valueOf_yes ka na fa sa aa la ca hfa HA.out _).mono ?_
  rintro e w1 ⟨rfl, hb1⟩
  obtain ⟨⟨c0, c1, c2, c3, c4, _, _, _, _, _, lt⟩, RB, hW⟩ := after3 hb1
  have HRB := hid RB
  clear hb1 RB
  go_wp2_with fail
  refine (valueOf_yes kb nb fb sb ab lb cb hfb HB.out _).mono ?_
  rintro e w2 ⟨rfl, hb2⟩
  clear c0 c1 c2 c3 c4 lt
  obtain ⟨⟨x0, x1, x2, ltx⟩, hk, hW2⟩ := later3 hW hb2
  have HRB2 := hid (HRB.out.keep hk)
  clear hb2 hk hW HRB
  go_wp2_with fail
  go_region_with (first
    | (go_at_call 146; refine (real_at _ _ _ _).mono ?_; rintro e w' ⟨rfl, rfl⟩)
    | (go_at_call 145; refine (rf_sub _ _ _).mono ?_; rintro e w3 ⟨rfl, hb3⟩; obtain ⟨⟨d0, d1, d2, d3, d4, g0, g1, g2, g3, g4, ltr⟩, hW3⟩ := keepR HRB2.out hW2 hb3; clear hb3))
  all_goals go_wp2
  all_goals exact bodyPost_ret (v := .tuple #[.agg #[.int .i64 ((fltR (floatBits .sub .f64 (realV ka na fa) (realV kb nb fb))).k), .int .i64 ((fltR (floatBits .sub .f64 (realV ka na fa) (realV kb nb fb))).n), .float .f64 ((fltR (floatBits .sub .f64 (realV ka na fa) (realV kb nb fb))).f), .string ⟨#[]⟩, .slice none 0 0], .int .i64 (fltR (floatBits .sub .f64 (realV ka na fa) (realV kb nb fb))).e]) (by simp [results, Tryz.results98, go_sem, d0, d1, d2, d3, d4]) rfl ⟨rfl, below_set5 hW3 (by omega) _ _ _ _ _⟩

theorem op_fsub (ka kb : Int) (na nb : Int) (fa fb : Nat) (sa sb : ByteArray) (aa ab : Option Addr) (la ca lb cb : Nat) (ha : rightB ka na fa sa la = true) (hb : rightB kb nb fb sb lb = true) (hfa : fa < 18446744073709551616) (hfb : fb < 18446744073709551616) (hk : ¬ (ka = 1 ∧ kb = 1)) (w : World) :
    Calls Tryz.prog 98 #[.string ⟨#[45]⟩, .agg #[.int .i64 ka, .int .i64 na, .float .f64 fa, .string sa, .slice aa la ca], .agg #[.int .i64 kb, .int .i64 nb, .float .f64 fb, .string sb, .slice ab lb cb]] w fun e w' => e = .returned (.tuple #[.agg #[.int .i64 ((fltR (floatBits .sub .f64 (realV ka na fa) (realV kb nb fb))).k), .int .i64 ((fltR (floatBits .sub .f64 (realV ka na fa) (realV kb nb fb))).n), .float .f64 ((fltR (floatBits .sub .f64 (realV ka na fa) (realV kb nb fb))).f), .string ⟨#[]⟩, .slice none 0 0], .int .i64 (fltR (floatBits .sub .f64 (realV ka na fa) (realV kb nb fb))).e]) ∧ Below w.heap.size w w' := by
  cases hka : (ka == 1)
  · exact op_fsub_b ka kb na nb fa fb sa sb aa ab la ca lb cb ha hb hfa hfb hka w
  · exact op_fsub_a ka kb na nb fa fb sa sb aa ab la ca lb cb ha hb hfa hfb hka (by simp at hka ⊢; exact fun h => hk ⟨hka, h⟩) w
end Go.Proofs.YtgljglindgbjaaaGreatDoor


