import Derived.Test.YtajadhkpadkikaaGreatDoorG12
import Derived.Test.YtajadhkpadkikaaGreatDoorG01
import Derived.Deep.DrawnRows
/- Contracts of Op on whole numbers: sums and differences. -/
namespace Go.Proofs.YtajadhkpadkikaaGreatDoor
open Go.RowKit
attribute [local go_sem] store_float

theorem hid {p : Prop} (h : p) : Hid p := h

theorem isSign_yes (s : ByteArray) (h : s = ⟨#[43]⟩ ∨ s = ⟨#[45]⟩ ∨ s = ⟨#[42]⟩ ∨ s = ⟨#[47]⟩ ∨ s = ⟨#[100, 105, 118]⟩ ∨ s = ⟨#[114, 101, 109]⟩) (w : World) : Calls Tryz.prog 126 #[.string s] w fun e w' => e = .returned (.bool true) ∧ w' = w := by
  rcases h with rfl | rfl | rfl | rfl | rfl | rfl <;>
  · go_enter Tryz.func126, Tryz.ntmps126
    go_wp2
    go_ret
    exact ⟨rfl, rfl⟩

set_option maxHeartbeats 1000000 in
theorem op_wadd (na nb : Int) (fa fb : Nat) (sa sb : ByteArray) (aa ab : Option Addr) (la ca lb cb : Nat) (ha : rightB 1 na fa sa la = true) (hb : rightB 1 nb fb sb lb = true) (hfa : fa < 18446744073709551616) (hfb : fb < 18446744073709551616) (hna : whB na = true) (hnb : whB nb = true) (w : World) :
    Calls Tryz.prog 90 #[.string ⟨#[43]⟩, .agg #[.int .i64 1, .int .i64 na, .float .f64 fa, .string sa, .slice aa la ca], .agg #[.int .i64 1, .int .i64 nb, .float .f64 fb, .string sb, .slice ab lb cb]] w fun e w' => e = .returned (.tuple #[.agg #[.int .i64 ((numInt (na + nb)).k), .int .i64 ((numInt (na + nb)).n), .float .f64 ((numInt (na + nb)).f), .string ⟨#[]⟩, .slice none 0 0], .int .i64 (numInt (na + nb)).e]) ∧ Below w.heap.size w w' := by
  have HA : Hid (rightB 1 na fa sa la = true) := ha
  have HB : Hid (rightB 1 nb fb sb lb = true) := hb
  clear ha hb
  go_enter Tryz.func90, Tryz.ntmps90
  go_wp2_with fail
  refine (isSign_yes _ (by simp) _).mono ?_
  rintro e w' ⟨rfl, rfl⟩
  go_wp2_with fail
  refine (valueOf_yes 1 na fa sa aa la ca hfa HA.out _).mono ?_
  rintro e w1 ⟨rfl, hb1⟩
  obtain ⟨⟨c0, c1, c2, c3, c4, _, _, _, _, _, lt⟩, RB, hW⟩ := after3 hb1
  have HRB := hid RB
  clear hb1 RB
  go_wp2_with fail
  refine (valueOf_yes 1 nb fb sb ab lb cb hfb HB.out _).mono ?_
  rintro e w2 ⟨rfl, hb2⟩
  clear c0 c1 c2 c3 c4 lt
  obtain ⟨⟨x0, x1, x2, ltx⟩, hk, hW2⟩ := later3 hW hb2
  have HRB2 := hid (HRB.out.keep hk)
  clear hb2 hk hW HRB
  go_wp2_with fail
  refine (rw_add na nb hna hnb _).mono ?_
  rintro e w3 ⟨rfl, hb3⟩
  clear x0 x1 x2 ltx
  have RB3 := (HRB2.out.alloc _).keep hb3
  have hW3 : Below w.heap.size w w3 := (hW2.alloc hW2.size _).trans (hb3.mono (by have := hW2.size; simp; omega))
  obtain ⟨d0, d1, d2, d3, d4, g0, g1, g2, g3, g4, ltr⟩ := RB3
  clear hb3 HRB2
  go_wp2
  exact bodyPost_ret (v := .tuple #[.agg #[.int .i64 ((numInt (na + nb)).k), .int .i64 ((numInt (na + nb)).n), .float .f64 ((numInt (na + nb)).f), .string ⟨#[]⟩, .slice none 0 0], .int .i64 (numInt (na + nb)).e]) (by simp [results, Tryz.results90, go_sem, d0, d1, d2, d3, d4]) rfl ⟨rfl, below_set5 hW3 (by omega) _ _ _ _ _⟩

set_option maxHeartbeats 1000000 in
theorem op_wsub (na nb : Int) (fa fb : Nat) (sa sb : ByteArray) (aa ab : Option Addr) (la ca lb cb : Nat) (ha : rightB 1 na fa sa la = true) (hb : rightB 1 nb fb sb lb = true) (hfa : fa < 18446744073709551616) (hfb : fb < 18446744073709551616) (hna : whB na = true) (hnb : whB nb = true) (w : World) :
    Calls Tryz.prog 90 #[.string ⟨#[45]⟩, .agg #[.int .i64 1, .int .i64 na, .float .f64 fa, .string sa, .slice aa la ca], .agg #[.int .i64 1, .int .i64 nb, .float .f64 fb, .string sb, .slice ab lb cb]] w fun e w' => e = .returned (.tuple #[.agg #[.int .i64 ((numInt (na - nb)).k), .int .i64 ((numInt (na - nb)).n), .float .f64 ((numInt (na - nb)).f), .string ⟨#[]⟩, .slice none 0 0], .int .i64 (numInt (na - nb)).e]) ∧ Below w.heap.size w w' := by
  have HA : Hid (rightB 1 na fa sa la = true) := ha
  have HB : Hid (rightB 1 nb fb sb lb = true) := hb
  clear ha hb
  go_enter Tryz.func90, Tryz.ntmps90
  go_wp2_with fail
  refine (isSign_yes _ (by simp) _).mono ?_
  rintro e w' ⟨rfl, rfl⟩
  go_wp2_with fail
  refine (valueOf_yes 1 na fa sa aa la ca hfa HA.out _).mono ?_
  rintro e w1 ⟨rfl, hb1⟩
  obtain ⟨⟨c0, c1, c2, c3, c4, _, _, _, _, _, lt⟩, RB, hW⟩ := after3 hb1
  have HRB := hid RB
  clear hb1 RB
  go_wp2_with fail
  refine (valueOf_yes 1 nb fb sb ab lb cb hfb HB.out _).mono ?_
  rintro e w2 ⟨rfl, hb2⟩
  clear c0 c1 c2 c3 c4 lt
  obtain ⟨⟨x0, x1, x2, ltx⟩, hk, hW2⟩ := later3 hW hb2
  have HRB2 := hid (HRB.out.keep hk)
  clear hb2 hk hW HRB
  go_wp2_with fail
  refine (rw_sub na nb hna hnb _).mono ?_
  rintro e w3 ⟨rfl, hb3⟩
  clear x0 x1 x2 ltx
  have RB3 := (HRB2.out.alloc _).keep hb3
  have hW3 : Below w.heap.size w w3 := (hW2.alloc hW2.size _).trans (hb3.mono (by have := hW2.size; simp; omega))
  obtain ⟨d0, d1, d2, d3, d4, g0, g1, g2, g3, g4, ltr⟩ := RB3
  clear hb3 HRB2
  go_wp2
  exact bodyPost_ret (v := .tuple #[.agg #[.int .i64 ((numInt (na - nb)).k), .int .i64 ((numInt (na - nb)).n), .float .f64 ((numInt (na - nb)).f), .string ⟨#[]⟩, .slice none 0 0], .int .i64 (numInt (na - nb)).e]) (by simp [results, Tryz.results90, go_sem, d0, d1, d2, d3, d4]) rfl ⟨rfl, below_set5 hW3 (by omega) _ _ _ _ _⟩

end Go.Proofs.YtajadhkpadkikaaGreatDoor


/- Contracts of Op: quotients. -/
namespace Go.Proofs.YtajadhkpadkikaaGreatDoor
open Go.RowKit
attribute [local go_sem] store_float
attribute [local go_sem ↓] Go.wp_at_zero Go.wp_at_succ

set_option maxHeartbeats 2000000 in
theorem op_quo_a (ka kb : Int) (na nb : Int) (fa fb : Nat) (sa sb : ByteArray) (aa ab : Option Addr) (la ca lb cb : Nat) (ha : rightB ka na fa sa la = true) (hb : rightB kb nb fb sb lb = true) (hfa : fa < 18446744073709551616) (hfb : fb < 18446744073709551616) (hka : (ka == 1) = true) (hz : zB (realV kb nb fb) = false) (w : World) :
    Calls Tryz.prog 90 #[.string ⟨#[47]⟩, .agg #[.int .i64 ka, .int .i64 na, .float .f64 fa, .string sa, .slice aa la ca], .agg #[.int .i64 kb, .int .i64 nb, .float .f64 fb, .string sb, .slice ab lb cb]] w fun e w' => e = .returned (.tuple #[.agg #[.int .i64 ((fltR (floatBits .quo .f64 (realV ka na fa) (realV kb nb fb))).k), .int .i64 ((fltR (floatBits .quo .f64 (realV ka na fa) (realV kb nb fb))).n), .float .f64 ((fltR (floatBits .quo .f64 (realV ka na fa) (realV kb nb fb))).f), .string ⟨#[]⟩, .slice none 0 0], .int .i64 (fltR (floatBits .quo .f64 (realV ka na fa) (realV kb nb fb))).e]) ∧ Below w.heap.size w w' := by
  have HA : Hid (rightB ka na fa sa la = true) := ha
  have HB : Hid (rightB kb nb fb sb lb = true) := hb
  clear ha hb
  have HZ : Hid (zB (realV kb nb fb) = false) := hz
  clear hz
  go_enter Tryz.func90, Tryz.ntmps90
  go_wp2_with fail
  refine (isSign_yes _ (by simp) _).mono ?_
  rintro e w' ⟨rfl, rfl⟩
  go_wp2_with fail
  refine (valueOf_yes ka na fa sa aa la ca hfa HA.out _).mono ?_
  rintro e w1 ⟨rfl, hb1⟩
  obtain ⟨⟨c0, c1, c2, c3, c4, _, _, _, _, _, lt⟩, RB, hW⟩ := after3 hb1
  have HRB := hid RB
  clear hb1 RB
  go_wp2_with fail
  refine (valueOf_yes kb nb fb sb ab lb cb hfb HB.out _).mono ?_
  rintro e w2 ⟨rfl, hb2⟩
  clear c0 c1 c2 c3 c4 lt
  obtain ⟨⟨x0, x1, x2, ltx⟩, hk, hW2⟩ := later3 hW hb2
  have HRB2 := hid (HRB.out.keep hk)
  clear hb2 hk hW HRB
  go_wp2_with fail
  go_region_with (first
    | (go_at_call 130; refine (real_at _ _ _ _).mono ?_; rintro e w' ⟨rfl, rfl⟩)
    | (go_at_call 129; refine (rf_quo _ _ HZ.out _).mono ?_; rintro e w3 ⟨rfl, hb3⟩; obtain ⟨⟨d0, d1, d2, d3, d4, g0, g1, g2, g3, g4, ltr⟩, hW3⟩ := keepR HRB2.out hW2 hb3; clear hb3))
  all_goals go_wp2
  all_goals exact bodyPost_ret (v := .tuple #[.agg #[.int .i64 ((fltR (floatBits .quo .f64 (realV ka na fa) (realV kb nb fb))).k), .int .i64 ((fltR (floatBits .quo .f64 (realV ka na fa) (realV kb nb fb))).n), .float .f64 ((fltR (floatBits .quo .f64 (realV ka na fa) (realV kb nb fb))).f), .string ⟨#[]⟩, .slice none 0 0], .int .i64 (fltR (floatBits .quo .f64 (realV ka na fa) (realV kb nb fb))).e]) (by simp [results, Tryz.results90, go_sem, d0, d1, d2, d3, d4]) rfl ⟨rfl, below_set5 hW3 (by omega) _ _ _ _ _⟩

set_option maxHeartbeats 2000000 in
theorem op_quo_b (ka kb : Int) (na nb : Int) (fa fb : Nat) (sa sb : ByteArray) (aa ab : Option Addr) (la ca lb cb : Nat) (ha : rightB ka na fa sa la = true) (hb : rightB kb nb fb sb lb = true) (hfa : fa < 18446744073709551616) (hfb : fb < 18446744073709551616) (hka : (ka == 1) = false) (hz : zB (realV kb nb fb) = false) (w : World) :
    Calls Tryz.prog 90 #[.string ⟨#[47]⟩, .agg #[.int .i64 ka, .int .i64 na, .float .f64 fa, .string sa, .slice aa la ca], .agg #[.int .i64 kb, .int .i64 nb, .float .f64 fb, .string sb, .slice ab lb cb]] w fun e w' => e = .returned (.tuple #[.agg #[.int .i64 ((fltR (floatBits .quo .f64 (realV ka na fa) (realV kb nb fb))).k), .int .i64 ((fltR (floatBits .quo .f64 (realV ka na fa) (realV kb nb fb))).n), .float .f64 ((fltR (floatBits .quo .f64 (realV ka na fa) (realV kb nb fb))).f), .string ⟨#[]⟩, .slice none 0 0], .int .i64 (fltR (floatBits .quo .f64 (realV ka na fa) (realV kb nb fb))).e]) ∧ Below w.heap.size w w' := by
  have HA : Hid (rightB ka na fa sa la = true) := ha
  have HB : Hid (rightB kb nb fb sb lb = true) := hb
  clear ha hb
  have HZ : Hid (zB (realV kb nb fb) = false) := hz
  clear hz
  go_enter Tryz.func90, Tryz.ntmps90
  go_wp2_with fail
  refine (isSign_yes _ (by simp) _).mono ?_
  rintro e w' ⟨rfl, rfl⟩
  go_wp2_with fail
  refine (valueOf_yes ka na fa sa aa la ca hfa HA.out _).mono ?_
  rintro e w1 ⟨rfl, hb1⟩
  obtain ⟨⟨c0, c1, c2, c3, c4, _, _, _, _, _, lt⟩, RB, hW⟩ := after3 hb1
  have HRB := hid RB
  clear hb1 RB
  go_wp2_with fail
  refine (valueOf_yes kb nb fb sb ab lb cb hfb HB.out _).mono ?_
  rintro e w2 ⟨rfl, hb2⟩
  clear c0 c1 c2 c3 c4 lt
  obtain ⟨⟨x0, x1, x2, ltx⟩, hk, hW2⟩ := later3 hW hb2
  have HRB2 := hid (HRB.out.keep hk)
  clear hb2 hk hW HRB
  go_wp2_with fail
  go_region_with (first
    | (go_at_call 130; refine (real_at _ _ _ _).mono ?_; rintro e w' ⟨rfl, rfl⟩)
    | (go_at_call 129; refine (rf_quo _ _ HZ.out _).mono ?_; rintro e w3 ⟨rfl, hb3⟩; obtain ⟨⟨d0, d1, d2, d3, d4, g0, g1, g2, g3, g4, ltr⟩, hW3⟩ := keepR HRB2.out hW2 hb3; clear hb3))
  all_goals go_wp2
  all_goals exact bodyPost_ret (v := .tuple #[.agg #[.int .i64 ((fltR (floatBits .quo .f64 (realV ka na fa) (realV kb nb fb))).k), .int .i64 ((fltR (floatBits .quo .f64 (realV ka na fa) (realV kb nb fb))).n), .float .f64 ((fltR (floatBits .quo .f64 (realV ka na fa) (realV kb nb fb))).f), .string ⟨#[]⟩, .slice none 0 0], .int .i64 (fltR (floatBits .quo .f64 (realV ka na fa) (realV kb nb fb))).e]) (by simp [results, Tryz.results90, go_sem, d0, d1, d2, d3, d4]) rfl ⟨rfl, below_set5 hW3 (by omega) _ _ _ _ _⟩

theorem op_quo (ka kb : Int) (na nb : Int) (fa fb : Nat) (sa sb : ByteArray) (aa ab : Option Addr) (la ca lb cb : Nat) (ha : rightB ka na fa sa la = true) (hb : rightB kb nb fb sb lb = true) (hfa : fa < 18446744073709551616) (hfb : fb < 18446744073709551616) (hz : zB (realV kb nb fb) = false) (w : World) :
    Calls Tryz.prog 90 #[.string ⟨#[47]⟩, .agg #[.int .i64 ka, .int .i64 na, .float .f64 fa, .string sa, .slice aa la ca], .agg #[.int .i64 kb, .int .i64 nb, .float .f64 fb, .string sb, .slice ab lb cb]] w fun e w' => e = .returned (.tuple #[.agg #[.int .i64 ((fltR (floatBits .quo .f64 (realV ka na fa) (realV kb nb fb))).k), .int .i64 ((fltR (floatBits .quo .f64 (realV ka na fa) (realV kb nb fb))).n), .float .f64 ((fltR (floatBits .quo .f64 (realV ka na fa) (realV kb nb fb))).f), .string ⟨#[]⟩, .slice none 0 0], .int .i64 (fltR (floatBits .quo .f64 (realV ka na fa) (realV kb nb fb))).e]) ∧ Below w.heap.size w w' := by
  cases hka : (ka == 1)
  · exact op_quo_b ka kb na nb fa fb sa sb aa ab la ca lb cb ha hb hfa hfb hka hz w
  · exact op_quo_a ka kb na nb fa fb sa sb aa ab la ca lb cb ha hb hfa hfb hka hz w
end Go.Proofs.YtajadhkpadkikaaGreatDoor


