/- Contracts of Op where it refuses: terms that are no right numbers, signs that are none, div and rem of floats. -/
import Derived.Test.YtihkabgoaejcgaaDoorO2
import Derived.Test.YtihkabgoaejcgaaDoorX3
import Derived.Deep.DrawnRows
namespace Go.Proofs.YtihkabgoaejcgaaDoor
open Go.RowKit
attribute [local go_sem] store_float
attribute [local go_sem ↓] Go.wp_at_zero Go.wp_at_succ

set_option maxHeartbeats 2000000 in
theorem op_nn (g : ByteArray) (ka kb : Int) (na nb : Int) (fa fb : Nat) (sa sb : ByteArray) (aa ab : Option Addr) (la ca lb cb : Nat) (ha : rightB ka na fa sa la = false) (hb : rightB kb nb fb sb lb = false) (hfa : fa < 18446744073709551616) (hfb : fb < 18446744073709551616) (is : ∀ w, Calls Tryd.prog 47 #[.string g] w fun e w' => e = .returned (.bool true) ∧ w' = w) (w : World) :
    Calls Tryd.prog 17 #[.string g, .agg #[.int .i64 ka, .int .i64 na, .float .f64 fa, .string sa, .slice aa la ca], .agg #[.int .i64 kb, .int .i64 nb, .float .f64 fb, .string sb, .slice ab lb cb]] w fun e w' => e = .returned (.tuple #[.agg #[.int .i64 (0), .int .i64 (0), .float .f64 (0), .string ⟨#[]⟩, .slice none 0 0], .int .i64 11]) ∧ Below w.heap.size w w' := by
  have HA := hid ha
  have HB := hid hb
  clear ha hb
  have IS := hid is
  clear is
  go_enter Tryd.func17, Tryd.ntmps17
  go_wp2_with fail
  refine (IS.out _).mono ?_
  rintro e w' ⟨rfl, rfl⟩
  go_wp2_with fail
  refine (valueOf_no ka na fa sa aa la ca hfa HA.out _).mono ?_
  rintro e w1 ⟨rfl, hb1⟩
  obtain ⟨⟨c0, c1, c2, c3, c4, _, _, _, _, _, lt⟩, RB, hW⟩ := after3 hb1
  have HRB := hid RB
  clear hb1 RB
  go_wp2_with fail
  refine (valueOf_no kb nb fb sb ab lb cb hfb HB.out _).mono ?_
  rintro e w2 ⟨rfl, hb2⟩
  clear c0 c1 c2 c3 c4 lt
  obtain ⟨⟨x0, x1, x2, ltx⟩, hk, hW2⟩ := later3 hW hb2
  have HRB2 := hid (HRB.out.keep hk)
  clear hb2 hk hW HRB
  have RB3 := HRB2.out.alloc (.cells #[.int .i64 0, .int .i64 0, .int .u64 0] 62)
  obtain ⟨d0, d1, d2, d3, d4, g0, g1, g2, g3, g4, ltr⟩ := RB3
  go_wp2
  all_goals exact bodyPost_ret (v := .tuple #[.agg #[.int .i64 (0), .int .i64 (0), .float .f64 (0), .string ⟨#[]⟩, .slice none 0 0], .int .i64 11]) (by simp [results, Tryd.results17, go_sem, d0, d1, d2, d3, d4]) rfl ⟨rfl, below_set5 (below_a1 hW2 _) (by omega) _ _ _ _ _⟩

set_option maxHeartbeats 2000000 in
theorem op_ny (g : ByteArray) (ka kb : Int) (na nb : Int) (fa fb : Nat) (sa sb : ByteArray) (aa ab : Option Addr) (la ca lb cb : Nat) (ha : rightB ka na fa sa la = false) (hb : rightB kb nb fb sb lb = true) (hfa : fa < 18446744073709551616) (hfb : fb < 18446744073709551616) (is : ∀ w, Calls Tryd.prog 47 #[.string g] w fun e w' => e = .returned (.bool true) ∧ w' = w) (w : World) :
    Calls Tryd.prog 17 #[.string g, .agg #[.int .i64 ka, .int .i64 na, .float .f64 fa, .string sa, .slice aa la ca], .agg #[.int .i64 kb, .int .i64 nb, .float .f64 fb, .string sb, .slice ab lb cb]] w fun e w' => e = .returned (.tuple #[.agg #[.int .i64 (0), .int .i64 (0), .float .f64 (0), .string ⟨#[]⟩, .slice none 0 0], .int .i64 11]) ∧ Below w.heap.size w w' := by
  have HA := hid ha
  have HB := hid hb
  clear ha hb
  have IS := hid is
  clear is
  go_enter Tryd.func17, Tryd.ntmps17
  go_wp2_with fail
  refine (IS.out _).mono ?_
  rintro e w' ⟨rfl, rfl⟩
  go_wp2_with fail
  refine (valueOf_no ka na fa sa aa la ca hfa HA.out _).mono ?_
  rintro e w1 ⟨rfl, hb1⟩
  obtain ⟨⟨c0, c1, c2, c3, c4, _, _, _, _, _, lt⟩, RB, hW⟩ := after3 hb1
  have HRB := hid RB
  clear hb1 RB
  go_wp2_with fail
  refine (valueOf_yes kb nb fb sb ab lb cb hfb HB.out _).mono ?_
  rintro e w2 ⟨rfl, hb2⟩
  clear c0 c1 c2 c3 c4 lt
  obtain ⟨⟨x0, x1, x2, ltx⟩, hk, hW2⟩ := later3 hW hb2
  have HRB2 := hid (HRB.out.keep hk)
  clear hb2 hk hW HRB
  have RB3 := HRB2.out.alloc (.cells #[.int .i64 kb, .int .i64 nb, .int .u64 fb] 62)
  obtain ⟨d0, d1, d2, d3, d4, g0, g1, g2, g3, g4, ltr⟩ := RB3
  go_wp2
  all_goals exact bodyPost_ret (v := .tuple #[.agg #[.int .i64 (0), .int .i64 (0), .float .f64 (0), .string ⟨#[]⟩, .slice none 0 0], .int .i64 11]) (by simp [results, Tryd.results17, go_sem, d0, d1, d2, d3, d4]) rfl ⟨rfl, below_set5 (below_a1 hW2 _) (by omega) _ _ _ _ _⟩

set_option maxHeartbeats 2000000 in
theorem op_yn (g : ByteArray) (ka kb : Int) (na nb : Int) (fa fb : Nat) (sa sb : ByteArray) (aa ab : Option Addr) (la ca lb cb : Nat) (ha : rightB ka na fa sa la = true) (hb : rightB kb nb fb sb lb = false) (hfa : fa < 18446744073709551616) (hfb : fb < 18446744073709551616) (is : ∀ w, Calls Tryd.prog 47 #[.string g] w fun e w' => e = .returned (.bool true) ∧ w' = w) (w : World) :
    Calls Tryd.prog 17 #[.string g, .agg #[.int .i64 ka, .int .i64 na, .float .f64 fa, .string sa, .slice aa la ca], .agg #[.int .i64 kb, .int .i64 nb, .float .f64 fb, .string sb, .slice ab lb cb]] w fun e w' => e = .returned (.tuple #[.agg #[.int .i64 (0), .int .i64 (0), .float .f64 (0), .string ⟨#[]⟩, .slice none 0 0], .int .i64 11]) ∧ Below w.heap.size w w' := by
  have HA := hid ha
  have HB := hid hb
  clear ha hb
  have IS := hid is
  clear is
  go_enter Tryd.func17, Tryd.ntmps17
  go_wp2_with fail
  refine (IS.out _).mono ?_
  rintro e w' ⟨rfl, rfl⟩
  go_wp2_with fail
  refine (valueOf_yes ka na fa sa aa la ca hfa HA.out _).mono ?_
  rintro e w1 ⟨rfl, hb1⟩
  obtain ⟨⟨c0, c1, c2, c3, c4, _, _, _, _, _, lt⟩, RB, hW⟩ := after3 hb1
  have HRB := hid RB
  clear hb1 RB
  go_wp2_with fail
  refine (valueOf_no kb nb fb sb ab lb cb hfb HB.out _).mono ?_
  rintro e w2 ⟨rfl, hb2⟩
  clear c0 c1 c2 c3 c4 lt
  obtain ⟨⟨x0, x1, x2, ltx⟩, hk, hW2⟩ := later3 hW hb2
  have HRB2 := hid (HRB.out.keep hk)
  clear hb2 hk hW HRB
  have RB3 := HRB2.out.alloc (.cells #[.int .i64 0, .int .i64 0, .int .u64 0] 62)
  obtain ⟨d0, d1, d2, d3, d4, g0, g1, g2, g3, g4, ltr⟩ := RB3
  go_wp2
  all_goals exact bodyPost_ret (v := .tuple #[.agg #[.int .i64 (0), .int .i64 (0), .float .f64 (0), .string ⟨#[]⟩, .slice none 0 0], .int .i64 11]) (by simp [results, Tryd.results17, go_sem, d0, d1, d2, d3, d4]) rfl ⟨rfl, below_set5 (below_a1 hW2 _) (by omega) _ _ _ _ _⟩

set_option maxHeartbeats 2000000 in
theorem op_mdiv_a (ka kb : Int) (na nb : Int) (fa fb : Nat) (sa sb : ByteArray) (aa ab : Option Addr) (la ca lb cb : Nat) (ha : rightB ka na fa sa la = true) (hb : rightB kb nb fb sb lb = true) (hfa : fa < 18446744073709551616) (hfb : fb < 18446744073709551616) (hka : (ka == 1) = true) (hkb : (kb == 1) = false) (w : World) :
    Calls Tryd.prog 17 #[.string ⟨#[100, 105, 118]⟩, .agg #[.int .i64 ka, .int .i64 na, .float .f64 fa, .string sa, .slice aa la ca], .agg #[.int .i64 kb, .int .i64 nb, .float .f64 fb, .string sb, .slice ab lb cb]] w fun e w' => e = .returned (.tuple #[.agg #[.int .i64 (0), .int .i64 (0), .float .f64 (0), .string ⟨#[]⟩, .slice none 0 0], .int .i64 11]) ∧ Below w.heap.size w w' := by
  have HA := hid ha
  have HB := hid hb
  clear ha hb
  go_enter Tryd.func17, Tryd.ntmps17
  go_wp2_with fail
  refine (isSign_yes _ (by simp) _).mono ?_
  rintro e w' ⟨rfl, rfl⟩
  go_wp2_with fail
  refine (valueOf_yes ka na fa sa aa la ca hfa HA.out _).mono ?_
  rintro e w1 ⟨rfl, hb1⟩
  obtain ⟨⟨c0, c1, c2, c3, c4, _, _, _, _, _, lt⟩, RB, hW⟩ := after3 hb1
  have HRB := hid RB
  clear hb1 RB
  go_wp2_with fail
  refine (valueOf_yes kb nb fb sb ab lb cb hfb HB.out _).mono ?_
  rintro e w2 ⟨rfl, hb2⟩
  clear c0 c1 c2 c3 c4 lt
  obtain ⟨⟨x0, x1, x2, ltx⟩, hk, hW2⟩ := later3 hW hb2
  have HRB2 := hid (HRB.out.keep hk)
  clear hb2 hk hW HRB
  have RB3 := HRB2.out.alloc (.cells #[.int .i64 kb, .int .i64 nb, .int .u64 fb] 62)
  obtain ⟨d0, d1, d2, d3, d4, g0, g1, g2, g3, g4, ltr⟩ := RB3
  go_wp2
  all_goals exact bodyPost_ret (v := .tuple #[.agg #[.int .i64 (0), .int .i64 (0), .float .f64 (0), .string ⟨#[]⟩, .slice none 0 0], .int .i64 11]) (by simp [results, Tryd.results17, go_sem, d0, d1, d2, d3, d4]) rfl ⟨rfl, below_set5 (below_a1 hW2 _) (by omega) _ _ _ _ _⟩

set_option maxHeartbeats 2000000 in
theorem op_mdiv_b (ka kb : Int) (na nb : Int) (fa fb : Nat) (sa sb : ByteArray) (aa ab : Option Addr) (la ca lb cb : Nat) (ha : rightB ka na fa sa la = true) (hb : rightB kb nb fb sb lb = true) (hfa : fa < 18446744073709551616) (hfb : fb < 18446744073709551616) (hka : (ka == 1) = false) (w : World) :
    Calls Tryd.prog 17 #[.string ⟨#[100, 105, 118]⟩, .agg #[.int .i64 ka, .int .i64 na, .float .f64 fa, .string sa, .slice aa la ca], .agg #[.int .i64 kb, .int .i64 nb, .float .f64 fb, .string sb, .slice ab lb cb]] w fun e w' => e = .returned (.tuple #[.agg #[.int .i64 (0), .int .i64 (0), .float .f64 (0), .string ⟨#[]⟩, .slice none 0 0], .int .i64 11]) ∧ Below w.heap.size w w' := by
  have HA := hid ha
  have HB := hid hb
  clear ha hb
  go_enter Tryd.func17, Tryd.ntmps17
  go_wp2_with fail
  refine (isSign_yes _ (by simp) _).mono ?_
  rintro e w' ⟨rfl, rfl⟩
  go_wp2_with fail
  refine (valueOf_yes ka na fa sa aa la ca hfa HA.out _).mono ?_
  rintro e w1 ⟨rfl, hb1⟩
  obtain ⟨⟨c0, c1, c2, c3, c4, _, _, _, _, _, lt⟩, RB, hW⟩ := after3 hb1
  have HRB := hid RB
  clear hb1 RB
  go_wp2_with fail
  refine (valueOf_yes kb nb fb sb ab lb cb hfb HB.out _).mono ?_
  rintro e w2 ⟨rfl, hb2⟩
  clear c0 c1 c2 c3 c4 lt
  obtain ⟨⟨x0, x1, x2, ltx⟩, hk, hW2⟩ := later3 hW hb2
  have HRB2 := hid (HRB.out.keep hk)
  clear hb2 hk hW HRB
  have RB3 := HRB2.out.alloc (.cells #[.int .i64 kb, .int .i64 nb, .int .u64 fb] 62)
  obtain ⟨d0, d1, d2, d3, d4, g0, g1, g2, g3, g4, ltr⟩ := RB3
  go_wp2
  all_goals exact bodyPost_ret (v := .tuple #[.agg #[.int .i64 (0), .int .i64 (0), .float .f64 (0), .string ⟨#[]⟩, .slice none 0 0], .int .i64 11]) (by simp [results, Tryd.results17, go_sem, d0, d1, d2, d3, d4]) rfl ⟨rfl, below_set5 (below_a1 hW2 _) (by omega) _ _ _ _ _⟩

set_option maxHeartbeats 2000000 in
theorem op_mrem_a (ka kb : Int) (na nb : Int) (fa fb : Nat) (sa sb : ByteArray) (aa ab : Option Addr) (la ca lb cb : Nat) (ha : rightB ka na fa sa la = true) (hb : rightB kb nb fb sb lb = true) (hfa : fa < 18446744073709551616) (hfb : fb < 18446744073709551616) (hka : (ka == 1) = true) (hkb : (kb == 1) = false) (w : World) :
    Calls Tryd.prog 17 #[.string ⟨#[114, 101, 109]⟩, .agg #[.int .i64 ka, .int .i64 na, .float .f64 fa, .string sa, .slice aa la ca], .agg #[.int .i64 kb, .int .i64 nb, .float .f64 fb, .string sb, .slice ab lb cb]] w fun e w' => e = .returned (.tuple #[.agg #[.int .i64 (0), .int .i64 (0), .float .f64 (0), .string ⟨#[]⟩, .slice none 0 0], .int .i64 11]) ∧ Below w.heap.size w w' := by
  have HA := hid ha
  have HB := hid hb
  clear ha hb
  go_enter Tryd.func17, Tryd.ntmps17
  go_wp2_with fail
  refine (isSign_yes _ (by simp) _).mono ?_
  rintro e w' ⟨rfl, rfl⟩
  go_wp2_with fail
  refine (valueOf_yes ka na fa sa aa la ca hfa HA.out _).mono ?_
  rintro e w1 ⟨rfl, hb1⟩
  obtain ⟨⟨c0, c1, c2, c3, c4, _, _, _, _, _, lt⟩, RB, hW⟩ := after3 hb1
  have HRB := hid RB
  clear hb1 RB
  go_wp2_with fail
  refine (valueOf_yes kb nb fb sb ab lb cb hfb HB.out _).mono ?_
  rintro e w2 ⟨rfl, hb2⟩
  clear c0 c1 c2 c3 c4 lt
  obtain ⟨⟨x0, x1, x2, ltx⟩, hk, hW2⟩ := later3 hW hb2
  have HRB2 := hid (HRB.out.keep hk)
  clear hb2 hk hW HRB
  have RB3 := HRB2.out.alloc (.cells #[.int .i64 kb, .int .i64 nb, .int .u64 fb] 62)
  obtain ⟨d0, d1, d2, d3, d4, g0, g1, g2, g3, g4, ltr⟩ := RB3
  go_wp2
  all_goals exact bodyPost_ret (v := .tuple #[.agg #[.int .i64 (0), .int .i64 (0), .float .f64 (0), .string ⟨#[]⟩, .slice none 0 0], .int .i64 11]) (by simp [results, Tryd.results17, go_sem, d0, d1, d2, d3, d4]) rfl ⟨rfl, below_set5 (below_a1 hW2 _) (by omega) _ _ _ _ _⟩

set_option maxHeartbeats 2000000 in
theorem op_mrem_b (ka kb : Int) (na nb : Int) (fa fb : Nat) (sa sb : ByteArray) (aa ab : Option Addr) (la ca lb cb : Nat) (ha : rightB ka na fa sa la = true) (hb : rightB kb nb fb sb lb = true) (hfa : fa < 18446744073709551616) (hfb : fb < 18446744073709551616) (hka : (ka == 1) = false) (w : World) :
    Calls Tryd.prog 17 #[.string ⟨#[114, 101, 109]⟩, .agg #[.int .i64 ka, .int .i64 na, .float .f64 fa, .string sa, .slice aa la ca], .agg #[.int .i64 kb, .int .i64 nb, .float .f64 fb, .string sb, .slice ab lb cb]] w fun e w' => e = .returned (.tuple #[.agg #[.int .i64 (0), .int .i64 (0), .float .f64 (0), .string ⟨#[]⟩, .slice none 0 0], .int .i64 11]) ∧ Below w.heap.size w w' := by
  have HA := hid ha
  have HB := hid hb
  clear ha hb
  go_enter Tryd.func17, Tryd.ntmps17
  go_wp2_with fail
  refine (isSign_yes _ (by simp) _).mono ?_
  rintro e w' ⟨rfl, rfl⟩
  go_wp2_with fail
  refine (valueOf_yes ka na fa sa aa la ca hfa HA.out _).mono ?_
  rintro e w1 ⟨rfl, hb1⟩
  obtain ⟨⟨c0, c1, c2, c3, c4, _, _, _, _, _, lt⟩, RB, hW⟩ := after3 hb1
  have HRB := hid RB
  clear hb1 RB
  go_wp2_with fail
  refine (valueOf_yes kb nb fb sb ab lb cb hfb HB.out _).mono ?_
  rintro e w2 ⟨rfl, hb2⟩
  clear c0 c1 c2 c3 c4 lt
  obtain ⟨⟨x0, x1, x2, ltx⟩, hk, hW2⟩ := later3 hW hb2
  have HRB2 := hid (HRB.out.keep hk)
  clear hb2 hk hW HRB
  have RB3 := HRB2.out.alloc (.cells #[.int .i64 kb, .int .i64 nb, .int .u64 fb] 62)
  obtain ⟨d0, d1, d2, d3, d4, g0, g1, g2, g3, g4, ltr⟩ := RB3
  go_wp2
  all_goals exact bodyPost_ret (v := .tuple #[.agg #[.int .i64 (0), .int .i64 (0), .float .f64 (0), .string ⟨#[]⟩, .slice none 0 0], .int .i64 11]) (by simp [results, Tryd.results17, go_sem, d0, d1, d2, d3, d4]) rfl ⟨rfl, below_set5 (below_a1 hW2 _) (by omega) _ _ _ _ _⟩

theorem isSign_not (g : ByteArray) (h1 : (g.toList == [43]) = false) (h2 : (g.toList == [45]) = false) (h3 : (g.toList == [42]) = false) (h4 : (g.toList == [47]) = false) (h5 : (g.toList == [100, 105, 118]) = false) (h6 : (g.toList == [114, 101, 109]) = false) (w : World) : Calls Tryd.prog 47 #[.string g] w fun e w' => e = .returned (.bool false) ∧ w' = w := by
  go_enter Tryd.func47, Tryd.ntmps47
  go_wp2
  go_ret
  exact ⟨rfl, rfl⟩

theorem three_new {w : World} (o1 o2 o3 : Obj) : Below w.heap.size w (((w.alloc o1).alloc o2).alloc o3) := ((below_new w o1).alloc (by simp) o2).alloc (by simp; omega) o3

set_option maxHeartbeats 2000000 in
theorem op_bad (g : ByteArray) (ka kb : Int) (na nb : Int) (fa fb : Nat) (sa sb : ByteArray) (aa ab : Option Addr) (la ca lb cb : Nat) (is : ∀ w, Calls Tryd.prog 47 #[.string g] w fun e w' => e = .returned (.bool false) ∧ w' = w) (w : World) :
    Calls Tryd.prog 17 #[.string g, .agg #[.int .i64 ka, .int .i64 na, .float .f64 fa, .string sa, .slice aa la ca], .agg #[.int .i64 kb, .int .i64 nb, .float .f64 fb, .string sb, .slice ab lb cb]] w fun e w' => e = .returned (.tuple #[.agg #[.int .i64 (0), .int .i64 (0), .float .f64 (0), .string ⟨#[]⟩, .slice none 0 0], .int .i64 13]) ∧ Below w.heap.size w w' := by
  have IS := hid is
  clear is
  go_enter Tryd.func17, Tryd.ntmps17
  go_wp2_with fail
  refine (IS.out _).mono ?_
  rintro e w' ⟨rfl, rfl⟩
  go_wp2
  exact bodyPost_ret (v := .tuple #[.agg #[.int .i64 (0), .int .i64 (0), .float .f64 (0), .string ⟨#[]⟩, .slice none 0 0], .int .i64 13]) (by simp [results, Tryd.results17, go_sem]) rfl ⟨rfl, three_new _ _ _⟩
end Go.Proofs.YtihkabgoaejcgaaDoor
