import Derived.Test.YtgljglindgbjaaaGreatDoorG37
import Derived.Test.YtgljglindgbjaaaGreatDoorG35
import Derived.Lib.AppendZerosOnto
import Derived.Lib.AppendZeros
import Derived.Lib.SliceRun
import Derived.Laws.Append
import Derived.Laws.AppendOwn
import Derived.Lib.Walk
import Derived.Deep.AppendLies
/- The document's Op: compares. -/
namespace Go.Proofs.YtgljglindgbjaaaGreatDoor
open Go.RowKit Go.Lib Go.Deep
attribute [local go_sem] store_float f64bits
attribute [local go_sem ↓] Go.wp_at_zero Go.wp_at_succ

set_option maxHeartbeats 4000000 in
set_option maxRecDepth 100000 in
theorem rop_eq {w : World} {a : Option Addr} {c : Nat} {t0 t1 : Tr} (hin : ArgsIn w a c [t0, t1]) (z : Int) (hC : ∀ W, Below w.heap.size w W → Calls Tryz.prog 21 #[t0.val, t1.val] W fun e w' => e = .returned (.int .i64 z) ∧ Below W.heap.size W w') :
    Calls Tryz.prog 7 #[.string ⟨#[61, 61]⟩, .slice a 2 c] w (OutS (.inl (bolT (decide (z = 0)))) w) := by
  obtain ⟨k, n, f, s, a', c', ks⟩ := t0
  obtain ⟨k1, n1, f1, s1, a1, c1, ks1⟩ := t1
  obtain ⟨b, o, rfl, hbW, v0, v1, v2, v3, v4, -⟩ := argi hin (Below.refl _ _) (i := 0) rfl
  obtain ⟨b2, o2, e, -, u0, u1, u2, u3, u4, -⟩ := argi hin (Below.refl _ _) (i := 1) rfl
  obtain ⟨rfl, rfl⟩ : b = b2 ∧ o = o2 := by simpa using e
  simp only [Nat.zero_mul, Nat.add_zero, Nat.one_mul] at v0 v1 v2 v3 v4 u0 u1 u2 u3 u4
  have HC := hidb hC
  simp only [Tr.val, Tr.cells] at HC
  clear hC
  generalize ks.length = l0 at *
  generalize ks1.length = l1 at *
  obtain ⟨PP, hPP⟩ : ∃ PP, OutS (.inl (bolT (decide (z = 0)))) w = PP := ⟨_, rfl⟩
  have HPP := hidb hPP
  rw [hPP]
  clear hin hPP
  obtain ⟨V3, hV3⟩ : ∃ V3, ((w.alloc (.cells #[.int .i64 0, .int .i64 0, .float .f64 0, .string ⟨#[]⟩, .slice none 0 0] 27)).alloc (.cells #[.int .i64 k, .int .i64 n, .float .f64 f, .string s, .slice a' l0 c'] 27)).alloc (.cells #[.int .i64 k1, .int .i64 n1, .float .f64 f1, .string s1, .slice a1 l1 c1] 27) = V3 := ⟨_, rfl⟩
  have hs1 : (w.alloc (.cells #[.int .i64 0, .int .i64 0, .float .f64 0, .string ⟨#[]⟩, .slice none 0 0] 27)).heap.size = w.heap.size + 1 := by simp
  have hs2 : ((w.alloc (.cells #[.int .i64 0, .int .i64 0, .float .f64 0, .string ⟨#[]⟩, .slice none 0 0] 27)).alloc (.cells #[.int .i64 k, .int .i64 n, .float .f64 f, .string s, .slice a' l0 c'] 27)).heap.size = w.heap.size + 1 + 1 := by simp
  have HX0 : Hid (Box V3 w.heap.size (.int .i64 0) (.int .i64 0) (.float .f64 0) (.string ⟨#[]⟩) (.slice none 0 0)) := hidb (by rw [← hV3]; exact ((Box.new w 27 (.int .i64 0) (.int .i64 0) (.float .f64 0) (.string ⟨#[]⟩) (.slice none 0 0)).keep (below_new _ _)).keep (below_new _ _))
  have HA0 : Hid (Box V3 (w.heap.size + 1) (.int .i64 k) (.int .i64 n) (.float .f64 f) (.string s) (.slice a' l0 c')) := hidb (by
    rw [← hV3, ← hs1]; exact (Box.new _ 27 _ _ _ _ _).keep (below_new _ _))
  have HA1 : Hid (Box V3 (w.heap.size + 1 + 1) (.int .i64 k1) (.int .i64 n1) (.float .f64 f1) (.string s1) (.slice a1 l1 c1)) := hidb (by
    rw [← hV3, ← hs2]; exact Box.new _ 27 _ _ _ _ _)
  have HB0 : Hid (Below w.heap.size w V3) := hidb (by rw [← hV3]; exact ((below_new w _).alloc (by simp) _).alloc (by simp; omega) _)
  have HV3 := hidb hV3
  clear hV3 hs1 hs2
  obtain ⟨D, hD⟩ : ∃ D, decide (z = 0) = D := ⟨_, rfl⟩
  have hD2 : (z == 0) = D := by rw [← hD]; by_cases h : z = 0 <;> simp [h]
  rw [hD] at HPP
  clear hD
  obtain ⟨S, hS⟩ : ∃ S, (bolT D).val = .agg #[.int .i64 3, .int .i64 0, .float .f64 0, .string S, .slice none 0 0] := ⟨_, rfl⟩
  have RB := hidb (fun W => rB_any D W)
  rw [hS] at RB
  have HS := hidb hS
  clear hS
  go_enter Tryz.func7, Tryz.ntmps7
  go_wp2_with fail
  rw [HV3.out]
  refine (HC.out _ HB0.out).mono ?_
  rintro e w2 ⟨rfl, hb2⟩
  have HB2 := hidb (HB0.out.trans (hb2.mono HB0.out.size))
  have HX2 := hidb (HX0.out.keep hb2)
  clear hb2 v0 v1 v2 v3 v4 u0 u1 u2 u3 u4
  go_wp2_with fail
  refine (RB.out _).mono ?_
  rintro e w3 ⟨rfl, hb3⟩
  have HB3 := hidb (HB2.out.trans (hb3.mono HB2.out.size))
  have HX3 := hidb (HX2.out.keep hb3)
  clear hb3
  obtain ⟨⟨x0, x1, x2, x3, x4⟩, ⟨y0, y1, y2, y3, y4⟩, xl⟩ := Box.six HX3.out
  go_wp2_with fail
  have bx9 := HX3.out.set (.int .i64 3) (.int .i64 0) (.float .f64 0) (.string S) (.slice none 0 0)
  obtain ⟨⟨k0, k1', k2, k3, k4⟩, -, -⟩ := Box.six bx9
  simp only [set5] at k0 k1' k2 k3 k4
  refine bodyPost_ret (v := .tuple #[(bolT D).val, .int .i64 0]) (by simp [HS.out, results, Tryz.results7, go_sem, k0, k1', k2, k3, k4]) rfl ?_
  rw [← HPP.out]
  exact outB_says D (((((HB3.out.setCell (by simp) _).setCell (by simp) _).setCell (by simp) _).setCell (by simp) _).setCell (by simp) _)
set_option maxHeartbeats 4000000 in
set_option maxRecDepth 100000 in
theorem rop_ne {w : World} {a : Option Addr} {c : Nat} {t0 t1 : Tr} (hin : ArgsIn w a c [t0, t1]) (z : Int) (hC : ∀ W, Below w.heap.size w W → Calls Tryz.prog 21 #[t0.val, t1.val] W fun e w' => e = .returned (.int .i64 z) ∧ Below W.heap.size W w') :
    Calls Tryz.prog 7 #[.string ⟨#[47, 61]⟩, .slice a 2 c] w (OutS (.inl (bolT (decide (¬ z = 0)))) w) := by
  obtain ⟨k, n, f, s, a', c', ks⟩ := t0
  obtain ⟨k1, n1, f1, s1, a1, c1, ks1⟩ := t1
  obtain ⟨b, o, rfl, hbW, v0, v1, v2, v3, v4, -⟩ := argi hin (Below.refl _ _) (i := 0) rfl
  obtain ⟨b2, o2, e, -, u0, u1, u2, u3, u4, -⟩ := argi hin (Below.refl _ _) (i := 1) rfl
  obtain ⟨rfl, rfl⟩ : b = b2 ∧ o = o2 := by simpa using e
  simp only [Nat.zero_mul, Nat.add_zero, Nat.one_mul] at v0 v1 v2 v3 v4 u0 u1 u2 u3 u4
  have HC := hidb hC
  simp only [Tr.val, Tr.cells] at HC
  clear hC
  generalize ks.length = l0 at *
  generalize ks1.length = l1 at *
  obtain ⟨PP, hPP⟩ : ∃ PP, OutS (.inl (bolT (decide (¬ z = 0)))) w = PP := ⟨_, rfl⟩
  have HPP := hidb hPP
  rw [hPP]
  clear hin hPP
  obtain ⟨V3, hV3⟩ : ∃ V3, ((w.alloc (.cells #[.int .i64 0, .int .i64 0, .float .f64 0, .string ⟨#[]⟩, .slice none 0 0] 27)).alloc (.cells #[.int .i64 k, .int .i64 n, .float .f64 f, .string s, .slice a' l0 c'] 27)).alloc (.cells #[.int .i64 k1, .int .i64 n1, .float .f64 f1, .string s1, .slice a1 l1 c1] 27) = V3 := ⟨_, rfl⟩
  have hs1 : (w.alloc (.cells #[.int .i64 0, .int .i64 0, .float .f64 0, .string ⟨#[]⟩, .slice none 0 0] 27)).heap.size = w.heap.size + 1 := by simp
  have hs2 : ((w.alloc (.cells #[.int .i64 0, .int .i64 0, .float .f64 0, .string ⟨#[]⟩, .slice none 0 0] 27)).alloc (.cells #[.int .i64 k, .int .i64 n, .float .f64 f, .string s, .slice a' l0 c'] 27)).heap.size = w.heap.size + 1 + 1 := by simp
  have HX0 : Hid (Box V3 w.heap.size (.int .i64 0) (.int .i64 0) (.float .f64 0) (.string ⟨#[]⟩) (.slice none 0 0)) := hidb (by rw [← hV3]; exact ((Box.new w 27 (.int .i64 0) (.int .i64 0) (.float .f64 0) (.string ⟨#[]⟩) (.slice none 0 0)).keep (below_new _ _)).keep (below_new _ _))
  have HA0 : Hid (Box V3 (w.heap.size + 1) (.int .i64 k) (.int .i64 n) (.float .f64 f) (.string s) (.slice a' l0 c')) := hidb (by
    rw [← hV3, ← hs1]; exact (Box.new _ 27 _ _ _ _ _).keep (below_new _ _))
  have HA1 : Hid (Box V3 (w.heap.size + 1 + 1) (.int .i64 k1) (.int .i64 n1) (.float .f64 f1) (.string s1) (.slice a1 l1 c1)) := hidb (by
    rw [← hV3, ← hs2]; exact Box.new _ 27 _ _ _ _ _)
  have HB0 : Hid (Below w.heap.size w V3) := hidb (by rw [← hV3]; exact ((below_new w _).alloc (by simp) _).alloc (by simp; omega) _)
  have HV3 := hidb hV3
  clear hV3 hs1 hs2
  obtain ⟨D, hD⟩ : ∃ D, decide (¬ z = 0) = D := ⟨_, rfl⟩
  have hD2 : (z != 0) = D := by rw [← hD]; by_cases h : z = 0 <;> simp [h]
  rw [hD] at HPP
  clear hD
  obtain ⟨S, hS⟩ : ∃ S, (bolT D).val = .agg #[.int .i64 3, .int .i64 0, .float .f64 0, .string S, .slice none 0 0] := ⟨_, rfl⟩
  have RB := hidb (fun W => rB_any D W)
  rw [hS] at RB
  have HS := hidb hS
  clear hS
  go_enter Tryz.func7, Tryz.ntmps7
  go_wp2_with fail
  rw [HV3.out]
  refine (HC.out _ HB0.out).mono ?_
  rintro e w2 ⟨rfl, hb2⟩
  have HB2 := hidb (HB0.out.trans (hb2.mono HB0.out.size))
  have HX2 := hidb (HX0.out.keep hb2)
  clear hb2 v0 v1 v2 v3 v4 u0 u1 u2 u3 u4
  go_wp2_with fail
  refine (RB.out _).mono ?_
  rintro e w3 ⟨rfl, hb3⟩
  have HB3 := hidb (HB2.out.trans (hb3.mono HB2.out.size))
  have HX3 := hidb (HX2.out.keep hb3)
  clear hb3
  obtain ⟨⟨x0, x1, x2, x3, x4⟩, ⟨y0, y1, y2, y3, y4⟩, xl⟩ := Box.six HX3.out
  go_wp2_with fail
  have bx9 := HX3.out.set (.int .i64 3) (.int .i64 0) (.float .f64 0) (.string S) (.slice none 0 0)
  obtain ⟨⟨k0, k1', k2, k3, k4⟩, -, -⟩ := Box.six bx9
  simp only [set5] at k0 k1' k2 k3 k4
  refine bodyPost_ret (v := .tuple #[(bolT D).val, .int .i64 0]) (by simp [HS.out, results, Tryz.results7, go_sem, k0, k1', k2, k3, k4]) rfl ?_
  rw [← HPP.out]
  exact outB_says D (((((HB3.out.setCell (by simp) _).setCell (by simp) _).setCell (by simp) _).setCell (by simp) _).setCell (by simp) _)
set_option maxHeartbeats 4000000 in
set_option maxRecDepth 100000 in
theorem rop_le {w : World} {a : Option Addr} {c : Nat} {t0 t1 : Tr} (hin : ArgsIn w a c [t0, t1]) (z : Int) (hC : ∀ W, Below w.heap.size w W → Calls Tryz.prog 21 #[t0.val, t1.val] W fun e w' => e = .returned (.int .i64 z) ∧ Below W.heap.size W w') :
    Calls Tryz.prog 7 #[.string ⟨#[61, 60]⟩, .slice a 2 c] w (OutS (.inl (bolT (decide (z ≤ 0)))) w) := by
  obtain ⟨k, n, f, s, a', c', ks⟩ := t0
  obtain ⟨k1, n1, f1, s1, a1, c1, ks1⟩ := t1
  obtain ⟨b, o, rfl, hbW, v0, v1, v2, v3, v4, -⟩ := argi hin (Below.refl _ _) (i := 0) rfl
  obtain ⟨b2, o2, e, -, u0, u1, u2, u3, u4, -⟩ := argi hin (Below.refl _ _) (i := 1) rfl
  obtain ⟨rfl, rfl⟩ : b = b2 ∧ o = o2 := by simpa using e
  simp only [Nat.zero_mul, Nat.add_zero, Nat.one_mul] at v0 v1 v2 v3 v4 u0 u1 u2 u3 u4
  have HC := hidb hC
  simp only [Tr.val, Tr.cells] at HC
  clear hC
  generalize ks.length = l0 at *
  generalize ks1.length = l1 at *
  obtain ⟨PP, hPP⟩ : ∃ PP, OutS (.inl (bolT (decide (z ≤ 0)))) w = PP := ⟨_, rfl⟩
  have HPP := hidb hPP
  rw [hPP]
  clear hin hPP
  obtain ⟨V3, hV3⟩ : ∃ V3, ((w.alloc (.cells #[.int .i64 0, .int .i64 0, .float .f64 0, .string ⟨#[]⟩, .slice none 0 0] 27)).alloc (.cells #[.int .i64 k, .int .i64 n, .float .f64 f, .string s, .slice a' l0 c'] 27)).alloc (.cells #[.int .i64 k1, .int .i64 n1, .float .f64 f1, .string s1, .slice a1 l1 c1] 27) = V3 := ⟨_, rfl⟩
  have hs1 : (w.alloc (.cells #[.int .i64 0, .int .i64 0, .float .f64 0, .string ⟨#[]⟩, .slice none 0 0] 27)).heap.size = w.heap.size + 1 := by simp
  have hs2 : ((w.alloc (.cells #[.int .i64 0, .int .i64 0, .float .f64 0, .string ⟨#[]⟩, .slice none 0 0] 27)).alloc (.cells #[.int .i64 k, .int .i64 n, .float .f64 f, .string s, .slice a' l0 c'] 27)).heap.size = w.heap.size + 1 + 1 := by simp
  have HX0 : Hid (Box V3 w.heap.size (.int .i64 0) (.int .i64 0) (.float .f64 0) (.string ⟨#[]⟩) (.slice none 0 0)) := hidb (by rw [← hV3]; exact ((Box.new w 27 (.int .i64 0) (.int .i64 0) (.float .f64 0) (.string ⟨#[]⟩) (.slice none 0 0)).keep (below_new _ _)).keep (below_new _ _))
  have HA0 : Hid (Box V3 (w.heap.size + 1) (.int .i64 k) (.int .i64 n) (.float .f64 f) (.string s) (.slice a' l0 c')) := hidb (by
    rw [← hV3, ← hs1]; exact (Box.new _ 27 _ _ _ _ _).keep (below_new _ _))
  have HA1 : Hid (Box V3 (w.heap.size + 1 + 1) (.int .i64 k1) (.int .i64 n1) (.float .f64 f1) (.string s1) (.slice a1 l1 c1)) := hidb (by
    rw [← hV3, ← hs2]; exact Box.new _ 27 _ _ _ _ _)
  have HB0 : Hid (Below w.heap.size w V3) := hidb (by rw [← hV3]; exact ((below_new w _).alloc (by simp) _).alloc (by simp; omega) _)
  have HV3 := hidb hV3
  clear hV3 hs1 hs2
  obtain ⟨D, hD⟩ : ∃ D, decide (z ≤ 0) = D := ⟨_, rfl⟩
  have hD2 : (decide (z ≤ 0)) = D := by rw [← hD]
  rw [hD] at HPP
  clear hD
  obtain ⟨S, hS⟩ : ∃ S, (bolT D).val = .agg #[.int .i64 3, .int .i64 0, .float .f64 0, .string S, .slice none 0 0] := ⟨_, rfl⟩
  have RB := hidb (fun W => rB_any D W)
  rw [hS] at RB
  have HS := hidb hS
  clear hS
  go_enter Tryz.func7, Tryz.ntmps7
  go_wp2_with fail
  rw [HV3.out]
  refine (HC.out _ HB0.out).mono ?_
  rintro e w2 ⟨rfl, hb2⟩
  have HB2 := hidb (HB0.out.trans (hb2.mono HB0.out.size))
  have HX2 := hidb (HX0.out.keep hb2)
  clear hb2 v0 v1 v2 v3 v4 u0 u1 u2 u3 u4
  go_wp2_with fail
  refine (RB.out _).mono ?_
  rintro e w3 ⟨rfl, hb3⟩
  have HB3 := hidb (HB2.out.trans (hb3.mono HB2.out.size))
  have HX3 := hidb (HX2.out.keep hb3)
  clear hb3
  obtain ⟨⟨x0, x1, x2, x3, x4⟩, ⟨y0, y1, y2, y3, y4⟩, xl⟩ := Box.six HX3.out
  go_wp2_with fail
  have bx9 := HX3.out.set (.int .i64 3) (.int .i64 0) (.float .f64 0) (.string S) (.slice none 0 0)
  obtain ⟨⟨k0, k1', k2, k3, k4⟩, -, -⟩ := Box.six bx9
  simp only [set5] at k0 k1' k2 k3 k4
  refine bodyPost_ret (v := .tuple #[(bolT D).val, .int .i64 0]) (by simp [HS.out, results, Tryz.results7, go_sem, k0, k1', k2, k3, k4]) rfl ?_
  rw [← HPP.out]
  exact outB_says D (((((HB3.out.setCell (by simp) _).setCell (by simp) _).setCell (by simp) _).setCell (by simp) _).setCell (by simp) _)
set_option maxHeartbeats 4000000 in
set_option maxRecDepth 100000 in
theorem rop_lt {w : World} {a : Option Addr} {c : Nat} {t0 t1 : Tr} (hin : ArgsIn w a c [t0, t1]) (z : Int) (hC : ∀ W, Below w.heap.size w W → Calls Tryz.prog 21 #[t0.val, t1.val] W fun e w' => e = .returned (.int .i64 z) ∧ Below W.heap.size W w') :
    Calls Tryz.prog 7 #[.string ⟨#[60]⟩, .slice a 2 c] w (OutS (.inl (bolT (decide (z < 0)))) w) := by
  obtain ⟨k, n, f, s, a', c', ks⟩ := t0
  obtain ⟨k1, n1, f1, s1, a1, c1, ks1⟩ := t1
  obtain ⟨b, o, rfl, hbW, v0, v1, v2, v3, v4, -⟩ := argi hin (Below.refl _ _) (i := 0) rfl
  obtain ⟨b2, o2, e, -, u0, u1, u2, u3, u4, -⟩ := argi hin (Below.refl _ _) (i := 1) rfl
  obtain ⟨rfl, rfl⟩ : b = b2 ∧ o = o2 := by simpa using e
  simp only [Nat.zero_mul, Nat.add_zero, Nat.one_mul] at v0 v1 v2 v3 v4 u0 u1 u2 u3 u4
  have HC := hidb hC
  simp only [Tr.val, Tr.cells] at HC
  clear hC
  generalize ks.length = l0 at *
  generalize ks1.length = l1 at *
  obtain ⟨PP, hPP⟩ : ∃ PP, OutS (.inl (bolT (decide (z < 0)))) w = PP := ⟨_, rfl⟩
  have HPP := hidb hPP
  rw [hPP]
  clear hin hPP
  obtain ⟨V3, hV3⟩ : ∃ V3, ((w.alloc (.cells #[.int .i64 0, .int .i64 0, .float .f64 0, .string ⟨#[]⟩, .slice none 0 0] 27)).alloc (.cells #[.int .i64 k, .int .i64 n, .float .f64 f, .string s, .slice a' l0 c'] 27)).alloc (.cells #[.int .i64 k1, .int .i64 n1, .float .f64 f1, .string s1, .slice a1 l1 c1] 27) = V3 := ⟨_, rfl⟩
  have hs1 : (w.alloc (.cells #[.int .i64 0, .int .i64 0, .float .f64 0, .string ⟨#[]⟩, .slice none 0 0] 27)).heap.size = w.heap.size + 1 := by simp
  have hs2 : ((w.alloc (.cells #[.int .i64 0, .int .i64 0, .float .f64 0, .string ⟨#[]⟩, .slice none 0 0] 27)).alloc (.cells #[.int .i64 k, .int .i64 n, .float .f64 f, .string s, .slice a' l0 c'] 27)).heap.size = w.heap.size + 1 + 1 := by simp
  have HX0 : Hid (Box V3 w.heap.size (.int .i64 0) (.int .i64 0) (.float .f64 0) (.string ⟨#[]⟩) (.slice none 0 0)) := hidb (by rw [← hV3]; exact ((Box.new w 27 (.int .i64 0) (.int .i64 0) (.float .f64 0) (.string ⟨#[]⟩) (.slice none 0 0)).keep (below_new _ _)).keep (below_new _ _))
  have HA0 : Hid (Box V3 (w.heap.size + 1) (.int .i64 k) (.int .i64 n) (.float .f64 f) (.string s) (.slice a' l0 c')) := hidb (by
    rw [← hV3, ← hs1]; exact (Box.new _ 27 _ _ _ _ _).keep (below_new _ _))
  have HA1 : Hid (Box V3 (w.heap.size + 1 + 1) (.int .i64 k1) (.int .i64 n1) (.float .f64 f1) (.string s1) (.slice a1 l1 c1)) := hidb (by
    rw [← hV3, ← hs2]; exact Box.new _ 27 _ _ _ _ _)
  have HB0 : Hid (Below w.heap.size w V3) := hidb (by rw [← hV3]; exact ((below_new w _).alloc (by simp) _).alloc (by simp; omega) _)
  have HV3 := hidb hV3
  clear hV3 hs1 hs2
  obtain ⟨D, hD⟩ : ∃ D, decide (z < 0) = D := ⟨_, rfl⟩
  have hD2 : (decide (z < 0)) = D := by rw [← hD]
  rw [hD] at HPP
  clear hD
  obtain ⟨S, hS⟩ : ∃ S, (bolT D).val = .agg #[.int .i64 3, .int .i64 0, .float .f64 0, .string S, .slice none 0 0] := ⟨_, rfl⟩
  have RB := hidb (fun W => rB_any D W)
  rw [hS] at RB
  have HS := hidb hS
  clear hS
  go_enter Tryz.func7, Tryz.ntmps7
  go_wp2_with fail
  rw [HV3.out]
  refine (HC.out _ HB0.out).mono ?_
  rintro e w2 ⟨rfl, hb2⟩
  have HB2 := hidb (HB0.out.trans (hb2.mono HB0.out.size))
  have HX2 := hidb (HX0.out.keep hb2)
  clear hb2 v0 v1 v2 v3 v4 u0 u1 u2 u3 u4
  go_wp2_with fail
  refine (RB.out _).mono ?_
  rintro e w3 ⟨rfl, hb3⟩
  have HB3 := hidb (HB2.out.trans (hb3.mono HB2.out.size))
  have HX3 := hidb (HX2.out.keep hb3)
  clear hb3
  obtain ⟨⟨x0, x1, x2, x3, x4⟩, ⟨y0, y1, y2, y3, y4⟩, xl⟩ := Box.six HX3.out
  go_wp2_with fail
  have bx9 := HX3.out.set (.int .i64 3) (.int .i64 0) (.float .f64 0) (.string S) (.slice none 0 0)
  obtain ⟨⟨k0, k1', k2, k3, k4⟩, -, -⟩ := Box.six bx9
  simp only [set5] at k0 k1' k2 k3 k4
  refine bodyPost_ret (v := .tuple #[(bolT D).val, .int .i64 0]) (by simp [HS.out, results, Tryz.results7, go_sem, k0, k1', k2, k3, k4]) rfl ?_
  rw [← HPP.out]
  exact outB_says D (((((HB3.out.setCell (by simp) _).setCell (by simp) _).setCell (by simp) _).setCell (by simp) _).setCell (by simp) _)
set_option maxHeartbeats 4000000 in
set_option maxRecDepth 100000 in
theorem rop_ge {w : World} {a : Option Addr} {c : Nat} {t0 t1 : Tr} (hin : ArgsIn w a c [t0, t1]) (z : Int) (hC : ∀ W, Below w.heap.size w W → Calls Tryz.prog 21 #[t0.val, t1.val] W fun e w' => e = .returned (.int .i64 z) ∧ Below W.heap.size W w') :
    Calls Tryz.prog 7 #[.string ⟨#[62, 61]⟩, .slice a 2 c] w (OutS (.inl (bolT (decide (0 ≤ z)))) w) := by
  obtain ⟨k, n, f, s, a', c', ks⟩ := t0
  obtain ⟨k1, n1, f1, s1, a1, c1, ks1⟩ := t1
  obtain ⟨b, o, rfl, hbW, v0, v1, v2, v3, v4, -⟩ := argi hin (Below.refl _ _) (i := 0) rfl
  obtain ⟨b2, o2, e, -, u0, u1, u2, u3, u4, -⟩ := argi hin (Below.refl _ _) (i := 1) rfl
  obtain ⟨rfl, rfl⟩ : b = b2 ∧ o = o2 := by simpa using e
  simp only [Nat.zero_mul, Nat.add_zero, Nat.one_mul] at v0 v1 v2 v3 v4 u0 u1 u2 u3 u4
  have HC := hidb hC
  simp only [Tr.val, Tr.cells] at HC
  clear hC
  generalize ks.length = l0 at *
  generalize ks1.length = l1 at *
  obtain ⟨PP, hPP⟩ : ∃ PP, OutS (.inl (bolT (decide (0 ≤ z)))) w = PP := ⟨_, rfl⟩
  have HPP := hidb hPP
  rw [hPP]
  clear hin hPP
  obtain ⟨V3, hV3⟩ : ∃ V3, ((w.alloc (.cells #[.int .i64 0, .int .i64 0, .float .f64 0, .string ⟨#[]⟩, .slice none 0 0] 27)).alloc (.cells #[.int .i64 k, .int .i64 n, .float .f64 f, .string s, .slice a' l0 c'] 27)).alloc (.cells #[.int .i64 k1, .int .i64 n1, .float .f64 f1, .string s1, .slice a1 l1 c1] 27) = V3 := ⟨_, rfl⟩
  have hs1 : (w.alloc (.cells #[.int .i64 0, .int .i64 0, .float .f64 0, .string ⟨#[]⟩, .slice none 0 0] 27)).heap.size = w.heap.size + 1 := by simp
  have hs2 : ((w.alloc (.cells #[.int .i64 0, .int .i64 0, .float .f64 0, .string ⟨#[]⟩, .slice none 0 0] 27)).alloc (.cells #[.int .i64 k, .int .i64 n, .float .f64 f, .string s, .slice a' l0 c'] 27)).heap.size = w.heap.size + 1 + 1 := by simp
  have HX0 : Hid (Box V3 w.heap.size (.int .i64 0) (.int .i64 0) (.float .f64 0) (.string ⟨#[]⟩) (.slice none 0 0)) := hidb (by rw [← hV3]; exact ((Box.new w 27 (.int .i64 0) (.int .i64 0) (.float .f64 0) (.string ⟨#[]⟩) (.slice none 0 0)).keep (below_new _ _)).keep (below_new _ _))
  have HA0 : Hid (Box V3 (w.heap.size + 1) (.int .i64 k) (.int .i64 n) (.float .f64 f) (.string s) (.slice a' l0 c')) := hidb (by
    rw [← hV3, ← hs1]; exact (Box.new _ 27 _ _ _ _ _).keep (below_new _ _))
  have HA1 : Hid (Box V3 (w.heap.size + 1 + 1) (.int .i64 k1) (.int .i64 n1) (.float .f64 f1) (.string s1) (.slice a1 l1 c1)) := hidb (by
    rw [← hV3, ← hs2]; exact Box.new _ 27 _ _ _ _ _)
  have HB0 : Hid (Below w.heap.size w V3) := hidb (by rw [← hV3]; exact ((below_new w _).alloc (by simp) _).alloc (by simp; omega) _)
  have HV3 := hidb hV3
  clear hV3 hs1 hs2
  obtain ⟨D, hD⟩ : ∃ D, decide (0 ≤ z) = D := ⟨_, rfl⟩
  have hD2 : (decide (0 ≤ z)) = D := by rw [← hD]
  rw [hD] at HPP
  clear hD
  obtain ⟨S, hS⟩ : ∃ S, (bolT D).val = .agg #[.int .i64 3, .int .i64 0, .float .f64 0, .string S, .slice none 0 0] := ⟨_, rfl⟩
  have RB := hidb (fun W => rB_any D W)
  rw [hS] at RB
  have HS := hidb hS
  clear hS
  go_enter Tryz.func7, Tryz.ntmps7
  go_wp2_with fail
  rw [HV3.out]
  refine (HC.out _ HB0.out).mono ?_
  rintro e w2 ⟨rfl, hb2⟩
  have HB2 := hidb (HB0.out.trans (hb2.mono HB0.out.size))
  have HX2 := hidb (HX0.out.keep hb2)
  clear hb2 v0 v1 v2 v3 v4 u0 u1 u2 u3 u4
  go_wp2_with fail
  refine (RB.out _).mono ?_
  rintro e w3 ⟨rfl, hb3⟩
  have HB3 := hidb (HB2.out.trans (hb3.mono HB2.out.size))
  have HX3 := hidb (HX2.out.keep hb3)
  clear hb3
  obtain ⟨⟨x0, x1, x2, x3, x4⟩, ⟨y0, y1, y2, y3, y4⟩, xl⟩ := Box.six HX3.out
  go_wp2_with fail
  have bx9 := HX3.out.set (.int .i64 3) (.int .i64 0) (.float .f64 0) (.string S) (.slice none 0 0)
  obtain ⟨⟨k0, k1', k2, k3, k4⟩, -, -⟩ := Box.six bx9
  simp only [set5] at k0 k1' k2 k3 k4
  refine bodyPost_ret (v := .tuple #[(bolT D).val, .int .i64 0]) (by simp [HS.out, results, Tryz.results7, go_sem, k0, k1', k2, k3, k4]) rfl ?_
  rw [← HPP.out]
  exact outB_says D (((((HB3.out.setCell (by simp) _).setCell (by simp) _).setCell (by simp) _).setCell (by simp) _).setCell (by simp) _)
set_option maxHeartbeats 4000000 in
set_option maxRecDepth 100000 in
theorem rop_gt {w : World} {a : Option Addr} {c : Nat} {t0 t1 : Tr} (hin : ArgsIn w a c [t0, t1]) (z : Int) (hC : ∀ W, Below w.heap.size w W → Calls Tryz.prog 21 #[t0.val, t1.val] W fun e w' => e = .returned (.int .i64 z) ∧ Below W.heap.size W w') :
    Calls Tryz.prog 7 #[.string ⟨#[62]⟩, .slice a 2 c] w (OutS (.inl (bolT (decide (0 < z)))) w) := by
  obtain ⟨k, n, f, s, a', c', ks⟩ := t0
  obtain ⟨k1, n1, f1, s1, a1, c1, ks1⟩ := t1
  obtain ⟨b, o, rfl, hbW, v0, v1, v2, v3, v4, -⟩ := argi hin (Below.refl _ _) (i := 0) rfl
  obtain ⟨b2, o2, e, -, u0, u1, u2, u3, u4, -⟩ := argi hin (Below.refl _ _) (i := 1) rfl
  obtain ⟨rfl, rfl⟩ : b = b2 ∧ o = o2 := by simpa using e
  simp only [Nat.zero_mul, Nat.add_zero, Nat.one_mul] at v0 v1 v2 v3 v4 u0 u1 u2 u3 u4
  have HC := hidb hC
  simp only [Tr.val, Tr.cells] at HC
  clear hC
  generalize ks.length = l0 at *
  generalize ks1.length = l1 at *
  obtain ⟨PP, hPP⟩ : ∃ PP, OutS (.inl (bolT (decide (0 < z)))) w = PP := ⟨_, rfl⟩
  have HPP := hidb hPP
  rw [hPP]
  clear hin hPP
  obtain ⟨V3, hV3⟩ : ∃ V3, ((w.alloc (.cells #[.int .i64 0, .int .i64 0, .float .f64 0, .string ⟨#[]⟩, .slice none 0 0] 27)).alloc (.cells #[.int .i64 k, .int .i64 n, .float .f64 f, .string s, .slice a' l0 c'] 27)).alloc (.cells #[.int .i64 k1, .int .i64 n1, .float .f64 f1, .string s1, .slice a1 l1 c1] 27) = V3 := ⟨_, rfl⟩
  have hs1 : (w.alloc (.cells #[.int .i64 0, .int .i64 0, .float .f64 0, .string ⟨#[]⟩, .slice none 0 0] 27)).heap.size = w.heap.size + 1 := by simp
  have hs2 : ((w.alloc (.cells #[.int .i64 0, .int .i64 0, .float .f64 0, .string ⟨#[]⟩, .slice none 0 0] 27)).alloc (.cells #[.int .i64 k, .int .i64 n, .float .f64 f, .string s, .slice a' l0 c'] 27)).heap.size = w.heap.size + 1 + 1 := by simp
  have HX0 : Hid (Box V3 w.heap.size (.int .i64 0) (.int .i64 0) (.float .f64 0) (.string ⟨#[]⟩) (.slice none 0 0)) := hidb (by rw [← hV3]; exact ((Box.new w 27 (.int .i64 0) (.int .i64 0) (.float .f64 0) (.string ⟨#[]⟩) (.slice none 0 0)).keep (below_new _ _)).keep (below_new _ _))
  have HA0 : Hid (Box V3 (w.heap.size + 1) (.int .i64 k) (.int .i64 n) (.float .f64 f) (.string s) (.slice a' l0 c')) := hidb (by
    rw [← hV3, ← hs1]; exact (Box.new _ 27 _ _ _ _ _).keep (below_new _ _))
  have HA1 : Hid (Box V3 (w.heap.size + 1 + 1) (.int .i64 k1) (.int .i64 n1) (.float .f64 f1) (.string s1) (.slice a1 l1 c1)) := hidb (by
    rw [← hV3, ← hs2]; exact Box.new _ 27 _ _ _ _ _)
  have HB0 : Hid (Below w.heap.size w V3) := hidb (by rw [← hV3]; exact ((below_new w _).alloc (by simp) _).alloc (by simp; omega) _)
  have HV3 := hidb hV3
  clear hV3 hs1 hs2
  obtain ⟨D, hD⟩ : ∃ D, decide (0 < z) = D := ⟨_, rfl⟩
  have hD2 : (decide (0 < z)) = D := by rw [← hD]
  rw [hD] at HPP
  clear hD
  obtain ⟨S, hS⟩ : ∃ S, (bolT D).val = .agg #[.int .i64 3, .int .i64 0, .float .f64 0, .string S, .slice none 0 0] := ⟨_, rfl⟩
  have RB := hidb (fun W => rB_any D W)
  rw [hS] at RB
  have HS := hidb hS
  clear hS
  go_enter Tryz.func7, Tryz.ntmps7
  go_wp2_with fail
  rw [HV3.out]
  refine (HC.out _ HB0.out).mono ?_
  rintro e w2 ⟨rfl, hb2⟩
  have HB2 := hidb (HB0.out.trans (hb2.mono HB0.out.size))
  have HX2 := hidb (HX0.out.keep hb2)
  clear hb2 v0 v1 v2 v3 v4 u0 u1 u2 u3 u4
  go_wp2_with fail
  refine (RB.out _).mono ?_
  rintro e w3 ⟨rfl, hb3⟩
  have HB3 := hidb (HB2.out.trans (hb3.mono HB2.out.size))
  have HX3 := hidb (HX2.out.keep hb3)
  clear hb3
  obtain ⟨⟨x0, x1, x2, x3, x4⟩, ⟨y0, y1, y2, y3, y4⟩, xl⟩ := Box.six HX3.out
  go_wp2_with fail
  have bx9 := HX3.out.set (.int .i64 3) (.int .i64 0) (.float .f64 0) (.string S) (.slice none 0 0)
  obtain ⟨⟨k0, k1', k2, k3, k4⟩, -, -⟩ := Box.six bx9
  simp only [set5] at k0 k1' k2 k3 k4
  refine bodyPost_ret (v := .tuple #[(bolT D).val, .int .i64 0]) (by simp [HS.out, results, Tryz.results7, go_sem, k0, k1', k2, k3, k4]) rfl ?_
  rw [← HPP.out]
  exact outB_says D (((((HB3.out.setCell (by simp) _).setCell (by simp) _).setCell (by simp) _).setCell (by simp) _).setCell (by simp) _)
set_option maxHeartbeats 4000000 in
set_option maxRecDepth 100000 in
theorem rop_id {w : World} {a : Option Addr} {c : Nat} {t0 t1 : Tr} (hin : ArgsIn w a c [t0, t1]) (z : Bool) (hC : ∀ W, Below w.heap.size w W → Calls Tryz.prog 22 #[t0.val, t1.val] W fun e w' => e = .returned (.bool z) ∧ Below W.heap.size W w') :
    Calls Tryz.prog 7 #[.string ⟨#[61, 58, 61]⟩, .slice a 2 c] w (OutS (.inl (bolT (z))) w) := by
  obtain ⟨k, n, f, s, a', c', ks⟩ := t0
  obtain ⟨k1, n1, f1, s1, a1, c1, ks1⟩ := t1
  obtain ⟨b, o, rfl, hbW, v0, v1, v2, v3, v4, -⟩ := argi hin (Below.refl _ _) (i := 0) rfl
  obtain ⟨b2, o2, e, -, u0, u1, u2, u3, u4, -⟩ := argi hin (Below.refl _ _) (i := 1) rfl
  obtain ⟨rfl, rfl⟩ : b = b2 ∧ o = o2 := by simpa using e
  simp only [Nat.zero_mul, Nat.add_zero, Nat.one_mul] at v0 v1 v2 v3 v4 u0 u1 u2 u3 u4
  have HC := hidb hC
  simp only [Tr.val, Tr.cells] at HC
  clear hC
  generalize ks.length = l0 at *
  generalize ks1.length = l1 at *
  obtain ⟨PP, hPP⟩ : ∃ PP, OutS (.inl (bolT (z))) w = PP := ⟨_, rfl⟩
  have HPP := hidb hPP
  rw [hPP]
  clear hin hPP
  obtain ⟨V3, hV3⟩ : ∃ V3, ((w.alloc (.cells #[.int .i64 0, .int .i64 0, .float .f64 0, .string ⟨#[]⟩, .slice none 0 0] 27)).alloc (.cells #[.int .i64 k, .int .i64 n, .float .f64 f, .string s, .slice a' l0 c'] 27)).alloc (.cells #[.int .i64 k1, .int .i64 n1, .float .f64 f1, .string s1, .slice a1 l1 c1] 27) = V3 := ⟨_, rfl⟩
  have hs1 : (w.alloc (.cells #[.int .i64 0, .int .i64 0, .float .f64 0, .string ⟨#[]⟩, .slice none 0 0] 27)).heap.size = w.heap.size + 1 := by simp
  have hs2 : ((w.alloc (.cells #[.int .i64 0, .int .i64 0, .float .f64 0, .string ⟨#[]⟩, .slice none 0 0] 27)).alloc (.cells #[.int .i64 k, .int .i64 n, .float .f64 f, .string s, .slice a' l0 c'] 27)).heap.size = w.heap.size + 1 + 1 := by simp
  have HX0 : Hid (Box V3 w.heap.size (.int .i64 0) (.int .i64 0) (.float .f64 0) (.string ⟨#[]⟩) (.slice none 0 0)) := hidb (by rw [← hV3]; exact ((Box.new w 27 (.int .i64 0) (.int .i64 0) (.float .f64 0) (.string ⟨#[]⟩) (.slice none 0 0)).keep (below_new _ _)).keep (below_new _ _))
  have HA0 : Hid (Box V3 (w.heap.size + 1) (.int .i64 k) (.int .i64 n) (.float .f64 f) (.string s) (.slice a' l0 c')) := hidb (by
    rw [← hV3, ← hs1]; exact (Box.new _ 27 _ _ _ _ _).keep (below_new _ _))
  have HA1 : Hid (Box V3 (w.heap.size + 1 + 1) (.int .i64 k1) (.int .i64 n1) (.float .f64 f1) (.string s1) (.slice a1 l1 c1)) := hidb (by
    rw [← hV3, ← hs2]; exact Box.new _ 27 _ _ _ _ _)
  have HB0 : Hid (Below w.heap.size w V3) := hidb (by rw [← hV3]; exact ((below_new w _).alloc (by simp) _).alloc (by simp; omega) _)
  have HV3 := hidb hV3
  clear hV3 hs1 hs2
  obtain ⟨D, hD⟩ : ∃ D, z = D := ⟨_, rfl⟩
  have hD2 : (z) = D := by rw [← hD]
  rw [hD] at HPP
  clear hD
  obtain ⟨S, hS⟩ : ∃ S, (bolT D).val = .agg #[.int .i64 3, .int .i64 0, .float .f64 0, .string S, .slice none 0 0] := ⟨_, rfl⟩
  have RB := hidb (fun W => rB_any D W)
  rw [hS] at RB
  have HS := hidb hS
  clear hS
  go_enter Tryz.func7, Tryz.ntmps7
  go_wp2_with fail
  rw [HV3.out]
  refine (HC.out _ HB0.out).mono ?_
  rintro e w2 ⟨rfl, hb2⟩
  have HB2 := hidb (HB0.out.trans (hb2.mono HB0.out.size))
  have HX2 := hidb (HX0.out.keep hb2)
  clear hb2 v0 v1 v2 v3 v4 u0 u1 u2 u3 u4
  go_wp2_with fail
  refine (RB.out _).mono ?_
  rintro e w3 ⟨rfl, hb3⟩
  have HB3 := hidb (HB2.out.trans (hb3.mono HB2.out.size))
  have HX3 := hidb (HX2.out.keep hb3)
  clear hb3
  obtain ⟨⟨x0, x1, x2, x3, x4⟩, ⟨y0, y1, y2, y3, y4⟩, xl⟩ := Box.six HX3.out
  go_wp2_with fail
  have bx9 := HX3.out.set (.int .i64 3) (.int .i64 0) (.float .f64 0) (.string S) (.slice none 0 0)
  obtain ⟨⟨k0, k1', k2, k3, k4⟩, -, -⟩ := Box.six bx9
  simp only [set5] at k0 k1' k2 k3 k4
  refine bodyPost_ret (v := .tuple #[(bolT D).val, .int .i64 0]) (by simp [HS.out, results, Tryz.results7, go_sem, k0, k1', k2, k3, k4]) rfl ?_
  rw [← HPP.out]
  exact outB_says D (((((HB3.out.setCell (by simp) _).setCell (by simp) _).setCell (by simp) _).setCell (by simp) _).setCell (by simp) _)
set_option maxHeartbeats 4000000 in
set_option maxRecDepth 100000 in
theorem rop_di {w : World} {a : Option Addr} {c : Nat} {t0 t1 : Tr} (hin : ArgsIn w a c [t0, t1]) (z : Bool) (hC : ∀ W, Below w.heap.size w W → Calls Tryz.prog 22 #[t0.val, t1.val] W fun e w' => e = .returned (.bool z) ∧ Below W.heap.size W w') :
    Calls Tryz.prog 7 #[.string ⟨#[61, 47, 61]⟩, .slice a 2 c] w (OutS (.inl (bolT ((!z)))) w) := by
  obtain ⟨k, n, f, s, a', c', ks⟩ := t0
  obtain ⟨k1, n1, f1, s1, a1, c1, ks1⟩ := t1
  obtain ⟨b, o, rfl, hbW, v0, v1, v2, v3, v4, -⟩ := argi hin (Below.refl _ _) (i := 0) rfl
  obtain ⟨b2, o2, e, -, u0, u1, u2, u3, u4, -⟩ := argi hin (Below.refl _ _) (i := 1) rfl
  obtain ⟨rfl, rfl⟩ : b = b2 ∧ o = o2 := by simpa using e
  simp only [Nat.zero_mul, Nat.add_zero, Nat.one_mul] at v0 v1 v2 v3 v4 u0 u1 u2 u3 u4
  have HC := hidb hC
  simp only [Tr.val, Tr.cells] at HC
  clear hC
  generalize ks.length = l0 at *
  generalize ks1.length = l1 at *
  obtain ⟨PP, hPP⟩ : ∃ PP, OutS (.inl (bolT ((!z)))) w = PP := ⟨_, rfl⟩
  have HPP := hidb hPP
  rw [hPP]
  clear hin hPP
  obtain ⟨V3, hV3⟩ : ∃ V3, ((w.alloc (.cells #[.int .i64 0, .int .i64 0, .float .f64 0, .string ⟨#[]⟩, .slice none 0 0] 27)).alloc (.cells #[.int .i64 k, .int .i64 n, .float .f64 f, .string s, .slice a' l0 c'] 27)).alloc (.cells #[.int .i64 k1, .int .i64 n1, .float .f64 f1, .string s1, .slice a1 l1 c1] 27) = V3 := ⟨_, rfl⟩
  have hs1 : (w.alloc (.cells #[.int .i64 0, .int .i64 0, .float .f64 0, .string ⟨#[]⟩, .slice none 0 0] 27)).heap.size = w.heap.size + 1 := by simp
  have hs2 : ((w.alloc (.cells #[.int .i64 0, .int .i64 0, .float .f64 0, .string ⟨#[]⟩, .slice none 0 0] 27)).alloc (.cells #[.int .i64 k, .int .i64 n, .float .f64 f, .string s, .slice a' l0 c'] 27)).heap.size = w.heap.size + 1 + 1 := by simp
  have HX0 : Hid (Box V3 w.heap.size (.int .i64 0) (.int .i64 0) (.float .f64 0) (.string ⟨#[]⟩) (.slice none 0 0)) := hidb (by rw [← hV3]; exact ((Box.new w 27 (.int .i64 0) (.int .i64 0) (.float .f64 0) (.string ⟨#[]⟩) (.slice none 0 0)).keep (below_new _ _)).keep (below_new _ _))
  have HA0 : Hid (Box V3 (w.heap.size + 1) (.int .i64 k) (.int .i64 n) (.float .f64 f) (.string s) (.slice a' l0 c')) := hidb (by
    rw [← hV3, ← hs1]; exact (Box.new _ 27 _ _ _ _ _).keep (below_new _ _))
  have HA1 : Hid (Box V3 (w.heap.size + 1 + 1) (.int .i64 k1) (.int .i64 n1) (.float .f64 f1) (.string s1) (.slice a1 l1 c1)) := hidb (by
    rw [← hV3, ← hs2]; exact Box.new _ 27 _ _ _ _ _)
  have HB0 : Hid (Below w.heap.size w V3) := hidb (by rw [← hV3]; exact ((below_new w _).alloc (by simp) _).alloc (by simp; omega) _)
  have HV3 := hidb hV3
  clear hV3 hs1 hs2
  obtain ⟨D, hD⟩ : ∃ D, (!z) = D := ⟨_, rfl⟩
  have hD2 : ((!z)) = D := by rw [← hD]
  rw [hD] at HPP
  clear hD
  obtain ⟨S, hS⟩ : ∃ S, (bolT D).val = .agg #[.int .i64 3, .int .i64 0, .float .f64 0, .string S, .slice none 0 0] := ⟨_, rfl⟩
  have RB := hidb (fun W => rB_any D W)
  rw [hS] at RB
  have HS := hidb hS
  clear hS
  go_enter Tryz.func7, Tryz.ntmps7
  go_wp2_with fail
  rw [HV3.out]
  refine (HC.out _ HB0.out).mono ?_
  rintro e w2 ⟨rfl, hb2⟩
  have HB2 := hidb (HB0.out.trans (hb2.mono HB0.out.size))
  have HX2 := hidb (HX0.out.keep hb2)
  clear hb2 v0 v1 v2 v3 v4 u0 u1 u2 u3 u4
  go_wp2_with fail
  refine (RB.out _).mono ?_
  rintro e w3 ⟨rfl, hb3⟩
  have HB3 := hidb (HB2.out.trans (hb3.mono HB2.out.size))
  have HX3 := hidb (HX2.out.keep hb3)
  clear hb3
  obtain ⟨⟨x0, x1, x2, x3, x4⟩, ⟨y0, y1, y2, y3, y4⟩, xl⟩ := Box.six HX3.out
  go_wp2_with fail
  have bx9 := HX3.out.set (.int .i64 3) (.int .i64 0) (.float .f64 0) (.string S) (.slice none 0 0)
  obtain ⟨⟨k0, k1', k2, k3, k4⟩, -, -⟩ := Box.six bx9
  simp only [set5] at k0 k1' k2 k3 k4
  refine bodyPost_ret (v := .tuple #[(bolT D).val, .int .i64 0]) (by simp [HS.out, results, Tryz.results7, go_sem, k0, k1', k2, k3, k4]) rfl ?_
  rw [← HPP.out]
  exact outB_says D (((((HB3.out.setCell (by simp) _).setCell (by simp) _).setCell (by simp) _).setCell (by simp) _).setCell (by simp) _)
end Go.Proofs.YtgljglindgbjaaaGreatDoor


/- The document's Op: not, and what is none. -/
namespace Go.Proofs.YtgljglindgbjaaaGreatDoor
open Go.RowKit Go.Lib Go.Deep
attribute [local go_sem] store_float f64bits
attribute [local go_sem ↓] Go.wp_at_zero Go.wp_at_succ

set_option maxHeartbeats 4000000 in
set_option maxRecDepth 100000 in
theorem rop_not {w : World} {a : Option Addr} {c : Nat} {k n : Int} {f : Nat} {s : ByteArray} {a' : Option Addr} {c' : Nat} {ks : List Tr} (hin : ArgsIn w a c [.mk k n f s a' c' ks]) :
    Calls Tryz.prog 7 #[.string ⟨#[110, 111, 116]⟩, .slice a 1 c] w (OutS (if isBol (.mk k n f s a' c' ks) = true then .inl (bolT (decide (s = falseS))) else .inr 13) w) := by
  have IB := hidb (fun W => rIsBool_any (.mk k n f s a' c' ks) W)
  obtain ⟨IBV, hIBV⟩ : ∃ x, isBol (.mk k n f s a' c' ks) = x := ⟨_, rfl⟩
  rw [hIBV] at IB ⊢
  clear hIBV
  obtain ⟨b, o, rfl, hbW, v0, v1, v2, v3, v4, -⟩ := argi hin (Below.refl _ _) (i := 0) rfl
  simp only [Nat.zero_mul, Nat.add_zero] at v0 v1 v2 v3 v4
  simp only [Tr.val, Tr.cells] at IB
  generalize ks.length = l0 at *
  obtain ⟨PP, hPP⟩ : ∃ PP, OutS (if IBV = true then .inl (bolT (decide (s = falseS))) else .inr 13) w = PP := ⟨_, rfl⟩
  have HPP := hidb hPP
  rw [hPP]
  clear hin hPP
  have HX0 := hidb (Box.new w 27 (.int .i64 0) (.int .i64 0) (.float .f64 0) (.string ⟨#[]⟩) (.slice none 0 0))
  have HB0 := hidb (below_new w (.cells #[.int .i64 0, .int .i64 0, .float .f64 0, .string ⟨#[]⟩, .slice none 0 0] 27))
  cases IBV
  · go_enter Tryz.func7, Tryz.ntmps7
    go_wp2_with fail
    refine (IB.out _).mono ?_
    rintro e w2 ⟨rfl, hb2⟩
    have HB2 := hidb (HB0.out.trans (hb2.mono HB0.out.size))
    have HX2 := hidb (HX0.out.keep hb2)
    clear hb2 v0 v1 v2 v3 v4
    go_wp2_with fail
    refine (rbad_any _ _).mono ?_
    rintro e w3 ⟨rfl, hb3⟩
    have HB3 := hidb (HB2.out.trans (hb3.mono HB2.out.size))
    have HX3 := hidb (HX2.out.keep hb3)
    clear hb3
    obtain ⟨⟨x0, x1, x2, x3, x4⟩, ⟨y0, y1, y2, y3, y4⟩, xl⟩ := Box.six HX3.out
    go_wp2_with fail
    have bx9 := HX3.out.set (.int .i64 0) (.int .i64 0) (.float .f64 0) (.string ⟨#[]⟩) (.slice none 0 0)
    obtain ⟨⟨k0, k1', k2, k3, k4⟩, -, -⟩ := Box.six bx9
    simp only [set5] at k0 k1' k2 k3 k4
    refine bodyPost_ret (v := .tuple #[zterm, .int .i64 13]) (by simp [results, Tryz.results7, go_sem, k0, k1', k2, k3, k4]) rfl ?_
    rw [← HPP.out]
    exact outE_says 13 (((((HB3.out.setCell (by simp) _).setCell (by simp) _).setCell (by simp) _).setCell (by simp) _).setCell (by simp) _)
  · have hbw := hbW
    obtain ⟨D, hD⟩ : ∃ D, decide (s = falseS) = D := ⟨_, rfl⟩
    have hD2 : (s.toList == [102, 97, 108, 115, 101]) = D := by
      rw [← hD]
      by_cases h : s = falseS
      · subst h; simp [ByteArray.toList_eq]
      · rw [(lit_ne (t := falseS) rfl h).1]; simp [h]
    rw [hD] at HPP
    clear hD
    obtain ⟨S, hS⟩ : ∃ S, (bolT D).val = .agg #[.int .i64 3, .int .i64 0, .float .f64 0, .string S, .slice none 0 0] := ⟨_, rfl⟩
    have RB := hidb (fun W => rB_any D W)
    rw [hS] at RB
    have HS := hidb hS
    clear hS
    go_enter Tryz.func7, Tryz.ntmps7
    go_wp2_with fail
    refine (IB.out _).mono ?_
    rintro e w2 ⟨rfl, hb2⟩
    have HB2 := hidb (HB0.out.trans (hb2.mono HB0.out.size))
    have HX2 := hidb (HX0.out.keep hb2)
    have z3 := (HB2.out.cell hbw).trans v3
    clear hb2 v0 v1 v2 v3 v4
    go_wp2_with fail
    refine (RB.out _).mono ?_
    rintro e w3 ⟨rfl, hb3⟩
    have HB3 := hidb (HB2.out.trans (hb3.mono HB2.out.size))
    have HX3 := hidb (HX2.out.keep hb3)
    clear hb3
    obtain ⟨⟨x0, x1, x2, x3, x4⟩, ⟨y0, y1, y2, y3, y4⟩, xl⟩ := Box.six HX3.out
    go_wp2_with fail
    have bx9 := HX3.out.set (.int .i64 3) (.int .i64 0) (.float .f64 0) (.string S) (.slice none 0 0)
    obtain ⟨⟨k0, k1', k2, k3, k4⟩, -, -⟩ := Box.six bx9
    simp only [set5] at k0 k1' k2 k3 k4
    refine bodyPost_ret (v := .tuple #[(bolT D).val, .int .i64 0]) (by simp [HS.out, results, Tryz.results7, go_sem, k0, k1', k2, k3, k4]) rfl ?_
    rw [← HPP.out]
    exact outB_says D (((((HB3.out.setCell (by simp) _).setCell (by simp) _).setCell (by simp) _).setCell (by simp) _).setCell (by simp) _)
/-- Whether an operator is one, by its sign. -/
def oneS (g : ByteArray) : Prop := g = ⟨#[45]⟩ ∨ g = ⟨#[110, 111, 116]⟩
def twoS (g : ByteArray) : Prop := g = ⟨#[43]⟩ ∨ g = ⟨#[45]⟩ ∨ g = ⟨#[42]⟩ ∨ g = ⟨#[47]⟩ ∨ g = ⟨#[100, 105, 118]⟩ ∨ g = ⟨#[114, 101, 109]⟩ ∨ g = ⟨#[61, 61]⟩ ∨ g = ⟨#[47, 61]⟩ ∨ g = ⟨#[61, 60]⟩ ∨ g = ⟨#[60]⟩ ∨ g = ⟨#[62, 61]⟩ ∨ g = ⟨#[62]⟩ ∨ g = ⟨#[61, 58, 61]⟩ ∨ g = ⟨#[61, 47, 61]⟩ ∨ g = ⟨#[43, 43]⟩
set_option maxHeartbeats 4000000 in
set_option maxRecDepth 100000 in
theorem rop_none1 {w : World} {a : Option Addr} {c : Nat} {sg : ByteArray} (h : ¬ oneS sg) : Calls Tryz.prog 7 #[.string sg, .slice a 1 c] w (OutS (.inr 5) w) := by
  obtain ⟨g0, g0'⟩ := lit_ne (s := sg) (t := ⟨#[45]⟩) rfl (fun e => h (by unfold oneS; simp [e]))
  obtain ⟨g1, g1'⟩ := lit_ne (s := sg) (t := ⟨#[110, 111, 116]⟩) rfl (fun e => h (by unfold oneS; simp [e]))
  obtain ⟨PP, hPP⟩ : ∃ PP, OutS (.inr 5) w = PP := ⟨_, rfl⟩
  have HPP := hidb hPP
  rw [hPP]
  clear h hPP
  have HX0 := hidb (Box.new w 27 (.int .i64 0) (.int .i64 0) (.float .f64 0) (.string ⟨#[]⟩) (.slice none 0 0))
  have HB0 := hidb (below_new w (.cells #[.int .i64 0, .int .i64 0, .float .f64 0, .string ⟨#[]⟩, .slice none 0 0] 27))
  go_enter Tryz.func7, Tryz.ntmps7
  go_wp2_with fail
  refine (rbad_any _ _).mono ?_
  rintro e w3 ⟨rfl, hb3⟩
  have HB3 := hidb (HB0.out.trans (hb3.mono HB0.out.size))
  have HX3 := hidb (HX0.out.keep hb3)
  clear hb3
  obtain ⟨⟨x0, x1, x2, x3, x4⟩, ⟨y0, y1, y2, y3, y4⟩, xl⟩ := Box.six HX3.out
  go_wp2_with fail
  have bx9 := HX3.out.set (.int .i64 0) (.int .i64 0) (.float .f64 0) (.string ⟨#[]⟩) (.slice none 0 0)
  obtain ⟨⟨k0, k1', k2, k3, k4⟩, -, -⟩ := Box.six bx9
  simp only [set5] at k0 k1' k2 k3 k4
  refine bodyPost_ret (v := .tuple #[zterm, .int .i64 5]) (by simp [results, Tryz.results7, go_sem, k0, k1', k2, k3, k4]) rfl ?_
  rw [← HPP.out]
  exact outE_says 5 (((((HB3.out.setCell (by simp) _).setCell (by simp) _).setCell (by simp) _).setCell (by simp) _).setCell (by simp) _)
set_option maxHeartbeats 4000000 in
set_option maxRecDepth 100000 in
theorem rop_none {w : World} {a : Option Addr} {c N : Nat} {sg : ByteArray} (h1 : N ≠ 1) (h2 : N ≠ 2) : Calls Tryz.prog 7 #[.string sg, .slice a N c] w (OutS (.inr 5) w) := by
  have e1 : ((N : Int) == 1) = false := by simp; omega
  have e2 : ((N : Int) == 2) = false := by simp; omega
  have e3 : ((N : Int) != 2) = true := by simp; omega
  obtain ⟨PP, hPP⟩ : ∃ PP, OutS (.inr 5) w = PP := ⟨_, rfl⟩
  have HPP := hidb hPP
  rw [hPP]
  clear h1 h2 hPP
  have HX0 := hidb (Box.new w 27 (.int .i64 0) (.int .i64 0) (.float .f64 0) (.string ⟨#[]⟩) (.slice none 0 0))
  have HB0 := hidb (below_new w (.cells #[.int .i64 0, .int .i64 0, .float .f64 0, .string ⟨#[]⟩, .slice none 0 0] 27))
  go_enter Tryz.func7, Tryz.ntmps7
  go_wp2_with fail
  refine (rbad_any _ _).mono ?_
  rintro e w3 ⟨rfl, hb3⟩
  have HB3 := hidb (HB0.out.trans (hb3.mono HB0.out.size))
  have HX3 := hidb (HX0.out.keep hb3)
  clear hb3
  obtain ⟨⟨x0, x1, x2, x3, x4⟩, ⟨y0, y1, y2, y3, y4⟩, xl⟩ := Box.six HX3.out
  go_wp2_with fail
  have bx9 := HX3.out.set (.int .i64 0) (.int .i64 0) (.float .f64 0) (.string ⟨#[]⟩) (.slice none 0 0)
  obtain ⟨⟨k0, k1', k2, k3, k4⟩, -, -⟩ := Box.six bx9
  simp only [set5] at k0 k1' k2 k3 k4
  refine bodyPost_ret (v := .tuple #[zterm, .int .i64 5]) (by simp [results, Tryz.results7, go_sem, k0, k1', k2, k3, k4]) rfl ?_
  rw [← HPP.out]
  exact outE_says 5 (((((HB3.out.setCell (by simp) _).setCell (by simp) _).setCell (by simp) _).setCell (by simp) _).setCell (by simp) _)
set_option maxHeartbeats 4000000 in
set_option maxRecDepth 100000 in
theorem rop_none2 {w : World} {a : Option Addr} {c : Nat} {t0 t1 : Tr} (hin : ArgsIn w a c [t0, t1]) {sg : ByteArray} (h : ¬ twoS sg) : Calls Tryz.prog 7 #[.string sg, .slice a 2 c] w (OutS (.inr 5) w) := by
  obtain ⟨g0, g0'⟩ := lit_ne (s := sg) (t := ⟨#[43]⟩) rfl (fun e => h (by unfold twoS; simp [e]))
  obtain ⟨g1, g1'⟩ := lit_ne (s := sg) (t := ⟨#[45]⟩) rfl (fun e => h (by unfold twoS; simp [e]))
  obtain ⟨g2, g2'⟩ := lit_ne (s := sg) (t := ⟨#[42]⟩) rfl (fun e => h (by unfold twoS; simp [e]))
  obtain ⟨g3, g3'⟩ := lit_ne (s := sg) (t := ⟨#[47]⟩) rfl (fun e => h (by unfold twoS; simp [e]))
  obtain ⟨g4, g4'⟩ := lit_ne (s := sg) (t := ⟨#[100, 105, 118]⟩) rfl (fun e => h (by unfold twoS; simp [e]))
  obtain ⟨g5, g5'⟩ := lit_ne (s := sg) (t := ⟨#[114, 101, 109]⟩) rfl (fun e => h (by unfold twoS; simp [e]))
  obtain ⟨g6, g6'⟩ := lit_ne (s := sg) (t := ⟨#[61, 61]⟩) rfl (fun e => h (by unfold twoS; simp [e]))
  obtain ⟨g7, g7'⟩ := lit_ne (s := sg) (t := ⟨#[47, 61]⟩) rfl (fun e => h (by unfold twoS; simp [e]))
  obtain ⟨g8, g8'⟩ := lit_ne (s := sg) (t := ⟨#[61, 60]⟩) rfl (fun e => h (by unfold twoS; simp [e]))
  obtain ⟨g9, g9'⟩ := lit_ne (s := sg) (t := ⟨#[60]⟩) rfl (fun e => h (by unfold twoS; simp [e]))
  obtain ⟨g10, g10'⟩ := lit_ne (s := sg) (t := ⟨#[62, 61]⟩) rfl (fun e => h (by unfold twoS; simp [e]))
  obtain ⟨g11, g11'⟩ := lit_ne (s := sg) (t := ⟨#[62]⟩) rfl (fun e => h (by unfold twoS; simp [e]))
  obtain ⟨g12, g12'⟩ := lit_ne (s := sg) (t := ⟨#[61, 58, 61]⟩) rfl (fun e => h (by unfold twoS; simp [e]))
  obtain ⟨g13, g13'⟩ := lit_ne (s := sg) (t := ⟨#[61, 47, 61]⟩) rfl (fun e => h (by unfold twoS; simp [e]))
  obtain ⟨g14, g14'⟩ := lit_ne (s := sg) (t := ⟨#[43, 43]⟩) rfl (fun e => h (by unfold twoS; simp [e]))
  clear h
  obtain ⟨k, n, f, s, a', c', ks⟩ := t0
  obtain ⟨k1, n1, f1, s1, a1, c1, ks1⟩ := t1
  obtain ⟨b, o, rfl, hbW, v0, v1, v2, v3, v4, -⟩ := argi hin (Below.refl _ _) (i := 0) rfl
  obtain ⟨b2, o2, e, -, u0, u1, u2, u3, u4, -⟩ := argi hin (Below.refl _ _) (i := 1) rfl
  obtain ⟨rfl, rfl⟩ : b = b2 ∧ o = o2 := by simpa using e
  simp only [Nat.zero_mul, Nat.add_zero, Nat.one_mul] at v0 v1 v2 v3 v4 u0 u1 u2 u3 u4
  generalize ks.length = l0 at *
  generalize ks1.length = l1 at *
  obtain ⟨PP, hPP⟩ : ∃ PP, OutS (.inr 5) w = PP := ⟨_, rfl⟩
  have HPP := hidb hPP
  rw [hPP]
  clear hin hPP
  obtain ⟨V3, hV3⟩ : ∃ V3, ((w.alloc (.cells #[.int .i64 0, .int .i64 0, .float .f64 0, .string ⟨#[]⟩, .slice none 0 0] 27)).alloc (.cells #[.int .i64 k, .int .i64 n, .float .f64 f, .string s, .slice a' l0 c'] 27)).alloc (.cells #[.int .i64 k1, .int .i64 n1, .float .f64 f1, .string s1, .slice a1 l1 c1] 27) = V3 := ⟨_, rfl⟩
  have hs1 : (w.alloc (.cells #[.int .i64 0, .int .i64 0, .float .f64 0, .string ⟨#[]⟩, .slice none 0 0] 27)).heap.size = w.heap.size + 1 := by simp
  have hs2 : ((w.alloc (.cells #[.int .i64 0, .int .i64 0, .float .f64 0, .string ⟨#[]⟩, .slice none 0 0] 27)).alloc (.cells #[.int .i64 k, .int .i64 n, .float .f64 f, .string s, .slice a' l0 c'] 27)).heap.size = w.heap.size + 1 + 1 := by simp
  have HX0 : Hid (Box V3 w.heap.size (.int .i64 0) (.int .i64 0) (.float .f64 0) (.string ⟨#[]⟩) (.slice none 0 0)) := hidb (by rw [← hV3]; exact ((Box.new w 27 (.int .i64 0) (.int .i64 0) (.float .f64 0) (.string ⟨#[]⟩) (.slice none 0 0)).keep (below_new _ _)).keep (below_new _ _))
  have HA0 : Hid (Box V3 (w.heap.size + 1) (.int .i64 k) (.int .i64 n) (.float .f64 f) (.string s) (.slice a' l0 c')) := hidb (by
    rw [← hV3, ← hs1]; exact (Box.new _ 27 _ _ _ _ _).keep (below_new _ _))
  have HA1 : Hid (Box V3 (w.heap.size + 1 + 1) (.int .i64 k1) (.int .i64 n1) (.float .f64 f1) (.string s1) (.slice a1 l1 c1)) := hidb (by
    rw [← hV3, ← hs2]; exact Box.new _ 27 _ _ _ _ _)
  have HB0 : Hid (Below w.heap.size w V3) := hidb (by rw [← hV3]; exact ((below_new w _).alloc (by simp) _).alloc (by simp; omega) _)
  have HV3 := hidb hV3
  clear hV3 hs1 hs2
  go_enter Tryz.func7, Tryz.ntmps7
  go_wp2_with fail
  rw [HV3.out]
  refine (rbad_any _ _).mono ?_
  rintro e w3 ⟨rfl, hb3⟩
  have HB3 := hidb (HB0.out.trans (hb3.mono HB0.out.size))
  have HX3 := hidb (HX0.out.keep hb3)
  clear hb3
  obtain ⟨⟨x0, x1, x2, x3, x4⟩, ⟨y0, y1, y2, y3, y4⟩, xl⟩ := Box.six HX3.out
  go_wp2_with fail
  have bx9 := HX3.out.set (.int .i64 0) (.int .i64 0) (.float .f64 0) (.string ⟨#[]⟩) (.slice none 0 0)
  obtain ⟨⟨k0, k1', k2, k3, k4⟩, -, -⟩ := Box.six bx9
  simp only [set5] at k0 k1' k2 k3 k4
  refine bodyPost_ret (v := .tuple #[zterm, .int .i64 5]) (by simp [results, Tryz.results7, go_sem, k0, k1', k2, k3, k4]) rfl ?_
  rw [← HPP.out]
  exact outE_says 5 (((((HB3.out.setCell (by simp) _).setCell (by simp) _).setCell (by simp) _).setCell (by simp) _).setCell (by simp) _)
end Go.Proofs.YtgljglindgbjaaaGreatDoor


/- Grow at terms. -/
namespace Go.Proofs.YtgljglindgbjaaaGreatDoor
open Go.RowKit Go.Deep
attribute [local go_sem] store_float f64bits f64frombits
attribute [local go_sem ↓] Go.wp_at_zero Go.wp_at_succ

theorem infoTg : (Tryz.prog.info? 27).map (fun i => (i.zero, i.size, i.bytes)) = some (some (.agg #[.int .i64 (0), .int .i64 (0), .float .f64 (0), .string ⟨#[]⟩, .slice none 0 0]), 5, 64) := by kernel_rfl

def zT : Array Value := #[.int .i64 0, .int .i64 0, .float .f64 0, .string ⟨#[]⟩, .slice none 0 0]

set_option maxHeartbeats 2000000 in
set_option maxRecDepth 100000 in
theorem tgrow_room (base : Option Addr) (l c n : Nat) (w : World) (hlc : l ≤ c) (hc63 : c ≤ 9223372036854775807) (hn : n ≤ 65536) (hroom : l + n ≤ c) :
    Calls Tryz.prog 150 #[.slice base l c, .int .i64 n] w fun e w' => e = .returned (.slice base l c) ∧ w' = w := by
  have h1 : ¬ ((n : Int) < 0) := by omega
  have h4 : ¬ ((n : Int) - ((c : Int) - (l : Int)) > 0) := by omega
  go_enter Tryz.func150, Tryz.ntmps150
  go_wp2
  go_ret
  exact ⟨rfl, rfl⟩

set_option maxHeartbeats 4000000 in
set_option maxRecDepth 100000 in
theorem tgrow_grow (base : Option Addr) (l c n : Nat) (cs : List Value) (w : World) (hlc : l ≤ c) (hn : n ≤ 65536) (hl : l ≤ 16777216) (hroom : c < l + n) (hcl : cs.length = c * 5) (hnil : base = none → c = 0) (hcs : ∀ a, base = some a → ∀ j v, cs[j]? = some v → w.cell? (a.add j) = some v) :
    Calls Tryz.prog 150 #[.slice base l c, .int .i64 n] w fun e w' => ∃ G, l + n ≤ G ∧ G ≤ maxLen ∧ e = .returned (.slice (some ⟨w.heap.size, 0, none⟩) l G) ∧
      w' = w.drew.alloc (.cells (cs.toArray ++ Builtin.zeroCells zT (l + n - c) ++ Builtin.zeroCells zT (G - (l + n))) 27) := by
  obtain ⟨i0, hi0, hz0, hs0, hb0⟩ : ∃ i0, Tryz.prog.info? 27 = some i0 ∧ i0.zero = some (.agg #[.int .i64 (0), .int .i64 (0), .float .f64 (0), .string ⟨#[]⟩, .slice none 0 0]) ∧ i0.size = 5 ∧ i0.bytes = 64 := by
    cases h : Tryz.prog.info? 27 with
    | none => have := infoTg; rw [h] at this; simp at this
    | some i => have := infoTg; rw [h] at this; simp at this; exact ⟨i, rfl, this⟩
  have hck : c + (l + n - c) = l + n := by omega
  have hold : (Builtin.firstCells i0.size c (.slice base c c)).run Tryz.prog w.drew = .ok cs.toArray w.drew := by
    cases base with
    | none =>
      have h0 := hnil rfl
      subst h0
      have hc0 : cs = [] := List.length_eq_zero_iff.1 (by simpa using hcl)
      rw [hc0]
      exact run_firstCells_none w.drew i0.size 0 0 0
    | some a => exact run_firstCells_some w.drew i0.size c a c c cs (by rw [hs0]; exact hcl) (fun j v hj => hcs a rfl j v hj)
  have hrz : ∀ ty, (Builtin.append_ #[22, 3] ty #[.slice base c c, .int .i64 ((n : Int) - ((c : Int) - (l : Int)))]).run Tryz.prog w =
      .ok (.slice (some ⟨w.heap.size, 0, none⟩) (l + n) (grownCap w (l + n) c 27)) (w.drew.alloc (.cells (cs.toArray ++ Builtin.zeroCells zT (l + n - c) ++ Builtin.zeroCells zT (grownCap w (l + n) c 27 - (l + n))) 27)) := fun ty => by
    have h := Lib.run_append_grow_zeros w 22 3 ty 27 i0 (.agg #[.int .i64 (0), .int .i64 (0), .float .f64 (0), .string ⟨#[]⟩, .slice none 0 0]) .i64 .i64 Tryz.underlying22 Tryz.underlying3 hi0 hz0 base c c cs hold (l + n - c) (by omega) (by omega) (by omega) (by omega)
      (by rw [hb0]; omega) (by rw [hck, hb0]; exact growslice_fits hroom (by omega))
    rw [hck] at h
    rw [show (n : Int) - ((c : Int) - (l : Int)) = ((l + n - c : Nat) : Int) by omega]
    exact h
  have hGn : l + n ≤ grownCap w (l + n) c 27 := grownCap_ge w _ _ _
  have hG63 : grownCap w (l + n) c 27 ≤ maxLen := grownCap_le_maxLen w (l + n) c 27 (by unfold maxLen; omega)
  generalize grownCap w (l + n) c 27 = G at hrz hGn hG63
  have h1 : ¬ ((n : Int) < 0) := by omega
  have h4 : (n : Int) - ((c : Int) - (l : Int)) > 0 := by omega
  have hG2 : G ≤ 9223372036854775807 := by unfold maxLen at hG63; omega
  have HG3 := hidb hG63
  generalize zT = zz at *
  clear hold hck hcs hcl hi0 hz0 hs0 hb0 hG63
  go_enter Tryz.func150, Tryz.ntmps150
  cases base with
  | none =>
    have h0 := hnil rfl
    subst h0
    obtain rfl : l = 0 := by omega
    go_wp2_with (at_builtin; refine Lib.wpList_append_run _ rfl _ _ _ _ rfl _ _ rfl rfl _ _ (hrz _) ?_)
    all_goals (go_ret; exact ⟨G, by omega, HG3.out, rfl, by simp⟩)
  | some a =>
    obtain ⟨ab, ao, asp⟩ := a
    go_wp2_with (at_builtin; refine Lib.wpList_append_run _ rfl _ _ _ _ rfl _ _ rfl rfl _ _ (hrz _) ?_)
    all_goals (go_ret; exact ⟨G, hGn, HG3.out, rfl, rfl⟩)
end Go.Proofs.YtgljglindgbjaaaGreatDoor


