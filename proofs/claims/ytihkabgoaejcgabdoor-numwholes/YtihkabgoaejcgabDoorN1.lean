/- Contracts of the statements' own clean, and of Real and Neg. -/
import Derived.Test.YtihkabgoaejcgabDoorO2
import Derived.Test.YtihkabgoaejcgabDoorK1
namespace Go.Proofs.YtihkabgoaejcgabDoor
open Go.RowKit
attribute [local go_sem] store_float

theorem right_1y (n : Int) (f : Nat) (s : ByteArray) (a : Option Addr) (l c : Nat) (h : whB n = true) (w : World) : Calls Tryd.prog 37 #[.agg #[.int .i64 1, .int .i64 n, .float .f64 f, .string s, .slice a l c]] w fun e w' => e = .returned (.bool true) ∧ Below w.heap.size w w' := by
  obtain ⟨h1, h2⟩ := whB_yes h
  have d2 : decide (n ≤ 576460752303423487) = true := by simpa using h2
  clear h
  go_enter Tryd.func37, Tryd.ntmps37
  go_wp2
  go_ret
  exact ⟨rfl, by first | exact below_new _ _ | exact (below_new _ _).drew⟩

theorem right_1n (n : Int) (f : Nat) (s : ByteArray) (a : Option Addr) (l c : Nat) (h : whB n = false) (w : World) : Calls Tryd.prog 37 #[.agg #[.int .i64 1, .int .i64 n, .float .f64 f, .string s, .slice a l c]] w fun e w' => e = .returned (.bool false) ∧ Below w.heap.size w w' := by
  rcases whB_no h with h1 | h1
  · clear h
    go_enter Tryd.func37, Tryd.ntmps37
    go_wp2
    go_ret
    exact ⟨rfl, below_new _ _⟩
  · have h2 : -576460752303423488 ≤ n := by omega
    have d2 : decide (n ≤ 576460752303423487) = false := by simp; omega
    clear h
    go_enter Tryd.func37, Tryd.ntmps37
    go_wp2
    go_ret
    exact ⟨rfl, below_new _ _⟩

theorem right_2y (n : Int) (f : Nat) (s : ByteArray) (a : Option Addr) (l c : Nat) (h : Flt.fin f = true) (w : World) : Calls Tryd.prog 37 #[.agg #[.int .i64 2, .int .i64 n, .float .f64 f, .string s, .slice a l c]] w fun e w' => e = .returned (.bool true) ∧ Below w.heap.size w w' := by
  have hs := fun t w => sub_fin t f h w
  have ho : (FloatKind.f64.format.order 0 0) = some .eq := Flt.order_zero_zero
  go_enter Tryd.func37, Tryd.ntmps37
  go_wp2
  go_ret
  exact ⟨rfl, by first | exact below_new _ _ | exact (below_new _ _).drew⟩

theorem right_2n (n : Int) (f : Nat) (s : ByteArray) (a : Option Addr) (l c : Nat) (h : Flt.fin f = false) (w : World) : Calls Tryd.prog 37 #[.agg #[.int .i64 2, .int .i64 n, .float .f64 f, .string s, .slice a l c]] w fun e w' => e = .returned (.bool false) ∧ Below w.heap.size w w' := by
  have hs := fun t w => sub_nan t f h w
  have ho : ∀ t y, (FloatKind.f64.format.order (Flt.nanOf t) y) = none := fun t y => Flt.nanOf_order t y
  go_enter Tryd.func37, Tryd.ntmps37
  go_wp2
  go_ret
  exact ⟨rfl, by first | exact below_new _ _ | exact (below_new _ _).drew⟩

theorem right_0 (n : Int) (f : Nat) (s : ByteArray) (a : Option Addr) (l c : Nat) (k : Int) (h1 : (k == 1) = false) (h2 : (k == 2) = false) (w : World) : Calls Tryd.prog 37 #[.agg #[.int .i64 k, .int .i64 n, .float .f64 f, .string s, .slice a l c]] w fun e w' => e = .returned (.bool false) ∧ Below w.heap.size w w' := by
  go_enter Tryd.func37, Tryd.ntmps37
  go_wp2
  go_ret
  exact ⟨rfl, by first | exact below_new _ _ | exact (below_new _ _).drew⟩

theorem clean_s (k n : Int) (f l : Nat) (s : ByteArray) (a : Option Addr) (c : Nat) (hs : s.toList.isEmpty = false) (w : World) : Calls Tryd.prog 13 #[.agg #[.int .i64 k, .int .i64 n, .float .f64 f, .string s, .slice a l c]] w fun e w' => e = .returned (.bool false) ∧ Below w.heap.size w w' := by
  have hb := f64bits
  go_enter Tryd.func13, Tryd.ntmps13
  go_wp2
  go_ret
  exact ⟨rfl, below_new _ _⟩

theorem clean_l (k n : Int) (f l : Nat) (s : ByteArray) (a : Option Addr) (c : Nat) (hs : s.toList.isEmpty = true) (hl : ((l : Int) == 0) = false) (w : World) : Calls Tryd.prog 13 #[.agg #[.int .i64 k, .int .i64 n, .float .f64 f, .string s, .slice a l c]] w fun e w' => e = .returned (.bool false) ∧ Below w.heap.size w w' := by
  have hb := f64bits
  go_enter Tryd.func13, Tryd.ntmps13
  go_wp2
  go_ret
  exact ⟨rfl, below_new _ _⟩

theorem clean_1n (n : Int) (f : Nat) (s : ByteArray) (a : Option Addr) (c : Nat) (hs : s.toList.isEmpty = true) (h : whB n = false) (w : World) : Calls Tryd.prog 13 #[.agg #[.int .i64 1, .int .i64 n, .float .f64 f, .string s, .slice a 0 c]] w fun e w' => e = .returned (.bool false) ∧ Below w.heap.size w w' := by
  have hb := f64bits
  go_enter Tryd.func13, Tryd.ntmps13
  go_wp2_with fail
  refine (right_1n n f s a 0 c h _).mono ?_
  rintro e w1 ⟨rfl, hb1⟩
  obtain ⟨hc, hfr⟩ := bcell hb1
  have hW : Below w.heap.size w w1 := (below_new w _).trans (hb1.mono (by simp))
  clear hb1
  go_wp2
  go_ret
  exact ⟨rfl, hW⟩

theorem clean_1f (n : Int) (f : Nat) (s : ByteArray) (a : Option Addr) (c : Nat) (hs : s.toList.isEmpty = true) (h : whB n = true) (h0 : ((f : Int) == 0) = false) (w : World) : Calls Tryd.prog 13 #[.agg #[.int .i64 1, .int .i64 n, .float .f64 f, .string s, .slice a 0 c]] w fun e w' => e = .returned (.bool false) ∧ Below w.heap.size w w' := by
  have hb := f64bits
  go_enter Tryd.func13, Tryd.ntmps13
  go_wp2_with fail
  refine (right_1y n f s a 0 c h _).mono ?_
  rintro e w1 ⟨rfl, hb1⟩
  obtain ⟨hc, hfr⟩ := bcell hb1
  have hW : Below w.heap.size w w1 := (below_new w _).trans (hb1.mono (by simp))
  clear hb1
  go_wp2
  go_ret
  exact ⟨rfl, hW⟩

theorem clean_1y (n : Int) (s : ByteArray) (a : Option Addr) (c : Nat) (hs : s.toList.isEmpty = true) (h : whB n = true) (w : World) : Calls Tryd.prog 13 #[.agg #[.int .i64 1, .int .i64 n, .float .f64 0, .string s, .slice a 0 c]] w fun e w' => e = .returned (.bool true) ∧ Below w.heap.size w w' := by
  have hb := f64bits
  go_enter Tryd.func13, Tryd.ntmps13
  go_wp2_with fail
  refine (right_1y n 0 s a 0 c h _).mono ?_
  rintro e w1 ⟨rfl, hb1⟩
  obtain ⟨hc, hfr⟩ := bcell hb1
  have hW : Below w.heap.size w w1 := (below_new w _).trans (hb1.mono (by simp))
  clear hb1
  go_wp2
  go_ret
  exact ⟨rfl, hW⟩

theorem clean_2n (n : Int) (f : Nat) (s : ByteArray) (a : Option Addr) (c : Nat) (hs : s.toList.isEmpty = true) (h : Flt.fin f = false) (w : World) : Calls Tryd.prog 13 #[.agg #[.int .i64 2, .int .i64 n, .float .f64 f, .string s, .slice a 0 c]] w fun e w' => e = .returned (.bool false) ∧ Below w.heap.size w w' := by
  have hb := f64bits
  go_enter Tryd.func13, Tryd.ntmps13
  go_wp2_with fail
  refine (right_2n n f s a 0 c h _).mono ?_
  rintro e w1 ⟨rfl, hb1⟩
  obtain ⟨hc, hfr⟩ := bcell hb1
  have hW : Below w.heap.size w w1 := (below_new w _).trans (hb1.mono (by simp))
  clear hb1
  go_wp2
  go_ret
  exact ⟨rfl, hW⟩

theorem clean_2f (n : Int) (f : Nat) (s : ByteArray) (a : Option Addr) (c : Nat) (hs : s.toList.isEmpty = true) (h : Flt.fin f = true) (h0 : (n == 0) = false) (w : World) : Calls Tryd.prog 13 #[.agg #[.int .i64 2, .int .i64 n, .float .f64 f, .string s, .slice a 0 c]] w fun e w' => e = .returned (.bool false) ∧ Below w.heap.size w w' := by
  have hb := f64bits
  go_enter Tryd.func13, Tryd.ntmps13
  go_wp2_with fail
  refine (right_2y n f s a 0 c h _).mono ?_
  rintro e w1 ⟨rfl, hb1⟩
  obtain ⟨hc, hfr⟩ := bcell hb1
  have hW : Below w.heap.size w w1 := (below_new w _).trans (hb1.mono (by simp))
  clear hb1
  go_wp2
  go_ret
  exact ⟨rfl, hW⟩

theorem clean_2y (f : Nat) (s : ByteArray) (a : Option Addr) (c : Nat) (hs : s.toList.isEmpty = true) (h : Flt.fin f = true) (w : World) : Calls Tryd.prog 13 #[.agg #[.int .i64 2, .int .i64 0, .float .f64 f, .string s, .slice a 0 c]] w fun e w' => e = .returned (.bool true) ∧ Below w.heap.size w w' := by
  have hb := f64bits
  go_enter Tryd.func13, Tryd.ntmps13
  go_wp2_with fail
  refine (right_2y 0 f s a 0 c h _).mono ?_
  rintro e w1 ⟨rfl, hb1⟩
  obtain ⟨hc, hfr⟩ := bcell hb1
  have hW : Below w.heap.size w w1 := (below_new w _).trans (hb1.mono (by simp))
  clear hb1
  go_wp2
  go_ret
  exact ⟨rfl, hW⟩

theorem clean_0 (k n : Int) (f : Nat) (s : ByteArray) (a : Option Addr) (c : Nat) (hs : s.toList.isEmpty = true) (h1 : (k == 1) = false) (h2 : (k == 2) = false) (w : World) : Calls Tryd.prog 13 #[.agg #[.int .i64 k, .int .i64 n, .float .f64 f, .string s, .slice a 0 c]] w fun e w' => e = .returned (.bool false) ∧ Below w.heap.size w w' := by
  have hb := f64bits
  go_enter Tryd.func13, Tryd.ntmps13
  go_wp2_with fail
  refine (right_0 n f s a 0 c k h1 h2 _).mono ?_
  rintro e w1 ⟨rfl, hb1⟩
  obtain ⟨hc, hfr⟩ := bcell hb1
  have hW : Below w.heap.size w w1 := (below_new w _).trans (hb1.mono (by simp))
  clear hb1
  go_wp2
  go_ret
  exact ⟨rfl, hW⟩

theorem clean_yes (k n : Int) (f : Nat) (s : ByteArray) (a : Option Addr) (l c : Nat) (h : rightB k n f s l = true) (w : World) :
    Calls Tryd.prog 13 #[.agg #[.int .i64 k, .int .i64 n, .float .f64 f, .string s, .slice a l c]] w fun e w' => e = .returned (.bool true) ∧ Below w.heap.size w w' := by
  simp only [rightB, Bool.and_eq_true, Bool.or_eq_true, beq_iff_eq] at h
  obtain ⟨⟨h1, hs⟩, rfl⟩ := h
  rcases h1 with ⟨⟨rfl, hn⟩, rfl⟩ | ⟨⟨rfl, rfl⟩, hn⟩
  · exact clean_1y n s a c hs hn w
  · exact clean_2y f s a c hs hn w

theorem clean_no (k n : Int) (f : Nat) (s : ByteArray) (a : Option Addr) (l c : Nat) (h : rightB k n f s l = false) (w : World) :
    Calls Tryd.prog 13 #[.agg #[.int .i64 k, .int .i64 n, .float .f64 f, .string s, .slice a l c]] w fun e w' => e = .returned (.bool false) ∧ Below w.heap.size w w' := by
  cases hs : s.toList.isEmpty
  · exact clean_s k n f l s a c hs w
  by_cases hl : l = 0
  · subst hl
    by_cases h1 : k = 1
    · subst h1
      cases hn : whB n
      · exact clean_1n n f s a c hs hn w
      · by_cases hf0 : f = 0
        · subst hf0; simp [rightB, hn, hs] at h
        · exact clean_1f n f s a c hs hn (by simp; omega) w
    · by_cases h2 : k = 2
      · subst h2
        cases hn : Flt.fin f
        · exact clean_2n n f s a c hs hn w
        · by_cases hn0 : n = 0
          · subst hn0; simp [rightB, hn, hs] at h
          · exact clean_2f n f s a c hs hn (by simpa using hn0) w
      · exact clean_0 k n f s a c hs (by simpa using h1) (by simpa using h2) w
  · exact clean_l k n f l s a c hs (by simp; omega) w

end Go.Proofs.YtihkabgoaejcgabDoor
