/- Contracts of the document's Right, Neg, Abs, Real on any term. -/
import Derived.Test.YtihkabgoaejcgaaDoorR3
import Derived.Test.YtihkabgoaejcgaaDoorV3
import Derived.Test.YtihkabgoaejcgaaDoorV1
namespace Go.Proofs.YtihkabgoaejcgaaDoor
open Go.RowKit
attribute [local go_sem] store_float
attribute [local go_sem ↓] Go.wp_at_zero Go.wp_at_succ

theorem refPlus_any (x : Nat) (b : Bool) (hx : ((x : Int) == 0) = b) (w : World) : Calls Tryd.prog 62 #[.float .f64 x] w fun e w' => e = .returned (.bool b) ∧ w' = w := by
  have hb := f64bits
  go_enter Tryd.func62, Tryd.ntmps62
  go_wp2
  go_ret
  exact ⟨rfl, rfl⟩

set_option maxHeartbeats 1000000 in
theorem rr_s (k n : Int) (f : Nat) (s : ByteArray) (l : Nat) (a : Option Addr) (c : Nat) (hs : s.toList.isEmpty = false) (w : World) : Calls Tryd.prog 32 #[.agg #[.int .i64 k, .int .i64 n, .float .f64 f, .string s, .slice a l c]] w fun e w' => e = .returned (.bool false) ∧ Below w.heap.size w w' := by
  go_enter Tryd.func32, Tryd.ntmps32
  go_wp2
  go_ret
  exact ⟨rfl, below_new _ _⟩

set_option maxHeartbeats 1000000 in
theorem rr_l (k n : Int) (f : Nat) (s : ByteArray) (l : Nat) (a : Option Addr) (c : Nat) (hs : s.toList.isEmpty = true) (hl : ((l : Int) == 0) = false) (w : World) : Calls Tryd.prog 32 #[.agg #[.int .i64 k, .int .i64 n, .float .f64 f, .string s, .slice a l c]] w fun e w' => e = .returned (.bool false) ∧ Below w.heap.size w w' := by
  go_enter Tryd.func32, Tryd.ntmps32
  go_wp2
  go_ret
  exact ⟨rfl, below_new _ _⟩

set_option maxHeartbeats 1000000 in
theorem rr_1a (n : Int) (f : Nat) (s : ByteArray) (a : Option Addr) (c : Nat) (hs : s.toList.isEmpty = true) (h : n < -576460752303423488) (w : World) : Calls Tryd.prog 32 #[.agg #[.int .i64 1, .int .i64 n, .float .f64 f, .string s, .slice a 0 c]] w fun e w' => e = .returned (.bool false) ∧ Below w.heap.size w w' := by
  go_enter Tryd.func32, Tryd.ntmps32
  go_wp2
  go_ret
  exact ⟨rfl, below_new _ _⟩

set_option maxHeartbeats 1000000 in
theorem rr_1b (n : Int) (f : Nat) (s : ByteArray) (a : Option Addr) (c : Nat) (hs : s.toList.isEmpty = true) (h : 576460752303423487 < n) (w : World) : Calls Tryd.prog 32 #[.agg #[.int .i64 1, .int .i64 n, .float .f64 f, .string s, .slice a 0 c]] w fun e w' => e = .returned (.bool false) ∧ Below w.heap.size w w' := by
  have d1 : -576460752303423488 ≤ n := by omega
  have d2 : decide (n ≤ 576460752303423487) = false := by simp; omega
  go_enter Tryd.func32, Tryd.ntmps32
  go_wp2
  go_ret
  exact ⟨rfl, below_new _ _⟩

set_option maxHeartbeats 1000000 in
theorem rr_1c (n : Int) (f : Nat) (s : ByteArray) (a : Option Addr) (c : Nat) (hs : s.toList.isEmpty = true) (d1 : -576460752303423488 ≤ n) (d3 : n ≤ 576460752303423487) (b : Bool) (hp : ((f : Int) == 0) = b) (w : World) : Calls Tryd.prog 32 #[.agg #[.int .i64 1, .int .i64 n, .float .f64 f, .string s, .slice a 0 c]] w fun e w' => e = .returned (.bool b) ∧ Below w.heap.size w w' := by
  have d2 : decide (n ≤ 576460752303423487) = true := by simpa using d3
  clear d3
  go_enter Tryd.func32, Tryd.ntmps32
  go_wp2_with fail
  refine (refPlus_any f _ hp _).mono ?_
  rintro e w' ⟨rfl, rfl⟩
  go_wp2
  go_ret
  exact ⟨rfl, below_new _ _⟩

set_option maxHeartbeats 1000000 in
theorem rr_2a (n : Int) (f : Nat) (s : ByteArray) (a : Option Addr) (c : Nat) (hs : s.toList.isEmpty = true) (hn : (n == 0) = false) (w : World) : Calls Tryd.prog 32 #[.agg #[.int .i64 2, .int .i64 n, .float .f64 f, .string s, .slice a 0 c]] w fun e w' => e = .returned (.bool false) ∧ Below w.heap.size w w' := by
  go_enter Tryd.func32, Tryd.ntmps32
  go_wp2
  go_ret
  exact ⟨rfl, below_new _ _⟩

set_option maxHeartbeats 1000000 in
theorem rr_2b (f : Nat) (s : ByteArray) (a : Option Addr) (c : Nat) (hs : s.toList.isEmpty = true) (b : Bool) (hp : Flt.fin f = b) (w : World) : Calls Tryd.prog 32 #[.agg #[.int .i64 2, .int .i64 0, .float .f64 f, .string s, .slice a 0 c]] w fun e w' => e = .returned (.bool b) ∧ Below w.heap.size w w' := by
  go_enter Tryd.func32, Tryd.ntmps32
  go_wp2_with fail
  refine (refFinite_any f _).mono ?_
  rintro e w2 ⟨rfl, hb⟩
  rw [hp]
  have hW : Below w.heap.size w w2 := (below_new w _).trans (hb.mono (by simp))
  clear hb
  go_wp2
  go_ret
  exact ⟨rfl, hW⟩

set_option maxHeartbeats 1000000 in
theorem rr_0 (k n : Int) (f : Nat) (s : ByteArray) (a : Option Addr) (c : Nat) (hs : s.toList.isEmpty = true) (h1 : (k == 1) = false) (h2 : (k == 2) = false) (w : World) : Calls Tryd.prog 32 #[.agg #[.int .i64 k, .int .i64 n, .float .f64 f, .string s, .slice a 0 c]] w fun e w' => e = .returned (.bool false) ∧ Below w.heap.size w w' := by
  go_enter Tryd.func32, Tryd.ntmps32
  go_wp2
  go_ret
  exact ⟨rfl, below_new _ _⟩

theorem refRight_any (k n : Int) (f : Nat) (s : ByteArray) (a : Option Addr) (l c : Nat) (w : World) : Calls Tryd.prog 32 #[.agg #[.int .i64 k, .int .i64 n, .float .f64 f, .string s, .slice a l c]] w fun e w' => e = .returned (.bool (rightB k n f s l)) ∧ Below w.heap.size w w' := by
  cases hs : s.toList.isEmpty
  · rw [show rightB k n f s l = false by simp [rightB, hs]]
    exact rr_s k n f s l a c hs w
  by_cases hl : l = 0
  · subst hl
    by_cases h1 : k = 1
    · subst h1
      cases hn : whB n
      · rw [show rightB 1 n f s 0 = false by simp [rightB, hn]]
        rcases whB_no hn with h | h
        · exact rr_1a n f s a c hs h w
        · exact rr_1b n f s a c hs h w
      · obtain ⟨b1, b2⟩ := whB_yes hn
        have := rr_1c n f s a c hs b1 b2 _ rfl w
        rw [show rightB 1 n f s 0 = ((f : Int) == 0) by
          by_cases hf : f = 0
          · subst hf; simp [rightB, hn, hs]
          · have : ((f : Int) == 0) = false := by simp; omega
            rw [this]; simp [rightB, hn, hf]]
        exact this
    · by_cases h2 : k = 2
      · subst h2
        by_cases hn : n = 0
        · subst hn
          have := rr_2b f s a c hs _ rfl w
          rw [show rightB 2 0 f s 0 = Flt.fin f by simp [rightB, hs]]
          exact this
        · rw [show rightB 2 n f s 0 = false by simp [rightB, hn]]
          exact rr_2a n f s a c hs (by simpa using hn) w
      · rw [show rightB k n f s 0 = false by simp [rightB, h1, h2]]
        exact rr_0 k n f s a c hs (by simpa using h1) (by simpa using h2) w
  · rw [show rightB k n f s l = false by simp [rightB, hl]]
    exact rr_l k n f s l a c hs (by simp; omega) w

end Go.Proofs.YtihkabgoaejcgaaDoor
