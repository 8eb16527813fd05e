/- Contracts of the statements' own right. -/
import Derived.Test.YtihkabgoaejcgaaDoorO2
import Derived.Test.YtihkabgoaejcgaaDoorK1
namespace Go.Proofs.YtihkabgoaejcgaaDoor
open Go.RowKit
attribute [local go_sem] store_float

theorem right_1y (n : Int) (f : Nat) (s : ByteArray) (a : Option Addr) (l c : Nat) (h : whB n = true) (w : World) : Calls Tryd.prog 41 #[.agg #[.int .i64 1, .int .i64 n, .float .f64 f, .string s, .slice a l c]] w fun e w' => e = .returned (.bool true) ∧ Below w.heap.size w w' := by
  obtain ⟨h1, h2⟩ := whB_yes h
  have d2 : decide (n ≤ 576460752303423487) = true := by simpa using h2
  clear h
  go_enter Tryd.func41, Tryd.ntmps41
  go_wp2
  go_ret
  exact ⟨rfl, by first | exact below_new _ _ | exact (below_new _ _).drew⟩

theorem right_1n (n : Int) (f : Nat) (s : ByteArray) (a : Option Addr) (l c : Nat) (h : whB n = false) (w : World) : Calls Tryd.prog 41 #[.agg #[.int .i64 1, .int .i64 n, .float .f64 f, .string s, .slice a l c]] w fun e w' => e = .returned (.bool false) ∧ Below w.heap.size w w' := by
  rcases whB_no h with h1 | h1
  · clear h
    go_enter Tryd.func41, Tryd.ntmps41
    go_wp2
    go_ret
    exact ⟨rfl, below_new _ _⟩
  · have h2 : -576460752303423488 ≤ n := by omega
    have d2 : decide (n ≤ 576460752303423487) = false := by simp; omega
    clear h
    go_enter Tryd.func41, Tryd.ntmps41
    go_wp2
    go_ret
    exact ⟨rfl, below_new _ _⟩

theorem right_2y (n : Int) (f : Nat) (s : ByteArray) (a : Option Addr) (l c : Nat) (h : Flt.fin f = true) (w : World) : Calls Tryd.prog 41 #[.agg #[.int .i64 2, .int .i64 n, .float .f64 f, .string s, .slice a l c]] w fun e w' => e = .returned (.bool true) ∧ Below w.heap.size w w' := by
  have hs := fun t w => sub_fin t f h w
  have ho : (FloatKind.f64.format.order 0 0) = some .eq := Flt.order_zero_zero
  go_enter Tryd.func41, Tryd.ntmps41
  go_wp2
  go_ret
  exact ⟨rfl, by first | exact below_new _ _ | exact (below_new _ _).drew⟩

theorem right_2n (n : Int) (f : Nat) (s : ByteArray) (a : Option Addr) (l c : Nat) (h : Flt.fin f = false) (w : World) : Calls Tryd.prog 41 #[.agg #[.int .i64 2, .int .i64 n, .float .f64 f, .string s, .slice a l c]] w fun e w' => e = .returned (.bool false) ∧ Below w.heap.size w w' := by
  have hs := fun t w => sub_nan t f h w
  have ho : ∀ t y, (FloatKind.f64.format.order (Flt.nanOf t) y) = none := fun t y => Flt.nanOf_order t y
  go_enter Tryd.func41, Tryd.ntmps41
  go_wp2
  go_ret
  exact ⟨rfl, by first | exact below_new _ _ | exact (below_new _ _).drew⟩

theorem right_0 (n : Int) (f : Nat) (s : ByteArray) (a : Option Addr) (l c : Nat) (k : Int) (h1 : (k == 1) = false) (h2 : (k == 2) = false) (w : World) : Calls Tryd.prog 41 #[.agg #[.int .i64 k, .int .i64 n, .float .f64 f, .string s, .slice a l c]] w fun e w' => e = .returned (.bool false) ∧ Below w.heap.size w w' := by
  go_enter Tryd.func41, Tryd.ntmps41
  go_wp2
  go_ret
  exact ⟨rfl, by first | exact below_new _ _ | exact (below_new _ _).drew⟩

end Go.Proofs.YtihkabgoaejcgaaDoor
