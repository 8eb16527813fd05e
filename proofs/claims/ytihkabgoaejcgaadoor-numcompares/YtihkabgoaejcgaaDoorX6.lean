/- Whole of a right float, as one contract. -/
import Derived.Test.YtihkabgoaejcgaaDoorX5
namespace Go.Proofs.YtihkabgoaejcgaaDoor
open Go.RowKit
open Flt (ordI exactV)

theorem numInt_not {v : Int} (h : ¬ (-576460752303423488 ≤ v ∧ v ≤ 576460752303423487)) : numInt v = ⟨0, 0, 0, 12⟩ := by
  have : whB v = false := by simp only [whB, decide_eq_false_iff_not]; exact h
  simp [numInt, this]

theorem exact_made {x z : Nat} {v : Int} (m : Flt.Made x z v) (n : Int) (n1 : -9223372036854775808 ≤ n) (n2 : n ≤ 9223372036854775807) (w : World) :
    Calls Tryd.prog 30 #[.float .f64 z, .int .i64 n] w fun e w' => e = .returned (.int .i64 (ordI (compare v n))) ∧ w' = w := by
  have := exact_val z n m.lt m.fin n1 n2 w
  rw [m.val, compare_P] at this
  exact this

theorem whole_flt (how : ByteArray) (n v : Int) (x z : Nat) (s : ByteArray) (a : Option Addr) (l c : Nat) (hx : x < 18446744073709551616) (h : rightB 2 n x s l = true) (m : Flt.Made x z v)
    (iw : ∀ w, Calls Tryd.prog 56 #[.string how] w fun e w' => e = .returned (.bool true) ∧ w' = w)
    (wf : ∀ w, Calls Tryd.prog 57 #[.string how, .float .f64 x] w fun e w' => e = .returned (.float .f64 z) ∧ w' = w) (w : World) :
    Calls Tryd.prog 25 #[.string how, .agg #[.int .i64 2, .int .i64 n, .float .f64 x, .string s, .slice a l c]] w fun e w' =>
      e = .returned (.tuple #[.agg #[.int .i64 ((numInt v).k), .int .i64 ((numInt v).n), .float .f64 ((numInt v).f), .string ⟨#[]⟩, .slice none 0 0], .int .i64 (numInt v).e]) ∧ Below w.heap.size w w' := by
  have e1 := exact_made m (-576460752303423488) (by omega) (by omega)
  have e2 := exact_made m 576460752303423487 (by omega) (by omega)
  rcases Int.lt_or_le v (-576460752303423488) with h1 | h1
  · rw [numInt_not (by omega)]
    rw [Int.compare_eq_lt.2 h1] at e1
    exact whole_low how n _ x z s a l c hx h iw wf e1 rfl w
  · have d1 : decide (ordI (compare v (-576460752303423488)) < 0) = false := by
      rcases Int.lt_or_eq_of_le h1 with h2 | h2
      · rw [Int.compare_eq_gt.2 h2]; rfl
      · rw [Int.compare_eq_eq.2 h2.symm]; rfl
    rcases Int.lt_or_le 576460752303423487 v with h2 | h2
    · rw [numInt_not (by omega)]
      rw [Int.compare_eq_gt.2 h2] at e2
      exact whole_high how n _ _ x z s a l c hx h iw wf e1 d1 e2 rfl w
    · have d2 : decide (0 < ordI (compare v 576460752303423487)) = false := by
        rcases Int.lt_or_eq_of_le h2 with h3 | h3
        · rw [Int.compare_eq_lt.2 h3]; rfl
        · rw [Int.compare_eq_eq.2 h3]; rfl
      exact whole_in how n v _ _ x z s a l c hx h iw wf e1 d1 e2 d2 (cv_int m.int (by omega) (by omega)) w
end Go.Proofs.YtihkabgoaejcgaaDoor
