import Derived.Test.YtgljglindgbjaaaGreatDoorG23
import Derived.Laws.BitsAllLaws
import Derived.WideShapes
import Derived.Test.YtgljglindgbjaaaGreatDoorG03
/- Whole of a right float, as one contract. -/
namespace Go.Proofs.YtgljglindgbjaaaGreatDoor
open Go.RowKit
open Flt (ordI exactV)

theorem numInt_not {v : Int} (h : ¬ (-576460752303423488 ≤ v ∧ v ≤ 576460752303423487)) : numInt v = ⟨0, 0, 0, 12⟩ := by
  have : whB v = false := by simp only [whB, decide_eq_false_iff_not]; exact h
  simp [numInt, this]

theorem exact_made {x z : Nat} {v : Int} (m : Flt.Made x z v) (n : Int) (n1 : -9223372036854775808 ≤ n) (n2 : n ≤ 9223372036854775807) (w : World) :
    Calls Tryz.prog 154 #[.float .f64 z, .int .i64 n] w fun e w' => e = .returned (.int .i64 (ordI (compare v n))) ∧ w' = w := by
  have := exact_val z n m.lt m.fin n1 n2 w
  rw [m.val, compare_P] at this
  exact this

theorem whole_flt (how : ByteArray) (n v : Int) (x z : Nat) (s : ByteArray) (a : Option Addr) (l c : Nat) (hx : x < 18446744073709551616) (h : rightB 2 n x s l = true) (m : Flt.Made x z v)
    (iw : ∀ w, Calls Tryz.prog 152 #[.string how] w fun e w' => e = .returned (.bool true) ∧ w' = w)
    (wf : ∀ w, Calls Tryz.prog 153 #[.string how, .float .f64 x] w fun e w' => e = .returned (.float .f64 z) ∧ w' = w) (w : World) :
    Calls Tryz.prog 117 #[.string how, .agg #[.int .i64 2, .int .i64 n, .float .f64 x, .string s, .slice a l c]] w fun e w' =>
      e = .returned (.tuple #[.agg #[.int .i64 ((numInt v).k), .int .i64 ((numInt v).n), .float .f64 ((numInt v).f), .string ⟨#[]⟩, .slice none 0 0], .int .i64 (numInt v).e]) ∧ Below w.heap.size w w' := by
  have e1 := exact_made m (-576460752303423488) (by omega) (by omega)
  have e2 := exact_made m 576460752303423487 (by omega) (by omega)
  rcases Int.lt_or_le v (-576460752303423488) with h1 | h1
  · rw [numInt_not (by omega)]
    rw [Int.compare_eq_lt.2 h1] at e1
    exact whole_low how n _ x z s a l c hx h iw wf e1 rfl w
  · have d1 : decide (ordI (compare v (-576460752303423488)) < 0) = false := by
      rcases Int.lt_or_eq_of_le h1 with h2 | h2
      · rw [Int.compare_eq_gt.2 h2]; rfl
      · rw [Int.compare_eq_eq.2 h2.symm]; rfl
    rcases Int.lt_or_le 576460752303423487 v with h2 | h2
    · rw [numInt_not (by omega)]
      rw [Int.compare_eq_gt.2 h2] at e2
      exact whole_high how n _ _ x z s a l c hx h iw wf e1 d1 e2 rfl w
    · have d2 : decide (0 < ordI (compare v 576460752303423487)) = false := by
        rcases Int.lt_or_eq_of_le h2 with h3 | h3
        · rw [Int.compare_eq_lt.2 h3]; rfl
        · rw [Int.compare_eq_eq.2 h3]; rfl
      exact whole_in how n v _ _ x z s a l c hx h iw wf e1 d1 e2 d2 (cv_int m.int (by omega) (by omega)) w
end Go.Proofs.YtgljglindgbjaaaGreatDoor


/- Contracts of Neg, Abs, Real, Whole on terms that are no right numbers; of Abs on those that are; of Whole on whole numbers. -/
namespace Go.Proofs.YtgljglindgbjaaaGreatDoor
open Go.RowKit
attribute [local go_sem] store_float
attribute [local go_sem ↓] Go.wp_at_zero Go.wp_at_succ

set_option maxHeartbeats 1000000 in
theorem neg_no (k n : Int) (f : Nat) (s : ByteArray) (a : Option Addr) (l c : Nat) (hf : f < 18446744073709551616) (h : rightB k n f s l = false) (w : World) :
    Calls Tryz.prog 105 #[.agg #[.int .i64 k, .int .i64 n, .float .f64 f, .string s, .slice a l c]] w fun e w' => e = .returned (.tuple #[.agg #[.int .i64 (0), .int .i64 (0), .float .f64 (0), .string ⟨#[]⟩, .slice none 0 0], .int .i64 11]) ∧ Below w.heap.size w w' := by
  have HR := hid h
  clear h
  go_enter Tryz.func105, Tryz.ntmps105
  go_wp2_with fail
  refine (valueOf_no k n f s a l c hf HR.out _).mono ?_
  rintro e w1 ⟨rfl, hb1⟩
  obtain ⟨RB, hW⟩ := afterA hb1
  clear hb1
  have RB2 := RB.alloc (.cells #[.int .i64 0, .int .i64 0, .int .u64 0] 114)
  obtain ⟨d0, d1, d2, d3, d4, g0, g1, g2, g3, g4, ltr⟩ := RB2
  clear RB
  go_wp2
  exact bodyPost_ret (v := .tuple #[.agg #[.int .i64 (0), .int .i64 (0), .float .f64 (0), .string ⟨#[]⟩, .slice none 0 0], .int .i64 11]) (by simp [results, Tryz.results105, go_sem, d0, d1, d2, d3, d4]) rfl ⟨rfl, below_set5 (below_a1 hW _) (by omega) _ _ _ _ _⟩

set_option maxHeartbeats 1000000 in
theorem abs_no (k n : Int) (f : Nat) (s : ByteArray) (a : Option Addr) (l c : Nat) (hf : f < 18446744073709551616) (h : rightB k n f s l = false) (w : World) :
    Calls Tryz.prog 115 #[.agg #[.int .i64 k, .int .i64 n, .float .f64 f, .string s, .slice a l c]] w fun e w' => e = .returned (.tuple #[.agg #[.int .i64 (0), .int .i64 (0), .float .f64 (0), .string ⟨#[]⟩, .slice none 0 0], .int .i64 11]) ∧ Below w.heap.size w w' := by
  have HR := hid h
  clear h
  go_enter Tryz.func115, Tryz.ntmps115
  go_wp2_with fail
  refine (valueOf_no k n f s a l c hf HR.out _).mono ?_
  rintro e w1 ⟨rfl, hb1⟩
  obtain ⟨RB, hW⟩ := afterA hb1
  clear hb1
  have RB2 := RB.alloc (.cells #[.int .i64 0, .int .i64 0, .int .u64 0] 114)
  obtain ⟨d0, d1, d2, d3, d4, g0, g1, g2, g3, g4, ltr⟩ := RB2
  clear RB
  go_wp2
  exact bodyPost_ret (v := .tuple #[.agg #[.int .i64 (0), .int .i64 (0), .float .f64 (0), .string ⟨#[]⟩, .slice none 0 0], .int .i64 11]) (by simp [results, Tryz.results115, go_sem, d0, d1, d2, d3, d4]) rfl ⟨rfl, below_set5 (below_a1 hW _) (by omega) _ _ _ _ _⟩

set_option maxHeartbeats 1000000 in
theorem real_no (k n : Int) (f : Nat) (s : ByteArray) (a : Option Addr) (l c : Nat) (hf : f < 18446744073709551616) (h : rightB k n f s l = false) (w : World) :
    Calls Tryz.prog 116 #[.agg #[.int .i64 k, .int .i64 n, .float .f64 f, .string s, .slice a l c]] w fun e w' => e = .returned (.tuple #[.agg #[.int .i64 (0), .int .i64 (0), .float .f64 (0), .string ⟨#[]⟩, .slice none 0 0], .int .i64 13]) ∧ Below w.heap.size w w' := by
  have HR := hid h
  clear h
  go_enter Tryz.func116, Tryz.ntmps116
  go_wp2_with fail
  refine (valueOf_no k n f s a l c hf HR.out _).mono ?_
  rintro e w1 ⟨rfl, hb1⟩
  obtain ⟨RB, hW⟩ := afterA hb1
  clear hb1
  have RB2 := RB.alloc (.cells #[.int .i64 0, .int .i64 0, .int .u64 0] 114)
  obtain ⟨d0, d1, d2, d3, d4, g0, g1, g2, g3, g4, ltr⟩ := RB2
  clear RB
  go_wp2
  exact bodyPost_ret (v := .tuple #[.agg #[.int .i64 (0), .int .i64 (0), .float .f64 (0), .string ⟨#[]⟩, .slice none 0 0], .int .i64 13]) (by simp [results, Tryz.results116, go_sem, d0, d1, d2, d3, d4]) rfl ⟨rfl, below_set5 (below_a1 hW _) (by omega) _ _ _ _ _⟩

set_option maxHeartbeats 1000000 in
theorem whole_b0 (how : ByteArray) (k n : Int) (f : Nat) (s : ByteArray) (a : Option Addr) (l c : Nat) (hf : f < 18446744073709551616) (h : rightB k n f s l = true) (iw : ∀ w, Calls Tryz.prog 152 #[.string how] w fun e w' => e = .returned (.bool false) ∧ w' = w) (w : World) :
    Calls Tryz.prog 117 #[.string how, .agg #[.int .i64 k, .int .i64 n, .float .f64 f, .string s, .slice a l c]] w fun e w' => e = .returned (.tuple #[.agg #[.int .i64 (0), .int .i64 (0), .float .f64 (0), .string ⟨#[]⟩, .slice none 0 0], .int .i64 13]) ∧ Below w.heap.size w w' := by
  have HR := hid h
  have IW := hid iw
  clear h iw
  go_enter Tryz.func117, Tryz.ntmps117
  go_wp2_with fail
  refine (valueOf_yes k n f s a l c hf HR.out _).mono ?_
  rintro e w1 ⟨rfl, hb1⟩
  obtain ⟨RB, hW⟩ := afterA hb1
  clear hb1
  have RB2 := RB.alloc (.cells #[.int .i64 k, .int .i64 n, .int .u64 f] 114)
  have HRB := hid RB2
  clear RB RB2
  go_wp2_with fail
  refine (IW.out _).mono ?_
  rintro e w' ⟨rfl, rfl⟩
  obtain ⟨d0, d1, d2, d3, d4, g0, g1, g2, g3, g4, ltr⟩ := HRB.out
  go_wp2
  exact bodyPost_ret (v := .tuple #[.agg #[.int .i64 (0), .int .i64 (0), .float .f64 (0), .string ⟨#[]⟩, .slice none 0 0], .int .i64 13]) (by simp [results, Tryz.results117, go_sem, d0, d1, d2, d3, d4]) rfl ⟨rfl, below_set5 (below_a1 hW _) (by omega) _ _ _ _ _⟩

set_option maxHeartbeats 1000000 in
theorem whole_b1 (how : ByteArray) (k n : Int) (f : Nat) (s : ByteArray) (a : Option Addr) (l c : Nat) (hf : f < 18446744073709551616) (h : rightB k n f s l = false) (iw : ∀ w, Calls Tryz.prog 152 #[.string how] w fun e w' => e = .returned (.bool false) ∧ w' = w) (w : World) :
    Calls Tryz.prog 117 #[.string how, .agg #[.int .i64 k, .int .i64 n, .float .f64 f, .string s, .slice a l c]] w fun e w' => e = .returned (.tuple #[.agg #[.int .i64 (0), .int .i64 (0), .float .f64 (0), .string ⟨#[]⟩, .slice none 0 0], .int .i64 13]) ∧ Below w.heap.size w w' := by
  have HR := hid h
  have IW := hid iw
  clear h iw
  go_enter Tryz.func117, Tryz.ntmps117
  go_wp2_with fail
  refine (valueOf_no k n f s a l c hf HR.out _).mono ?_
  rintro e w1 ⟨rfl, hb1⟩
  obtain ⟨RB, hW⟩ := afterA hb1
  clear hb1
  have RB2 := RB.alloc (.cells #[.int .i64 0, .int .i64 0, .int .u64 0] 114)
  have HRB := hid RB2
  clear RB RB2
  go_wp2_with fail
  refine (IW.out _).mono ?_
  rintro e w' ⟨rfl, rfl⟩
  obtain ⟨d0, d1, d2, d3, d4, g0, g1, g2, g3, g4, ltr⟩ := HRB.out
  go_wp2
  exact bodyPost_ret (v := .tuple #[.agg #[.int .i64 (0), .int .i64 (0), .float .f64 (0), .string ⟨#[]⟩, .slice none 0 0], .int .i64 13]) (by simp [results, Tryz.results117, go_sem, d0, d1, d2, d3, d4]) rfl ⟨rfl, below_set5 (below_a1 hW _) (by omega) _ _ _ _ _⟩

set_option maxHeartbeats 1000000 in
theorem whole_b2 (how : ByteArray) (k n : Int) (f : Nat) (s : ByteArray) (a : Option Addr) (l c : Nat) (hf : f < 18446744073709551616) (h : rightB k n f s l = false) (iw : ∀ w, Calls Tryz.prog 152 #[.string how] w fun e w' => e = .returned (.bool true) ∧ w' = w) (w : World) :
    Calls Tryz.prog 117 #[.string how, .agg #[.int .i64 k, .int .i64 n, .float .f64 f, .string s, .slice a l c]] w fun e w' => e = .returned (.tuple #[.agg #[.int .i64 (0), .int .i64 (0), .float .f64 (0), .string ⟨#[]⟩, .slice none 0 0], .int .i64 13]) ∧ Below w.heap.size w w' := by
  have HR := hid h
  have IW := hid iw
  clear h iw
  go_enter Tryz.func117, Tryz.ntmps117
  go_wp2_with fail
  refine (valueOf_no k n f s a l c hf HR.out _).mono ?_
  rintro e w1 ⟨rfl, hb1⟩
  obtain ⟨RB, hW⟩ := afterA hb1
  clear hb1
  have RB2 := RB.alloc (.cells #[.int .i64 0, .int .i64 0, .int .u64 0] 114)
  have HRB := hid RB2
  clear RB RB2
  go_wp2_with fail
  refine (IW.out _).mono ?_
  rintro e w' ⟨rfl, rfl⟩
  obtain ⟨d0, d1, d2, d3, d4, g0, g1, g2, g3, g4, ltr⟩ := HRB.out
  go_wp2
  exact bodyPost_ret (v := .tuple #[.agg #[.int .i64 (0), .int .i64 (0), .float .f64 (0), .string ⟨#[]⟩, .slice none 0 0], .int .i64 13]) (by simp [results, Tryz.results117, go_sem, d0, d1, d2, d3, d4]) rfl ⟨rfl, below_set5 (below_a1 hW _) (by omega) _ _ _ _ _⟩

set_option maxHeartbeats 1000000 in
theorem whole_int (how : ByteArray) (n : Int) (f : Nat) (s : ByteArray) (a : Option Addr) (l c : Nat) (hf : f < 18446744073709551616) (h : rightB 1 n f s l = true) (iw : ∀ w, Calls Tryz.prog 152 #[.string how] w fun e w' => e = .returned (.bool true) ∧ w' = w) (w : World) :
    Calls Tryz.prog 117 #[.string how, .agg #[.int .i64 1, .int .i64 n, .float .f64 f, .string s, .slice a l c]] w fun e w' => e = .returned (.tuple #[.agg #[.int .i64 ((numInt n).k), .int .i64 ((numInt n).n), .float .f64 ((numInt n).f), .string ⟨#[]⟩, .slice none 0 0], .int .i64 (numInt n).e]) ∧ Below w.heap.size w w' := by
  have HR := hid h
  have IW := hid iw
  clear h iw
  go_enter Tryz.func117, Tryz.ntmps117
  go_wp2_with fail
  refine (valueOf_yes 1 n f s a l c hf HR.out _).mono ?_
  rintro e w1 ⟨rfl, hb1⟩
  obtain ⟨RB, hW⟩ := afterA hb1
  have HRB := hid RB
  clear hb1 RB
  go_wp2_with fail
  refine (IW.out _).mono ?_
  rintro e w' ⟨rfl, rfl⟩
  go_wp2_with fail
  refine (numInt_any _ _).mono ?_
  rintro e w2 ⟨rfl, hb2⟩
  have RB2 := (HRB.out.alloc _).keep hb2
  have hW2 : Below w.heap.size w w2 := (hW.alloc hW.size _).trans (hb2.mono (by have := hW.size; simp; omega))
  obtain ⟨d0, d1, d2, d3, d4, g0, g1, g2, g3, g4, ltr⟩ := RB2
  clear hb2 HRB
  go_wp2
  exact bodyPost_ret (v := .tuple #[.agg #[.int .i64 ((numInt n).k), .int .i64 ((numInt n).n), .float .f64 ((numInt n).f), .string ⟨#[]⟩, .slice none 0 0], .int .i64 (numInt n).e]) (by simp [results, Tryz.results117, go_sem, d0, d1, d2, d3, d4]) rfl ⟨rfl, below_set5 hW2 (by omega) _ _ _ _ _⟩

set_option maxHeartbeats 1000000 in
theorem abs_2 (n : Int) (u M : Nat) (hM : u % 9223372036854775808 = M) (s : ByteArray) (a : Option Addr) (l c : Nat) (hu : u < 18446744073709551616) (h : rightB 2 n u s l = true) (w : World) :
    Calls Tryz.prog 115 #[.agg #[.int .i64 2, .int .i64 n, .float .f64 u, .string s, .slice a l c]] w fun e w' =>
      e = .returned (.tuple #[.agg #[.int .i64 ((numBits M).k), .int .i64 ((numBits M).n), .float .f64 ((numBits M).f), .string ⟨#[]⟩, .slice none 0 0], .int .i64 (numBits M).e]) ∧ Below w.heap.size w w' := by
  have hx : bits .andNot .u64 (u : Int) 9223372036854775808 = (M : Int) := by
    rw [← hM]
    have := u64_andNot_nat u 9223372036854775808 hu (by decide)
    rw [show 18446744073709551615 - 9223372036854775808 = 2 ^ 63 - 1 by decide, Nat.and_two_pow_sub_one_eq_mod] at this
    exact this
  have HR := hid h
  have HL : Hid (M < 18446744073709551616) := by show _ < _; omega
  have HU := hid hu
  clear h hu hM
  go_enter Tryz.func115, Tryz.ntmps115
  go_wp2_with fail
  refine (valueOf_yes 2 n u s a l c HU.out HR.out _).mono ?_
  rintro e w1 ⟨rfl, hb1⟩
  obtain ⟨RB, hW⟩ := afterA hb1
  have HRB := hid RB
  clear hb1 RB
  go_wp2_with fail
  refine (numBits_any _ HL.out _).mono ?_
  rintro e w2 ⟨rfl, hb2⟩
  have RB2 := (HRB.out.alloc _).keep hb2
  have hW2 : Below w.heap.size w w2 := (hW.alloc hW.size _).trans (hb2.mono (by have := hW.size; simp; omega))
  obtain ⟨d0, d1, d2, d3, d4, g0, g1, g2, g3, g4, ltr⟩ := RB2
  clear hb2 HRB
  go_wp2
  exact bodyPost_ret (v := .tuple #[.agg #[.int .i64 ((numBits M).k), .int .i64 ((numBits M).n), .float .f64 ((numBits M).f), .string ⟨#[]⟩, .slice none 0 0], .int .i64 (numBits M).e]) (by simp [results, Tryz.results115, go_sem, d0, d1, d2, d3, d4]) rfl ⟨rfl, below_set5 hW2 (by omega) _ _ _ _ _⟩

set_option maxHeartbeats 1000000 in
theorem abs_1p (n : Int) (u : Nat) (s : ByteArray) (a : Option Addr) (l c : Nat) (hu : u < 18446744073709551616) (h : rightB 1 n u s l = true) (hw : whB n = true) (hs : 0 ≤ n) (w : World) :
    Calls Tryz.prog 115 #[.agg #[.int .i64 1, .int .i64 n, .float .f64 u, .string s, .slice a l c]] w fun e w' =>
      e = .returned (.tuple #[.agg #[.int .i64 ((numInt n).k), .int .i64 ((numInt n).n), .float .f64 ((numInt n).f), .string ⟨#[]⟩, .slice none 0 0], .int .i64 (numInt n).e]) ∧ Below w.heap.size w w' := by
  have HR := hid h
  obtain ⟨b1, b2⟩ := whB_yes hw
  clear h hw
  go_enter Tryz.func115, Tryz.ntmps115
  go_wp2_with fail
  refine (valueOf_yes 1 n u s a l c hu HR.out _).mono ?_
  rintro e w1 ⟨rfl, hb1⟩
  obtain ⟨RB, hW⟩ := afterA hb1
  have HRB := hid RB
  clear hb1 RB
  go_wp2_with fail
  refine (numInt_any _ _).mono ?_
  rintro e w2 ⟨rfl, hb2⟩
  have RB2 := (HRB.out.alloc _).keep hb2
  have hW2 : Below w.heap.size w w2 := (hW.alloc hW.size _).trans (hb2.mono (by have := hW.size; simp; omega))
  obtain ⟨d0, d1, d2, d3, d4, g0, g1, g2, g3, g4, ltr⟩ := RB2
  clear hb2 HRB
  go_wp2
  exact bodyPost_ret (v := .tuple #[.agg #[.int .i64 ((numInt n).k), .int .i64 ((numInt n).n), .float .f64 ((numInt n).f), .string ⟨#[]⟩, .slice none 0 0], .int .i64 (numInt n).e]) (by simp [results, Tryz.results115, go_sem, d0, d1, d2, d3, d4]) rfl ⟨rfl, below_set5 hW2 (by omega) _ _ _ _ _⟩

set_option maxHeartbeats 1000000 in
theorem abs_1n (n : Int) (u : Nat) (s : ByteArray) (a : Option Addr) (l c : Nat) (hu : u < 18446744073709551616) (h : rightB 1 n u s l = true) (hw : whB n = true) (hs : n < 0) (w : World) :
    Calls Tryz.prog 115 #[.agg #[.int .i64 1, .int .i64 n, .float .f64 u, .string s, .slice a l c]] w fun e w' =>
      e = .returned (.tuple #[.agg #[.int .i64 ((numInt (-n)).k), .int .i64 ((numInt (-n)).n), .float .f64 ((numInt (-n)).f), .string ⟨#[]⟩, .slice none 0 0], .int .i64 (numInt (-n)).e]) ∧ Below w.heap.size w w' := by
  have HR := hid h
  obtain ⟨b1, b2⟩ := whB_yes hw
  clear h hw
  go_enter Tryz.func115, Tryz.ntmps115
  go_wp2_with fail
  refine (valueOf_yes 1 n u s a l c hu HR.out _).mono ?_
  rintro e w1 ⟨rfl, hb1⟩
  obtain ⟨RB, hW⟩ := afterA hb1
  have HRB := hid RB
  clear hb1 RB
  go_wp2_with fail
  refine (numInt_any _ _).mono ?_
  rintro e w2 ⟨rfl, hb2⟩
  have RB2 := (HRB.out.alloc _).keep hb2
  have hW2 : Below w.heap.size w w2 := (hW.alloc hW.size _).trans (hb2.mono (by have := hW.size; simp; omega))
  obtain ⟨d0, d1, d2, d3, d4, g0, g1, g2, g3, g4, ltr⟩ := RB2
  clear hb2 HRB
  go_wp2
  exact bodyPost_ret (v := .tuple #[.agg #[.int .i64 ((numInt (-n)).k), .int .i64 ((numInt (-n)).n), .float .f64 ((numInt (-n)).f), .string ⟨#[]⟩, .slice none 0 0], .int .i64 (numInt (-n)).e]) (by simp [results, Tryz.results115, go_sem, d0, d1, d2, d3, d4]) rfl ⟨rfl, below_set5 hW2 (by omega) _ _ _ _ _⟩

theorem isWay_not (how : ByteArray) (h1 : (how.toList == [116, 114, 117, 110, 99]) = false) (h2 : (how.toList == [114, 111, 117, 110, 100]) = false) (h3 : (how.toList == [102, 108, 111, 111, 114]) = false) (h4 : (how.toList == [99, 101, 105, 108]) = false) (w : World) : Calls Tryz.prog 152 #[.string how] w fun e w' => e = .returned (.bool false) ∧ w' = w := by
  go_enter Tryz.func152, Tryz.ntmps152
  go_wp2
  go_ret
  exact ⟨rfl, rfl⟩

theorem bytes_of {s t : ByteArray} (h : (s.toList == t.data.toList) = true) : s = t := by
  rw [ByteArray.toList_eq] at h
  exact WideShapes.bytes_inj (by simpa using h)

/-- a way is one of the four, or none -/
theorem way_or (how : ByteArray) : (∃ i, how = way i) ∨ ((how.toList == [116, 114, 117, 110, 99]) = false ∧ (how.toList == [114, 111, 117, 110, 100]) = false ∧ (how.toList == [102, 108, 111, 111, 114]) = false ∧ (how.toList == [99, 101, 105, 108]) = false) := by
  cases h1 : (how.toList == [116, 114, 117, 110, 99])
  · cases h2 : (how.toList == [114, 111, 117, 110, 100])
    · cases h3 : (how.toList == [102, 108, 111, 111, 114])
      · cases h4 : (how.toList == [99, 101, 105, 108])
        · exact Or.inr ⟨rfl, rfl, rfl, rfl⟩
        · exact Or.inl ⟨2, bytes_of (t := ⟨#[99, 101, 105, 108]⟩) h4⟩
      · exact Or.inl ⟨1, bytes_of (t := ⟨#[102, 108, 111, 111, 114]⟩) h3⟩
    · exact Or.inl ⟨3, bytes_of (t := ⟨#[114, 111, 117, 110, 100]⟩) h2⟩
  · exact Or.inl ⟨0, bytes_of (t := ⟨#[116, 114, 117, 110, 99]⟩) h1⟩
end Go.Proofs.YtgljglindgbjaaaGreatDoor


/- How numbers are made, or refused, by the document's own reckoning. -/
namespace Go.Proofs.YtgljglindgbjaaaGreatDoor
open Go.RowKit
attribute [local go_sem] store_float

theorem refI_any (n : Int) (w : World) : Calls Tryz.prog 110 #[.int .i64 n] w fun e w' => e = .returned (.agg #[.int .i64 1, .int .i64 n, .float .f64 0, .string ⟨#[]⟩, .slice none 0 0]) ∧ Below w.heap.size w w' := by
  go_enter Tryz.func110, Tryz.ntmps110
  go_wp2
  exact bodyPost_ret (v := .agg #[.int .i64 1, .int .i64 n, .float .f64 0, .string ⟨#[]⟩, .slice none 0 0]) (by simp [results, Tryz.results110, go_sem]) rfl ⟨rfl, (Below.refl _ _).alloc (Nat.le_refl _) _⟩

theorem refF_any (x : Nat) (w : World) : Calls Tryz.prog 44 #[.float .f64 x] w fun e w' => e = .returned (.agg #[.int .i64 2, .int .i64 0, .float .f64 x, .string ⟨#[]⟩, .slice none 0 0]) ∧ Below w.heap.size w w' := by
  go_enter Tryz.func44, Tryz.ntmps44
  go_wp2
  exact bodyPost_ret (v := .agg #[.int .i64 2, .int .i64 0, .float .f64 x, .string ⟨#[]⟩, .slice none 0 0]) (by simp [results, Tryz.results44, go_sem]) rfl ⟨rfl, (Below.refl _ _).alloc (Nat.le_refl _) _⟩

theorem refFinite_any (x : Nat) (w : World) : Calls Tryz.prog 109 #[.float .f64 x] w fun e w' => e = .returned (.bool (Flt.fin x)) ∧ Below w.heap.size w w' := by
  cases hb : Flt.fin x
  · have hs := fun t w => sub_nan t x hb w
    have ho : ∀ t y, (FloatKind.f64.format.order (Flt.nanOf t) y) = none := fun t y => Flt.nanOf_order t y
    go_enter Tryz.func109, Tryz.ntmps109
    go_wp2
    go_ret
    exact ⟨rfl, (Below.refl _ _).drew⟩
  · have hs := fun t w => sub_fin t x hb w
    have ho : (FloatKind.f64.format.order 0 0) = some .eq := Flt.order_zero_zero
    go_enter Tryz.func109, Tryz.ntmps109
    go_wp2
    go_ret
    exact ⟨rfl, Below.refl _ _⟩

theorem refInt_any (n : Int) (w : World) : Calls Tryz.prog 43 #[.int .i64 n] w fun e w' => e = .returned (.tuple #[.agg #[.int .i64 ((numInt n).k), .int .i64 ((numInt n).n), .float .f64 ((numInt n).f), .string ⟨#[]⟩, .slice none 0 0], .int .i64 (numInt n).e]) ∧ Below w.heap.size w w' := by
  cases hb : whB n
  · have e : numInt n = ⟨0, 0, 0, 12⟩ := by simp [numInt, hb]
    rw [e]; clear e
    rcases whB_no hb with h | h
    · clear hb
      go_enter Tryz.func43, Tryz.ntmps43
      go_wp2
      exact bodyPost_ret (v := .tuple #[.agg #[.int .i64 (0), .int .i64 (0), .float .f64 (0), .string ⟨#[]⟩, .slice none 0 0], .int .i64 12]) (by simp [results, Tryz.results43, go_sem]) rfl ⟨rfl, below_new _ _⟩
    · have h2 : ¬ n < -576460752303423488 := by omega
      clear hb
      go_enter Tryz.func43, Tryz.ntmps43
      go_wp2
      exact bodyPost_ret (v := .tuple #[.agg #[.int .i64 (0), .int .i64 (0), .float .f64 (0), .string ⟨#[]⟩, .slice none 0 0], .int .i64 12]) (by simp [results, Tryz.results43, go_sem]) rfl ⟨rfl, below_new _ _⟩
  · have e : numInt n = ⟨1, n, 0, 0⟩ := by simp [numInt, hb]
    rw [e]; clear e
    obtain ⟨h1, h2⟩ := whB_yes hb
    clear hb
    go_enter Tryz.func43, Tryz.ntmps43
    go_wp2_with fail
    refine (refI_any n _).mono ?_
    rintro e w1 ⟨rfl, hb⟩
    obtain ⟨hc, hfr⟩ := bcell hb
    have hz := hb.size
    go_wp2
    exact bodyPost_ret (v := .tuple #[.agg #[.int .i64 (1), .int .i64 (n), .float .f64 (0), .string ⟨#[]⟩, .slice none 0 0], .int .i64 0]) (by simp [results, Tryz.results43, go_sem, hc]) rfl ⟨rfl, below_ret hb _ _ _ _ _⟩

theorem refFloat_any (x : Nat) (w : World) : Calls Tryz.prog 49 #[.float .f64 x] w fun e w' => e = .returned (.tuple #[.agg #[.int .i64 ((numBits x).k), .int .i64 ((numBits x).n), .float .f64 ((numBits x).f), .string ⟨#[]⟩, .slice none 0 0], .int .i64 (numBits x).e]) ∧ Below w.heap.size w w' := by
  cases hb : Flt.fin x
  · have e : numBits x = ⟨0, 0, 0, 11⟩ := by simp [numBits, hb]
    rw [e]; clear e
    go_enter Tryz.func49, Tryz.ntmps49
    go_wp2_with fail
    refine (refFinite_any x _).mono ?_
    rintro e w1 ⟨rfl, hb1⟩
    obtain ⟨hc, hfr⟩ := bcell hb1
    have hz := hb1.size
    go_wp2
    exact bodyPost_ret (v := .tuple #[.agg #[.int .i64 (0), .int .i64 (0), .float .f64 (0), .string ⟨#[]⟩, .slice none 0 0], .int .i64 11]) (by simp [results, Tryz.results49, go_sem, hc]) rfl ⟨rfl, below_ret hb1 _ _ _ _ _⟩
  · have e : numBits x = ⟨2, 0, x, 0⟩ := by simp [numBits, hb]
    rw [e]; clear e
    go_enter Tryz.func49, Tryz.ntmps49
    go_wp2_with fail
    refine (refFinite_any x _).mono ?_
    rintro e w1 ⟨rfl, hb1⟩
    obtain ⟨hc, hfr⟩ := bcell hb1
    have hz := hb1.size
    go_wp2_with fail
    refine (refF_any x _).mono ?_
    rintro e w2 ⟨rfl, hb2⟩
    replace hb1 := bthen hb1 hb2
    clear hc hfr hb2 hz
    obtain ⟨hc, hfr⟩ := bcell hb1
    go_wp2
    exact bodyPost_ret (v := .tuple #[.agg #[.int .i64 (2), .int .i64 (0), .float .f64 (x), .string ⟨#[]⟩, .slice none 0 0], .int .i64 0]) (by simp [results, Tryz.results49, go_sem, hc]) rfl ⟨rfl, below_ret hb1 _ _ _ _ _⟩
end Go.Proofs.YtgljglindgbjaaaGreatDoor


