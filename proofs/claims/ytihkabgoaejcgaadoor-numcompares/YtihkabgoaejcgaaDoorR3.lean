/- Contracts of Neg, Abs, Real, Whole on terms that are no right numbers; of Abs on those that are; of Whole on whole numbers. -/
import Derived.Test.YtihkabgoaejcgaaDoorX6
import Derived.Laws.BitsAllLaws
import Derived.WideShapes
namespace Go.Proofs.YtihkabgoaejcgaaDoor
open Go.RowKit
attribute [local go_sem] store_float
attribute [local go_sem ↓] Go.wp_at_zero Go.wp_at_succ

set_option maxHeartbeats 1000000 in
theorem neg_no (k n : Int) (f : Nat) (s : ByteArray) (a : Option Addr) (l c : Nat) (hf : f < 18446744073709551616) (h : rightB k n f s l = false) (w : World) :
    Calls Tryd.prog 19 #[.agg #[.int .i64 k, .int .i64 n, .float .f64 f, .string s, .slice a l c]] w fun e w' => e = .returned (.tuple #[.agg #[.int .i64 (0), .int .i64 (0), .float .f64 (0), .string ⟨#[]⟩, .slice none 0 0], .int .i64 11]) ∧ Below w.heap.size w w' := by
  have HR := hid h
  clear h
  go_enter Tryd.func19, Tryd.ntmps19
  go_wp2_with fail
  refine (valueOf_no k n f s a l c hf HR.out _).mono ?_
  rintro e w1 ⟨rfl, hb1⟩
  obtain ⟨RB, hW⟩ := afterA hb1
  clear hb1
  have RB2 := RB.alloc (.cells #[.int .i64 0, .int .i64 0, .int .u64 0] 62)
  obtain ⟨d0, d1, d2, d3, d4, g0, g1, g2, g3, g4, ltr⟩ := RB2
  clear RB
  go_wp2
  exact bodyPost_ret (v := .tuple #[.agg #[.int .i64 (0), .int .i64 (0), .float .f64 (0), .string ⟨#[]⟩, .slice none 0 0], .int .i64 11]) (by simp [results, Tryd.results19, go_sem, d0, d1, d2, d3, d4]) rfl ⟨rfl, below_set5 (below_a1 hW _) (by omega) _ _ _ _ _⟩

set_option maxHeartbeats 1000000 in
theorem abs_no (k n : Int) (f : Nat) (s : ByteArray) (a : Option Addr) (l c : Nat) (hf : f < 18446744073709551616) (h : rightB k n f s l = false) (w : World) :
    Calls Tryd.prog 21 #[.agg #[.int .i64 k, .int .i64 n, .float .f64 f, .string s, .slice a l c]] w fun e w' => e = .returned (.tuple #[.agg #[.int .i64 (0), .int .i64 (0), .float .f64 (0), .string ⟨#[]⟩, .slice none 0 0], .int .i64 11]) ∧ Below w.heap.size w w' := by
  have HR := hid h
  clear h
  go_enter Tryd.func21, Tryd.ntmps21
  go_wp2_with fail
  refine (valueOf_no k n f s a l c hf HR.out _).mono ?_
  rintro e w1 ⟨rfl, hb1⟩
  obtain ⟨RB, hW⟩ := afterA hb1
  clear hb1
  have RB2 := RB.alloc (.cells #[.int .i64 0, .int .i64 0, .int .u64 0] 62)
  obtain ⟨d0, d1, d2, d3, d4, g0, g1, g2, g3, g4, ltr⟩ := RB2
  clear RB
  go_wp2
  exact bodyPost_ret (v := .tuple #[.agg #[.int .i64 (0), .int .i64 (0), .float .f64 (0), .string ⟨#[]⟩, .slice none 0 0], .int .i64 11]) (by simp [results, Tryd.results21, go_sem, d0, d1, d2, d3, d4]) rfl ⟨rfl, below_set5 (below_a1 hW _) (by omega) _ _ _ _ _⟩

set_option maxHeartbeats 1000000 in
theorem real_no (k n : Int) (f : Nat) (s : ByteArray) (a : Option Addr) (l c : Nat) (hf : f < 18446744073709551616) (h : rightB k n f s l = false) (w : World) :
    Calls Tryd.prog 23 #[.agg #[.int .i64 k, .int .i64 n, .float .f64 f, .string s, .slice a l c]] w fun e w' => e = .returned (.tuple #[.agg #[.int .i64 (0), .int .i64 (0), .float .f64 (0), .string ⟨#[]⟩, .slice none 0 0], .int .i64 13]) ∧ Below w.heap.size w w' := by
  have HR := hid h
  clear h
  go_enter Tryd.func23, Tryd.ntmps23
  go_wp2_with fail
  refine (valueOf_no k n f s a l c hf HR.out _).mono ?_
  rintro e w1 ⟨rfl, hb1⟩
  obtain ⟨RB, hW⟩ := afterA hb1
  clear hb1
  have RB2 := RB.alloc (.cells #[.int .i64 0, .int .i64 0, .int .u64 0] 62)
  obtain ⟨d0, d1, d2, d3, d4, g0, g1, g2, g3, g4, ltr⟩ := RB2
  clear RB
  go_wp2
  exact bodyPost_ret (v := .tuple #[.agg #[.int .i64 (0), .int .i64 (0), .float .f64 (0), .string ⟨#[]⟩, .slice none 0 0], .int .i64 13]) (by simp [results, Tryd.results23, go_sem, d0, d1, d2, d3, d4]) rfl ⟨rfl, below_set5 (below_a1 hW _) (by omega) _ _ _ _ _⟩

set_option maxHeartbeats 1000000 in
theorem whole_b0 (how : ByteArray) (k n : Int) (f : Nat) (s : ByteArray) (a : Option Addr) (l c : Nat) (hf : f < 18446744073709551616) (h : rightB k n f s l = true) (iw : ∀ w, Calls Tryd.prog 56 #[.string how] w fun e w' => e = .returned (.bool false) ∧ w' = w) (w : World) :
    Calls Tryd.prog 25 #[.string how, .agg #[.int .i64 k, .int .i64 n, .float .f64 f, .string s, .slice a l c]] w fun e w' => e = .returned (.tuple #[.agg #[.int .i64 (0), .int .i64 (0), .float .f64 (0), .string ⟨#[]⟩, .slice none 0 0], .int .i64 13]) ∧ Below w.heap.size w w' := by
  have HR := hid h
  have IW := hid iw
  clear h iw
  go_enter Tryd.func25, Tryd.ntmps25
  go_wp2_with fail
  refine (valueOf_yes k n f s a l c hf HR.out _).mono ?_
  rintro e w1 ⟨rfl, hb1⟩
  obtain ⟨RB, hW⟩ := afterA hb1
  clear hb1
  have RB2 := RB.alloc (.cells #[.int .i64 k, .int .i64 n, .int .u64 f] 62)
  have HRB := hid RB2
  clear RB RB2
  go_wp2_with fail
  refine (IW.out _).mono ?_
  rintro e w' ⟨rfl, rfl⟩
  obtain ⟨d0, d1, d2, d3, d4, g0, g1, g2, g3, g4, ltr⟩ := HRB.out
  go_wp2
  exact bodyPost_ret (v := .tuple #[.agg #[.int .i64 (0), .int .i64 (0), .float .f64 (0), .string ⟨#[]⟩, .slice none 0 0], .int .i64 13]) (by simp [results, Tryd.results25, go_sem, d0, d1, d2, d3, d4]) rfl ⟨rfl, below_set5 (below_a1 hW _) (by omega) _ _ _ _ _⟩

set_option maxHeartbeats 1000000 in
theorem whole_b1 (how : ByteArray) (k n : Int) (f : Nat) (s : ByteArray) (a : Option Addr) (l c : Nat) (hf : f < 18446744073709551616) (h : rightB k n f s l = false) (iw : ∀ w, Calls Tryd.prog 56 #[.string how] w fun e w' => e = .returned (.bool false) ∧ w' = w) (w : World) :
    Calls Tryd.prog 25 #[.string how, .agg #[.int .i64 k, .int .i64 n, .float .f64 f, .string s, .slice a l c]] w fun e w' => e = .returned (.tuple #[.agg #[.int .i64 (0), .int .i64 (0), .float .f64 (0), .string ⟨#[]⟩, .slice none 0 0], .int .i64 13]) ∧ Below w.heap.size w w' := by
  have HR := hid h
  have IW := hid iw
  clear h iw
  go_enter Tryd.func25, Tryd.ntmps25
  go_wp2_with fail
  refine (valueOf_no k n f s a l c hf HR.out _).mono ?_
  rintro e w1 ⟨rfl, hb1⟩
  obtain ⟨RB, hW⟩ := afterA hb1
  clear hb1
  have RB2 := RB.alloc (.cells #[.int .i64 0, .int .i64 0, .int .u64 0] 62)
  have HRB := hid RB2
  clear RB RB2
  go_wp2_with fail
  refine (IW.out _).mono ?_
  rintro e w' ⟨rfl, rfl⟩
  obtain ⟨d0, d1, d2, d3, d4, g0, g1, g2, g3, g4, ltr⟩ := HRB.out
  go_wp2
  exact bodyPost_ret (v := .tuple #[.agg #[.int .i64 (0), .int .i64 (0), .float .f64 (0), .string ⟨#[]⟩, .slice none 0 0], .int .i64 13]) (by simp [results, Tryd.results25, go_sem, d0, d1, d2, d3, d4]) rfl ⟨rfl, below_set5 (below_a1 hW _) (by omega) _ _ _ _ _⟩

set_option maxHeartbeats 1000000 in
theorem whole_b2 (how : ByteArray) (k n : Int) (f : Nat) (s : ByteArray) (a : Option Addr) (l c : Nat) (hf : f < 18446744073709551616) (h : rightB k n f s l = false) (iw : ∀ w, Calls Tryd.prog 56 #[.string how] w fun e w' => e = .returned (.bool true) ∧ w' = w) (w : World) :
    Calls Tryd.prog 25 #[.string how, .agg #[.int .i64 k, .int .i64 n, .float .f64 f, .string s, .slice a l c]] w fun e w' => e = .returned (.tuple #[.agg #[.int .i64 (0), .int .i64 (0), .float .f64 (0), .string ⟨#[]⟩, .slice none 0 0], .int .i64 13]) ∧ Below w.heap.size w w' := by
  have HR := hid h
  have IW := hid iw
  clear h iw
  go_enter Tryd.func25, Tryd.ntmps25
  go_wp2_with fail
  refine (valueOf_no k n f s a l c hf HR.out _).mono ?_
  rintro e w1 ⟨rfl, hb1⟩
  obtain ⟨RB, hW⟩ := afterA hb1
  clear hb1
  have RB2 := RB.alloc (.cells #[.int .i64 0, .int .i64 0, .int .u64 0] 62)
  have HRB := hid RB2
  clear RB RB2
  go_wp2_with fail
  refine (IW.out _).mono ?_
  rintro e w' ⟨rfl, rfl⟩
  obtain ⟨d0, d1, d2, d3, d4, g0, g1, g2, g3, g4, ltr⟩ := HRB.out
  go_wp2
  exact bodyPost_ret (v := .tuple #[.agg #[.int .i64 (0), .int .i64 (0), .float .f64 (0), .string ⟨#[]⟩, .slice none 0 0], .int .i64 13]) (by simp [results, Tryd.results25, go_sem, d0, d1, d2, d3, d4]) rfl ⟨rfl, below_set5 (below_a1 hW _) (by omega) _ _ _ _ _⟩

set_option maxHeartbeats 1000000 in
theorem whole_int (how : ByteArray) (n : Int) (f : Nat) (s : ByteArray) (a : Option Addr) (l c : Nat) (hf : f < 18446744073709551616) (h : rightB 1 n f s l = true) (iw : ∀ w, Calls Tryd.prog 56 #[.string how] w fun e w' => e = .returned (.bool true) ∧ w' = w) (w : World) :
    Calls Tryd.prog 25 #[.string how, .agg #[.int .i64 1, .int .i64 n, .float .f64 f, .string s, .slice a l c]] w fun e w' => e = .returned (.tuple #[.agg #[.int .i64 ((numInt n).k), .int .i64 ((numInt n).n), .float .f64 ((numInt n).f), .string ⟨#[]⟩, .slice none 0 0], .int .i64 (numInt n).e]) ∧ Below w.heap.size w w' := by
  have HR := hid h
  have IW := hid iw
  clear h iw
  go_enter Tryd.func25, Tryd.ntmps25
  go_wp2_with fail
  refine (valueOf_yes 1 n f s a l c hf HR.out _).mono ?_
  rintro e w1 ⟨rfl, hb1⟩
  obtain ⟨RB, hW⟩ := afterA hb1
  have HRB := hid RB
  clear hb1 RB
  go_wp2_with fail
  refine (IW.out _).mono ?_
  rintro e w' ⟨rfl, rfl⟩
  go_wp2_with fail
  refine (numInt_any _ _).mono ?_
  rintro e w2 ⟨rfl, hb2⟩
  have RB2 := (HRB.out.alloc _).keep hb2
  have hW2 : Below w.heap.size w w2 := (hW.alloc hW.size _).trans (hb2.mono (by have := hW.size; simp; omega))
  obtain ⟨d0, d1, d2, d3, d4, g0, g1, g2, g3, g4, ltr⟩ := RB2
  clear hb2 HRB
  go_wp2
  exact bodyPost_ret (v := .tuple #[.agg #[.int .i64 ((numInt n).k), .int .i64 ((numInt n).n), .float .f64 ((numInt n).f), .string ⟨#[]⟩, .slice none 0 0], .int .i64 (numInt n).e]) (by simp [results, Tryd.results25, go_sem, d0, d1, d2, d3, d4]) rfl ⟨rfl, below_set5 hW2 (by omega) _ _ _ _ _⟩

set_option maxHeartbeats 1000000 in
theorem abs_2 (n : Int) (u M : Nat) (hM : u % 9223372036854775808 = M) (s : ByteArray) (a : Option Addr) (l c : Nat) (hu : u < 18446744073709551616) (h : rightB 2 n u s l = true) (w : World) :
    Calls Tryd.prog 21 #[.agg #[.int .i64 2, .int .i64 n, .float .f64 u, .string s, .slice a l c]] w fun e w' =>
      e = .returned (.tuple #[.agg #[.int .i64 ((numBits M).k), .int .i64 ((numBits M).n), .float .f64 ((numBits M).f), .string ⟨#[]⟩, .slice none 0 0], .int .i64 (numBits M).e]) ∧ Below w.heap.size w w' := by
  have hx : bits .andNot .u64 (u : Int) 9223372036854775808 = (M : Int) := by
    rw [← hM]
    have := u64_andNot_nat u 9223372036854775808 hu (by decide)
    rw [show 18446744073709551615 - 9223372036854775808 = 2 ^ 63 - 1 by decide, Nat.and_two_pow_sub_one_eq_mod] at this
    exact this
  have HR := hid h
  have HL : Hid (M < 18446744073709551616) := by show _ < _; omega
  have HU := hid hu
  clear h hu hM
  go_enter Tryd.func21, Tryd.ntmps21
  go_wp2_with fail
  refine (valueOf_yes 2 n u s a l c HU.out HR.out _).mono ?_
  rintro e w1 ⟨rfl, hb1⟩
  obtain ⟨RB, hW⟩ := afterA hb1
  have HRB := hid RB
  clear hb1 RB
  go_wp2_with fail
  refine (numBits_any _ HL.out _).mono ?_
  rintro e w2 ⟨rfl, hb2⟩
  have RB2 := (HRB.out.alloc _).keep hb2
  have hW2 : Below w.heap.size w w2 := (hW.alloc hW.size _).trans (hb2.mono (by have := hW.size; simp; omega))
  obtain ⟨d0, d1, d2, d3, d4, g0, g1, g2, g3, g4, ltr⟩ := RB2
  clear hb2 HRB
  go_wp2
  exact bodyPost_ret (v := .tuple #[.agg #[.int .i64 ((numBits M).k), .int .i64 ((numBits M).n), .float .f64 ((numBits M).f), .string ⟨#[]⟩, .slice none 0 0], .int .i64 (numBits M).e]) (by simp [results, Tryd.results21, go_sem, d0, d1, d2, d3, d4]) rfl ⟨rfl, below_set5 hW2 (by omega) _ _ _ _ _⟩

set_option maxHeartbeats 1000000 in
theorem abs_1p (n : Int) (u : Nat) (s : ByteArray) (a : Option Addr) (l c : Nat) (hu : u < 18446744073709551616) (h : rightB 1 n u s l = true) (hw : whB n = true) (hs : 0 ≤ n) (w : World) :
    Calls Tryd.prog 21 #[.agg #[.int .i64 1, .int .i64 n, .float .f64 u, .string s, .slice a l c]] w fun e w' =>
      e = .returned (.tuple #[.agg #[.int .i64 ((numInt n).k), .int .i64 ((numInt n).n), .float .f64 ((numInt n).f), .string ⟨#[]⟩, .slice none 0 0], .int .i64 (numInt n).e]) ∧ Below w.heap.size w w' := by
  have HR := hid h
  obtain ⟨b1, b2⟩ := whB_yes hw
  clear h hw
  go_enter Tryd.func21, Tryd.ntmps21
  go_wp2_with fail
  refine (valueOf_yes 1 n u s a l c hu HR.out _).mono ?_
  rintro e w1 ⟨rfl, hb1⟩
  obtain ⟨RB, hW⟩ := afterA hb1
  have HRB := hid RB
  clear hb1 RB
  go_wp2_with fail
  refine (numInt_any _ _).mono ?_
  rintro e w2 ⟨rfl, hb2⟩
  have RB2 := (HRB.out.alloc _).keep hb2
  have hW2 : Below w.heap.size w w2 := (hW.alloc hW.size _).trans (hb2.mono (by have := hW.size; simp; omega))
  obtain ⟨d0, d1, d2, d3, d4, g0, g1, g2, g3, g4, ltr⟩ := RB2
  clear hb2 HRB
  go_wp2
  exact bodyPost_ret (v := .tuple #[.agg #[.int .i64 ((numInt n).k), .int .i64 ((numInt n).n), .float .f64 ((numInt n).f), .string ⟨#[]⟩, .slice none 0 0], .int .i64 (numInt n).e]) (by simp [results, Tryd.results21, go_sem, d0, d1, d2, d3, d4]) rfl ⟨rfl, below_set5 hW2 (by omega) _ _ _ _ _⟩

set_option maxHeartbeats 1000000 in
theorem abs_1n (n : Int) (u : Nat) (s : ByteArray) (a : Option Addr) (l c : Nat) (hu : u < 18446744073709551616) (h : rightB 1 n u s l = true) (hw : whB n = true) (hs : n < 0) (w : World) :
    Calls Tryd.prog 21 #[.agg #[.int .i64 1, .int .i64 n, .float .f64 u, .string s, .slice a l c]] w fun e w' =>
      e = .returned (.tuple #[.agg #[.int .i64 ((numInt (-n)).k), .int .i64 ((numInt (-n)).n), .float .f64 ((numInt (-n)).f), .string ⟨#[]⟩, .slice none 0 0], .int .i64 (numInt (-n)).e]) ∧ Below w.heap.size w w' := by
  have HR := hid h
  obtain ⟨b1, b2⟩ := whB_yes hw
  clear h hw
  go_enter Tryd.func21, Tryd.ntmps21
  go_wp2_with fail
  refine (valueOf_yes 1 n u s a l c hu HR.out _).mono ?_
  rintro e w1 ⟨rfl, hb1⟩
  obtain ⟨RB, hW⟩ := afterA hb1
  have HRB := hid RB
  clear hb1 RB
  go_wp2_with fail
  refine (numInt_any _ _).mono ?_
  rintro e w2 ⟨rfl, hb2⟩
  have RB2 := (HRB.out.alloc _).keep hb2
  have hW2 : Below w.heap.size w w2 := (hW.alloc hW.size _).trans (hb2.mono (by have := hW.size; simp; omega))
  obtain ⟨d0, d1, d2, d3, d4, g0, g1, g2, g3, g4, ltr⟩ := RB2
  clear hb2 HRB
  go_wp2
  exact bodyPost_ret (v := .tuple #[.agg #[.int .i64 ((numInt (-n)).k), .int .i64 ((numInt (-n)).n), .float .f64 ((numInt (-n)).f), .string ⟨#[]⟩, .slice none 0 0], .int .i64 (numInt (-n)).e]) (by simp [results, Tryd.results21, go_sem, d0, d1, d2, d3, d4]) rfl ⟨rfl, below_set5 hW2 (by omega) _ _ _ _ _⟩

theorem isWay_not (how : ByteArray) (h1 : (how.toList == [116, 114, 117, 110, 99]) = false) (h2 : (how.toList == [114, 111, 117, 110, 100]) = false) (h3 : (how.toList == [102, 108, 111, 111, 114]) = false) (h4 : (how.toList == [99, 101, 105, 108]) = false) (w : World) : Calls Tryd.prog 56 #[.string how] w fun e w' => e = .returned (.bool false) ∧ w' = w := by
  go_enter Tryd.func56, Tryd.ntmps56
  go_wp2
  go_ret
  exact ⟨rfl, rfl⟩

theorem bytes_of {s t : ByteArray} (h : (s.toList == t.data.toList) = true) : s = t := by
  rw [ByteArray.toList_eq] at h
  exact WideShapes.bytes_inj (by simpa using h)

/-- a way is one of the four, or none -/
theorem way_or (how : ByteArray) : (∃ i, how = way i) ∨ ((how.toList == [116, 114, 117, 110, 99]) = false ∧ (how.toList == [114, 111, 117, 110, 100]) = false ∧ (how.toList == [102, 108, 111, 111, 114]) = false ∧ (how.toList == [99, 101, 105, 108]) = false) := by
  cases h1 : (how.toList == [116, 114, 117, 110, 99])
  · cases h2 : (how.toList == [114, 111, 117, 110, 100])
    · cases h3 : (how.toList == [102, 108, 111, 111, 114])
      · cases h4 : (how.toList == [99, 101, 105, 108])
        · exact Or.inr ⟨rfl, rfl, rfl, rfl⟩
        · exact Or.inl ⟨2, bytes_of (t := ⟨#[99, 101, 105, 108]⟩) h4⟩
      · exact Or.inl ⟨1, bytes_of (t := ⟨#[102, 108, 111, 111, 114]⟩) h3⟩
    · exact Or.inl ⟨3, bytes_of (t := ⟨#[114, 111, 117, 110, 100]⟩) h2⟩
  · exact Or.inl ⟨0, bytes_of (t := ⟨#[116, 114, 117, 110, 99]⟩) h1⟩
end Go.Proofs.YtihkabgoaejcgaaDoor
