/- Cmp and Same of right numbers: by their values; by their fields. -/
import Derived.Test.YtihkabgoaejcgaaDoorX2
import Derived.Test.YtihkabgoaejcgaaDoorK1
import Derived.Deep.DrawnRows
namespace Go.Proofs.YtihkabgoaejcgaaDoor
open Go.RowKit
open Flt (ordI exactV)
attribute [local go_sem] store_float
attribute [local go_sem ↓] Go.wp_at_zero Go.wp_at_succ

/-- a right number's value in units -/
def valU (k n : Int) (f : Nat) : Int := if k = 1 then n * Flt.P else Flt.U f

theorem valU_1 (n : Int) (f : Nat) : valU 1 n f = n * Flt.P := rfl
theorem valU_2 (n : Int) (f : Nat) : valU 2 n f = Flt.U f := rfl

/-- behind the first call of two that are handed boxed terms -/
theorem after2 {w w1 : World} {o1 : Obj} {t2 : TypeId} {b0 b1 b2 b3 b4 : Value}
    (hb : Below ((w.alloc o1).alloc (.cells #[b0, b1, b2, b3, b4] t2)).heap.size ((w.alloc o1).alloc (.cells #[b0, b1, b2, b3, b4] t2)) w1) :
    Box w1 (w.heap.size + 1) b0 b1 b2 b3 b4 ∧ Below w.heap.size w w1 := by
  have e1 : (w.alloc o1).heap.size = w.heap.size + 1 := by simp
  refine ⟨?_, ((below_new w o1).alloc (by simp) _).trans (hb.mono (by simp; omega))⟩
  rw [← e1]; exact (Box.new _ _ _ _ _ _ _).keep hb

theorem ord_neg (a b : Int) : -ordI (compare a b) = ordI (compare b a) := by
  rw [swap_compare b a]; cases compare b a <;> rfl

theorem compare_i (x y : Int) : (if x < y then (-1 : Int) else if y < x then 1 else 0) = ordI (compare (x * Flt.P) (y * Flt.P)) := by
  rw [compare_P]
  rcases Int.lt_trichotomy x y with h | h | h
  · rw [if_pos h, Int.compare_eq_lt.2 h]; rfl
  · subst h; rw [if_neg (by omega), if_neg (by omega)]; simp [ordI]
  · rw [if_neg (by omega), if_pos h, Int.compare_eq_gt.2 h]; rfl
theorem below_a1 {w w2 : World} (h : Below w.heap.size w w2) (o : Obj) : Below w.heap.size w (w2.alloc o) := h.alloc h.size o
theorem below_a2 {w w2 : World} (h : Below w.heap.size w w2) (o o' : Obj) : Below w.heap.size w ((w2.alloc o).alloc o') := (below_a1 h o).alloc (below_a1 h o).size o'
theorem below_a3 {w w2 : World} (h : Below w.heap.size w w2) (o o' o'' : Obj) : Below w.heap.size w (((w2.alloc o).alloc o').alloc o'') := (below_a2 h o o').alloc (below_a2 h o o').size o''

theorem int_wide {n : Int} {f l : Nat} {s : ByteArray} (h : rightB 1 n f s l = true) : -576460752303423488 ≤ n ∧ n ≤ 576460752303423487 := by
  simp only [rightB, Bool.and_eq_true, Bool.or_eq_true, beq_iff_eq] at h
  rcases h.1.1 with ⟨⟨_, hn⟩, _⟩ | ⟨⟨h2, _⟩, _⟩
  · exact whB_yes hn
  · exact absurd h2 (by omega)

theorem flt_fin {n : Int} {f l : Nat} {s : ByteArray} (h : rightB 2 n f s l = true) : Flt.fin f = true := by
  simp only [rightB, Bool.and_eq_true, Bool.or_eq_true, beq_iff_eq] at h
  rcases h.1.1 with ⟨⟨h2, _⟩, _⟩ | ⟨_, hn⟩
  · exact absurd h2 (by omega)
  · exact hn

set_option maxHeartbeats 1000000 in
theorem cmp_11 (n n' : Int) (f f' : Nat) (s s' : ByteArray) (a a' : Option Addr) (l c l' c' : Nat) (hf : f < 18446744073709551616) (hf' : f' < 18446744073709551616) (h : rightB 1 n f s l = true) (h' : rightB 1 n' f' s' l' = true) (w : World) :
    Calls Tryd.prog 33 #[.agg #[.int .i64 1, .int .i64 n, .float .f64 f, .string s, .slice a l c], .agg #[.int .i64 1, .int .i64 n', .float .f64 f', .string s', .slice a' l' c']] w fun e w' =>
      e = .returned (.int .i64 (ordI (compare (valU 1 n f) (valU 1 n' f')))) ∧ Below w.heap.size w w' := by
  rw [valU_1, valU_1, ← compare_i n n']
  have HR := hid h
  have HR' := hid h'
  clear h h'
  go_enter Tryd.func33, Tryd.ntmps33
  go_wp2_with fail
  refine (valueOf_yes 1 n f s a l c hf HR.out _).mono ?_
  rintro e w1 ⟨rfl, hb1⟩
  obtain ⟨⟨c0, c1, c2, c3, c4, _, _, _, _, _, lt⟩, hW⟩ := after2 hb1
  clear hb1
  go_wp2_with fail
  refine (valueOf_yes 1 n' f' s' a' l' c' hf' HR'.out _).mono ?_
  rintro e w2 ⟨rfl, hb2⟩
  clear c0 c1 c2 c3 c4 lt
  obtain ⟨⟨x0, x1, x2, ltx⟩, hk, hW2⟩ := later3 hW hb2
  clear hb2 hk hW
  go_wp2_with (go_at_call 60; refine (compare_ints _ _ _).mono ?_; rintro e w' ⟨rfl, rfl⟩)
  all_goals
    go_ret
    exact ⟨rfl, by
      (repeat (first | refine Below.drew ?_ | refine below_drewN ?_ _))
      (first | exact below_a1 hW2 _ | exact below_a2 hW2 _ _ | exact below_a3 hW2 _ _ _)⟩

set_option maxHeartbeats 1000000 in
theorem cmp_21 (n n' : Int) (f f' : Nat) (s s' : ByteArray) (a a' : Option Addr) (l c l' c' : Nat) (hf : f < 18446744073709551616) (hf' : f' < 18446744073709551616) (h : rightB 2 n f s l = true) (h' : rightB 1 n' f' s' l' = true) (w : World) :
    Calls Tryd.prog 33 #[.agg #[.int .i64 2, .int .i64 n, .float .f64 f, .string s, .slice a l c], .agg #[.int .i64 1, .int .i64 n', .float .f64 f', .string s', .slice a' l' c']] w fun e w' =>
      e = .returned (.int .i64 (ordI (compare (valU 2 n f) (valU 1 n' f')))) ∧ Below w.heap.size w w' := by
  have hw := int_wide h'
  have EX := hidE (exact_val f n' hf (flt_fin h) (by omega) (by omega))
  rw [valU_2, valU_1]
  clear hw
  have HR := hid h
  have HR' := hid h'
  clear h h'
  go_enter Tryd.func33, Tryd.ntmps33
  go_wp2_with fail
  refine (valueOf_yes 2 n f s a l c hf HR.out _).mono ?_
  rintro e w1 ⟨rfl, hb1⟩
  obtain ⟨⟨c0, c1, c2, c3, c4, _, _, _, _, _, lt⟩, hW⟩ := after2 hb1
  clear hb1
  go_wp2_with fail
  refine (valueOf_yes 1 n' f' s' a' l' c' hf' HR'.out _).mono ?_
  rintro e w2 ⟨rfl, hb2⟩
  clear c0 c1 c2 c3 c4 lt
  obtain ⟨⟨x0, x1, x2, ltx⟩, hk, hW2⟩ := later3 hW hb2
  clear hb2 hk hW
  go_wp2_with fail
  go_region_with (first | (go_at_call 51; refine (real_at _ _ _ _).mono ?_; rintro e w' ⟨rfl, rfl⟩) | (go_at_call 30; refine (EX.out _).mono ?_; rintro e w' ⟨rfl, rfl⟩))
  all_goals go_wp2
  all_goals
    go_ret
    exact ⟨rfl, by
      (repeat (first | refine Below.drew ?_ | refine below_drewN ?_ _))
      (first | exact below_a1 hW2 _ | exact below_a2 hW2 _ _ | exact below_a3 hW2 _ _ _)⟩

set_option maxHeartbeats 1000000 in
theorem cmp_12 (n n' : Int) (f f' : Nat) (s s' : ByteArray) (a a' : Option Addr) (l c l' c' : Nat) (hf : f < 18446744073709551616) (hf' : f' < 18446744073709551616) (h : rightB 1 n f s l = true) (h' : rightB 2 n' f' s' l' = true) (w : World) :
    Calls Tryd.prog 33 #[.agg #[.int .i64 1, .int .i64 n, .float .f64 f, .string s, .slice a l c], .agg #[.int .i64 2, .int .i64 n', .float .f64 f', .string s', .slice a' l' c']] w fun e w' =>
      e = .returned (.int .i64 (ordI (compare (valU 1 n f) (valU 2 n' f')))) ∧ Below w.heap.size w w' := by
  have hw := int_wide h
  have EX := hidE (exact_val f' n hf' (flt_fin h') (by omega) (by omega))
  rw [valU_2, valU_1, ← ord_neg]
  have hob : ∃ o : Int, ordI (compare (Flt.U f') (n * Flt.P)) = o ∧ -1 ≤ o ∧ o ≤ 1 := ⟨_, rfl, by cases compare (Flt.U f') (n * Flt.P) <;> decide, by cases compare (Flt.U f') (n * Flt.P) <;> decide⟩
  obtain ⟨o, ho, o1, o2⟩ := hob
  rw [ho] at EX ⊢
  have hng : IntKind.i64.wrap (-o) = -o := by rw [IntKind.wrap_i64]; omega
  clear ho hw
  have HR := hid h
  have HR' := hid h'
  clear h h'
  go_enter Tryd.func33, Tryd.ntmps33
  go_wp2_with fail
  refine (valueOf_yes 1 n f s a l c hf HR.out _).mono ?_
  rintro e w1 ⟨rfl, hb1⟩
  obtain ⟨⟨c0, c1, c2, c3, c4, _, _, _, _, _, lt⟩, hW⟩ := after2 hb1
  clear hb1
  go_wp2_with fail
  refine (valueOf_yes 2 n' f' s' a' l' c' hf' HR'.out _).mono ?_
  rintro e w2 ⟨rfl, hb2⟩
  clear c0 c1 c2 c3 c4 lt
  obtain ⟨⟨x0, x1, x2, ltx⟩, hk, hW2⟩ := later3 hW hb2
  clear hb2 hk hW
  go_wp2_with fail
  go_region_with (first | (go_at_call 51; refine (real_at _ _ _ _).mono ?_; rintro e w' ⟨rfl, rfl⟩) | (go_at_call 30; refine (EX.out _).mono ?_; rintro e w' ⟨rfl, rfl⟩))
  all_goals go_wp2
  all_goals
    go_ret
    exact ⟨rfl, by
      (repeat (first | refine Below.drew ?_ | refine below_drewN ?_ _))
      (first | exact below_a1 hW2 _ | exact below_a2 hW2 _ _ | exact below_a3 hW2 _ _ _)⟩

set_option maxHeartbeats 1000000 in
theorem cmp_22 (n n' : Int) (f f' : Nat) (s s' : ByteArray) (a a' : Option Addr) (l c l' c' : Nat) (hf : f < 18446744073709551616) (hf' : f' < 18446744073709551616) (h : rightB 2 n f s l = true) (h' : rightB 2 n' f' s' l' = true) (w : World) :
    Calls Tryd.prog 33 #[.agg #[.int .i64 2, .int .i64 n, .float .f64 f, .string s, .slice a l c], .agg #[.int .i64 2, .int .i64 n', .float .f64 f', .string s', .slice a' l' c']] w fun e w' =>
      e = .returned (.int .i64 (ordI (compare (valU 2 n f) (valU 2 n' f')))) ∧ Below w.heap.size w w' := by
  have k1 := flt_fin h
  have k2 := flt_fin h'
  have EX := hidE (compare_floats f f' (compare (Flt.U f) (Flt.U f')) (by show Ieee.double.order f f = _; rw [Flt.order_U hf hf k1 k1]; simp) (by show Ieee.double.order f' f' = _; rw [Flt.order_U hf' hf' k2 k2]; simp) (Flt.order_U hf hf' k1 k2) (by show Ieee.double.order f' f = _; rw [Flt.order_U hf' hf k2 k1, swap_compare]))
  rw [valU_2, valU_2]
  clear k1 k2
  have HR := hid h
  have HR' := hid h'
  clear h h'
  go_enter Tryd.func33, Tryd.ntmps33
  go_wp2_with fail
  refine (valueOf_yes 2 n f s a l c hf HR.out _).mono ?_
  rintro e w1 ⟨rfl, hb1⟩
  obtain ⟨⟨c0, c1, c2, c3, c4, _, _, _, _, _, lt⟩, hW⟩ := after2 hb1
  clear hb1
  go_wp2_with fail
  refine (valueOf_yes 2 n' f' s' a' l' c' hf' HR'.out _).mono ?_
  rintro e w2 ⟨rfl, hb2⟩
  clear c0 c1 c2 c3 c4 lt
  obtain ⟨⟨x0, x1, x2, ltx⟩, hk, hW2⟩ := later3 hW hb2
  clear hb2 hk hW
  go_wp2_with fail
  go_region_with (first | (go_at_call 51; refine (real_at _ _ _ _).mono ?_; rintro e w' ⟨rfl, rfl⟩) | (go_at_call 61; refine (EX.out _).mono ?_; rintro e w' ⟨rfl, rfl⟩))
  all_goals go_wp2
  all_goals
    go_ret
    exact ⟨rfl, by
      (repeat (first | refine Below.drew ?_ | refine below_drewN ?_ _))
      (first | exact below_a1 hW2 _ | exact below_a2 hW2 _ _ | exact below_a3 hW2 _ _ _)⟩

theorem right_kind {k n : Int} {f : Nat} {s : ByteArray} {l : Nat} (h : rightB k n f s l = true) : k = 1 ∨ k = 2 := by
  simp only [rightB, Bool.and_eq_true, Bool.or_eq_true, beq_iff_eq] at h
  rcases h.1.1 with ⟨⟨h2, _⟩, _⟩ | ⟨⟨h2, _⟩, _⟩
  · exact Or.inl h2
  · exact Or.inr h2

theorem cmp_any (k n k' n' : Int) (f f' : Nat) (s s' : ByteArray) (a a' : Option Addr) (l c l' c' : Nat) (hf : f < 18446744073709551616) (hf' : f' < 18446744073709551616) (h : rightB k n f s l = true) (h' : rightB k' n' f' s' l' = true) (w : World) :
    Calls Tryd.prog 33 #[.agg #[.int .i64 k, .int .i64 n, .float .f64 f, .string s, .slice a l c], .agg #[.int .i64 k', .int .i64 n', .float .f64 f', .string s', .slice a' l' c']] w fun e w' =>
      e = .returned (.int .i64 (ordI (compare (valU k n f) (valU k' n' f')))) ∧ Below w.heap.size w w' := by
  rcases right_kind h with rfl | rfl <;> rcases right_kind h' with rfl | rfl
  · exact cmp_11 n n' f f' s s' a a' l c l' c' hf hf' h h' w
  · exact cmp_12 n n' f f' s s' a a' l c l' c' hf hf' h h' w
  · exact cmp_21 n n' f f' s s' a a' l c l' c' hf hf' h h' w
  · exact cmp_22 n n' f f' s s' a a' l c l' c' hf hf' h h' w

set_option maxHeartbeats 1000000 in
theorem nsame_any (k n k' n' : Int) (f f' : Nat) (s s' : ByteArray) (a a' : Option Addr) (l c l' c' : Nat) (hf : f < 18446744073709551616) (hf' : f' < 18446744073709551616) (h : rightB k n f s l = true) (h' : rightB k' n' f' s' l' = true) (w : World) :
    Calls Tryd.prog 35 #[.agg #[.int .i64 k, .int .i64 n, .float .f64 f, .string s, .slice a l c], .agg #[.int .i64 k', .int .i64 n', .float .f64 f', .string s', .slice a' l' c']] w fun e w' =>
      e = .returned (.bool (k == k' && (n == n' && (f : Int) == (f' : Int)))) ∧ Below w.heap.size w w' := by
  have he := eqV
  have HR := hid h
  have HR' := hid h'
  clear h h'
  go_enter Tryd.func35, Tryd.ntmps35
  go_wp2_with fail
  refine (valueOf_yes k n f s a l c hf HR.out _).mono ?_
  rintro e w1 ⟨rfl, hb1⟩
  obtain ⟨⟨c0, c1, c2, c3, c4, _, _, _, _, _, lt⟩, hW⟩ := after2 hb1
  clear hb1
  go_wp2_with fail
  refine (valueOf_yes k' n' f' s' a' l' c' hf' HR'.out _).mono ?_
  rintro e w2 ⟨rfl, hb2⟩
  clear c0 c1 c2 c3 c4 lt
  obtain ⟨⟨x0, x1, x2, ltx⟩, hk, hW2⟩ := later3 hW hb2
  clear hb2 hk hW
  go_wp2
  all_goals
    go_ret
    exact ⟨rfl, by (first | exact below_a1 hW2 _ | exact below_a2 hW2 _ _ | exact below_a3 hW2 _ _ _)⟩
end Go.Proofs.YtihkabgoaejcgaaDoor
