/- The document's Whole walked. -/
import Derived.Test.YtihkabgoaejcgaaDoorV5
import Derived.Test.YtihkabgoaejcgaaDoorFltN
namespace Go.Proofs.YtihkabgoaejcgaaDoor
open Go.RowKit
attribute [local go_sem] store_float
attribute [local go_sem ↓] Go.wp_at_zero Go.wp_at_succ

theorem two_new {w : World} (o1 o2 : Obj) : Below w.heap.size w ((w.alloc o1).alloc o2) := (below_new w o1).alloc (by simp) o2

set_option maxHeartbeats 1000000 in
theorem rwhole_bad (how : ByteArray) (k n : Int) (f : Nat) (s : ByteArray) (a : Option Addr) (l c : Nat) (h1 : (how.toList == [116, 114, 117, 110, 99]) = false) (h2 : (how.toList == [114, 111, 117, 110, 100]) = false) (h3 : (how.toList == [102, 108, 111, 111, 114]) = false) (h4 : (how.toList == [99, 101, 105, 108]) = false) (w : World) :
    Calls Tryd.prog 26 #[.string how, .agg #[.int .i64 k, .int .i64 n, .float .f64 f, .string s, .slice a l c]] w fun e w' => e = .returned (.tuple #[.agg #[.int .i64 (0), .int .i64 (0), .float .f64 (0), .string ⟨#[]⟩, .slice none 0 0], .int .i64 13]) ∧ Below w.heap.size w w' := by
  go_enter Tryd.func26, Tryd.ntmps26
  go_wp2
  exact bodyPost_ret (v := .tuple #[.agg #[.int .i64 (0), .int .i64 (0), .float .f64 (0), .string ⟨#[]⟩, .slice none 0 0], .int .i64 13]) (by simp [results, Tryd.results26, go_sem]) rfl ⟨rfl, two_new _ _⟩

set_option maxHeartbeats 1000000 in
theorem rwhole_no0 (k n : Int) (f : Nat) (s : ByteArray) (a : Option Addr) (l c : Nat) (h : rightB k n f s l = false) (w : World) :
    Calls Tryd.prog 26 #[.string ⟨#[116, 114, 117, 110, 99]⟩, .agg #[.int .i64 k, .int .i64 n, .float .f64 f, .string s, .slice a l c]] w fun e w' =>
      e = .returned (.tuple #[.agg #[.int .i64 0, .int .i64 0, .float .f64 0, .string ⟨#[]⟩, .slice none 0 0], .int .i64 13]) ∧ Below w.heap.size w w' := by
  have HR := hid h
  clear h
  go_enter Tryd.func26, Tryd.ntmps26
  go_wp2_with fail
  refine (refRight_any k n f s a l c _).mono ?_
  rintro e w1 ⟨rfl, hb1⟩
  rw [HR.out]
  obtain ⟨BA, RB, hW⟩ := afterAB hb1
  have HRB := hid RB
  obtain ⟨A0, A1, A2, A3, A4, _, _, _, _, _, Al⟩ := BA
  clear hb1 RB
  obtain ⟨d0, d1, d2, d3, d4, g0, g1, g2, g3, g4, ltr⟩ := HRB.out
  go_wp2
  exact bodyPost_ret (v := .tuple #[.agg #[.int .i64 (0), .int .i64 (0), .float .f64 (0), .string ⟨#[]⟩, .slice none 0 0], .int .i64 13]) (by simp [results, Tryd.results26, go_sem, d0, d1, d2, d3, d4]) rfl ⟨rfl, below_set5 hW (by omega) _ _ _ _ _⟩

set_option maxHeartbeats 1000000 in
theorem rwhole_int0 (n : Int) (f : Nat) (s : ByteArray) (a : Option Addr) (l c : Nat) (h : rightB 1 n f s l = true) (w : World) :
    Calls Tryd.prog 26 #[.string ⟨#[116, 114, 117, 110, 99]⟩, .agg #[.int .i64 1, .int .i64 n, .float .f64 f, .string s, .slice a l c]] w fun e w' =>
      e = .returned (.tuple #[.agg #[.int .i64 1, .int .i64 n, .float .f64 f, .string s, .slice a l c], .int .i64 0]) ∧ Below w.heap.size w w' := by
  have HR := hid h
  clear h
  go_enter Tryd.func26, Tryd.ntmps26
  go_wp2_with fail
  refine (refRight_any 1 n f s a l c _).mono ?_
  rintro e w1 ⟨rfl, hb1⟩
  rw [HR.out]
  obtain ⟨BA, RB, hW⟩ := afterAB hb1
  have HRB := hid RB
  obtain ⟨A0, A1, A2, A3, A4, _, _, _, _, _, Al⟩ := BA
  clear hb1 RB
  obtain ⟨d0, d1, d2, d3, d4, g0, g1, g2, g3, g4, ltr⟩ := HRB.out
  go_wp2
  exact bodyPost_ret (v := .tuple #[.agg #[.int .i64 1, .int .i64 n, .float .f64 f, .string s, .slice a l c], .int .i64 0]) (by simp [results, Tryd.results26, go_sem, d0, d1, d2, d3, d4]) rfl ⟨rfl, below_set5 hW (by omega) _ _ _ _ _⟩

set_option maxHeartbeats 1000000 in
theorem rwhole_hi0 (n : Int) (f : Nat) (s : ByteArray) (a : Option Addr) (l c : Nat) (h : rightB 2 n f s l = true) (o : FloatKind.f64.format.order f 4877398396442247168 = some .gt ∨ FloatKind.f64.format.order f 4877398396442247168 = some .eq) (w : World) :
    Calls Tryd.prog 26 #[.string ⟨#[116, 114, 117, 110, 99]⟩, .agg #[.int .i64 2, .int .i64 n, .float .f64 f, .string s, .slice a l c]] w fun e w' =>
      e = .returned (.tuple #[.agg #[.int .i64 0, .int .i64 0, .float .f64 0, .string ⟨#[]⟩, .slice none 0 0], .int .i64 12]) ∧ Below w.heap.size w w' := by
  have HR := hid h
  clear h
  go_enter Tryd.func26, Tryd.ntmps26
  go_wp2_with fail
  refine (refRight_any 2 n f s a l c _).mono ?_
  rintro e w1 ⟨rfl, hb1⟩
  rw [HR.out]
  obtain ⟨BA, RB, hW⟩ := afterAB hb1
  have HRB := hid RB
  obtain ⟨A0, A1, A2, A3, A4, _, _, _, _, _, Al⟩ := BA
  clear hb1 RB
  rcases o with o | o
  all_goals
    obtain ⟨d0, d1, d2, d3, d4, g0, g1, g2, g3, g4, ltr⟩ := HRB.out
    go_wp2
    exact bodyPost_ret (v := .tuple #[.agg #[.int .i64 (0), .int .i64 (0), .float .f64 (0), .string ⟨#[]⟩, .slice none 0 0], .int .i64 12]) (by simp [results, Tryd.results26, go_sem, d0, d1, d2, d3, d4]) rfl ⟨rfl, below_set5 hW (by omega) _ _ _ _ _⟩

set_option maxHeartbeats 1000000 in
theorem rwhole_lo0 (n : Int) (f : Nat) (s : ByteArray) (a : Option Addr) (l c : Nat) (h : rightB 2 n f s l = true) (o1 : FloatKind.f64.format.order f 4877398396442247168 = some .lt) (o : FloatKind.f64.format.order f 14100770433297022976 = some .lt ∨ FloatKind.f64.format.order f 14100770433297022976 = some .eq) (w : World) :
    Calls Tryd.prog 26 #[.string ⟨#[116, 114, 117, 110, 99]⟩, .agg #[.int .i64 2, .int .i64 n, .float .f64 f, .string s, .slice a l c]] w fun e w' =>
      e = .returned (.tuple #[.agg #[.int .i64 0, .int .i64 0, .float .f64 0, .string ⟨#[]⟩, .slice none 0 0], .int .i64 12]) ∧ Below w.heap.size w w' := by
  have HR := hid h
  clear h
  go_enter Tryd.func26, Tryd.ntmps26
  go_wp2_with fail
  refine (refRight_any 2 n f s a l c _).mono ?_
  rintro e w1 ⟨rfl, hb1⟩
  rw [HR.out]
  obtain ⟨BA, RB, hW⟩ := afterAB hb1
  have HRB := hid RB
  obtain ⟨A0, A1, A2, A3, A4, _, _, _, _, _, Al⟩ := BA
  clear hb1 RB
  rcases o with o | o
  all_goals
    obtain ⟨d0, d1, d2, d3, d4, g0, g1, g2, g3, g4, ltr⟩ := HRB.out
    go_wp2
    exact bodyPost_ret (v := .tuple #[.agg #[.int .i64 (0), .int .i64 (0), .float .f64 (0), .string ⟨#[]⟩, .slice none 0 0], .int .i64 12]) (by simp [results, Tryd.results26, go_sem, d0, d1, d2, d3, d4]) rfl ⟨rfl, below_set5 hW (by omega) _ _ _ _ _⟩

set_option maxHeartbeats 1000000 in
theorem rwhole_in0 (n : Int) (f : Nat) (s : ByteArray) (a : Option Addr) (l c : Nat) (h : rightB 2 n f s l = true) (q p : Nat) (T : Int) (_t1 : -1152921504606846976 ≤ T) (_t2 : T ≤ 1152921504606846976) (o1 : FloatKind.f64.format.order f 4877398396442247168 = some .lt) (o2 : FloatKind.f64.format.order f 14100770433297022976 = some .gt) (c0 : ∀ w, (convert 24 2 (.float .f64 f)).run Tryd.prog w = .ok (.int .i64 T) w) (hq : floatOfInt .f64 T = q) (hp : floatBits .sub .f64 f q = some p) (w : World) :
    Calls Tryd.prog 26 #[.string ⟨#[116, 114, 117, 110, 99]⟩, .agg #[.int .i64 2, .int .i64 n, .float .f64 f, .string s, .slice a l c]] w fun e w' =>
      e = .returned (.tuple #[.agg #[.int .i64 (numInt (T)).k, .int .i64 (numInt (T)).n, .float .f64 (numInt (T)).f, .string ⟨#[]⟩, .slice none 0 0], .int .i64 (numInt (T)).e]) ∧ Below w.heap.size w w' := by
  have hz : ∀ t (w : World), (binOp .sub t (.float .f64 f) (.float .f64 q)).run Tryd.prog w = .ok (.float .f64 p) w := fun t w => run_float_arith w .sub t .f64 _ _ _ hp
  clear hp
  have HR := hid h
  clear h
  go_enter Tryd.func26, Tryd.ntmps26
  go_wp2_with fail
  refine (refRight_any 2 n f s a l c _).mono ?_
  rintro e w1 ⟨rfl, hb1⟩
  rw [HR.out]
  obtain ⟨BA, RB, hW⟩ := afterAB hb1
  have HRB := hid RB
  obtain ⟨A0, A1, A2, A3, A4, _, _, _, _, _, Al⟩ := BA
  clear hb1 RB
  go_wp2_with fail
  refine (refInt_any _ _).mono ?_
  rintro e w2 ⟨rfl, hb2⟩
  clear A0 A1 A2 A3 A4 Al
  have RB2 := HRB.out.keep hb2
  have hW2 := bthen hW hb2
  obtain ⟨d0, d1, d2, d3, d4, g0, g1, g2, g3, g4, ltr⟩ := RB2
  clear hb2 HRB
  go_wp2
  exact bodyPost_ret (v := .tuple #[.agg #[.int .i64 ((numInt (T)).k), .int .i64 ((numInt (T)).n), .float .f64 ((numInt (T)).f), .string ⟨#[]⟩, .slice none 0 0], .int .i64 (numInt (T)).e]) (by simp [results, Tryd.results26, go_sem, d0, d1, d2, d3, d4]) rfl ⟨rfl, below_set5 hW2 (by omega) _ _ _ _ _⟩

set_option maxHeartbeats 1000000 in
theorem rwhole_no1 (k n : Int) (f : Nat) (s : ByteArray) (a : Option Addr) (l c : Nat) (h : rightB k n f s l = false) (w : World) :
    Calls Tryd.prog 26 #[.string ⟨#[102, 108, 111, 111, 114]⟩, .agg #[.int .i64 k, .int .i64 n, .float .f64 f, .string s, .slice a l c]] w fun e w' =>
      e = .returned (.tuple #[.agg #[.int .i64 0, .int .i64 0, .float .f64 0, .string ⟨#[]⟩, .slice none 0 0], .int .i64 13]) ∧ Below w.heap.size w w' := by
  have HR := hid h
  clear h
  go_enter Tryd.func26, Tryd.ntmps26
  go_wp2_with fail
  refine (refRight_any k n f s a l c _).mono ?_
  rintro e w1 ⟨rfl, hb1⟩
  rw [HR.out]
  obtain ⟨BA, RB, hW⟩ := afterAB hb1
  have HRB := hid RB
  obtain ⟨A0, A1, A2, A3, A4, _, _, _, _, _, Al⟩ := BA
  clear hb1 RB
  obtain ⟨d0, d1, d2, d3, d4, g0, g1, g2, g3, g4, ltr⟩ := HRB.out
  go_wp2
  exact bodyPost_ret (v := .tuple #[.agg #[.int .i64 (0), .int .i64 (0), .float .f64 (0), .string ⟨#[]⟩, .slice none 0 0], .int .i64 13]) (by simp [results, Tryd.results26, go_sem, d0, d1, d2, d3, d4]) rfl ⟨rfl, below_set5 hW (by omega) _ _ _ _ _⟩

set_option maxHeartbeats 1000000 in
theorem rwhole_int1 (n : Int) (f : Nat) (s : ByteArray) (a : Option Addr) (l c : Nat) (h : rightB 1 n f s l = true) (w : World) :
    Calls Tryd.prog 26 #[.string ⟨#[102, 108, 111, 111, 114]⟩, .agg #[.int .i64 1, .int .i64 n, .float .f64 f, .string s, .slice a l c]] w fun e w' =>
      e = .returned (.tuple #[.agg #[.int .i64 1, .int .i64 n, .float .f64 f, .string s, .slice a l c], .int .i64 0]) ∧ Below w.heap.size w w' := by
  have HR := hid h
  clear h
  go_enter Tryd.func26, Tryd.ntmps26
  go_wp2_with fail
  refine (refRight_any 1 n f s a l c _).mono ?_
  rintro e w1 ⟨rfl, hb1⟩
  rw [HR.out]
  obtain ⟨BA, RB, hW⟩ := afterAB hb1
  have HRB := hid RB
  obtain ⟨A0, A1, A2, A3, A4, _, _, _, _, _, Al⟩ := BA
  clear hb1 RB
  obtain ⟨d0, d1, d2, d3, d4, g0, g1, g2, g3, g4, ltr⟩ := HRB.out
  go_wp2
  exact bodyPost_ret (v := .tuple #[.agg #[.int .i64 1, .int .i64 n, .float .f64 f, .string s, .slice a l c], .int .i64 0]) (by simp [results, Tryd.results26, go_sem, d0, d1, d2, d3, d4]) rfl ⟨rfl, below_set5 hW (by omega) _ _ _ _ _⟩

set_option maxHeartbeats 1000000 in
theorem rwhole_hi1 (n : Int) (f : Nat) (s : ByteArray) (a : Option Addr) (l c : Nat) (h : rightB 2 n f s l = true) (o : FloatKind.f64.format.order f 4877398396442247168 = some .gt ∨ FloatKind.f64.format.order f 4877398396442247168 = some .eq) (w : World) :
    Calls Tryd.prog 26 #[.string ⟨#[102, 108, 111, 111, 114]⟩, .agg #[.int .i64 2, .int .i64 n, .float .f64 f, .string s, .slice a l c]] w fun e w' =>
      e = .returned (.tuple #[.agg #[.int .i64 0, .int .i64 0, .float .f64 0, .string ⟨#[]⟩, .slice none 0 0], .int .i64 12]) ∧ Below w.heap.size w w' := by
  have HR := hid h
  clear h
  go_enter Tryd.func26, Tryd.ntmps26
  go_wp2_with fail
  refine (refRight_any 2 n f s a l c _).mono ?_
  rintro e w1 ⟨rfl, hb1⟩
  rw [HR.out]
  obtain ⟨BA, RB, hW⟩ := afterAB hb1
  have HRB := hid RB
  obtain ⟨A0, A1, A2, A3, A4, _, _, _, _, _, Al⟩ := BA
  clear hb1 RB
  rcases o with o | o
  all_goals
    obtain ⟨d0, d1, d2, d3, d4, g0, g1, g2, g3, g4, ltr⟩ := HRB.out
    go_wp2
    exact bodyPost_ret (v := .tuple #[.agg #[.int .i64 (0), .int .i64 (0), .float .f64 (0), .string ⟨#[]⟩, .slice none 0 0], .int .i64 12]) (by simp [results, Tryd.results26, go_sem, d0, d1, d2, d3, d4]) rfl ⟨rfl, below_set5 hW (by omega) _ _ _ _ _⟩

set_option maxHeartbeats 1000000 in
theorem rwhole_lo1 (n : Int) (f : Nat) (s : ByteArray) (a : Option Addr) (l c : Nat) (h : rightB 2 n f s l = true) (o1 : FloatKind.f64.format.order f 4877398396442247168 = some .lt) (o : FloatKind.f64.format.order f 14100770433297022976 = some .lt ∨ FloatKind.f64.format.order f 14100770433297022976 = some .eq) (w : World) :
    Calls Tryd.prog 26 #[.string ⟨#[102, 108, 111, 111, 114]⟩, .agg #[.int .i64 2, .int .i64 n, .float .f64 f, .string s, .slice a l c]] w fun e w' =>
      e = .returned (.tuple #[.agg #[.int .i64 0, .int .i64 0, .float .f64 0, .string ⟨#[]⟩, .slice none 0 0], .int .i64 12]) ∧ Below w.heap.size w w' := by
  have HR := hid h
  clear h
  go_enter Tryd.func26, Tryd.ntmps26
  go_wp2_with fail
  refine (refRight_any 2 n f s a l c _).mono ?_
  rintro e w1 ⟨rfl, hb1⟩
  rw [HR.out]
  obtain ⟨BA, RB, hW⟩ := afterAB hb1
  have HRB := hid RB
  obtain ⟨A0, A1, A2, A3, A4, _, _, _, _, _, Al⟩ := BA
  clear hb1 RB
  rcases o with o | o
  all_goals
    obtain ⟨d0, d1, d2, d3, d4, g0, g1, g2, g3, g4, ltr⟩ := HRB.out
    go_wp2
    exact bodyPost_ret (v := .tuple #[.agg #[.int .i64 (0), .int .i64 (0), .float .f64 (0), .string ⟨#[]⟩, .slice none 0 0], .int .i64 12]) (by simp [results, Tryd.results26, go_sem, d0, d1, d2, d3, d4]) rfl ⟨rfl, below_set5 hW (by omega) _ _ _ _ _⟩

set_option maxHeartbeats 1000000 in
theorem rwhole_in1lt (n : Int) (f : Nat) (s : ByteArray) (a : Option Addr) (l c : Nat) (h : rightB 2 n f s l = true) (q p : Nat) (T : Int) (t1 : -1152921504606846976 ≤ T) (t2 : T ≤ 1152921504606846976) (o1 : FloatKind.f64.format.order f 4877398396442247168 = some .lt) (o2 : FloatKind.f64.format.order f 14100770433297022976 = some .gt) (c0 : ∀ w, (convert 24 2 (.float .f64 f)).run Tryd.prog w = .ok (.int .i64 T) w) (hq : floatOfInt .f64 T = q) (hp : floatBits .sub .f64 f q = some p) (o3 : FloatKind.f64.format.order p 0 = some .lt) (w : World) :
    Calls Tryd.prog 26 #[.string ⟨#[102, 108, 111, 111, 114]⟩, .agg #[.int .i64 2, .int .i64 n, .float .f64 f, .string s, .slice a l c]] w fun e w' =>
      e = .returned (.tuple #[.agg #[.int .i64 (numInt (T - 1)).k, .int .i64 (numInt (T - 1)).n, .float .f64 (numInt (T - 1)).f, .string ⟨#[]⟩, .slice none 0 0], .int .i64 (numInt (T - 1)).e]) ∧ Below w.heap.size w w' := by
  have hz : ∀ t (w : World), (binOp .sub t (.float .f64 f) (.float .f64 q)).run Tryd.prog w = .ok (.float .f64 p) w := fun t w => run_float_arith w .sub t .f64 _ _ _ hp
  clear hp
  have HR := hid h
  clear h
  go_enter Tryd.func26, Tryd.ntmps26
  go_wp2_with fail
  refine (refRight_any 2 n f s a l c _).mono ?_
  rintro e w1 ⟨rfl, hb1⟩
  rw [HR.out]
  obtain ⟨BA, RB, hW⟩ := afterAB hb1
  have HRB := hid RB
  obtain ⟨A0, A1, A2, A3, A4, _, _, _, _, _, Al⟩ := BA
  clear hb1 RB
  go_wp2_with fail
  refine (refInt_any _ _).mono ?_
  rintro e w2 ⟨rfl, hb2⟩
  clear A0 A1 A2 A3 A4 Al
  have RB2 := HRB.out.keep hb2
  have hW2 := bthen hW hb2
  obtain ⟨d0, d1, d2, d3, d4, g0, g1, g2, g3, g4, ltr⟩ := RB2
  clear hb2 HRB
  go_wp2
  exact bodyPost_ret (v := .tuple #[.agg #[.int .i64 ((numInt (T - 1)).k), .int .i64 ((numInt (T - 1)).n), .float .f64 ((numInt (T - 1)).f), .string ⟨#[]⟩, .slice none 0 0], .int .i64 (numInt (T - 1)).e]) (by simp [results, Tryd.results26, go_sem, d0, d1, d2, d3, d4]) rfl ⟨rfl, below_set5 hW2 (by omega) _ _ _ _ _⟩

set_option maxHeartbeats 1000000 in
theorem rwhole_in1gt (n : Int) (f : Nat) (s : ByteArray) (a : Option Addr) (l c : Nat) (h : rightB 2 n f s l = true) (q p : Nat) (T : Int) (_t1 : -1152921504606846976 ≤ T) (_t2 : T ≤ 1152921504606846976) (o1 : FloatKind.f64.format.order f 4877398396442247168 = some .lt) (o2 : FloatKind.f64.format.order f 14100770433297022976 = some .gt) (c0 : ∀ w, (convert 24 2 (.float .f64 f)).run Tryd.prog w = .ok (.int .i64 T) w) (hq : floatOfInt .f64 T = q) (hp : floatBits .sub .f64 f q = some p) (o3 : FloatKind.f64.format.order p 0 = some .gt) (w : World) :
    Calls Tryd.prog 26 #[.string ⟨#[102, 108, 111, 111, 114]⟩, .agg #[.int .i64 2, .int .i64 n, .float .f64 f, .string s, .slice a l c]] w fun e w' =>
      e = .returned (.tuple #[.agg #[.int .i64 (numInt (T)).k, .int .i64 (numInt (T)).n, .float .f64 (numInt (T)).f, .string ⟨#[]⟩, .slice none 0 0], .int .i64 (numInt (T)).e]) ∧ Below w.heap.size w w' := by
  have hz : ∀ t (w : World), (binOp .sub t (.float .f64 f) (.float .f64 q)).run Tryd.prog w = .ok (.float .f64 p) w := fun t w => run_float_arith w .sub t .f64 _ _ _ hp
  clear hp
  have HR := hid h
  clear h
  go_enter Tryd.func26, Tryd.ntmps26
  go_wp2_with fail
  refine (refRight_any 2 n f s a l c _).mono ?_
  rintro e w1 ⟨rfl, hb1⟩
  rw [HR.out]
  obtain ⟨BA, RB, hW⟩ := afterAB hb1
  have HRB := hid RB
  obtain ⟨A0, A1, A2, A3, A4, _, _, _, _, _, Al⟩ := BA
  clear hb1 RB
  go_wp2_with fail
  refine (refInt_any _ _).mono ?_
  rintro e w2 ⟨rfl, hb2⟩
  clear A0 A1 A2 A3 A4 Al
  have RB2 := HRB.out.keep hb2
  have hW2 := bthen hW hb2
  obtain ⟨d0, d1, d2, d3, d4, g0, g1, g2, g3, g4, ltr⟩ := RB2
  clear hb2 HRB
  go_wp2
  exact bodyPost_ret (v := .tuple #[.agg #[.int .i64 ((numInt (T)).k), .int .i64 ((numInt (T)).n), .float .f64 ((numInt (T)).f), .string ⟨#[]⟩, .slice none 0 0], .int .i64 (numInt (T)).e]) (by simp [results, Tryd.results26, go_sem, d0, d1, d2, d3, d4]) rfl ⟨rfl, below_set5 hW2 (by omega) _ _ _ _ _⟩

set_option maxHeartbeats 1000000 in
theorem rwhole_in1eq (n : Int) (f : Nat) (s : ByteArray) (a : Option Addr) (l c : Nat) (h : rightB 2 n f s l = true) (q p : Nat) (T : Int) (_t1 : -1152921504606846976 ≤ T) (_t2 : T ≤ 1152921504606846976) (o1 : FloatKind.f64.format.order f 4877398396442247168 = some .lt) (o2 : FloatKind.f64.format.order f 14100770433297022976 = some .gt) (c0 : ∀ w, (convert 24 2 (.float .f64 f)).run Tryd.prog w = .ok (.int .i64 T) w) (hq : floatOfInt .f64 T = q) (hp : floatBits .sub .f64 f q = some p) (o3 : FloatKind.f64.format.order p 0 = some .eq) (w : World) :
    Calls Tryd.prog 26 #[.string ⟨#[102, 108, 111, 111, 114]⟩, .agg #[.int .i64 2, .int .i64 n, .float .f64 f, .string s, .slice a l c]] w fun e w' =>
      e = .returned (.tuple #[.agg #[.int .i64 (numInt (T)).k, .int .i64 (numInt (T)).n, .float .f64 (numInt (T)).f, .string ⟨#[]⟩, .slice none 0 0], .int .i64 (numInt (T)).e]) ∧ Below w.heap.size w w' := by
  have hz : ∀ t (w : World), (binOp .sub t (.float .f64 f) (.float .f64 q)).run Tryd.prog w = .ok (.float .f64 p) w := fun t w => run_float_arith w .sub t .f64 _ _ _ hp
  clear hp
  have HR := hid h
  clear h
  go_enter Tryd.func26, Tryd.ntmps26
  go_wp2_with fail
  refine (refRight_any 2 n f s a l c _).mono ?_
  rintro e w1 ⟨rfl, hb1⟩
  rw [HR.out]
  obtain ⟨BA, RB, hW⟩ := afterAB hb1
  have HRB := hid RB
  obtain ⟨A0, A1, A2, A3, A4, _, _, _, _, _, Al⟩ := BA
  clear hb1 RB
  go_wp2_with fail
  refine (refInt_any _ _).mono ?_
  rintro e w2 ⟨rfl, hb2⟩
  clear A0 A1 A2 A3 A4 Al
  have RB2 := HRB.out.keep hb2
  have hW2 := bthen hW hb2
  obtain ⟨d0, d1, d2, d3, d4, g0, g1, g2, g3, g4, ltr⟩ := RB2
  clear hb2 HRB
  go_wp2
  exact bodyPost_ret (v := .tuple #[.agg #[.int .i64 ((numInt (T)).k), .int .i64 ((numInt (T)).n), .float .f64 ((numInt (T)).f), .string ⟨#[]⟩, .slice none 0 0], .int .i64 (numInt (T)).e]) (by simp [results, Tryd.results26, go_sem, d0, d1, d2, d3, d4]) rfl ⟨rfl, below_set5 hW2 (by omega) _ _ _ _ _⟩

set_option maxHeartbeats 1000000 in
theorem rwhole_no2 (k n : Int) (f : Nat) (s : ByteArray) (a : Option Addr) (l c : Nat) (h : rightB k n f s l = false) (w : World) :
    Calls Tryd.prog 26 #[.string ⟨#[99, 101, 105, 108]⟩, .agg #[.int .i64 k, .int .i64 n, .float .f64 f, .string s, .slice a l c]] w fun e w' =>
      e = .returned (.tuple #[.agg #[.int .i64 0, .int .i64 0, .float .f64 0, .string ⟨#[]⟩, .slice none 0 0], .int .i64 13]) ∧ Below w.heap.size w w' := by
  have HR := hid h
  clear h
  go_enter Tryd.func26, Tryd.ntmps26
  go_wp2_with fail
  refine (refRight_any k n f s a l c _).mono ?_
  rintro e w1 ⟨rfl, hb1⟩
  rw [HR.out]
  obtain ⟨BA, RB, hW⟩ := afterAB hb1
  have HRB := hid RB
  obtain ⟨A0, A1, A2, A3, A4, _, _, _, _, _, Al⟩ := BA
  clear hb1 RB
  obtain ⟨d0, d1, d2, d3, d4, g0, g1, g2, g3, g4, ltr⟩ := HRB.out
  go_wp2
  exact bodyPost_ret (v := .tuple #[.agg #[.int .i64 (0), .int .i64 (0), .float .f64 (0), .string ⟨#[]⟩, .slice none 0 0], .int .i64 13]) (by simp [results, Tryd.results26, go_sem, d0, d1, d2, d3, d4]) rfl ⟨rfl, below_set5 hW (by omega) _ _ _ _ _⟩

set_option maxHeartbeats 1000000 in
theorem rwhole_int2 (n : Int) (f : Nat) (s : ByteArray) (a : Option Addr) (l c : Nat) (h : rightB 1 n f s l = true) (w : World) :
    Calls Tryd.prog 26 #[.string ⟨#[99, 101, 105, 108]⟩, .agg #[.int .i64 1, .int .i64 n, .float .f64 f, .string s, .slice a l c]] w fun e w' =>
      e = .returned (.tuple #[.agg #[.int .i64 1, .int .i64 n, .float .f64 f, .string s, .slice a l c], .int .i64 0]) ∧ Below w.heap.size w w' := by
  have HR := hid h
  clear h
  go_enter Tryd.func26, Tryd.ntmps26
  go_wp2_with fail
  refine (refRight_any 1 n f s a l c _).mono ?_
  rintro e w1 ⟨rfl, hb1⟩
  rw [HR.out]
  obtain ⟨BA, RB, hW⟩ := afterAB hb1
  have HRB := hid RB
  obtain ⟨A0, A1, A2, A3, A4, _, _, _, _, _, Al⟩ := BA
  clear hb1 RB
  obtain ⟨d0, d1, d2, d3, d4, g0, g1, g2, g3, g4, ltr⟩ := HRB.out
  go_wp2
  exact bodyPost_ret (v := .tuple #[.agg #[.int .i64 1, .int .i64 n, .float .f64 f, .string s, .slice a l c], .int .i64 0]) (by simp [results, Tryd.results26, go_sem, d0, d1, d2, d3, d4]) rfl ⟨rfl, below_set5 hW (by omega) _ _ _ _ _⟩

set_option maxHeartbeats 1000000 in
theorem rwhole_hi2 (n : Int) (f : Nat) (s : ByteArray) (a : Option Addr) (l c : Nat) (h : rightB 2 n f s l = true) (o : FloatKind.f64.format.order f 4877398396442247168 = some .gt ∨ FloatKind.f64.format.order f 4877398396442247168 = some .eq) (w : World) :
    Calls Tryd.prog 26 #[.string ⟨#[99, 101, 105, 108]⟩, .agg #[.int .i64 2, .int .i64 n, .float .f64 f, .string s, .slice a l c]] w fun e w' =>
      e = .returned (.tuple #[.agg #[.int .i64 0, .int .i64 0, .float .f64 0, .string ⟨#[]⟩, .slice none 0 0], .int .i64 12]) ∧ Below w.heap.size w w' := by
  have HR := hid h
  clear h
  go_enter Tryd.func26, Tryd.ntmps26
  go_wp2_with fail
  refine (refRight_any 2 n f s a l c _).mono ?_
  rintro e w1 ⟨rfl, hb1⟩
  rw [HR.out]
  obtain ⟨BA, RB, hW⟩ := afterAB hb1
  have HRB := hid RB
  obtain ⟨A0, A1, A2, A3, A4, _, _, _, _, _, Al⟩ := BA
  clear hb1 RB
  rcases o with o | o
  all_goals
    obtain ⟨d0, d1, d2, d3, d4, g0, g1, g2, g3, g4, ltr⟩ := HRB.out
    go_wp2
    exact bodyPost_ret (v := .tuple #[.agg #[.int .i64 (0), .int .i64 (0), .float .f64 (0), .string ⟨#[]⟩, .slice none 0 0], .int .i64 12]) (by simp [results, Tryd.results26, go_sem, d0, d1, d2, d3, d4]) rfl ⟨rfl, below_set5 hW (by omega) _ _ _ _ _⟩

set_option maxHeartbeats 1000000 in
theorem rwhole_lo2 (n : Int) (f : Nat) (s : ByteArray) (a : Option Addr) (l c : Nat) (h : rightB 2 n f s l = true) (o1 : FloatKind.f64.format.order f 4877398396442247168 = some .lt) (o : FloatKind.f64.format.order f 14100770433297022976 = some .lt ∨ FloatKind.f64.format.order f 14100770433297022976 = some .eq) (w : World) :
    Calls Tryd.prog 26 #[.string ⟨#[99, 101, 105, 108]⟩, .agg #[.int .i64 2, .int .i64 n, .float .f64 f, .string s, .slice a l c]] w fun e w' =>
      e = .returned (.tuple #[.agg #[.int .i64 0, .int .i64 0, .float .f64 0, .string ⟨#[]⟩, .slice none 0 0], .int .i64 12]) ∧ Below w.heap.size w w' := by
  have HR := hid h
  clear h
  go_enter Tryd.func26, Tryd.ntmps26
  go_wp2_with fail
  refine (refRight_any 2 n f s a l c _).mono ?_
  rintro e w1 ⟨rfl, hb1⟩
  rw [HR.out]
  obtain ⟨BA, RB, hW⟩ := afterAB hb1
  have HRB := hid RB
  obtain ⟨A0, A1, A2, A3, A4, _, _, _, _, _, Al⟩ := BA
  clear hb1 RB
  rcases o with o | o
  all_goals
    obtain ⟨d0, d1, d2, d3, d4, g0, g1, g2, g3, g4, ltr⟩ := HRB.out
    go_wp2
    exact bodyPost_ret (v := .tuple #[.agg #[.int .i64 (0), .int .i64 (0), .float .f64 (0), .string ⟨#[]⟩, .slice none 0 0], .int .i64 12]) (by simp [results, Tryd.results26, go_sem, d0, d1, d2, d3, d4]) rfl ⟨rfl, below_set5 hW (by omega) _ _ _ _ _⟩

set_option maxHeartbeats 1000000 in
theorem rwhole_in2lt (n : Int) (f : Nat) (s : ByteArray) (a : Option Addr) (l c : Nat) (h : rightB 2 n f s l = true) (q p : Nat) (T : Int) (_t1 : -1152921504606846976 ≤ T) (_t2 : T ≤ 1152921504606846976) (o1 : FloatKind.f64.format.order f 4877398396442247168 = some .lt) (o2 : FloatKind.f64.format.order f 14100770433297022976 = some .gt) (c0 : ∀ w, (convert 24 2 (.float .f64 f)).run Tryd.prog w = .ok (.int .i64 T) w) (hq : floatOfInt .f64 T = q) (hp : floatBits .sub .f64 f q = some p) (o3 : FloatKind.f64.format.order p 0 = some .lt) (w : World) :
    Calls Tryd.prog 26 #[.string ⟨#[99, 101, 105, 108]⟩, .agg #[.int .i64 2, .int .i64 n, .float .f64 f, .string s, .slice a l c]] w fun e w' =>
      e = .returned (.tuple #[.agg #[.int .i64 (numInt (T)).k, .int .i64 (numInt (T)).n, .float .f64 (numInt (T)).f, .string ⟨#[]⟩, .slice none 0 0], .int .i64 (numInt (T)).e]) ∧ Below w.heap.size w w' := by
  have hz : ∀ t (w : World), (binOp .sub t (.float .f64 f) (.float .f64 q)).run Tryd.prog w = .ok (.float .f64 p) w := fun t w => run_float_arith w .sub t .f64 _ _ _ hp
  clear hp
  have HR := hid h
  clear h
  go_enter Tryd.func26, Tryd.ntmps26
  go_wp2_with fail
  refine (refRight_any 2 n f s a l c _).mono ?_
  rintro e w1 ⟨rfl, hb1⟩
  rw [HR.out]
  obtain ⟨BA, RB, hW⟩ := afterAB hb1
  have HRB := hid RB
  obtain ⟨A0, A1, A2, A3, A4, _, _, _, _, _, Al⟩ := BA
  clear hb1 RB
  go_wp2_with fail
  refine (refInt_any _ _).mono ?_
  rintro e w2 ⟨rfl, hb2⟩
  clear A0 A1 A2 A3 A4 Al
  have RB2 := HRB.out.keep hb2
  have hW2 := bthen hW hb2
  obtain ⟨d0, d1, d2, d3, d4, g0, g1, g2, g3, g4, ltr⟩ := RB2
  clear hb2 HRB
  go_wp2
  exact bodyPost_ret (v := .tuple #[.agg #[.int .i64 ((numInt (T)).k), .int .i64 ((numInt (T)).n), .float .f64 ((numInt (T)).f), .string ⟨#[]⟩, .slice none 0 0], .int .i64 (numInt (T)).e]) (by simp [results, Tryd.results26, go_sem, d0, d1, d2, d3, d4]) rfl ⟨rfl, below_set5 hW2 (by omega) _ _ _ _ _⟩

set_option maxHeartbeats 1000000 in
theorem rwhole_in2gt (n : Int) (f : Nat) (s : ByteArray) (a : Option Addr) (l c : Nat) (h : rightB 2 n f s l = true) (q p : Nat) (T : Int) (t1 : -1152921504606846976 ≤ T) (t2 : T ≤ 1152921504606846976) (o1 : FloatKind.f64.format.order f 4877398396442247168 = some .lt) (o2 : FloatKind.f64.format.order f 14100770433297022976 = some .gt) (c0 : ∀ w, (convert 24 2 (.float .f64 f)).run Tryd.prog w = .ok (.int .i64 T) w) (hq : floatOfInt .f64 T = q) (hp : floatBits .sub .f64 f q = some p) (o3 : FloatKind.f64.format.order p 0 = some .gt) (w : World) :
    Calls Tryd.prog 26 #[.string ⟨#[99, 101, 105, 108]⟩, .agg #[.int .i64 2, .int .i64 n, .float .f64 f, .string s, .slice a l c]] w fun e w' =>
      e = .returned (.tuple #[.agg #[.int .i64 (numInt (T + 1)).k, .int .i64 (numInt (T + 1)).n, .float .f64 (numInt (T + 1)).f, .string ⟨#[]⟩, .slice none 0 0], .int .i64 (numInt (T + 1)).e]) ∧ Below w.heap.size w w' := by
  have hz : ∀ t (w : World), (binOp .sub t (.float .f64 f) (.float .f64 q)).run Tryd.prog w = .ok (.float .f64 p) w := fun t w => run_float_arith w .sub t .f64 _ _ _ hp
  clear hp
  have HR := hid h
  clear h
  go_enter Tryd.func26, Tryd.ntmps26
  go_wp2_with fail
  refine (refRight_any 2 n f s a l c _).mono ?_
  rintro e w1 ⟨rfl, hb1⟩
  rw [HR.out]
  obtain ⟨BA, RB, hW⟩ := afterAB hb1
  have HRB := hid RB
  obtain ⟨A0, A1, A2, A3, A4, _, _, _, _, _, Al⟩ := BA
  clear hb1 RB
  go_wp2_with fail
  refine (refInt_any _ _).mono ?_
  rintro e w2 ⟨rfl, hb2⟩
  clear A0 A1 A2 A3 A4 Al
  have RB2 := HRB.out.keep hb2
  have hW2 := bthen hW hb2
  obtain ⟨d0, d1, d2, d3, d4, g0, g1, g2, g3, g4, ltr⟩ := RB2
  clear hb2 HRB
  go_wp2
  exact bodyPost_ret (v := .tuple #[.agg #[.int .i64 ((numInt (T + 1)).k), .int .i64 ((numInt (T + 1)).n), .float .f64 ((numInt (T + 1)).f), .string ⟨#[]⟩, .slice none 0 0], .int .i64 (numInt (T + 1)).e]) (by simp [results, Tryd.results26, go_sem, d0, d1, d2, d3, d4]) rfl ⟨rfl, below_set5 hW2 (by omega) _ _ _ _ _⟩

set_option maxHeartbeats 1000000 in
theorem rwhole_in2eq (n : Int) (f : Nat) (s : ByteArray) (a : Option Addr) (l c : Nat) (h : rightB 2 n f s l = true) (q p : Nat) (T : Int) (_t1 : -1152921504606846976 ≤ T) (_t2 : T ≤ 1152921504606846976) (o1 : FloatKind.f64.format.order f 4877398396442247168 = some .lt) (o2 : FloatKind.f64.format.order f 14100770433297022976 = some .gt) (c0 : ∀ w, (convert 24 2 (.float .f64 f)).run Tryd.prog w = .ok (.int .i64 T) w) (hq : floatOfInt .f64 T = q) (hp : floatBits .sub .f64 f q = some p) (o3 : FloatKind.f64.format.order p 0 = some .eq) (w : World) :
    Calls Tryd.prog 26 #[.string ⟨#[99, 101, 105, 108]⟩, .agg #[.int .i64 2, .int .i64 n, .float .f64 f, .string s, .slice a l c]] w fun e w' =>
      e = .returned (.tuple #[.agg #[.int .i64 (numInt (T)).k, .int .i64 (numInt (T)).n, .float .f64 (numInt (T)).f, .string ⟨#[]⟩, .slice none 0 0], .int .i64 (numInt (T)).e]) ∧ Below w.heap.size w w' := by
  have hz : ∀ t (w : World), (binOp .sub t (.float .f64 f) (.float .f64 q)).run Tryd.prog w = .ok (.float .f64 p) w := fun t w => run_float_arith w .sub t .f64 _ _ _ hp
  clear hp
  have HR := hid h
  clear h
  go_enter Tryd.func26, Tryd.ntmps26
  go_wp2_with fail
  refine (refRight_any 2 n f s a l c _).mono ?_
  rintro e w1 ⟨rfl, hb1⟩
  rw [HR.out]
  obtain ⟨BA, RB, hW⟩ := afterAB hb1
  have HRB := hid RB
  obtain ⟨A0, A1, A2, A3, A4, _, _, _, _, _, Al⟩ := BA
  clear hb1 RB
  go_wp2_with fail
  refine (refInt_any _ _).mono ?_
  rintro e w2 ⟨rfl, hb2⟩
  clear A0 A1 A2 A3 A4 Al
  have RB2 := HRB.out.keep hb2
  have hW2 := bthen hW hb2
  obtain ⟨d0, d1, d2, d3, d4, g0, g1, g2, g3, g4, ltr⟩ := RB2
  clear hb2 HRB
  go_wp2
  exact bodyPost_ret (v := .tuple #[.agg #[.int .i64 ((numInt (T)).k), .int .i64 ((numInt (T)).n), .float .f64 ((numInt (T)).f), .string ⟨#[]⟩, .slice none 0 0], .int .i64 (numInt (T)).e]) (by simp [results, Tryd.results26, go_sem, d0, d1, d2, d3, d4]) rfl ⟨rfl, below_set5 hW2 (by omega) _ _ _ _ _⟩

set_option maxHeartbeats 1000000 in
theorem rwhole_no3 (k n : Int) (f : Nat) (s : ByteArray) (a : Option Addr) (l c : Nat) (h : rightB k n f s l = false) (w : World) :
    Calls Tryd.prog 26 #[.string ⟨#[114, 111, 117, 110, 100]⟩, .agg #[.int .i64 k, .int .i64 n, .float .f64 f, .string s, .slice a l c]] w fun e w' =>
      e = .returned (.tuple #[.agg #[.int .i64 0, .int .i64 0, .float .f64 0, .string ⟨#[]⟩, .slice none 0 0], .int .i64 13]) ∧ Below w.heap.size w w' := by
  have HR := hid h
  clear h
  go_enter Tryd.func26, Tryd.ntmps26
  go_wp2_with fail
  refine (refRight_any k n f s a l c _).mono ?_
  rintro e w1 ⟨rfl, hb1⟩
  rw [HR.out]
  obtain ⟨BA, RB, hW⟩ := afterAB hb1
  have HRB := hid RB
  obtain ⟨A0, A1, A2, A3, A4, _, _, _, _, _, Al⟩ := BA
  clear hb1 RB
  obtain ⟨d0, d1, d2, d3, d4, g0, g1, g2, g3, g4, ltr⟩ := HRB.out
  go_wp2
  exact bodyPost_ret (v := .tuple #[.agg #[.int .i64 (0), .int .i64 (0), .float .f64 (0), .string ⟨#[]⟩, .slice none 0 0], .int .i64 13]) (by simp [results, Tryd.results26, go_sem, d0, d1, d2, d3, d4]) rfl ⟨rfl, below_set5 hW (by omega) _ _ _ _ _⟩

set_option maxHeartbeats 1000000 in
theorem rwhole_int3 (n : Int) (f : Nat) (s : ByteArray) (a : Option Addr) (l c : Nat) (h : rightB 1 n f s l = true) (w : World) :
    Calls Tryd.prog 26 #[.string ⟨#[114, 111, 117, 110, 100]⟩, .agg #[.int .i64 1, .int .i64 n, .float .f64 f, .string s, .slice a l c]] w fun e w' =>
      e = .returned (.tuple #[.agg #[.int .i64 1, .int .i64 n, .float .f64 f, .string s, .slice a l c], .int .i64 0]) ∧ Below w.heap.size w w' := by
  have HR := hid h
  clear h
  go_enter Tryd.func26, Tryd.ntmps26
  go_wp2_with fail
  refine (refRight_any 1 n f s a l c _).mono ?_
  rintro e w1 ⟨rfl, hb1⟩
  rw [HR.out]
  obtain ⟨BA, RB, hW⟩ := afterAB hb1
  have HRB := hid RB
  obtain ⟨A0, A1, A2, A3, A4, _, _, _, _, _, Al⟩ := BA
  clear hb1 RB
  obtain ⟨d0, d1, d2, d3, d4, g0, g1, g2, g3, g4, ltr⟩ := HRB.out
  go_wp2
  exact bodyPost_ret (v := .tuple #[.agg #[.int .i64 1, .int .i64 n, .float .f64 f, .string s, .slice a l c], .int .i64 0]) (by simp [results, Tryd.results26, go_sem, d0, d1, d2, d3, d4]) rfl ⟨rfl, below_set5 hW (by omega) _ _ _ _ _⟩

set_option maxHeartbeats 1000000 in
theorem rwhole_hi3 (n : Int) (f : Nat) (s : ByteArray) (a : Option Addr) (l c : Nat) (h : rightB 2 n f s l = true) (o : FloatKind.f64.format.order f 4877398396442247168 = some .gt ∨ FloatKind.f64.format.order f 4877398396442247168 = some .eq) (w : World) :
    Calls Tryd.prog 26 #[.string ⟨#[114, 111, 117, 110, 100]⟩, .agg #[.int .i64 2, .int .i64 n, .float .f64 f, .string s, .slice a l c]] w fun e w' =>
      e = .returned (.tuple #[.agg #[.int .i64 0, .int .i64 0, .float .f64 0, .string ⟨#[]⟩, .slice none 0 0], .int .i64 12]) ∧ Below w.heap.size w w' := by
  have HR := hid h
  clear h
  go_enter Tryd.func26, Tryd.ntmps26
  go_wp2_with fail
  refine (refRight_any 2 n f s a l c _).mono ?_
  rintro e w1 ⟨rfl, hb1⟩
  rw [HR.out]
  obtain ⟨BA, RB, hW⟩ := afterAB hb1
  have HRB := hid RB
  obtain ⟨A0, A1, A2, A3, A4, _, _, _, _, _, Al⟩ := BA
  clear hb1 RB
  rcases o with o | o
  all_goals
    obtain ⟨d0, d1, d2, d3, d4, g0, g1, g2, g3, g4, ltr⟩ := HRB.out
    go_wp2
    exact bodyPost_ret (v := .tuple #[.agg #[.int .i64 (0), .int .i64 (0), .float .f64 (0), .string ⟨#[]⟩, .slice none 0 0], .int .i64 12]) (by simp [results, Tryd.results26, go_sem, d0, d1, d2, d3, d4]) rfl ⟨rfl, below_set5 hW (by omega) _ _ _ _ _⟩

set_option maxHeartbeats 1000000 in
theorem rwhole_lo3 (n : Int) (f : Nat) (s : ByteArray) (a : Option Addr) (l c : Nat) (h : rightB 2 n f s l = true) (o1 : FloatKind.f64.format.order f 4877398396442247168 = some .lt) (o : FloatKind.f64.format.order f 14100770433297022976 = some .lt ∨ FloatKind.f64.format.order f 14100770433297022976 = some .eq) (w : World) :
    Calls Tryd.prog 26 #[.string ⟨#[114, 111, 117, 110, 100]⟩, .agg #[.int .i64 2, .int .i64 n, .float .f64 f, .string s, .slice a l c]] w fun e w' =>
      e = .returned (.tuple #[.agg #[.int .i64 0, .int .i64 0, .float .f64 0, .string ⟨#[]⟩, .slice none 0 0], .int .i64 12]) ∧ Below w.heap.size w w' := by
  have HR := hid h
  clear h
  go_enter Tryd.func26, Tryd.ntmps26
  go_wp2_with fail
  refine (refRight_any 2 n f s a l c _).mono ?_
  rintro e w1 ⟨rfl, hb1⟩
  rw [HR.out]
  obtain ⟨BA, RB, hW⟩ := afterAB hb1
  have HRB := hid RB
  obtain ⟨A0, A1, A2, A3, A4, _, _, _, _, _, Al⟩ := BA
  clear hb1 RB
  rcases o with o | o
  all_goals
    obtain ⟨d0, d1, d2, d3, d4, g0, g1, g2, g3, g4, ltr⟩ := HRB.out
    go_wp2
    exact bodyPost_ret (v := .tuple #[.agg #[.int .i64 (0), .int .i64 (0), .float .f64 (0), .string ⟨#[]⟩, .slice none 0 0], .int .i64 12]) (by simp [results, Tryd.results26, go_sem, d0, d1, d2, d3, d4]) rfl ⟨rfl, below_set5 hW (by omega) _ _ _ _ _⟩

set_option maxHeartbeats 1000000 in
theorem rwhole_in3gt (n : Int) (f : Nat) (s : ByteArray) (a : Option Addr) (l c : Nat) (h : rightB 2 n f s l = true) (q p : Nat) (T : Int) (t1 : -1152921504606846976 ≤ T) (t2 : T ≤ 1152921504606846976) (o1 : FloatKind.f64.format.order f 4877398396442247168 = some .lt) (o2 : FloatKind.f64.format.order f 14100770433297022976 = some .gt) (c0 : ∀ w, (convert 24 2 (.float .f64 f)).run Tryd.prog w = .ok (.int .i64 T) w) (hq : floatOfInt .f64 T = q) (hp : floatBits .sub .f64 f q = some p) (o3 : FloatKind.f64.format.order p 4602678819172646912 = some .gt) (o4 : FloatKind.f64.format.order p 13826050856027422720 = some .gt) (w : World) :
    Calls Tryd.prog 26 #[.string ⟨#[114, 111, 117, 110, 100]⟩, .agg #[.int .i64 2, .int .i64 n, .float .f64 f, .string s, .slice a l c]] w fun e w' =>
      e = .returned (.tuple #[.agg #[.int .i64 (numInt (T + 1)).k, .int .i64 (numInt (T + 1)).n, .float .f64 (numInt (T + 1)).f, .string ⟨#[]⟩, .slice none 0 0], .int .i64 (numInt (T + 1)).e]) ∧ Below w.heap.size w w' := by
  have hz : ∀ t (w : World), (binOp .sub t (.float .f64 f) (.float .f64 q)).run Tryd.prog w = .ok (.float .f64 p) w := fun t w => run_float_arith w .sub t .f64 _ _ _ hp
  clear hp
  have HR := hid h
  clear h
  go_enter Tryd.func26, Tryd.ntmps26
  go_wp2_with fail
  refine (refRight_any 2 n f s a l c _).mono ?_
  rintro e w1 ⟨rfl, hb1⟩
  rw [HR.out]
  obtain ⟨BA, RB, hW⟩ := afterAB hb1
  have HRB := hid RB
  obtain ⟨A0, A1, A2, A3, A4, _, _, _, _, _, Al⟩ := BA
  clear hb1 RB
  go_wp2_with fail
  refine (refInt_any _ _).mono ?_
  rintro e w2 ⟨rfl, hb2⟩
  clear A0 A1 A2 A3 A4 Al
  have RB2 := HRB.out.keep hb2
  have hW2 := bthen hW hb2
  obtain ⟨d0, d1, d2, d3, d4, g0, g1, g2, g3, g4, ltr⟩ := RB2
  clear hb2 HRB
  go_wp2
  exact bodyPost_ret (v := .tuple #[.agg #[.int .i64 ((numInt (T + 1)).k), .int .i64 ((numInt (T + 1)).n), .float .f64 ((numInt (T + 1)).f), .string ⟨#[]⟩, .slice none 0 0], .int .i64 (numInt (T + 1)).e]) (by simp [results, Tryd.results26, go_sem, d0, d1, d2, d3, d4]) rfl ⟨rfl, below_set5 hW2 (by omega) _ _ _ _ _⟩

set_option maxHeartbeats 1000000 in
theorem rwhole_in3eq (n : Int) (f : Nat) (s : ByteArray) (a : Option Addr) (l c : Nat) (h : rightB 2 n f s l = true) (q p : Nat) (T : Int) (t1 : -1152921504606846976 ≤ T) (t2 : T ≤ 1152921504606846976) (o1 : FloatKind.f64.format.order f 4877398396442247168 = some .lt) (o2 : FloatKind.f64.format.order f 14100770433297022976 = some .gt) (c0 : ∀ w, (convert 24 2 (.float .f64 f)).run Tryd.prog w = .ok (.int .i64 T) w) (hq : floatOfInt .f64 T = q) (hp : floatBits .sub .f64 f q = some p) (o3 : FloatKind.f64.format.order p 4602678819172646912 = some .eq) (o4 : FloatKind.f64.format.order p 13826050856027422720 = some .gt) (w : World) :
    Calls Tryd.prog 26 #[.string ⟨#[114, 111, 117, 110, 100]⟩, .agg #[.int .i64 2, .int .i64 n, .float .f64 f, .string s, .slice a l c]] w fun e w' =>
      e = .returned (.tuple #[.agg #[.int .i64 (numInt (T + 1)).k, .int .i64 (numInt (T + 1)).n, .float .f64 (numInt (T + 1)).f, .string ⟨#[]⟩, .slice none 0 0], .int .i64 (numInt (T + 1)).e]) ∧ Below w.heap.size w w' := by
  have hz : ∀ t (w : World), (binOp .sub t (.float .f64 f) (.float .f64 q)).run Tryd.prog w = .ok (.float .f64 p) w := fun t w => run_float_arith w .sub t .f64 _ _ _ hp
  clear hp
  have HR := hid h
  clear h
  go_enter Tryd.func26, Tryd.ntmps26
  go_wp2_with fail
  refine (refRight_any 2 n f s a l c _).mono ?_
  rintro e w1 ⟨rfl, hb1⟩
  rw [HR.out]
  obtain ⟨BA, RB, hW⟩ := afterAB hb1
  have HRB := hid RB
  obtain ⟨A0, A1, A2, A3, A4, _, _, _, _, _, Al⟩ := BA
  clear hb1 RB
  go_wp2_with fail
  refine (refInt_any _ _).mono ?_
  rintro e w2 ⟨rfl, hb2⟩
  clear A0 A1 A2 A3 A4 Al
  have RB2 := HRB.out.keep hb2
  have hW2 := bthen hW hb2
  obtain ⟨d0, d1, d2, d3, d4, g0, g1, g2, g3, g4, ltr⟩ := RB2
  clear hb2 HRB
  go_wp2
  exact bodyPost_ret (v := .tuple #[.agg #[.int .i64 ((numInt (T + 1)).k), .int .i64 ((numInt (T + 1)).n), .float .f64 ((numInt (T + 1)).f), .string ⟨#[]⟩, .slice none 0 0], .int .i64 (numInt (T + 1)).e]) (by simp [results, Tryd.results26, go_sem, d0, d1, d2, d3, d4]) rfl ⟨rfl, below_set5 hW2 (by omega) _ _ _ _ _⟩

set_option maxHeartbeats 1000000 in
theorem rwhole_in3mid (n : Int) (f : Nat) (s : ByteArray) (a : Option Addr) (l c : Nat) (h : rightB 2 n f s l = true) (q p : Nat) (T : Int) (_t1 : -1152921504606846976 ≤ T) (_t2 : T ≤ 1152921504606846976) (o1 : FloatKind.f64.format.order f 4877398396442247168 = some .lt) (o2 : FloatKind.f64.format.order f 14100770433297022976 = some .gt) (c0 : ∀ w, (convert 24 2 (.float .f64 f)).run Tryd.prog w = .ok (.int .i64 T) w) (hq : floatOfInt .f64 T = q) (hp : floatBits .sub .f64 f q = some p) (o3 : FloatKind.f64.format.order p 4602678819172646912 = some .lt) (o4 : FloatKind.f64.format.order p 13826050856027422720 = some .gt) (w : World) :
    Calls Tryd.prog 26 #[.string ⟨#[114, 111, 117, 110, 100]⟩, .agg #[.int .i64 2, .int .i64 n, .float .f64 f, .string s, .slice a l c]] w fun e w' =>
      e = .returned (.tuple #[.agg #[.int .i64 (numInt (T)).k, .int .i64 (numInt (T)).n, .float .f64 (numInt (T)).f, .string ⟨#[]⟩, .slice none 0 0], .int .i64 (numInt (T)).e]) ∧ Below w.heap.size w w' := by
  have hz : ∀ t (w : World), (binOp .sub t (.float .f64 f) (.float .f64 q)).run Tryd.prog w = .ok (.float .f64 p) w := fun t w => run_float_arith w .sub t .f64 _ _ _ hp
  clear hp
  have HR := hid h
  clear h
  go_enter Tryd.func26, Tryd.ntmps26
  go_wp2_with fail
  refine (refRight_any 2 n f s a l c _).mono ?_
  rintro e w1 ⟨rfl, hb1⟩
  rw [HR.out]
  obtain ⟨BA, RB, hW⟩ := afterAB hb1
  have HRB := hid RB
  obtain ⟨A0, A1, A2, A3, A4, _, _, _, _, _, Al⟩ := BA
  clear hb1 RB
  go_wp2_with fail
  refine (refInt_any _ _).mono ?_
  rintro e w2 ⟨rfl, hb2⟩
  clear A0 A1 A2 A3 A4 Al
  have RB2 := HRB.out.keep hb2
  have hW2 := bthen hW hb2
  obtain ⟨d0, d1, d2, d3, d4, g0, g1, g2, g3, g4, ltr⟩ := RB2
  clear hb2 HRB
  go_wp2
  exact bodyPost_ret (v := .tuple #[.agg #[.int .i64 ((numInt (T)).k), .int .i64 ((numInt (T)).n), .float .f64 ((numInt (T)).f), .string ⟨#[]⟩, .slice none 0 0], .int .i64 (numInt (T)).e]) (by simp [results, Tryd.results26, go_sem, d0, d1, d2, d3, d4]) rfl ⟨rfl, below_set5 hW2 (by omega) _ _ _ _ _⟩

set_option maxHeartbeats 1000000 in
theorem rwhole_in3lt (n : Int) (f : Nat) (s : ByteArray) (a : Option Addr) (l c : Nat) (h : rightB 2 n f s l = true) (q p : Nat) (T : Int) (t1 : -1152921504606846976 ≤ T) (t2 : T ≤ 1152921504606846976) (o1 : FloatKind.f64.format.order f 4877398396442247168 = some .lt) (o2 : FloatKind.f64.format.order f 14100770433297022976 = some .gt) (c0 : ∀ w, (convert 24 2 (.float .f64 f)).run Tryd.prog w = .ok (.int .i64 T) w) (hq : floatOfInt .f64 T = q) (hp : floatBits .sub .f64 f q = some p) (o3 : FloatKind.f64.format.order p 4602678819172646912 = some .lt) (o4 : FloatKind.f64.format.order p 13826050856027422720 = some .lt) (w : World) :
    Calls Tryd.prog 26 #[.string ⟨#[114, 111, 117, 110, 100]⟩, .agg #[.int .i64 2, .int .i64 n, .float .f64 f, .string s, .slice a l c]] w fun e w' =>
      e = .returned (.tuple #[.agg #[.int .i64 (numInt (T - 1)).k, .int .i64 (numInt (T - 1)).n, .float .f64 (numInt (T - 1)).f, .string ⟨#[]⟩, .slice none 0 0], .int .i64 (numInt (T - 1)).e]) ∧ Below w.heap.size w w' := by
  have hz : ∀ t (w : World), (binOp .sub t (.float .f64 f) (.float .f64 q)).run Tryd.prog w = .ok (.float .f64 p) w := fun t w => run_float_arith w .sub t .f64 _ _ _ hp
  clear hp
  have HR := hid h
  clear h
  go_enter Tryd.func26, Tryd.ntmps26
  go_wp2_with fail
  refine (refRight_any 2 n f s a l c _).mono ?_
  rintro e w1 ⟨rfl, hb1⟩
  rw [HR.out]
  obtain ⟨BA, RB, hW⟩ := afterAB hb1
  have HRB := hid RB
  obtain ⟨A0, A1, A2, A3, A4, _, _, _, _, _, Al⟩ := BA
  clear hb1 RB
  go_wp2_with fail
  refine (refInt_any _ _).mono ?_
  rintro e w2 ⟨rfl, hb2⟩
  clear A0 A1 A2 A3 A4 Al
  have RB2 := HRB.out.keep hb2
  have hW2 := bthen hW hb2
  obtain ⟨d0, d1, d2, d3, d4, g0, g1, g2, g3, g4, ltr⟩ := RB2
  clear hb2 HRB
  go_wp2
  exact bodyPost_ret (v := .tuple #[.agg #[.int .i64 ((numInt (T - 1)).k), .int .i64 ((numInt (T - 1)).n), .float .f64 ((numInt (T - 1)).f), .string ⟨#[]⟩, .slice none 0 0], .int .i64 (numInt (T - 1)).e]) (by simp [results, Tryd.results26, go_sem, d0, d1, d2, d3, d4]) rfl ⟨rfl, below_set5 hW2 (by omega) _ _ _ _ _⟩

set_option maxHeartbeats 1000000 in
theorem rwhole_in3leq (n : Int) (f : Nat) (s : ByteArray) (a : Option Addr) (l c : Nat) (h : rightB 2 n f s l = true) (q p : Nat) (T : Int) (t1 : -1152921504606846976 ≤ T) (t2 : T ≤ 1152921504606846976) (o1 : FloatKind.f64.format.order f 4877398396442247168 = some .lt) (o2 : FloatKind.f64.format.order f 14100770433297022976 = some .gt) (c0 : ∀ w, (convert 24 2 (.float .f64 f)).run Tryd.prog w = .ok (.int .i64 T) w) (hq : floatOfInt .f64 T = q) (hp : floatBits .sub .f64 f q = some p) (o3 : FloatKind.f64.format.order p 4602678819172646912 = some .lt) (o4 : FloatKind.f64.format.order p 13826050856027422720 = some .eq) (w : World) :
    Calls Tryd.prog 26 #[.string ⟨#[114, 111, 117, 110, 100]⟩, .agg #[.int .i64 2, .int .i64 n, .float .f64 f, .string s, .slice a l c]] w fun e w' =>
      e = .returned (.tuple #[.agg #[.int .i64 (numInt (T - 1)).k, .int .i64 (numInt (T - 1)).n, .float .f64 (numInt (T - 1)).f, .string ⟨#[]⟩, .slice none 0 0], .int .i64 (numInt (T - 1)).e]) ∧ Below w.heap.size w w' := by
  have hz : ∀ t (w : World), (binOp .sub t (.float .f64 f) (.float .f64 q)).run Tryd.prog w = .ok (.float .f64 p) w := fun t w => run_float_arith w .sub t .f64 _ _ _ hp
  clear hp
  have HR := hid h
  clear h
  go_enter Tryd.func26, Tryd.ntmps26
  go_wp2_with fail
  refine (refRight_any 2 n f s a l c _).mono ?_
  rintro e w1 ⟨rfl, hb1⟩
  rw [HR.out]
  obtain ⟨BA, RB, hW⟩ := afterAB hb1
  have HRB := hid RB
  obtain ⟨A0, A1, A2, A3, A4, _, _, _, _, _, Al⟩ := BA
  clear hb1 RB
  go_wp2_with fail
  refine (refInt_any _ _).mono ?_
  rintro e w2 ⟨rfl, hb2⟩
  clear A0 A1 A2 A3 A4 Al
  have RB2 := HRB.out.keep hb2
  have hW2 := bthen hW hb2
  obtain ⟨d0, d1, d2, d3, d4, g0, g1, g2, g3, g4, ltr⟩ := RB2
  clear hb2 HRB
  go_wp2
  exact bodyPost_ret (v := .tuple #[.agg #[.int .i64 ((numInt (T - 1)).k), .int .i64 ((numInt (T - 1)).n), .float .f64 ((numInt (T - 1)).f), .string ⟨#[]⟩, .slice none 0 0], .int .i64 (numInt (T - 1)).e]) (by simp [results, Tryd.results26, go_sem, d0, d1, d2, d3, d4]) rfl ⟨rfl, below_set5 hW2 (by omega) _ _ _ _ _⟩

end Go.Proofs.YtihkabgoaejcgaaDoor
