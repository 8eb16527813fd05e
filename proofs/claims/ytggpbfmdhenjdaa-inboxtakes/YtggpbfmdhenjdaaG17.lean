import Derived.Test.YtggpbfmdhenjdaaG11
import Derived.Test.YtggpbfmdhenjdaaG16
import Derived.Laws.BitsAllLaws
/- Whether a term is right by itself: the kinds' own look. -/
namespace Go.Proofs.Ytggpbfmdhenjdaa
open Go.RowKit Go.Deep
attribute [local go_sem] store_float f64bits
attribute [local go_sem ↓] Go.wp_at_zero Go.wp_at_succ

/-- Is a term right by itself? -/
def goodT : Tr → Bool
  | .mk k n f s _ _ kids =>
    if k = 1 ∨ k = 2 then rightB k n f s kids.length
    else if k = 3 then decide (s.size ≤ 64) && ((f == 0) && (n == 0) && (kids.length == 0))
    else if k = 4 ∨ k = 6 then decide (0 ≤ n) && decide (n ≤ 1099511627776) && ((f == 0) && s.toList.isEmpty && (kids.length == 0))
    else if k = 5 then decide (0 ≤ n) && decide (n ≤ 16384) && ((f == 0) && s.toList.isEmpty)
    else if k = 7 ∨ k = 8 then (f == 0) && (n == 0) && s.toList.isEmpty
    else false

theorem natz (f : Nat) : ((f : Int) == 0) = (f == 0) := by
  rw [Bool.eq_iff_iff]
  simp

set_option maxHeartbeats 1000000 in
set_option maxRecDepth 100000 in
theorem zeroBut_1 (k n : Int) (f : Nat) (s : ByteArray) (a : Option Addr) (l c : Nat) (w : World) :
    Calls Try.prog 79 #[.agg #[.int .i64 k, .int .i64 n, .float .f64 f, .string s, .slice a l c], .int .i64 1] w fun e w' => e = .returned (.bool ((f == 0) && s.toList.isEmpty && (l == 0))) ∧ Below w.heap.size w w' := by
  have b1 : bits BinOp.and IntKind.i64 1 1 = 1 := by kernel_rfl
  have b2 : bits BinOp.and IntKind.i64 1 2 = 0 := by kernel_rfl
  have b4 : bits BinOp.and IntKind.i64 1 4 = 0 := by kernel_rfl
  cases hs : s.toList.isEmpty <;> cases hf : (f == 0)
  all_goals
    have hf' : ((f : Int) == 0) = (f == 0) := natz f
    rw [hf] at hf'
    have hl' : ((l : Int) == 0) = (l == 0) := natz l
    go_enter Try.func79, Try.ntmps79
    go_wp2
    all_goals
      go_ret
      refine ⟨?_, (Below.refl _ _).alloc (Nat.le_refl _) _⟩
      first | rfl | (simp_all; done) | (simp [*]; done)

set_option maxHeartbeats 1000000 in
set_option maxRecDepth 100000 in
theorem zeroBut_2 (k n : Int) (f : Nat) (s : ByteArray) (a : Option Addr) (l c : Nat) (w : World) :
    Calls Try.prog 79 #[.agg #[.int .i64 k, .int .i64 n, .float .f64 f, .string s, .slice a l c], .int .i64 2] w fun e w' => e = .returned (.bool ((f == 0) && (n == 0) && (l == 0))) ∧ Below w.heap.size w w' := by
  have b1 : bits BinOp.and IntKind.i64 2 1 = 0 := by kernel_rfl
  have b2 : bits BinOp.and IntKind.i64 2 2 = 2 := by kernel_rfl
  have b4 : bits BinOp.and IntKind.i64 2 4 = 0 := by kernel_rfl
  cases hs : s.toList.isEmpty <;> cases hf : (f == 0)
  all_goals
    have hf' : ((f : Int) == 0) = (f == 0) := natz f
    rw [hf] at hf'
    have hl' : ((l : Int) == 0) = (l == 0) := natz l
    go_enter Try.func79, Try.ntmps79
    go_wp2
    all_goals
      go_ret
      refine ⟨?_, (Below.refl _ _).alloc (Nat.le_refl _) _⟩
      first | rfl | (simp_all; done) | (simp [*]; done)

set_option maxHeartbeats 1000000 in
set_option maxRecDepth 100000 in
theorem zeroBut_4 (k n : Int) (f : Nat) (s : ByteArray) (a : Option Addr) (l c : Nat) (w : World) :
    Calls Try.prog 79 #[.agg #[.int .i64 k, .int .i64 n, .float .f64 f, .string s, .slice a l c], .int .i64 4] w fun e w' => e = .returned (.bool ((f == 0) && (n == 0) && s.toList.isEmpty)) ∧ Below w.heap.size w w' := by
  have b1 : bits BinOp.and IntKind.i64 4 1 = 0 := by kernel_rfl
  have b2 : bits BinOp.and IntKind.i64 4 2 = 0 := by kernel_rfl
  have b4 : bits BinOp.and IntKind.i64 4 4 = 4 := by kernel_rfl
  cases hs : s.toList.isEmpty <;> cases hf : (f == 0)
  all_goals
    have hf' : ((f : Int) == 0) = (f == 0) := natz f
    rw [hf] at hf'
    have hl' : ((l : Int) == 0) = (l == 0) := natz l
    go_enter Try.func79, Try.ntmps79
    go_wp2
    all_goals
      go_ret
      refine ⟨?_, (Below.refl _ _).alloc (Nat.le_refl _) _⟩
      first | rfl | (simp_all; done) | (simp [*]; done)

set_option maxHeartbeats 1000000 in
set_option maxRecDepth 100000 in
theorem zeroBut_5 (k n : Int) (f : Nat) (s : ByteArray) (a : Option Addr) (l c : Nat) (w : World) :
    Calls Try.prog 79 #[.agg #[.int .i64 k, .int .i64 n, .float .f64 f, .string s, .slice a l c], .int .i64 5] w fun e w' => e = .returned (.bool ((f == 0) && s.toList.isEmpty)) ∧ Below w.heap.size w w' := by
  have b1 : bits BinOp.and IntKind.i64 5 1 = 1 := by kernel_rfl
  have b2 : bits BinOp.and IntKind.i64 5 2 = 0 := by kernel_rfl
  have b4 : bits BinOp.and IntKind.i64 5 4 = 4 := by kernel_rfl
  cases hs : s.toList.isEmpty <;> cases hf : (f == 0)
  all_goals
    have hf' : ((f : Int) == 0) = (f == 0) := natz f
    rw [hf] at hf'
    have hl' : ((l : Int) == 0) = (l == 0) := natz l
    go_enter Try.func79, Try.ntmps79
    go_wp2
    all_goals
      go_ret
      refine ⟨?_, (Below.refl _ _).alloc (Nat.le_refl _) _⟩
      first | rfl | (simp_all; done) | (simp [*]; done)

theorem rightB_cases0 {k n : Int} {f : Nat} {s : ByteArray} {l : Nat} (h : rightB k n f s l = true) : s.toList.isEmpty = true ∧ l = 0 ∧ ((k = 1 ∧ whB n = true ∧ f = 0) ∨ (k = 2 ∧ n = 0 ∧ Flt.fin f = true)) := by
  simp only [rightB, Bool.and_eq_true, Bool.or_eq_true, beq_iff_eq] at h
  obtain ⟨⟨h1, hs⟩, hl⟩ := h
  refine ⟨hs, hl, ?_⟩
  rcases h1 with ⟨⟨h1, h2⟩, h3⟩ | ⟨⟨h1, h2⟩, h3⟩
  · exact Or.inl ⟨h1, h2, h3⟩
  · exact Or.inr ⟨h1, h2, h3⟩

theorem realV_fin0 {k n : Int} {f : Nat} {s : ByteArray} {l : Nat} (h : rightB k n f s l = true) : Flt.fin (realV k n f) = true := by
  obtain ⟨_, _, ⟨rfl, hw, rfl⟩ | ⟨rfl, rfl, hf⟩⟩ := rightB_cases0 h
  · have hb := whB_yes hw
    unfold realV
    rw [if_pos rfl]
    exact Flt.near_fin (decide (n < 0)) (n := n.natAbs) (by omega)
  · simpa [realV] using hf

theorem below_in {w w1 : World} {o : Obj} (h : Below (w.alloc o).heap.size (w.alloc o) w1) : Below w.heap.size w w1 := (below_new w o).trans (h.mono (by simp))

theorem below_a0 {a w : World} (h : Below a.heap.size a w) (o : Obj) : Below a.heap.size a (w.alloc o) := h.alloc h.size o

set_option maxHeartbeats 1000000 in
theorem real_no0 (k n : Int) (f : Nat) (s : ByteArray) (a : Option Addr) (l c : Nat) (hf : f < 18446744073709551616) (h : rightB k n f s l = false) (w : World) :
    Calls Try.prog 63 #[.agg #[.int .i64 k, .int .i64 n, .float .f64 f, .string s, .slice a l c]] w fun e w' => e = .returned (.tuple #[.agg #[.int .i64 (0), .int .i64 (0), .float .f64 (0), .string ⟨#[]⟩, .slice none 0 0], .int .i64 13]) ∧ Below w.heap.size w w' := by
  have HR := hidb h
  clear h
  go_enter Try.func63, Try.ntmps63
  go_wp2_with fail
  refine (valueOf_no k n f s a l c hf HR.out _).mono ?_
  rintro e w1 ⟨rfl, hb1⟩
  obtain ⟨RB, hW⟩ := afterA hb1
  clear hb1
  have RB2 := RB.alloc (.cells #[.int .i64 0, .int .i64 0, .int .u64 0] 117)
  obtain ⟨d0, d1, d2, d3, d4, g0, g1, g2, g3, g4, ltr⟩ := RB2
  clear RB
  go_wp2
  exact bodyPost_ret (v := .tuple #[.agg #[.int .i64 (0), .int .i64 (0), .float .f64 (0), .string ⟨#[]⟩, .slice none 0 0], .int .i64 13]) (by simp [results, Try.results63, go_sem, d0, d1, d2, d3, d4]) rfl ⟨rfl, below_set5 (below_a0 hW _) (by omega) _ _ _ _ _⟩

set_option maxHeartbeats 1000000 in
set_option maxRecDepth 100000 in
theorem number_right (k n : Int) (f : Nat) (s : ByteArray) (a : Option Addr) (l c : Nat) (hf : f < 18446744073709551616) (w : World) :
    Calls Try.prog 61 #[.agg #[], .agg #[.int .i64 k, .int .i64 n, .float .f64 f, .string s, .slice a l c]] w fun e w' => e = .returned (.bool (rightB k n f s l)) ∧ Below w.heap.size w w' := by
  cases h : rightB k n f s l with
  | true =>
    have R0 := hidb (real_yes k n f s a l c hf h)
    have e0 : (numBits (realV k n f)).e = 0 := by simp [numBits, realV_fin0 h]
    rw [e0] at R0
    clear h e0
    go_enter Try.func61, Try.ntmps61
    go_wp2_with fail
    refine (R0.out _).mono ?_
    rintro e w1 ⟨rfl, hb1⟩
    go_wp2
    go_ret
    exact ⟨rfl, below_a0 (below_in (below_in hb1)) _⟩
  | false =>
    have R0 := hidb (real_no0 k n f s a l c hf h)
    clear h
    go_enter Try.func61, Try.ntmps61
    go_wp2_with fail
    refine (R0.out _).mono ?_
    rintro e w1 ⟨rfl, hb1⟩
    go_wp2
    go_ret
    exact ⟨rfl, below_a0 (below_in (below_in hb1)) _⟩

set_option maxHeartbeats 1000000 in
set_option maxRecDepth 100000 in
theorem atom_right (k n : Int) (f : Nat) (s : ByteArray) (a : Option Addr) (l c : Nat) (w : World) :
    Calls Try.prog 76 #[.agg #[], .agg #[.int .i64 k, .int .i64 n, .float .f64 f, .string s, .slice a l c]] w fun e w' => e = .returned (.bool (decide (s.size ≤ 64) && ((f == 0) && (n == 0) && (l == 0)))) ∧ Below w.heap.size w w' := by
  have Z0 := hidb (zeroBut_2 k n f s a l c)
  generalize ((f == 0) && (n == 0) && (l == 0)) = z at *
  go_enter Try.func76, Try.ntmps76
  go_wp2_with (go_at_call 79; refine (Z0.out _).mono ?_; rintro e w1 ⟨rfl, hb1⟩)
  all_goals
    go_ret
    refine ⟨?_, ?_⟩
    · first | rfl | (simp_all; done) | (simp_all; omega) | (congr 2; simp_all; omega)
    · first | exact below_in (below_in hb1) | exact ((Below.refl _ _).alloc (Nat.le_refl _) _).alloc (by simp) _ | exact below_a0 (below_in (below_in hb1)) _

set_option maxHeartbeats 1000000 in
set_option maxRecDepth 100000 in
theorem serial_right (k n : Int) (f : Nat) (s : ByteArray) (a : Option Addr) (l c : Nat) (w : World) :
    Calls Try.prog 81 #[.agg #[], .agg #[.int .i64 k, .int .i64 n, .float .f64 f, .string s, .slice a l c]] w fun e w' => e = .returned (.bool (decide (0 ≤ n) && decide (n ≤ 1099511627776) && ((f == 0) && s.toList.isEmpty && (l == 0)))) ∧ Below w.heap.size w w' := by
  have Z0 := hidb (zeroBut_1 k n f s a l c)
  generalize ((f == 0) && s.toList.isEmpty && (l == 0)) = z at *
  go_enter Try.func81, Try.ntmps81
  go_wp2_with (go_at_call 79; refine (Z0.out _).mono ?_; rintro e w1 ⟨rfl, hb1⟩)
  all_goals
    go_ret
    refine ⟨?_, ?_⟩
    · first | rfl | (simp_all; done) | (simp_all; omega) | (congr 2; simp_all; omega)
    · first | exact below_in (below_in hb1) | exact ((Below.refl _ _).alloc (Nat.le_refl _) _).alloc (by simp) _ | exact below_a0 (below_in (below_in hb1)) _

set_option maxHeartbeats 1000000 in
set_option maxRecDepth 100000 in
theorem function_right (k n : Int) (f : Nat) (s : ByteArray) (a : Option Addr) (l c : Nat) (w : World) :
    Calls Try.prog 87 #[.agg #[], .agg #[.int .i64 k, .int .i64 n, .float .f64 f, .string s, .slice a l c]] w fun e w' => e = .returned (.bool (decide (0 ≤ n) && decide (n ≤ 16384) && ((f == 0) && s.toList.isEmpty))) ∧ Below w.heap.size w w' := by
  have Z0 := hidb (zeroBut_5 k n f s a l c)
  generalize ((f == 0) && s.toList.isEmpty) = z at *
  go_enter Try.func87, Try.ntmps87
  go_wp2_with (go_at_call 79; refine (Z0.out _).mono ?_; rintro e w1 ⟨rfl, hb1⟩)
  all_goals
    go_ret
    refine ⟨?_, ?_⟩
    · first | rfl | (simp_all; done) | (simp_all; omega) | (congr 2; simp_all; omega)
    · first | exact below_in (below_in hb1) | exact ((Below.refl _ _).alloc (Nat.le_refl _) _).alloc (by simp) _ | exact below_a0 (below_in (below_in hb1)) _

set_option maxHeartbeats 1000000 in
set_option maxRecDepth 100000 in
theorem tuple_right (k n : Int) (f : Nat) (s : ByteArray) (a : Option Addr) (l c : Nat) (w : World) :
    Calls Try.prog 95 #[.agg #[], .agg #[.int .i64 k, .int .i64 n, .float .f64 f, .string s, .slice a l c]] w fun e w' => e = .returned (.bool (((f == 0) && (n == 0) && s.toList.isEmpty))) ∧ Below w.heap.size w w' := by
  have Z0 := hidb (zeroBut_4 k n f s a l c)
  generalize ((f == 0) && (n == 0) && s.toList.isEmpty) = z at *
  go_enter Try.func95, Try.ntmps95
  go_wp2_with (go_at_call 79; refine (Z0.out _).mono ?_; rintro e w1 ⟨rfl, hb1⟩)
  all_goals
    go_ret
    refine ⟨?_, ?_⟩
    · first | rfl | (simp_all; done) | (simp_all; omega) | (congr 2; simp_all; omega)
    · first | exact below_in (below_in hb1) | exact ((Below.refl _ _).alloc (Nat.le_refl _) _).alloc (by simp) _ | exact below_a0 (below_in (below_in hb1)) _

set_option maxHeartbeats 1000000 in
set_option maxRecDepth 100000 in
theorem list_right (k n : Int) (f : Nat) (s : ByteArray) (a : Option Addr) (l c : Nat) (w : World) :
    Calls Try.prog 100 #[.agg #[], .agg #[.int .i64 k, .int .i64 n, .float .f64 f, .string s, .slice a l c]] w fun e w' => e = .returned (.bool (((f == 0) && (n == 0) && s.toList.isEmpty))) ∧ Below w.heap.size w w' := by
  have Z0 := hidb (zeroBut_4 k n f s a l c)
  generalize ((f == 0) && (n == 0) && s.toList.isEmpty) = z at *
  go_enter Try.func100, Try.ntmps100
  go_wp2_with (go_at_call 79; refine (Z0.out _).mono ?_; rintro e w1 ⟨rfl, hb1⟩)
  all_goals
    go_ret
    refine ⟨?_, ?_⟩
    · first | rfl | (simp_all; done) | (simp_all; omega) | (congr 2; simp_all; omega)
    · first | exact below_in (below_in hb1) | exact ((Below.refl _ _).alloc (Nat.le_refl _) _).alloc (by simp) _ | exact below_a0 (below_in (below_in hb1)) _

theorem unknown_right (k n : Int) (f : Nat) (s : ByteArray) (a : Option Addr) (l c : Nat) (w : World) :
    Calls Try.prog 103 #[.agg #[], .agg #[.int .i64 k, .int .i64 n, .float .f64 f, .string s, .slice a l c]] w fun e w' => e = .returned (.bool false) ∧ Below w.heap.size w w' := by
  go_enter Try.func103, Try.ntmps103
  go_wp2
  go_ret
  exact ⟨rfl, by (repeat (first | exact Below.refl _ _ | assumption | refine Below.drew ?_ | refine below_drewN ?_ _ | refine Below.setCell ?_ (by simp) _ | refine Below.alloc ?_ (by (first | exact Nat.le_refl _ | (simp; done) | (simp; omega) | omega)) _ | refine Below.trans ?_ (Below.mono (by assumption) (by first | exact Nat.le_refl _ | (simp; done) | (simp; omega) | omega))))⟩

theorem looks_good : Looks goodT := by
  intro k n f s a c kids hfit w
  have hf : f < 18446744073709551616 := by
    have := hfit.2.2.1
    simpa [Lit.wf] using this
  refine by_kind (Q := fun k => Calls Try.prog (fright k) #[.agg #[], .agg #[.int .i64 k, .int .i64 n, .float .f64 f, .string s, .slice a kids.length c]] w fun e w' => e = .returned (.bool (goodT (.mk k n f s a c kids))) ∧ Below w.heap.size w w') k ?_ ?_ ?_ ?_ ?_ ?_ ?_ ?_ ?_
  · exact number_right 1 n f s a kids.length c hf w
  · exact number_right 2 n f s a kids.length c hf w
  · exact atom_right 3 n f s a kids.length c w
  · exact serial_right 4 n f s a kids.length c w
  · exact function_right 5 n f s a kids.length c w
  · exact serial_right 6 n f s a kids.length c w
  · exact tuple_right 7 n f s a kids.length c w
  · exact list_right 8 n f s a kids.length c w
  · intro k h1 h2 h3 h4 h5 h6 h7 h8
    simp only [fright, goodT, h1, h2, h3, h4, h5, h6, h7, h8, if_false, or_self]
    exact unknown_right k n f s a kids.length c w
end Go.Proofs.Ytggpbfmdhenjdaa


/- The program's measure of a term, its Check and Words: by the tree. -/
namespace Go.Proofs.Ytggpbfmdhenjdaa
open Go.RowKit Go.Deep
attribute [local go_sem ↓] Go.wp_at_zero Go.wp_at_succ

/-- The error of a term: a limit is told ahead of a wrong field. -/
def errT (t : Tr) : Int := if meas t 200 65536 < 0 then 12 else if allT goodT t then 0 else 4
def wordsT (t : Tr) : Int := if errT t = 0 then meas t 200 65536 else 0
def depthT (t : Tr) : Int := if errT t = 0 then deep t else 0

theorem In.start {w : World} {t : Tr} (h : t.In w 0) (o1 o2 : Obj) : t.In ((w.alloc o1).alloc o2) 0 := in_below (((Below.refl _ _).alloc (Nat.le_refl _) _).alloc (by simp) _) h

set_option maxHeartbeats 1000000 in
set_option maxRecDepth 100000 in
theorem measure_t (t : Tr) (w : World) (hin : t.In w 0) (hs : Small t) : Calls Try.prog 31 #[t.val] w fun e w' => e = .returned (.tuple #[.agg #[.int .i64 (wordsT t), .int .i64 (depthT t)], .int .i64 (errT t)]) ∧ Below w.heap.size w w' := by
  have key := agree_start goodT t
  have OV := hidb (over_any goodT looks_good w t hin hs 1 (0, 0, false))
  obtain ⟨k, n, f, s, a, c, kids⟩ := t
  show Calls Try.prog 31 #[.agg #[.int .i64 k, .int .i64 n, .float .f64 f, .string s, .slice a kids.length c]] w _
  generalize hW : wordsT (.mk k n f s a c kids) = W
  generalize hD : depthT (.mk k n f s a c kids) = D
  generalize hE : errT (.mk k n f s a c kids) = E
  unfold wordsT at hW
  unfold depthT at hD
  rw [hE] at hW hD
  unfold errT at hE
  have HW := hidb hW
  have HD := hidb hD
  have HE := hidb hE
  have KEY := hidb key
  clear hW hD hE key hin hs
  go_enter Try.func31, Try.ntmps31
  go_wp2_with fail
  have hB3 : Below w.heap.size w (((w.alloc (.cells #[.int .i64 k, .int .i64 n, .float .f64 f, .string s, .slice a kids.length c] 27)).alloc (.cells #[.int .i64 0, .int .i64 0] 68)).alloc (.cells #[.int .i64 0, .int .i64 0, .bool false] 75)) := (((Below.refl _ _).alloc (Nat.le_refl _) _).alloc (by simp) _).alloc (by simp; omega) _
  have hT3 := Tri.new ((w.alloc (.cells #[.int .i64 k, .int .i64 n, .float .f64 f, .string s, .slice a kids.length c] 27)).alloc (.cells #[.int .i64 0, .int .i64 0] 68)) 75 (.int .i64 0) (.int .i64 0) (.bool false)
  have hsz : ((w.alloc (.cells #[.int .i64 k, .int .i64 n, .float .f64 f, .string s, .slice a kids.length c] 27)).alloc (.cells #[.int .i64 0, .int .i64 0] 68)).heap.size = w.heap.size + 1 + 1 := by simp
  rw [hsz] at hT3
  refine (OV.out _ (w.heap.size + 1 + 1) (by omega) hB3 hT3 (by omega) (by omega) (by simp) (by simp) (by simp) (by simp)).mono ?_
  rintro e w1 ⟨rfl, hc, hb⟩
  have hD2 := ((Duo.new (w.alloc (.cells #[.int .i64 k, .int .i64 n, .float .f64 f, .string s, .slice a kids.length c] 27)) 68 (.int .i64 0) (.int .i64 0)).keep (below_new _ (.cells #[.int .i64 0, .int .i64 0, .bool false] 75))).but hb (by simp)
  have hsz1 : (w.alloc (.cells #[.int .i64 k, .int .i64 n, .float .f64 f, .string s, .slice a kids.length c] 27)).heap.size = w.heap.size + 1 := by simp
  rw [hsz1] at hD2
  have HB := hidb (hB3.trans (hb.below (B := w.heap.size) (by simp; omega) (by rintro x rfl; omega)))
  clear hb hB3 hT3 hsz hsz1 OV
  obtain ⟨d0, d1, g0, g1, hlt⟩ := hD2
  rcases KEY.out with ⟨hm, ho⟩ | ⟨hm, _, _, ho⟩
  · obtain rfl : (12 : Int) = E := by have := HE.out; rwa [if_pos hm] at this
    obtain rfl : (0 : Int) = W := by have := HW.out; rwa [if_neg (by decide)] at this
    obtain rfl : (0 : Int) = D := by have := HD.out; rwa [if_neg (by decide)] at this
    rw [ho]
    clear KEY HE HW HD hm ho hc
    go_wp2
    exact bodyPost_ret (v := .tuple #[.agg #[.int .i64 0, .int .i64 0], .int .i64 12]) (by simp [results, Try.results31, go_sem, d0, d1]) rfl ⟨rfl, (HB.out.setCell (by simp) _).setCell (by simp) _⟩
  · rw [ho] at hc
    rw [ho]
    obtain ⟨c0, c1, c2, f0, f1, f2, hlt1⟩ := hc
    cases hal : allT goodT (.mk k n f s a c kids) with
    | false =>
      obtain rfl : (4 : Int) = E := by have := HE.out; rw [if_neg (by omega), hal] at this; simpa using this
      obtain rfl : (0 : Int) = W := by have := HW.out; rwa [if_neg (by decide)] at this
      obtain rfl : (0 : Int) = D := by have := HD.out; rwa [if_neg (by decide)] at this
      rw [hal] at c2
      simp only [Bool.not_false] at c2
      clear KEY HE HW HD hm ho hal
      go_wp2
      exact bodyPost_ret (v := .tuple #[.agg #[.int .i64 0, .int .i64 0], .int .i64 4]) (by simp [results, Try.results31, go_sem, d0, d1]) rfl ⟨rfl, (HB.out.setCell (by simp) _).setCell (by simp) _⟩
    | true =>
      obtain rfl : (0 : Int) = E := by have := HE.out; rw [if_neg (by omega), hal] at this; simpa using this
      have ew : meas (.mk k n f s a c kids) 200 65536 = W := by have := HW.out; rwa [if_pos rfl] at this
      have ed : deep (.mk k n f s a c kids) = D := by have := HD.out; rwa [if_pos rfl] at this
      rw [ew] at c0
      rw [ed] at c1
      rw [hal] at c2
      simp only [Bool.not_true] at c2
      clear KEY HE HW HD hm ho hal ew ed
      go_wp2
      exact bodyPost_ret (v := .tuple #[.agg #[.int .i64 W, .int .i64 D], .int .i64 0]) (by simp [results, Try.results31, go_sem, d0, d1]) rfl ⟨rfl, (HB.out.setCell (by simp) _).setCell (by simp) _⟩

set_option maxHeartbeats 1000000 in
set_option maxRecDepth 100000 in
theorem words_t (t : Tr) (w : World) (hin : t.In w 0) (hs : Small t) : Calls Try.prog 21 #[t.val] w fun e w' => e = .returned (.tuple #[.int .i64 (wordsT t), .int .i64 (errT t)]) ∧ Below w.heap.size w w' := by
  have M := hidb fun w' hw => measure_t t w' (in_below (w := w) hw hin) hs
  generalize wordsT t = W at *
  generalize depthT t = D at *
  generalize errT t = E at *
  obtain ⟨k, n, f, s, a, c, kids⟩ := t
  clear hin hs
  show Calls Try.prog 21 #[.agg #[.int .i64 k, .int .i64 n, .float .f64 f, .string s, .slice a kids.length c]] w _
  go_enter Try.func21, Try.ntmps21
  go_wp2_with fail
  refine (M.out _ (below_new w _)).mono ?_
  rintro e w1 ⟨rfl, hb1⟩
  have HB := hidb (below_in hb1)
  clear hb1 M
  go_wp2
  exact bodyPost_ret (v := .tuple #[.int .i64 W, .int .i64 E]) (by simp [results, Try.results21, go_sem]) rfl ⟨rfl, below_a0 HB.out _⟩
end Go.Proofs.Ytggpbfmdhenjdaa


