import Derived.Test.YtajadhkpadkikaaGreatDoorG11
import Derived.Test.YtajadhkpadkikaaGreatDoorG16
import Derived.Laws.BitsAllLaws
/- Whether a term is right by itself: the kinds' own look. -/
namespace Go.Proofs.YtajadhkpadkikaaGreatDoor
open Go.RowKit Go.Deep
attribute [local go_sem] store_float f64bits
attribute [local go_sem ↓] Go.wp_at_zero Go.wp_at_succ

/-- Is a term right by itself? -/
def goodT : Tr → Bool
  | .mk k n f s _ _ kids =>
    if k = 1 ∨ k = 2 then rightB k n f s kids.length
    else if k = 3 then decide (s.size ≤ 64) && ((f == 0) && (n == 0) && (kids.length == 0))
    else if k = 4 ∨ k = 6 then decide (0 ≤ n) && decide (n ≤ 1099511627776) && ((f == 0) && s.toList.isEmpty && (kids.length == 0))
    else if k = 5 then decide (0 ≤ n) && decide (n ≤ 16384) && ((f == 0) && s.toList.isEmpty)
    else if k = 7 ∨ k = 8 then (f == 0) && (n == 0) && s.toList.isEmpty
    else false

theorem natz (f : Nat) : ((f : Int) == 0) = (f == 0) := by
  rw [Bool.eq_iff_iff]
  simp

set_option maxHeartbeats 1000000 in
set_option maxRecDepth 100000 in
theorem zeroBut_1 (k n : Int) (f : Nat) (s : ByteArray) (a : Option Addr) (l c : Nat) (w : World) :
    Calls Tryz.prog 273 #[.agg #[.int .i64 k, .int .i64 n, .float .f64 f, .string s, .slice a l c], .int .i64 1] w fun e w' => e = .returned (.bool ((f == 0) && s.toList.isEmpty && (l == 0))) ∧ Below w.heap.size w w' := by
  have b1 : bits BinOp.and IntKind.i64 1 1 = 1 := by kernel_rfl
  have b2 : bits BinOp.and IntKind.i64 1 2 = 0 := by kernel_rfl
  have b4 : bits BinOp.and IntKind.i64 1 4 = 0 := by kernel_rfl
  cases hs : s.toList.isEmpty <;> cases hf : (f == 0)
  all_goals
    have hf' : ((f : Int) == 0) = (f == 0) := natz f
    rw [hf] at hf'
    have hl' : ((l : Int) == 0) = (l == 0) := natz l
    go_enter Tryz.func273, Tryz.ntmps273
    go_wp2
    all_goals
      go_ret
      refine ⟨?_, (Below.refl _ _).alloc (Nat.le_refl _) _⟩
      first | rfl | (simp_all; done) | (simp [*]; done)

set_option maxHeartbeats 1000000 in
set_option maxRecDepth 100000 in
theorem zeroBut_2 (k n : Int) (f : Nat) (s : ByteArray) (a : Option Addr) (l c : Nat) (w : World) :
    Calls Tryz.prog 273 #[.agg #[.int .i64 k, .int .i64 n, .float .f64 f, .string s, .slice a l c], .int .i64 2] w fun e w' => e = .returned (.bool ((f == 0) && (n == 0) && (l == 0))) ∧ Below w.heap.size w w' := by
  have b1 : bits BinOp.and IntKind.i64 2 1 = 0 := by kernel_rfl
  have b2 : bits BinOp.and IntKind.i64 2 2 = 2 := by kernel_rfl
  have b4 : bits BinOp.and IntKind.i64 2 4 = 0 := by kernel_rfl
  cases hs : s.toList.isEmpty <;> cases hf : (f == 0)
  all_goals
    have hf' : ((f : Int) == 0) = (f == 0) := natz f
    rw [hf] at hf'
    have hl' : ((l : Int) == 0) = (l == 0) := natz l
    go_enter Tryz.func273, Tryz.ntmps273
    go_wp2
    all_goals
      go_ret
      refine ⟨?_, (Below.refl _ _).alloc (Nat.le_refl _) _⟩
      first | rfl | (simp_all; done) | (simp [*]; done)

set_option maxHeartbeats 1000000 in
set_option maxRecDepth 100000 in
theorem zeroBut_4 (k n : Int) (f : Nat) (s : ByteArray) (a : Option Addr) (l c : Nat) (w : World) :
    Calls Tryz.prog 273 #[.agg #[.int .i64 k, .int .i64 n, .float .f64 f, .string s, .slice a l c], .int .i64 4] w fun e w' => e = .returned (.bool ((f == 0) && (n == 0) && s.toList.isEmpty)) ∧ Below w.heap.size w w' := by
  have b1 : bits BinOp.and IntKind.i64 4 1 = 0 := by kernel_rfl
  have b2 : bits BinOp.and IntKind.i64 4 2 = 0 := by kernel_rfl
  have b4 : bits BinOp.and IntKind.i64 4 4 = 4 := by kernel_rfl
  cases hs : s.toList.isEmpty <;> cases hf : (f == 0)
  all_goals
    have hf' : ((f : Int) == 0) = (f == 0) := natz f
    rw [hf] at hf'
    have hl' : ((l : Int) == 0) = (l == 0) := natz l
    go_enter Tryz.func273, Tryz.ntmps273
    go_wp2
    all_goals
      go_ret
      refine ⟨?_, (Below.refl _ _).alloc (Nat.le_refl _) _⟩
      first | rfl | (simp_all; done) | (simp [*]; done)

set_option maxHeartbeats 1000000 in
set_option maxRecDepth 100000 in
theorem zeroBut_5 (k n : Int) (f : Nat) (s : ByteArray) (a : Option Addr) (l c : Nat) (w : World) :
    Calls Tryz.prog 273 #[.agg #[.int .i64 k, .int .i64 n, .float .f64 f, .string s, .slice a l c], .int .i64 5] w fun e w' => e = .returned (.bool ((f == 0) && s.toList.isEmpty)) ∧ Below w.heap.size w w' := by
  have b1 : bits BinOp.and IntKind.i64 5 1 = 1 := by kernel_rfl
  have b2 : bits BinOp.and IntKind.i64 5 2 = 0 := by kernel_rfl
  have b4 : bits BinOp.and IntKind.i64 5 4 = 4 := by kernel_rfl
  cases hs : s.toList.isEmpty <;> cases hf : (f == 0)
  all_goals
    have hf' : ((f : Int) == 0) = (f == 0) := natz f
    rw [hf] at hf'
    have hl' : ((l : Int) == 0) = (l == 0) := natz l
    go_enter Tryz.func273, Tryz.ntmps273
    go_wp2
    all_goals
      go_ret
      refine ⟨?_, (Below.refl _ _).alloc (Nat.le_refl _) _⟩
      first | rfl | (simp_all; done) | (simp [*]; done)

theorem rightB_cases0 {k n : Int} {f : Nat} {s : ByteArray} {l : Nat} (h : rightB k n f s l = true) : s.toList.isEmpty = true ∧ l = 0 ∧ ((k = 1 ∧ whB n = true ∧ f = 0) ∨ (k = 2 ∧ n = 0 ∧ Flt.fin f = true)) := by
  simp only [rightB, Bool.and_eq_true, Bool.or_eq_true, beq_iff_eq] at h
  obtain ⟨⟨h1, hs⟩, hl⟩ := h
  refine ⟨hs, hl, ?_⟩
  rcases h1 with ⟨⟨h1, h2⟩, h3⟩ | ⟨⟨h1, h2⟩, h3⟩
  · exact Or.inl ⟨h1, h2, h3⟩
  · exact Or.inr ⟨h1, h2, h3⟩

theorem realV_fin0 {k n : Int} {f : Nat} {s : ByteArray} {l : Nat} (h : rightB k n f s l = true) : Flt.fin (realV k n f) = true := by
  obtain ⟨_, _, ⟨rfl, hw, rfl⟩ | ⟨rfl, rfl, hf⟩⟩ := rightB_cases0 h
  · have hb := whB_yes hw
    unfold realV
    rw [if_pos rfl]
    exact Flt.near_fin (decide (n < 0)) (n := n.natAbs) (by omega)
  · simpa [realV] using hf

theorem below_in {w w1 : World} {o : Obj} (h : Below (w.alloc o).heap.size (w.alloc o) w1) : Below w.heap.size w w1 := (below_new w o).trans (h.mono (by simp))

theorem below_a0 {a w : World} (h : Below a.heap.size a w) (o : Obj) : Below a.heap.size a (w.alloc o) := h.alloc h.size o

set_option maxHeartbeats 1000000 in
theorem real_no0 (k n : Int) (f : Nat) (s : ByteArray) (a : Option Addr) (l c : Nat) (hf : f < 18446744073709551616) (h : rightB k n f s l = false) (w : World) :
    Calls Tryz.prog 101 #[.agg #[.int .i64 k, .int .i64 n, .float .f64 f, .string s, .slice a l c]] w fun e w' => e = .returned (.tuple #[.agg #[.int .i64 (0), .int .i64 (0), .float .f64 (0), .string ⟨#[]⟩, .slice none 0 0], .int .i64 13]) ∧ Below w.heap.size w w' := by
  have HR := hidb h
  clear h
  go_enter Tryz.func101, Tryz.ntmps101
  go_wp2_with fail
  refine (valueOf_no k n f s a l c hf HR.out _).mono ?_
  rintro e w1 ⟨rfl, hb1⟩
  obtain ⟨RB, hW⟩ := afterA hb1
  clear hb1
  have RB2 := RB.alloc (.cells #[.int .i64 0, .int .i64 0, .int .u64 0] 128)
  obtain ⟨d0, d1, d2, d3, d4, g0, g1, g2, g3, g4, ltr⟩ := RB2
  clear RB
  go_wp2
  exact bodyPost_ret (v := .tuple #[.agg #[.int .i64 (0), .int .i64 (0), .float .f64 (0), .string ⟨#[]⟩, .slice none 0 0], .int .i64 13]) (by simp [results, Tryz.results101, go_sem, d0, d1, d2, d3, d4]) rfl ⟨rfl, below_set5 (below_a0 hW _) (by omega) _ _ _ _ _⟩

set_option maxHeartbeats 1000000 in
set_option maxRecDepth 100000 in
theorem number_right (k n : Int) (f : Nat) (s : ByteArray) (a : Option Addr) (l c : Nat) (hf : f < 18446744073709551616) (w : World) :
    Calls Tryz.prog 262 #[.agg #[], .agg #[.int .i64 k, .int .i64 n, .float .f64 f, .string s, .slice a l c]] w fun e w' => e = .returned (.bool (rightB k n f s l)) ∧ Below w.heap.size w w' := by
  cases h : rightB k n f s l with
  | true =>
    have R0 := hidb (real_yes k n f s a l c hf h)
    have e0 : (numBits (realV k n f)).e = 0 := by simp [numBits, realV_fin0 h]
    rw [e0] at R0
    clear h e0
    go_enter Tryz.func262, Tryz.ntmps262
    go_wp2_with fail
    refine (R0.out _).mono ?_
    rintro e w1 ⟨rfl, hb1⟩
    go_wp2
    go_ret
    exact ⟨rfl, below_a0 (below_in (below_in hb1)) _⟩
  | false =>
    have R0 := hidb (real_no0 k n f s a l c hf h)
    clear h
    go_enter Tryz.func262, Tryz.ntmps262
    go_wp2_with fail
    refine (R0.out _).mono ?_
    rintro e w1 ⟨rfl, hb1⟩
    go_wp2
    go_ret
    exact ⟨rfl, below_a0 (below_in (below_in hb1)) _⟩

set_option maxHeartbeats 1000000 in
set_option maxRecDepth 100000 in
theorem atom_right (k n : Int) (f : Nat) (s : ByteArray) (a : Option Addr) (l c : Nat) (w : World) :
    Calls Tryz.prog 269 #[.agg #[], .agg #[.int .i64 k, .int .i64 n, .float .f64 f, .string s, .slice a l c]] w fun e w' => e = .returned (.bool (decide (s.size ≤ 64) && ((f == 0) && (n == 0) && (l == 0)))) ∧ Below w.heap.size w w' := by
  have Z0 := hidb (zeroBut_2 k n f s a l c)
  generalize ((f == 0) && (n == 0) && (l == 0)) = z at *
  go_enter Tryz.func269, Tryz.ntmps269
  go_wp2_with (go_at_call 273; refine (Z0.out _).mono ?_; rintro e w1 ⟨rfl, hb1⟩)
  all_goals
    go_ret
    refine ⟨?_, ?_⟩
    · first | rfl | (simp_all; done) | (simp_all; omega) | (congr 2; simp_all; omega)
    · first | exact below_in (below_in hb1) | exact ((Below.refl _ _).alloc (Nat.le_refl _) _).alloc (by simp) _ | exact below_a0 (below_in (below_in hb1)) _

set_option maxHeartbeats 1000000 in
set_option maxRecDepth 100000 in
theorem serial_right (k n : Int) (f : Nat) (s : ByteArray) (a : Option Addr) (l c : Nat) (w : World) :
    Calls Tryz.prog 277 #[.agg #[], .agg #[.int .i64 k, .int .i64 n, .float .f64 f, .string s, .slice a l c]] w fun e w' => e = .returned (.bool (decide (0 ≤ n) && decide (n ≤ 1099511627776) && ((f == 0) && s.toList.isEmpty && (l == 0)))) ∧ Below w.heap.size w w' := by
  have Z0 := hidb (zeroBut_1 k n f s a l c)
  generalize ((f == 0) && s.toList.isEmpty && (l == 0)) = z at *
  go_enter Tryz.func277, Tryz.ntmps277
  go_wp2_with (go_at_call 273; refine (Z0.out _).mono ?_; rintro e w1 ⟨rfl, hb1⟩)
  all_goals
    go_ret
    refine ⟨?_, ?_⟩
    · first | rfl | (simp_all; done) | (simp_all; omega) | (congr 2; simp_all; omega)
    · first | exact below_in (below_in hb1) | exact ((Below.refl _ _).alloc (Nat.le_refl _) _).alloc (by simp) _ | exact below_a0 (below_in (below_in hb1)) _

set_option maxHeartbeats 1000000 in
set_option maxRecDepth 100000 in
theorem function_right (k n : Int) (f : Nat) (s : ByteArray) (a : Option Addr) (l c : Nat) (w : World) :
    Calls Tryz.prog 283 #[.agg #[], .agg #[.int .i64 k, .int .i64 n, .float .f64 f, .string s, .slice a l c]] w fun e w' => e = .returned (.bool (decide (0 ≤ n) && decide (n ≤ 16384) && ((f == 0) && s.toList.isEmpty))) ∧ Below w.heap.size w w' := by
  have Z0 := hidb (zeroBut_5 k n f s a l c)
  generalize ((f == 0) && s.toList.isEmpty) = z at *
  go_enter Tryz.func283, Tryz.ntmps283
  go_wp2_with (go_at_call 273; refine (Z0.out _).mono ?_; rintro e w1 ⟨rfl, hb1⟩)
  all_goals
    go_ret
    refine ⟨?_, ?_⟩
    · first | rfl | (simp_all; done) | (simp_all; omega) | (congr 2; simp_all; omega)
    · first | exact below_in (below_in hb1) | exact ((Below.refl _ _).alloc (Nat.le_refl _) _).alloc (by simp) _ | exact below_a0 (below_in (below_in hb1)) _

set_option maxHeartbeats 1000000 in
set_option maxRecDepth 100000 in
theorem tuple_right (k n : Int) (f : Nat) (s : ByteArray) (a : Option Addr) (l c : Nat) (w : World) :
    Calls Tryz.prog 293 #[.agg #[], .agg #[.int .i64 k, .int .i64 n, .float .f64 f, .string s, .slice a l c]] w fun e w' => e = .returned (.bool (((f == 0) && (n == 0) && s.toList.isEmpty))) ∧ Below w.heap.size w w' := by
  have Z0 := hidb (zeroBut_4 k n f s a l c)
  generalize ((f == 0) && (n == 0) && s.toList.isEmpty) = z at *
  go_enter Tryz.func293, Tryz.ntmps293
  go_wp2_with (go_at_call 273; refine (Z0.out _).mono ?_; rintro e w1 ⟨rfl, hb1⟩)
  all_goals
    go_ret
    refine ⟨?_, ?_⟩
    · first | rfl | (simp_all; done) | (simp_all; omega) | (congr 2; simp_all; omega)
    · first | exact below_in (below_in hb1) | exact ((Below.refl _ _).alloc (Nat.le_refl _) _).alloc (by simp) _ | exact below_a0 (below_in (below_in hb1)) _

set_option maxHeartbeats 1000000 in
set_option maxRecDepth 100000 in
theorem list_right (k n : Int) (f : Nat) (s : ByteArray) (a : Option Addr) (l c : Nat) (w : World) :
    Calls Tryz.prog 298 #[.agg #[], .agg #[.int .i64 k, .int .i64 n, .float .f64 f, .string s, .slice a l c]] w fun e w' => e = .returned (.bool (((f == 0) && (n == 0) && s.toList.isEmpty))) ∧ Below w.heap.size w w' := by
  have Z0 := hidb (zeroBut_4 k n f s a l c)
  generalize ((f == 0) && (n == 0) && s.toList.isEmpty) = z at *
  go_enter Tryz.func298, Tryz.ntmps298
  go_wp2_with (go_at_call 273; refine (Z0.out _).mono ?_; rintro e w1 ⟨rfl, hb1⟩)
  all_goals
    go_ret
    refine ⟨?_, ?_⟩
    · first | rfl | (simp_all; done) | (simp_all; omega) | (congr 2; simp_all; omega)
    · first | exact below_in (below_in hb1) | exact ((Below.refl _ _).alloc (Nat.le_refl _) _).alloc (by simp) _ | exact below_a0 (below_in (below_in hb1)) _

theorem unknown_right (k n : Int) (f : Nat) (s : ByteArray) (a : Option Addr) (l c : Nat) (w : World) :
    Calls Tryz.prog 301 #[.agg #[], .agg #[.int .i64 k, .int .i64 n, .float .f64 f, .string s, .slice a l c]] w fun e w' => e = .returned (.bool false) ∧ Below w.heap.size w w' := by
  go_enter Tryz.func301, Tryz.ntmps301
  go_wp2
  go_ret
  exact ⟨rfl, by (repeat (first | exact Below.refl _ _ | assumption | refine Below.drew ?_ | refine below_drewN ?_ _ | refine Below.setCell ?_ (by simp) _ | refine Below.alloc ?_ (by (first | exact Nat.le_refl _ | (simp; done) | (simp; omega) | omega)) _ | refine Below.trans ?_ (Below.mono (by assumption) (by first | exact Nat.le_refl _ | (simp; done) | (simp; omega) | omega))))⟩

theorem looks_good : Looks goodT := by
  intro k n f s a c kids hfit w
  have hf : f < 18446744073709551616 := by
    have := hfit.2.2.1
    simpa [Lit.wf] using this
  refine by_kind (Q := fun k => Calls Tryz.prog (fright k) #[.agg #[], .agg #[.int .i64 k, .int .i64 n, .float .f64 f, .string s, .slice a kids.length c]] w fun e w' => e = .returned (.bool (goodT (.mk k n f s a c kids))) ∧ Below w.heap.size w w') k ?_ ?_ ?_ ?_ ?_ ?_ ?_ ?_ ?_
  · exact number_right 1 n f s a kids.length c hf w
  · exact number_right 2 n f s a kids.length c hf w
  · exact atom_right 3 n f s a kids.length c w
  · exact serial_right 4 n f s a kids.length c w
  · exact function_right 5 n f s a kids.length c w
  · exact serial_right 6 n f s a kids.length c w
  · exact tuple_right 7 n f s a kids.length c w
  · exact list_right 8 n f s a kids.length c w
  · intro k h1 h2 h3 h4 h5 h6 h7 h8
    simp only [fright, goodT, h1, h2, h3, h4, h5, h6, h7, h8, if_false, or_self]
    exact unknown_right k n f s a kids.length c w
end Go.Proofs.YtajadhkpadkikaaGreatDoor


/- How numbers are made, or refused, by the document's own reckoning. -/
namespace Go.Proofs.YtajadhkpadkikaaGreatDoor
open Go.RowKit
attribute [local go_sem] store_float

theorem refFinite_any (x : Nat) (w : World) : Calls Tryz.prog 192 #[.float .f64 x] w fun e w' => e = .returned (.bool (Flt.fin x)) ∧ Below w.heap.size w w' := by
  cases hb : Flt.fin x
  · have hs := fun t w => sub_nan t x hb w
    have ho : ∀ t y, (FloatKind.f64.format.order (Flt.nanOf t) y) = none := fun t y => Flt.nanOf_order t y
    go_enter Tryz.func192, Tryz.ntmps192
    go_wp2
    go_ret
    exact ⟨rfl, (Below.refl _ _).drew⟩
  · have hs := fun t w => sub_fin t x hb w
    have ho : (FloatKind.f64.format.order 0 0) = some .eq := Flt.order_zero_zero
    go_enter Tryz.func192, Tryz.ntmps192
    go_wp2
    go_ret
    exact ⟨rfl, Below.refl _ _⟩

end Go.Proofs.YtajadhkpadkikaaGreatDoor


