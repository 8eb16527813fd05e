/- Contracts for zeros: they are equal, and not the same; negatives and sizes of floats. -/
import Derived.Test.YtmmldghlellehabDoorK1
import Derived.Deep.DrawnRows
namespace Go.Proofs.YtmmldghlellehabDoor
open Go.RowKit Go.Sort
attribute [local go_sem] store_float

/-- an equality of floats that compare as equal: Compare tells 0 -/
theorem compare_eq (x y : Nat) (h1 : FloatKind.f64.format.order x x = some .eq) (h2 : FloatKind.f64.format.order y y = some .eq) (h3 : FloatKind.f64.format.order x y = some .eq) (w : World) :
    Calls Tryd.prog 39 #[.float .f64 x, .float .f64 y] w fun e w' => e = .returned (.int .i64 0) ∧ w' = w := by
  go_enter Tryd.func39, Tryd.ntmps39
  go_wp2
  go_ret
  exact ⟨rfl, rfl⟩

theorem compare_int (x : Int) (w : World) : Calls Tryd.prog 38 #[.int .i64 x, .int .i64 x] w fun e w' => e = .returned (.int .i64 0) ∧ w' = w := by
  go_enter Tryd.func38, Tryd.ntmps38
  go_wp2
  go_ret
  exact ⟨rfl, rfl⟩

set_option maxRecDepth 100000 in
theorem trunc_at (x : Nat) (hr : Extern.MathFloor.toIntegral "math.archTrunc" .zero #[.float .f64 x] = pure (.float .f64 x)) (w : World) : Calls Tryd.prog 45 #[.float .f64 x] w fun e w' => e = .returned (.float .f64 x) ∧ w' = w := by
  have hx : ∀ w, (callFunc 59 #[.float .f64 x]).run Tryd.prog w = .ok (.value (.float .f64 x)) w := fun w => by
    rw [run_callFunc_extern Tryd.func59 (by kernel_rfl) (by kernel_rfl) (by kernel_rfl) (e := Extern.MathFloor.toIntegral "math.archTrunc" .zero) (by kernel_rfl), hr]
    rfl
  clear hr
  go_enter Tryd.func45, Tryd.ntmps45
  go_wp2
  go_ret
  exact ⟨rfl, rfl⟩

/-- a zero against the whole number 0 -/
theorem exact_zero (x : Nat) (h : x = 0 ∨ x = 9223372036854775808) (w : World) : Calls Tryd.prog 19 #[.float .f64 x, .int .i64 0] w fun e w' => e = .returned (.int .i64 0) ∧ w' = w := by
  have t0 : Extern.MathFloor.toIntegral "math.archTrunc" .zero #[.float .f64 x] = pure (.float .f64 x) := by rcases h with rfl | rfl <;> rfl
  have o1 : FloatKind.f64.format.order x x = some .eq := by rcases h with rfl | rfl <;> decide +kernel
  have o2 : FloatKind.f64.format.order x 4890909195324358656 = some .lt := by rcases h with rfl | rfl <;> decide +kernel
  have o3 : FloatKind.f64.format.order x 14114281232179134464 = some .gt := by rcases h with rfl | rfl <;> decide +kernel
  have c0 : ∀ w, (convert 23 2 (.float .f64 x)).run Tryd.prog w = .ok (.int .i64 0) w := fun w => run_convert_float_int w 23 2 .f64 .i64 x 0 (by rw [Tryd.underlying23]; rfl) Tryd.underlying2 (by rcases h with rfl | rfl <;> decide +kernel)
  clear h
  go_enter Tryd.func19, Tryd.ntmps19
  go_wp2_with (first
    | (go_at_call 44; go_in)
    | (go_at_call 45; refine (trunc_at _ t0 _).mono ?_; rintro e w' ⟨rfl, rfl⟩)
    | (go_at_call 38; refine (compare_int _ _).mono ?_; rintro e w' ⟨rfl, rfl⟩)
    | (go_at_call 39; refine (compare_eq _ _ o1 o1 o1 _).mono ?_; rintro e w' ⟨rfl, rfl⟩))
  go_ret
  exact ⟨rfl, rfl⟩

/-- behind a function's first call: two boxed arguments -/
theorem after2 {w w1 : World} {o1 : Obj} {t2 : TypeId} {b0 b1 b2 b3 b4 : Value}
    (hb : Below ((w.alloc o1).alloc (.cells #[b0, b1, b2, b3, b4] t2)).heap.size ((w.alloc o1).alloc (.cells #[b0, b1, b2, b3, b4] t2)) w1) :
    Box w1 (w.heap.size + 1) b0 b1 b2 b3 b4 ∧ Below w.heap.size w w1 := by
  have e1 : (w.alloc o1).heap.size = w.heap.size + 1 := by simp
  refine ⟨?_, ((below_new w o1).alloc (by simp) _).trans (hb.mono (by simp; omega))⟩
  rw [← e1]; exact (Box.new _ _ _ _ _ _ _).keep hb

theorem abs_minus (w : World) : Calls Tryd.prog 28 #[.agg #[.int .i64 (2), .int .i64 (0), .float .f64 (9223372036854775808), .string ⟨#[]⟩, .slice none 0 0]] w fun e w' => e = .returned (.tuple #[.agg #[.int .i64 (2), .int .i64 (0), .float .f64 (0), .string ⟨#[]⟩, .slice none 0 0], .int .i64 0]) ∧ Below w.heap.size w w' := by
  have hx : bits .andNot .u64 9223372036854775808 9223372036854775808 = 0 := by decide +kernel
  go_enter Tryd.func28, Tryd.ntmps28
  go_wp2_with fail
  refine (valueOf_yes 2 0 9223372036854775808 ⟨#[]⟩ none 0 0 (by decide) (by simp [rightB, Flt.fin]) _).mono ?_
  rintro e w1 ⟨rfl, hb1⟩
  obtain ⟨RB, hW⟩ := after2 hb1
  have HRB := hid RB
  clear hb1 RB
  go_wp2_with fail
  refine (numBits_any 0 (by decide) _).mono ?_
  rintro e w2 ⟨rfl, hb2⟩
  rw [show numBits 0 = ⟨2, 0, 0, 0⟩ by simp [numBits, Flt.fin]]
  have RB2 := (HRB.out.alloc _).keep hb2
  have hW2 : Below w.heap.size w w2 := (hW.alloc hW.size _).trans (hb2.mono (by have := hW.size; simp; omega))
  obtain ⟨d0, d1, d2, d3, d4, g0, g1, g2, g3, g4, ltr⟩ := RB2
  clear hb2 HRB
  go_wp2
  exact bodyPost_ret (v := .tuple #[.agg #[.int .i64 (2), .int .i64 (0), .float .f64 (0), .string ⟨#[]⟩, .slice none 0 0], .int .i64 0]) (by simp [results, Tryd.results28, go_sem, d0, d1, d2, d3, d4]) rfl ⟨rfl, below_set5 hW2 (by omega) _ _ _ _ _⟩

/-- two right numbers are the same just where kind, whole number and bits are -/
theorem same2 (ka kb na nb : Int) (fa fb : Nat) (hfa : fa < 18446744073709551616) (hfb : fb < 18446744073709551616) (ha : rightB ka na fa ⟨#[]⟩ 0 = true) (hb : rightB kb nb fb ⟨#[]⟩ 0 = true) (w : World) :
    Calls Tryd.prog 15 #[.agg #[.int .i64 (ka), .int .i64 (na), .float .f64 (fa), .string ⟨#[]⟩, .slice none 0 0], .agg #[.int .i64 (kb), .int .i64 (nb), .float .f64 (fb), .string ⟨#[]⟩, .slice none 0 0]] w fun e w' => e = .returned (.bool (ka == kb && (na == nb && (fa : Int) == (fb : Int)))) ∧ Below w.heap.size w w' := by
  have he := eqV
  have HA := hid ha
  have HB := hid hb
  clear ha hb
  go_enter Tryd.func15, Tryd.ntmps15
  go_wp2_with fail
  refine (valueOf_yes ka na fa ⟨#[]⟩ none 0 0 hfa HA.out _).mono ?_
  rintro e w1 ⟨rfl, hb1⟩
  have BB := (by exact (Box.new (w.alloc (.cells #[.int .i64 ka, .int .i64 na, .float .f64 fa, .string ⟨#[]⟩, .slice none 0 0] 26)) 26 (.int .i64 kb) (.int .i64 nb) (.float .f64 fb) (.string ⟨#[]⟩) (.slice none 0 0)).keep hb1 : Box w1 (w.alloc (.cells #[.int .i64 ka, .int .i64 na, .float .f64 fa, .string ⟨#[]⟩, .slice none 0 0] 26)).heap.size (.int .i64 kb) (.int .i64 nb) (.float .f64 fb) (.string ⟨#[]⟩) (.slice none 0 0))
  rw [show (w.alloc (.cells #[.int .i64 ka, .int .i64 na, .float .f64 fa, .string ⟨#[]⟩, .slice none 0 0] 26)).heap.size = w.heap.size + 1 by simp] at BB
  have hW : Below w.heap.size w w1 := ((below_new w _).alloc (by simp) _).trans (hb1.mono (by simp; omega))
  obtain ⟨c0, c1, c2, c3, c4, _, _, _, _, _, lt⟩ := BB
  clear hb1
  go_wp2_with fail
  refine (valueOf_yes kb nb fb ⟨#[]⟩ none 0 0 hfb HB.out _).mono ?_
  rintro e w2 ⟨rfl, hb2⟩
  clear c0 c1 c2 c3 c4 lt
  obtain ⟨⟨x0, x1, x2, ltx⟩, hk, hW2⟩ := later3 hW hb2
  clear hb2 hk hW
  go_wp2
  go_ret
  exact ⟨rfl, hW2.alloc hW2.size _⟩

theorem xor_top (u : Nat) (hu : u < 18446744073709551616) : bits .xor .u64 (u : Int) 9223372036854775808 = ((u ^^^ 9223372036854775808 : Nat) : Int) := by
  have := bits_xor_u64_nat u 9223372036854775808 hu (by decide)
  exact this

theorem neg_f (u : Nat) (hu : u < 18446744073709551616) (hf : Flt.fin u = true) (w : World) :
    Calls Tryd.prog 20 #[.agg #[.int .i64 (2), .int .i64 (0), .float .f64 (u), .string ⟨#[]⟩, .slice none 0 0]] w fun e w' => e = .returned (.tuple #[.agg #[.int .i64 ((numBits (u ^^^ 9223372036854775808)).k), .int .i64 ((numBits (u ^^^ 9223372036854775808)).n), .float .f64 ((numBits (u ^^^ 9223372036854775808)).f), .string ⟨#[]⟩, .slice none 0 0], .int .i64 (numBits (u ^^^ 9223372036854775808)).e]) ∧ Below w.heap.size w w' := by
  have hx := xor_top u hu
  have HR := hid (show rightB 2 0 u ⟨#[]⟩ 0 = true by simp [rightB, hf])
  have hl : u ^^^ 9223372036854775808 < 18446744073709551616 := Nat.xor_lt_two_pow (n := 64) hu (by decide)
  go_enter Tryd.func20, Tryd.ntmps20
  go_wp2_with fail
  refine (valueOf_yes 2 0 u ⟨#[]⟩ none 0 0 hu HR.out _).mono ?_
  rintro e w1 ⟨rfl, hb1⟩
  have RB := (by exact (Box.new (w.alloc (.cells #[.int .i64 2, .int .i64 0, .float .f64 u, .string ⟨#[]⟩, .slice none 0 0] 26)) 26 (.int .i64 0) (.int .i64 0) (.float .f64 0) (.string ⟨#[]⟩) (.slice none 0 0)).keep hb1 : Box w1 (w.alloc (.cells #[.int .i64 2, .int .i64 0, .float .f64 u, .string ⟨#[]⟩, .slice none 0 0] 26)).heap.size (.int .i64 0) (.int .i64 0) (.float .f64 0) (.string ⟨#[]⟩) (.slice none 0 0))
  rw [show (w.alloc (.cells #[.int .i64 2, .int .i64 0, .float .f64 u, .string ⟨#[]⟩, .slice none 0 0] 26)).heap.size = w.heap.size + 1 by simp] at RB
  have hW : Below w.heap.size w w1 := ((below_new w _).alloc (by simp) _).trans (hb1.mono (by simp; omega))
  have HRB := hid RB
  clear hb1 RB
  go_wp2_with fail
  refine (numBits_any _ hl _).mono ?_
  rintro e w2 ⟨rfl, hb2⟩
  have RB2 := (HRB.out.alloc _).keep hb2
  have hW2 : Below w.heap.size w w2 := (hW.alloc hW.size _).trans (hb2.mono (by have := hW.size; simp; omega))
  obtain ⟨d0, d1, d2, d3, d4, g0, g1, g2, g3, g4, ltr⟩ := RB2
  clear hb2 HRB
  go_wp2
  exact bodyPost_ret (v := .tuple #[.agg #[.int .i64 ((numBits (u ^^^ 9223372036854775808)).k), .int .i64 ((numBits (u ^^^ 9223372036854775808)).n), .float .f64 ((numBits (u ^^^ 9223372036854775808)).f), .string ⟨#[]⟩, .slice none 0 0], .int .i64 (numBits (u ^^^ 9223372036854775808)).e]) (by simp [results, Tryd.results20, go_sem, d0, d1, d2, d3, d4]) rfl ⟨rfl, below_set5 hW2 (by omega) _ _ _ _ _⟩
end Go.Proofs.YtmmldghlellehabDoor
