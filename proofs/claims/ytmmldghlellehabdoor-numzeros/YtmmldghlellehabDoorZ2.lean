/- The walk of NumZeros: it returns true, and nothing that was there has turned. -/
import Derived.Test.YtmmldghlellehabDoorZ1
import Derived.Test.YtmmldghlellehabDoorO4add
import Derived.Test.YtmmldghlellehabDoorO4sub
import Derived.Test.YtmmldghlellehabDoorO4mul
namespace Go.Proofs.YtmmldghlellehabDoor
open Go.RowKit Go.Sort
attribute [local go_sem] store_float

theorem realV2 (u : Nat) : realV 2 0 u = u := by simp [realV]
theorem numBits_fin {r : Nat} (h : Flt.fin r = true) : numBits r = ⟨2, 0, r, 0⟩ := by simp [numBits, h]

theorem real2 (f : Nat) (w : World) : Calls Tryd.prog 35 #[.agg #[.int .i64 2, .int .i64 0, .int .u64 f]] w fun e w' => e = .returned (.float .f64 f) ∧ Below w.heap.size w w' :=
  (real_any 2 0 f w).mono fun e w' h => by rw [realV2] at h; exact h

theorem cmp_zz (fa fb : Nat) (ha : fa = 0 ∨ fa = 9223372036854775808) (hb : fb = 0 ∨ fb = 9223372036854775808) (w : World) :
    Calls Tryd.prog 14 #[.agg #[.int .i64 (2), .int .i64 (0), .float .f64 (fa), .string ⟨#[]⟩, .slice none 0 0], .agg #[.int .i64 (2), .int .i64 (0), .float .f64 (fb), .string ⟨#[]⟩, .slice none 0 0]] w fun e w' => e = .returned (.int .i64 0) ∧ Below w.heap.size w w' := by
  have o1 : FloatKind.f64.format.order fa fa = some .eq := by rcases ha with rfl | rfl <;> decide +kernel
  have o2 : FloatKind.f64.format.order fb fb = some .eq := by rcases hb with rfl | rfl <;> decide +kernel
  have o3 : FloatKind.f64.format.order fa fb = some .eq := by rcases ha with rfl | rfl <;> rcases hb with rfl | rfl <;> decide +kernel
  have HA := hid (show rightB 2 0 fa ⟨#[]⟩ 0 = true by rcases ha with rfl | rfl <;> simp [rightB, Flt.fin])
  have HB := hid (show rightB 2 0 fb ⟨#[]⟩ 0 = true by rcases hb with rfl | rfl <;> simp [rightB, Flt.fin])
  have la : fa < 18446744073709551616 := by omega
  have lb : fb < 18446744073709551616 := by omega
  clear ha hb
  go_enter Tryd.func14, Tryd.ntmps14
  go_wp2_with fail
  refine (valueOf_yes 2 0 fa ⟨#[]⟩ none 0 0 la HA.out _).mono ?_
  rintro e w1 ⟨rfl, hb1⟩
  obtain ⟨⟨c0, c1, c2, c3, c4, _, _, _, _, _, lt⟩, hW⟩ := after2 hb1
  clear hb1
  go_wp2_with fail
  refine (valueOf_yes 2 0 fb ⟨#[]⟩ none 0 0 lb HB.out _).mono ?_
  rintro e w2 ⟨rfl, hb2⟩
  clear c0 c1 c2 c3 c4 lt
  obtain ⟨XB, hk, hW2⟩ := later3 hW hb2
  obtain ⟨x0, x1, x2, ltx⟩ := XB
  clear hb2 hk hW
  go_wp2_with fail
  have hW3 : Below w.heap.size w (w2.alloc (.cells #[.int .i64 2, .int .i64 0, .int .u64 fb] 56)) := hW2.alloc hW2.size _
  have XB3 := (Box3.mk x0 x1 x2 ltx).alloc (.cells #[.int .i64 2, .int .i64 0, .int .u64 fb] 56)
  have YB3 := Box3.new w2 56 (.int .i64 2) (.int .i64 0) (.int .u64 fb)
  clear x0 x1 x2 ltx hW2
  generalize w2.alloc (.cells #[.int .i64 2, .int .i64 0, .int .u64 fb] 56) = W at *
  have kx0 := cell_regrown XB3.c0
  have kx1 := cell_regrown XB3.c1
  have kx2 := cell_regrown XB3.c2
  have ky0 := cell_regrown YB3.c0
  have ky1 := cell_regrown YB3.c1
  have ky2 := cell_regrown YB3.c2
  clear XB3 YB3
  refine wp_region_quiet_below (by kernel_rfl) (by kernel_rfl) ?_
  repeat (first
    | go_big_quiet_step (first | (go_at_call 35; exact Calls.regrown_of (real2 _ _)) | (go_at_call 39; exact Calls.regrown_of ((compare_eq _ _ o1 o2 o3 _).mono fun _ _ h => ⟨h.1, by rw [h.2]; exact Below.refl _ _⟩)))
    | quiet_step (first | (go_at_call 35; exact Calls.regrown_of (real2 _ _)) | (go_at_call 39; exact Calls.regrown_of ((compare_eq _ _ o1 o2 o3 _).mono fun _ _ h => ⟨h.1, by rw [h.2]; exact Below.refl _ _⟩))))
  refine wpQuiet_nil ?_
  intro _ hw'
  obtain ⟨⟨dq, osq⟩, hw2⟩ := hw'
  subst hw2
  go_wp2
  go_ret
  exact ⟨rfl, bthen hW3 (below_regrown W dq osq)⟩
theorem cmp_zi (fa : Nat) (ha : fa = 0 ∨ fa = 9223372036854775808) (w : World) :
    Calls Tryd.prog 14 #[.agg #[.int .i64 (2), .int .i64 (0), .float .f64 (fa), .string ⟨#[]⟩, .slice none 0 0], .agg #[.int .i64 (1), .int .i64 (0), .float .f64 (0), .string ⟨#[]⟩, .slice none 0 0]] w fun e w' => e = .returned (.int .i64 0) ∧ Below w.heap.size w w' := by
  have HA := hid (show rightB 2 0 fa ⟨#[]⟩ 0 = true by rcases ha with rfl | rfl <;> simp [rightB, Flt.fin])
  have HE := hid ha
  have la : fa < 18446744073709551616 := by omega
  clear ha
  go_enter Tryd.func14, Tryd.ntmps14
  go_wp2_with fail
  refine (valueOf_yes 2 0 fa ⟨#[]⟩ none 0 0 la HA.out _).mono ?_
  rintro e w1 ⟨rfl, hb1⟩
  obtain ⟨⟨c0, c1, c2, c3, c4, _, _, _, _, _, lt⟩, hW⟩ := after2 hb1
  clear hb1
  go_wp2_with fail
  refine (valueOf_yes 1 0 0 ⟨#[]⟩ none 0 0 (by decide) (by simp [rightB, whB]) _).mono ?_
  rintro e w2 ⟨rfl, hb2⟩
  clear c0 c1 c2 c3 c4 lt
  obtain ⟨XB, hk, hW2⟩ := later3 hW hb2
  obtain ⟨x0, x1, x2, ltx⟩ := XB
  clear hb2 hk hW
  go_wp2_with fail
  have hW3 : Below w.heap.size w (w2.alloc (.cells #[.int .i64 1, .int .i64 0, .int .u64 0] 56)) := hW2.alloc hW2.size _
  have XB3 := (Box3.mk x0 x1 x2 ltx).alloc (.cells #[.int .i64 1, .int .i64 0, .int .u64 0] 56)
  have YB3 := Box3.new w2 56 (.int .i64 1) (.int .i64 0) (.int .u64 0)
  clear x0 x1 x2 ltx hW2
  generalize w2.alloc (.cells #[.int .i64 1, .int .i64 0, .int .u64 0] 56) = W at *
  have kx0 := cell_regrown XB3.c0
  have kx1 := cell_regrown XB3.c1
  have kx2 := cell_regrown XB3.c2
  have ky0 := cell_regrown YB3.c0
  have ky1 := cell_regrown YB3.c1
  have ky2 := cell_regrown YB3.c2
  clear XB3 YB3
  refine wp_region_quiet_below (by kernel_rfl) (by kernel_rfl) ?_
  repeat (first
    | go_big_quiet_step (first | (go_at_call 35; exact Calls.regrown_of (real2 _ _)) | (go_at_call 19; exact Calls.regrown_of ((exact_zero _ HE.out _).mono fun _ _ h => ⟨h.1, by rw [h.2]; exact Below.refl _ _⟩)))
    | quiet_step (first | (go_at_call 35; exact Calls.regrown_of (real2 _ _)) | (go_at_call 19; exact Calls.regrown_of ((exact_zero _ HE.out _).mono fun _ _ h => ⟨h.1, by rw [h.2]; exact Below.refl _ _⟩))))
  refine wpQuiet_nil ?_
  intro _ hw'
  obtain ⟨⟨dq, osq⟩, hw2⟩ := hw'
  subst hw2
  go_wp2
  go_ret
  exact ⟨rfl, bthen hW3 (below_regrown W dq osq)⟩

theorem mul_zero_bits {u : Nat} (hl : u < 18446744073709551616) (hu : Flt.fin u = true) (neg : Bool) :
    floatBits .mul .f64 u (if neg then 9223372036854775808 else 0) = some (if decide (9223372036854775808 ≤ u) ^^ neg then 9223372036854775808 else 0) := by
  obtain ⟨m, p, hr, _, _, _⟩ := Flt.read_canon hl hu
  have h0 : Ieee.double.read (if neg then 9223372036854775808 else 0) = .number neg 0 (-1074) := by cases neg <;> decide
  show ((Ieee.double.read u).product (Ieee.double.read (if neg then 9223372036854775808 else 0))).map Ieee.double.write = _
  rw [hr, h0]
  simp only [Ieee.Datum.product, Option.map_some, Nat.mul_zero, Ieee.Format.write, Ieee.Format.nearest, if_true, Flt.word_val, Nat.add_zero]

theorem zero_fin (b : Bool) : Flt.fin (if b then 9223372036854775808 else 0) = true := by cases b <;> decide

end Go.Proofs.YtmmldghlellehabDoor
