/- The walk of NumDivides: it returns true, and nothing that was there has turned. -/
import Derived.Test.YtmmldghlellehabDoorK1
import Derived.Test.YtmmldghlellehabDoorO2m
namespace Go.Proofs.YtmmldghlellehabDoor
open Go.RowKit
attribute [local go_sem] store_float

theorem lsize_any (y : Int) (h1 : -576460752303423488 ≤ y) (h2 : y ≤ 576460752303423488) (w : World) : Calls Tryd.prog 12 #[.int .i64 y] w fun e w' => e = .returned (.int .i64 (y.natAbs : Int)) ∧ w' = w := by
  go_enter Tryd.func12, Tryd.ntmps12
  go_wp2
  all_goals
    go_ret
    exact ⟨congrArg (fun z => Ending.returned (Value.int .i64 z)) (by omega), rfl⟩

theorem tmod_in (a : Int) : -576460752303423488 < a.tmod 576460752303423488 ∧ a.tmod 576460752303423488 < 576460752303423488 := by
  have h1 := Int.natAbs_tmod a 576460752303423488
  have h2 : a.natAbs % (576460752303423488 : Int).natAbs < 576460752303423488 := Nat.mod_lt _ (by decide)
  omega

theorem numInt_in {z : Int} (h : whB z = true) : numInt z = ⟨1, z, 0, 0⟩ := by simp [numInt, h]

/-- what a quotient and a rest are, in plain numbers -/
theorem divides (x y : Int) (hx : -576460752303423488 < x ∧ x < 576460752303423488) (hy : ¬ y = 0) :
    whB (x.tdiv y) = true ∧ whB (x.tmod y) = true ∧ x.tdiv y * y + x.tmod y = x ∧ (x.tmod y).natAbs < y.natAbs ∧ (x.tmod y = 0 ∨ (x.tmod y < 0 ∧ x < 0) ∨ (0 < x.tmod y ∧ 0 < x)) ∧ -576460752303423488 < x.tdiv y * y ∧ x.tdiv y * y < 576460752303423488 := by
  have e := Int.tdiv_mul_add_tmod x y
  have m1 := Int.natAbs_tmod x y
  have d1 : (x.tdiv y).natAbs = x.natAbs / y.natAbs := Int.natAbs_tdiv x y
  have d2 := Nat.div_le_self x.natAbs y.natAbs
  have m2 : x.natAbs % y.natAbs < y.natAbs := Nat.mod_lt _ (by omega)
  have m3 : x.natAbs % y.natAbs ≤ x.natAbs := Nat.mod_le _ _
  have s1 : 0 ≤ x → 0 ≤ x.tmod y := fun h => Int.tmod_nonneg y h
  have s2 : x ≤ 0 → x.tmod y ≤ 0 := fun h => by
    have := Int.tmod_nonneg y (a := -x) (by omega)
    rw [Int.neg_tmod] at this; omega
  refine ⟨whB_mk (by omega), whB_mk (by omega), e, by omega, by omega, ?_, ?_⟩
  · generalize x.tdiv y * y = p at *; generalize x.tmod y = r at *; omega
  · generalize x.tdiv y * y = p at *; generalize x.tmod y = r at *; omega

set_option maxHeartbeats 2000000 in
theorem numDivides_zero (a b : Int) (hy0 : b.tmod 576460752303423488 = 0) (w : World) (ht : w.cell? ⟨4, 15, none⟩ = some (.int .u8 4)) :
    Calls Tryd.prog 3 #[.int .i64 a, .int .i64 b] w fun e w' => e = .returned (.bool true) ∧ Below w.heap.size w w' := by
  have hx := tmod_in a
  obtain ⟨x, hxa⟩ : ∃ x, a.tmod 576460752303423488 = x := ⟨_, rfl⟩
  rw [hxa] at hx
  have hw : whB x = true := whB_mk (by omega)
  have hr : rightB 1 x 0 ⟨#[]⟩ 0 = true := by simp [rightB, hw]
  have HR := hid hr
  clear hr hw
  go_enter Tryd.func3, Tryd.ntmps3
  go_wp2_with fail
  refine (known_any _ ht).mono ?_
  rintro e w1 ⟨rfl, hb1⟩
  clear ht
  go_wp2_with fail
  refine (i_any _ _).mono ?_
  rintro e w2 ⟨rfl, hb2⟩
  go_wp2_with fail
  refine (i_any _ _).mono ?_
  rintro e w3 ⟨rfl, hb3⟩
  have hW3 : Below w.heap.size w w3 := bthen (bthen hb1 hb2) hb3
  clear hb1 hb2 hb3
  go_wp2_with fail
  refine (op_wdiv0 x 0 0 ⟨#[]⟩ ⟨#[]⟩ none none 0 0 0 0 HR.out (by simp [rightB, whB]) (by decide) (by decide) _).mono ?_
  rintro e w4 ⟨rfl, hb4⟩
  have hW4 : Below w.heap.size w w4 := bthen hW3 hb4
  clear hb4 hW3
  go_wp2_with fail
  refine (i_any _ _).mono ?_
  rintro e w5 ⟨rfl, hb5⟩
  obtain ⟨BQ, _, hW5⟩ := boxStep hW4 hb5
  clear hb5 hW4
  go_wp2_with fail
  refine (i_any _ _).mono ?_
  rintro e w6 ⟨rfl, hb6⟩
  have BQ6 := BQ.keep hb6
  have hW6 : Below w.heap.size w w6 := bthen hW5 hb6
  clear hb6 hW5 BQ
  go_wp2_with fail
  refine (op_wrem0 x 0 0 ⟨#[]⟩ ⟨#[]⟩ none none 0 0 0 0 HR.out (by simp [rightB, whB]) (by decide) (by decide) _).mono ?_
  rintro e w7 ⟨rfl, hb7⟩
  have BQ7 := BQ6.keep hb7
  have hW7 : Below w.heap.size w w7 := bthen hW6 hb7
  clear hb7 hW6 BQ6
  go_wp2
  go_ret
  exact ⟨rfl, hW7.alloc hW7.size _⟩

set_option maxHeartbeats 2000000 in
theorem numDivides_some (a b y : Int) (hyb : b.tmod 576460752303423488 = y) (hy : ¬ y = 0) (w : World) (ht : w.cell? ⟨4, 15, none⟩ = some (.int .u8 4)) :
    Calls Tryd.prog 3 #[.int .i64 a, .int .i64 b] w fun e w' => e = .returned (.bool true) ∧ Below w.heap.size w w' := by
  have hx := tmod_in a
  have hyy := tmod_in b
  rw [hyb] at hyy
  obtain ⟨x, hxa⟩ : ∃ x, a.tmod 576460752303423488 = x := ⟨_, rfl⟩
  rw [hxa] at hx
  obtain ⟨hq, hr, e1, e2, e3, e4, e5⟩ := divides x y hx hy
  have hwx : whB x = true := whB_mk (by omega)
  have hwy : whB y = true := whB_mk (by omega)
  have HRX := hid (show rightB 1 x 0 ⟨#[]⟩ 0 = true by simp [rightB, hwx])
  have HRY := hid (show rightB 1 y 0 ⟨#[]⟩ 0 = true by simp [rightB, hwy])
  have HWX := hid hwx
  have HWY := hid hwy
  have HQ := hid (numInt_in hq)
  have HR := hid (numInt_in hr)
  have hy' : (y == 0) = false := by simpa using hy
  generalize hqd : x.tdiv y = q at *
  generalize hrd : x.tmod y = r at *
  have HQD := hid hqd
  have HRD := hid hrd
  obtain ⟨p, hp⟩ : ∃ p, p = q * y := ⟨_, rfl⟩
  rw [← hp] at e1 e4 e5
  have hmul : IntKind.i64.wrap (q * y) = p := by rw [← hp, IntKind.wrap_i64]; omega
  clear hp
  have e1a : p + r ≤ x := by omega
  have e1b : x ≤ p + r := by omega
  have HE3 := hid e3
  clear hqd hrd hq hr e1 e3 hwx hwy
  go_enter Tryd.func3, Tryd.ntmps3
  go_wp2_with fail
  refine (known_any _ ht).mono ?_
  rintro e w1 ⟨rfl, hb1⟩
  clear ht
  go_wp2_with fail
  refine (i_any _ _).mono ?_
  rintro e w2 ⟨rfl, hb2⟩
  go_wp2_with fail
  refine (i_any _ _).mono ?_
  rintro e w3 ⟨rfl, hb3⟩
  have hW3 : Below w.heap.size w w3 := bthen (bthen hb1 hb2) hb3
  clear hb1 hb2 hb3
  go_wp2_with fail
  refine (op_wdiv x y 0 0 ⟨#[]⟩ ⟨#[]⟩ none none 0 0 0 0 HRX.out HRY.out (by decide) (by decide) HWX.out HWY.out hy _).mono ?_
  rintro e w4 ⟨rfl, hb4⟩
  have hW4 : Below w.heap.size w w4 := bthen hW3 hb4
  rw [HQD.out, HQ.out]
  clear hb4 hW3
  go_wp2_with fail
  refine (i_any _ _).mono ?_
  rintro e w5 ⟨rfl, hb5⟩
  obtain ⟨BQ, _, hW5⟩ := boxStep hW4 hb5
  clear hb5 hW4
  go_wp2_with fail
  refine (i_any _ _).mono ?_
  rintro e w6 ⟨rfl, hb6⟩
  have BQ6 := BQ.keep hb6
  have hW6 : Below w.heap.size w w6 := bthen hW5 hb6
  clear hb6 hW5 BQ
  go_wp2_with fail
  refine (op_wrem x y 0 0 ⟨#[]⟩ ⟨#[]⟩ none none 0 0 0 0 HRX.out HRY.out (by decide) (by decide) HWX.out HWY.out hy _).mono ?_
  rintro e w7 ⟨rfl, hb7⟩
  have BQ7 := BQ6.keep hb7
  have hW7 : Below w.heap.size w w7 := bthen hW6 hb7
  rw [HRD.out, HR.out]
  clear hb7 hW6 BQ6
  have q1 := BQ7.c1
  have ql := BQ7.lt
  clear BQ7
  go_wp2
  have hsum : IntKind.i64.wrap (p + r) = x := by rw [IntKind.wrap_i64]; omega
  have hneg : IntKind.i64.wrap (-r) = -r := by rw [IntKind.wrap_i64]; omega
  have hneg2 : IntKind.i64.wrap (0 - r) = -r := by rw [IntKind.wrap_i64]; omega
  have n1 : r < (y.natAbs : Int) := by omega
  have n2 : -r < (y.natAbs : Int) := by omega
  rcases HE3.out with h | ⟨h, h'⟩ | ⟨h, h'⟩
  · subst h
    simp only [Int.add_zero] at hsum
    have n4 : 0 < (y.natAbs : Int) := by omega
    clear n1 n2 e1a e1b hneg hneg2
    go_quiet ((go_at_call 12; exact Calls.quiet_of_same (lsize_any _ (by omega) (by omega) _)))
    go_wp2
    go_ret
    exact ⟨rfl, below_drewN (hW7.alloc hW7.size _) _⟩
  · clear e1a e1b
    have r0 : (r == 0) = false := by rw [beq_eq_false_iff_ne]; omega
    have d1 : decide (r < 0) = true := by simpa using h
    have d2 : decide (x < 0) = true := by simpa using h'
    go_quiet ((go_at_call 12; exact Calls.quiet_of_same (lsize_any _ (by omega) (by omega) _)))
    go_wp2
    go_ret
    exact ⟨rfl, below_drewN (hW7.alloc hW7.size _) _⟩
  · clear e1a e1b
    have r0 : (r == 0) = false := by rw [beq_eq_false_iff_ne]; omega
    have d1 : decide (r < 0) = false := by simp; omega
    have d2 : decide (x < 0) = false := by simp; omega
    go_quiet ((go_at_call 12; exact Calls.quiet_of_same (lsize_any _ (by omega) (by omega) _)))
    go_wp2
    go_ret
    exact ⟨rfl, below_drewN (hW7.alloc hW7.size _) _⟩

theorem numDivides_any (a b : Int) (w : World) (ht : w.cell? ⟨4, 15, none⟩ = some (.int .u8 4)) :
    Calls Tryd.prog 3 #[.int .i64 a, .int .i64 b] w fun e w' => e = .returned (.bool true) ∧ Below w.heap.size w w' := by
  by_cases h : b.tmod 576460752303423488 = 0
  · exact numDivides_zero a b h w ht
  · exact numDivides_some a b _ rfl h w ht
end Go.Proofs.YtmmldghlellehabDoor
