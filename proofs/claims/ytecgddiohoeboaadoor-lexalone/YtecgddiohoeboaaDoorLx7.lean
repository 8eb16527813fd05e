/- Numbers. -/
import Derived.Test.YtecgddiohoeboaaDoorLx6
import Derived.Test.YtecgddiohoeboaaDoorV1
namespace Go.Proofs.YtecgddiohoeboaaDoor
open Go.RowKit Go.Lib
attribute [local go_sem] store_float f64bits
attribute [local go_sem ↓] Go.wp_at_zero Go.wp_at_succ

/-- The powers of ten as floats. -/
def p10L : List Nat := [4607182418800017408, 4621819117588971520, 4636737291354636288, 4652007308841189376, 4666723172467343360, 4681608360884174848, 4696837146684686336, 4711630319722168320, 4726483295884279808, 4741671816366391296, 4756540486875873280, 4771362005757984768, 4786511204640096256, 4801453603149578240, 4816244402031689728, 4831355200913801216]
def p10 (k : Nat) : Nat := p10L.getD k 0

/-- The tables of powers lie where they must. -/
structure PowTab (w : World) : Prop where
  one : w.cell? ⟨2, 0, none⟩ = some (.float .f64 4607182418800017408)
  tab : ∀ k x, p10L[k]? = some x → w.cell? ⟨3, k, none⟩ = some (.float .f64 x)

theorem mul10_0 : floatBits .mul .f64 4607182418800017408 4607182418800017408 = some 4607182418800017408 := by kernel_rfl
theorem conv10_0 : floatOfInt .f64 1 = 4607182418800017408 := by kernel_rfl
theorem mul10_1 : floatBits .mul .f64 4607182418800017408 4621819117588971520 = some 4621819117588971520 := by kernel_rfl
theorem conv10_1 : floatOfInt .f64 10 = 4621819117588971520 := by kernel_rfl
theorem mul10_2 : floatBits .mul .f64 4607182418800017408 4636737291354636288 = some 4636737291354636288 := by kernel_rfl
theorem conv10_2 : floatOfInt .f64 100 = 4636737291354636288 := by kernel_rfl
theorem mul10_3 : floatBits .mul .f64 4607182418800017408 4652007308841189376 = some 4652007308841189376 := by kernel_rfl
theorem conv10_3 : floatOfInt .f64 1000 = 4652007308841189376 := by kernel_rfl
theorem mul10_4 : floatBits .mul .f64 4607182418800017408 4666723172467343360 = some 4666723172467343360 := by kernel_rfl
theorem conv10_4 : floatOfInt .f64 10000 = 4666723172467343360 := by kernel_rfl
theorem mul10_5 : floatBits .mul .f64 4607182418800017408 4681608360884174848 = some 4681608360884174848 := by kernel_rfl
theorem conv10_5 : floatOfInt .f64 100000 = 4681608360884174848 := by kernel_rfl
theorem mul10_6 : floatBits .mul .f64 4607182418800017408 4696837146684686336 = some 4696837146684686336 := by kernel_rfl
theorem conv10_6 : floatOfInt .f64 1000000 = 4696837146684686336 := by kernel_rfl
theorem mul10_7 : floatBits .mul .f64 4607182418800017408 4711630319722168320 = some 4711630319722168320 := by kernel_rfl
theorem conv10_7 : floatOfInt .f64 10000000 = 4711630319722168320 := by kernel_rfl
theorem mul10_8 : floatBits .mul .f64 4607182418800017408 4726483295884279808 = some 4726483295884279808 := by kernel_rfl
theorem conv10_8 : floatOfInt .f64 100000000 = 4726483295884279808 := by kernel_rfl
theorem mul10_9 : floatBits .mul .f64 4607182418800017408 4741671816366391296 = some 4741671816366391296 := by kernel_rfl
theorem conv10_9 : floatOfInt .f64 1000000000 = 4741671816366391296 := by kernel_rfl
theorem mul10_10 : floatBits .mul .f64 4607182418800017408 4756540486875873280 = some 4756540486875873280 := by kernel_rfl
theorem conv10_10 : floatOfInt .f64 10000000000 = 4756540486875873280 := by kernel_rfl
theorem mul10_11 : floatBits .mul .f64 4607182418800017408 4771362005757984768 = some 4771362005757984768 := by kernel_rfl
theorem conv10_11 : floatOfInt .f64 100000000000 = 4771362005757984768 := by kernel_rfl
theorem mul10_12 : floatBits .mul .f64 4607182418800017408 4786511204640096256 = some 4786511204640096256 := by kernel_rfl
theorem conv10_12 : floatOfInt .f64 1000000000000 = 4786511204640096256 := by kernel_rfl
theorem mul10_13 : floatBits .mul .f64 4607182418800017408 4801453603149578240 = some 4801453603149578240 := by kernel_rfl
theorem conv10_13 : floatOfInt .f64 10000000000000 = 4801453603149578240 := by kernel_rfl
theorem mul10_14 : floatBits .mul .f64 4607182418800017408 4816244402031689728 = some 4816244402031689728 := by kernel_rfl
theorem conv10_14 : floatOfInt .f64 100000000000000 = 4816244402031689728 := by kernel_rfl
theorem mul10_15 : floatBits .mul .f64 4607182418800017408 4831355200913801216 = some 4831355200913801216 := by kernel_rfl
theorem conv10_15 : floatOfInt .f64 1000000000000000 = 4831355200913801216 := by kernel_rfl

set_option maxHeartbeats 1000000 in
theorem pow10_core (X : Int) (x : Nat) (w : World) (x0 : 0 ≤ X) (x1 : X < 32) (h1 : w.cell? ⟨2, 0, none⟩ = some (.float .f64 4607182418800017408)) (h2 : w.cell? ⟨3, X.toNat, none⟩ = some (.float .f64 x)) (hm : floatBits .mul .f64 4607182418800017408 x = some x) :
    Calls Tryd.prog 76 #[.int .i64 X] w fun e w' => e = .returned (.float .f64 x) ∧ Below w.heap.size w w' := by
  have hmm := fun t w => run_float_arith (P := Tryd.prog) w .mul t .f64 _ _ _ hm
  have q0 : X / 32 = 0 := by omega
  have q1 : X % 32 = X := by omega
  have x2 : X ≤ 308 := by omega
  have u0 : IntKind.u64.wrap X = X := by rw [IntKind.wrap_u64]; omega
  have u1 : IntKind.u64.wrap 0 = 0 := by rw [IntKind.wrap_u64]; omega
  have u2 : (0 : Int) < 10 := by omega
  clear hm
  go_enter Tryd.func76, Tryd.ntmps76
  go_wp2_with fail
  go_region
  go_wp2_with fail
  go_ret
  exact ⟨rfl, Below.drew (Below.refl _ _)⟩

theorem mul10 (k x : Nat) (h : p10L[k]? = some x) : floatBits .mul .f64 4607182418800017408 x = some x := by
  have hk : k < 16 := (List.getElem?_eq_some_iff.1 h).1
  match k, hk, h with
  | 0, _, h => cases h; exact mul10_0
  | 1, _, h => cases h; exact mul10_1
  | 2, _, h => cases h; exact mul10_2
  | 3, _, h => cases h; exact mul10_3
  | 4, _, h => cases h; exact mul10_4
  | 5, _, h => cases h; exact mul10_5
  | 6, _, h => cases h; exact mul10_6
  | 7, _, h => cases h; exact mul10_7
  | 8, _, h => cases h; exact mul10_8
  | 9, _, h => cases h; exact mul10_9
  | 10, _, h => cases h; exact mul10_10
  | 11, _, h => cases h; exact mul10_11
  | 12, _, h => cases h; exact mul10_12
  | 13, _, h => cases h; exact mul10_13
  | 14, _, h => cases h; exact mul10_14
  | 15, _, h => cases h; exact mul10_15

theorem conv10 (k x : Nat) (h : p10L[k]? = some x) : floatOfInt .f64 ((10 ^ k : Nat) : Int) = x := by
  have hk : k < 16 := (List.getElem?_eq_some_iff.1 h).1
  match k, hk, h with
  | 0, _, h => cases h; exact conv10_0
  | 1, _, h => cases h; exact conv10_1
  | 2, _, h => cases h; exact conv10_2
  | 3, _, h => cases h; exact conv10_3
  | 4, _, h => cases h; exact conv10_4
  | 5, _, h => cases h; exact conv10_5
  | 6, _, h => cases h; exact conv10_6
  | 7, _, h => cases h; exact conv10_7
  | 8, _, h => cases h; exact conv10_8
  | 9, _, h => cases h; exact conv10_9
  | 10, _, h => cases h; exact conv10_10
  | 11, _, h => cases h; exact conv10_11
  | 12, _, h => cases h; exact conv10_12
  | 13, _, h => cases h; exact conv10_13
  | 14, _, h => cases h; exact conv10_14
  | 15, _, h => cases h; exact conv10_15

theorem p10_at (k : Nat) (hk : k < 16) : p10L[k]? = some (p10 k) := by
  unfold p10
  rw [List.getD_eq_getElem?_getD, List.getElem?_eq_getElem (show k < p10L.length from hk)]
  rfl

theorem pow10_any (k : Nat) (hk : k < 16) (w : World) (h : PowTab w) : Calls Tryd.prog 76 #[.int .i64 (k : Int)] w fun e w' => e = .returned (.float .f64 (p10 k)) ∧ Below w.heap.size w w' :=
  pow10_core k (p10 k) w (by omega) (by omega) h.one (by rw [Int.toNat_natCast]; exact h.tab k _ (p10_at k hk)) (mul10 k _ (p10_at k hk))
end Go.Proofs.YtecgddiohoeboaaDoor
