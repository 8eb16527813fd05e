import Derived.Test.YtggpbfmdhenjdaaG12
import Derived.Test.YtggpbfmdhenjdaaG14
import Derived.Test.YtggpbfmdhenjdaaG01
import Derived.Test.YtggpbfmdhenjdaaG13
/- The text of a float without leading zeros: the contract of Text at the float -0.0. -/
namespace Go.Proofs.Ytggpbfmdhenjdaa
open Go.RowKit

theorem hex_minus : hexN 9223372036854775808 16 = [56, 48, 48, 48, 48, 48, 48, 48, 48, 48, 48, 48, 48, 48, 48, 48] := by decide +kernel

theorem k15 (k : Nat) (hk : k ≤ 15) (h : 9223372036854775808 / 16 ^ k < 16) : k = 15 := by
  rcases Nat.lt_or_ge k 15 with h1 | h1
  · exfalso
    have h2 : 16 ^ k ≤ 16 ^ 14 := Nat.pow_le_pow_right (by decide) (by omega)
    have h3 : 9223372036854775808 / 16 ^ 14 ≤ 9223372036854775808 / 16 ^ k := Nat.div_le_div_left h2 (Nat.pow_pos (by decide))
    omega
  · omega

end Go.Proofs.Ytggpbfmdhenjdaa


/- The statements' own examples: known tells true. -/
namespace Go.Proofs.Ytggpbfmdhenjdaa
open Go.RowKit Go.Sort
attribute [local go_sem] store_float

theorem known_1 : numInt (576460752303423487 + 1) = ⟨0, 0, 0, 12⟩ := by simp [numInt, whB]
theorem known_2 : fltR (floatBits .quo .f64 (realV 1 1 0) (realV 1 2 0)) = ⟨2, 0, 4602678819172646912, 0⟩ := by kernel_rfl
theorem known_3 : numBits 9223372036854775808 = ⟨2, 0, 9223372036854775808, 0⟩ := by simp [numBits, Flt.fin]
theorem known_4 : numBits 9218868437227405312 = ⟨0, 0, 0, 11⟩ := by simp [numBits, Flt.fin]
theorem known_5 : zB (realV 1 2 0) = false := by decide +kernel

/-- a box laid behind a call, kept behind the next one -/
theorem boxStep {w w3 w4 : World} {t : TypeId} {v0 v1 v2 v3 v4 : Value} (hW : Below w.heap.size w w3) (hb : Below (w3.alloc (.cells #[v0, v1, v2, v3, v4] t)).heap.size (w3.alloc (.cells #[v0, v1, v2, v3, v4] t)) w4) :
    Box w4 w3.heap.size v0 v1 v2 v3 v4 ∧ Below w3.heap.size w3 w4 ∧ Below w.heap.size w w4 :=
  ⟨(Box.new _ _ _ _ _ _ _).keep hb, (below_new _ _).trans (hb.mono (by simp)), (hW.alloc hW.size _).trans (hb.mono (by have := hW.size; simp; omega))⟩

end Go.Proofs.Ytggpbfmdhenjdaa


