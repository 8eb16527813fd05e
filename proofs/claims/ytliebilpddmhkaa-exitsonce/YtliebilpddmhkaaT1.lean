/- The text of a float without leading zeros: the contract of Text at the float -0.0. -/
import Derived.Test.YtliebilpddmhkaaW2
import Derived.Test.YtliebilpddmhkaaW3
import Derived.Test.YtliebilpddmhkaaBox
namespace Go.Proofs.Ytliebilpddmhkaa
open Go.RowKit

theorem hex_minus : hexN 9223372036854775808 16 = [56, 48, 48, 48, 48, 48, 48, 48, 48, 48, 48, 48, 48, 48, 48, 48] := by decide +kernel

theorem k15 (k : Nat) (hk : k ≤ 15) (h : 9223372036854775808 / 16 ^ k < 16) : k = 15 := by
  rcases Nat.lt_or_ge k 15 with h1 | h1
  · exfalso
    have h2 : 16 ^ k ≤ 16 ^ 14 := Nat.pow_le_pow_right (by decide) (by omega)
    have h3 : 9223372036854775808 / 16 ^ 14 ≤ 9223372036854775808 / 16 ^ k := Nat.div_le_div_left h2 (Nat.pow_pos (by decide))
    omega
  · omega

end Go.Proofs.Ytliebilpddmhkaa
