import Derived.Test.YtpcpdehnppfbfaaGreatG29
import Derived.Deep.DrawnRows
/- Contracts of Op: quotients. -/
namespace Go.Proofs.YtpcpdehnppfbfaaGreat
open Go.RowKit
attribute [local go_sem] store_float
attribute [local go_sem ↓] Go.wp_at_zero Go.wp_at_succ

end Go.Proofs.YtpcpdehnppfbfaaGreat


/- Plain facts on hexadecimal digits: how many a number has, and what they are. -/
namespace Go.Proofs.YtpcpdehnppfbfaaGreat

def hexd (d : Nat) : Nat := if d < 10 then 48 + d else 87 + d

theorem hexd_lt (d : Nat) (h : d < 16) : hexd d < 256 := by unfold hexd; split <;> omega

/-- the last k hexadecimal digits of u -/
def hexN (u k : Nat) : List UInt8 := (List.range k).map fun j => UInt8.ofNat (hexd (u / 16 ^ (k - 1 - j) % 16))

theorem hexN_length (u k : Nat) : (hexN u k).length = k := by simp [hexN]

theorem hexN_get (u k j : Nat) (hj : j < (hexN u k).length) : ((hexN u k)[j].toNat : Int) = ((hexd (u / 16 ^ (k - 1 - j) % 16) : Nat) : Int) := by
  have h := hexd_lt (u / 16 ^ (k - 1 - j) % 16) (Nat.mod_lt _ (by decide))
  simp only [hexN, List.getElem_map, List.getElem_range]
  rw [UInt8.toNat_ofNat', Nat.mod_eq_of_lt (by simpa using h)]

theorem shr4 (u k : Nat) : u / 16 ^ k / 16 = u / 16 ^ (k + 1) := by rw [Nat.div_div_eq_div_mul, Nat.pow_succ]

/-- while sixteen or more is left fewer than fifteen digits have been cut -/
theorem hex_more {u k : Nat} (hu : u < 18446744073709551616) (h : 16 ≤ u / 16 ^ k) : k < 15 := by
  rcases Nat.lt_or_ge k 15 with h1 | h1
  · exact h1
  · exfalso
    have h2 : 16 ^ 15 ≤ 16 ^ k := Nat.pow_le_pow_right (by decide) h1
    have h3 : u / 16 ^ k ≤ u / 16 ^ 15 := Nat.div_le_div_left h2 (by decide)
    have h4 : u / 16 ^ 15 < 16 := by omega
    omega
end Go.Proofs.YtpcpdehnppfbfaaGreat


