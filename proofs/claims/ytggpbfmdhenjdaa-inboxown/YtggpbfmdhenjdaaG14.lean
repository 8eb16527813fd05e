import Derived.Test.YtggpbfmdhenjdaaG00
import Derived.LoopTactic
import Derived.Laws.IdiomStrings
/- Plain facts on hexadecimal digits: how many a number has, and what they are. -/
namespace Go.Proofs.Ytggpbfmdhenjdaa

def hexd (d : Nat) : Nat := if d < 10 then 48 + d else 87 + d

theorem hexd_lt (d : Nat) (h : d < 16) : hexd d < 256 := by unfold hexd; split <;> omega

/-- the last k hexadecimal digits of u -/
def hexN (u k : Nat) : List UInt8 := (List.range k).map fun j => UInt8.ofNat (hexd (u / 16 ^ (k - 1 - j) % 16))

theorem hexN_length (u k : Nat) : (hexN u k).length = k := by simp [hexN]

theorem hexN_get (u k j : Nat) (hj : j < (hexN u k).length) : ((hexN u k)[j].toNat : Int) = ((hexd (u / 16 ^ (k - 1 - j) % 16) : Nat) : Int) := by
  have h := hexd_lt (u / 16 ^ (k - 1 - j) % 16) (Nat.mod_lt _ (by decide))
  simp only [hexN, List.getElem_map, List.getElem_range]
  rw [UInt8.toNat_ofNat', Nat.mod_eq_of_lt (by simpa using h)]

theorem shr4 (u k : Nat) : u / 16 ^ k / 16 = u / 16 ^ (k + 1) := by rw [Nat.div_div_eq_div_mul, Nat.pow_succ]

/-- while sixteen or more is left fewer than fifteen digits have been cut -/
theorem hex_more {u k : Nat} (hu : u < 18446744073709551616) (h : 16 ≤ u / 16 ^ k) : k < 15 := by
  rcases Nat.lt_or_ge k 15 with h1 | h1
  · exact h1
  · exfalso
    have h2 : 16 ^ 15 ≤ 16 ^ k := Nat.pow_le_pow_right (by decide) h1
    have h3 : u / 16 ^ k ≤ u / 16 ^ 15 := Nat.div_le_div_left h2 (by decide)
    have h4 : u / 16 ^ 15 < 16 := by omega
    omega
end Go.Proofs.Ytggpbfmdhenjdaa


/- The contract of the library's formatBits at base 16: the number's hexadecimal digits. -/
namespace Go.Proofs.Ytggpbfmdhenjdaa
open Go.RowKit

theorem digit_get (d : Nat) (hd : d < 16) (h : d < (⟨#[48, 49, 50, 51, 52, 53, 54, 55, 56, 57, 97, 98, 99, 100, 101, 102, 103, 104, 105, 106, 107, 108, 109, 110, 111, 112, 113, 114, 115, 116, 117, 118, 119, 120, 121, 122]⟩ : ByteArray).size) : ((⟨#[48, 49, 50, 51, 52, 53, 54, 55, 56, 57, 97, 98, 99, 100, 101, 102, 103, 104, 105, 106, 107, 108, 109, 110, 111, 112, 113, 114, 115, 116, 117, 118, 119, 120, 121, 122]⟩ : ByteArray)[d]'h).toNat = hexd d := by
  have h : d = 0 ∨ d = 1 ∨ d = 2 ∨ d = 3 ∨ d = 4 ∨ d = 5 ∨ d = 6 ∨ d = 7 ∨ d = 8 ∨ d = 9 ∨ d = 10 ∨ d = 11 ∨ d = 12 ∨ d = 13 ∨ d = 14 ∨ d = 15 := by omega
  rcases h with rfl | rfl | rfl | rfl | rfl | rfl | rfl | rfl | rfl | rfl | rfl | rfl | rfl | rfl | rfl | rfl <;> rfl

theorem low4 (v : Nat) (hv : v < 18446744073709551616) : bits .and .u64 (v : Int) 15 = ((v % 16 : Nat) : Int) := by
  have := u64_and_nat v 15 hv (by decide)
  rw [show (15 : Int) = ((15 : Nat) : Int) from rfl, this, show (15 : Nat) = 2 ^ 4 - 1 from rfl, Nat.and_two_pow_sub_one_eq_mod]

/-- What holds behind k rounds: the array's last k bytes are the number's last k digits. -/
structure Inv (w wr : World) (U k : Nat) : Prop where
  cells : ∀ j, j < 65 → ∃ x : Int, wr.cell? ⟨w.heap.size, j, none⟩ = some (.int .u8 x)
  frz : ∀ j, j < 65 → wr.frozen? ⟨w.heap.size, j, none⟩ = false
  dig : ∀ j, j < k → wr.cell? ⟨w.heap.size, 64 - j, none⟩ = some (.int .u8 ((hexd (U / 16 ^ j % 16) : Nat) : Int))
  below : Below w.heap.size w wr

theorem Inv.step {w wr : World} {U k : Nat} (h : Inv w wr U k) (hk : k ≤ 15) :
    Inv w (wr.setCell ⟨w.heap.size, 64 - k, none⟩ (.int .u8 ((hexd (U / 16 ^ k % 16) : Nat) : Int))) U (k + 1) := by
  obtain ⟨x, hx⟩ := h.cells (64 - k) (by omega)
  refine ⟨fun j hj => ?_, fun j hj => ?_, fun j hj => ?_, h.below.setCell (Nat.le_refl _) _⟩
  · by_cases e : j = 64 - k
    · subst e; exact ⟨_, World.cell?_setCell_same _ _ _ hx⟩
    · rw [World.cell?_setCell_other _ _ _ _ (by intro e'; injection e' with _ e2 _; exact e e2.symm)]; exact h.cells j hj
  · rw [World.frozen?_setCell]; exact h.frz j hj
  · by_cases e : j = k
    · subst e; exact World.cell?_setCell_same _ _ _ hx
    · rw [World.cell?_setCell_other _ _ _ _ (by intro e'; injection e' with _ e2 _; omega)]; exact h.dig j (by omega)

theorem Inv.text {w wr : World} {U k : Nat} (h : Inv w wr U (k + 1)) (hk : k ≤ 15) :
    (convert 129 9 (.slice (some ⟨w.heap.size, 64 - k, none⟩) (k + 1) (k + 1))).run Try.prog wr = .ok (.string ⟨(hexN U (k + 1)).toArray⟩) wr := by
  have r := run_convert_bytes_back (P := Try.prog) wr 129 9 5 ⟨w.heap.size, 64 - k, none⟩ (k + 1) (hexN U (k + 1)) Try.underlying129 Try.underlying5 Try.underlying9 (fun j hj => by
    rw [hexN_get]
    have hj' : j < k + 1 := by simpa [hexN_length] using hj
    have := h.dig (k - j) (by omega)
    rw [show 64 - (k - j) = 64 - k + j by omega, show k - j = k + 1 - 1 - j by omega] at this
    have ea : (⟨w.heap.size, 64 - k, none⟩ : Addr).add j = ⟨w.heap.size, 64 - k + j, none⟩ := by
      unfold Addr.add
      split
      · rename_i h; subst h; rfl
      · rfl
    rw [ea]; exact this)
  rw [hexN_length] at r
  exact r

end Go.Proofs.Ytggpbfmdhenjdaa


