import Derived.Test.YtajadhkpadkikaaGreatDoorG12
import Derived.Test.YtajadhkpadkikaaGreatDoorG14
import Derived.Test.YtajadhkpadkikaaGreatDoorG01
import Derived.Test.YtajadhkpadkikaaGreatDoorG13
/- The text of a float without leading zeros: the contract of Text at the float -0.0. -/
namespace Go.Proofs.YtajadhkpadkikaaGreatDoor
open Go.RowKit

set_option maxRecDepth 100000 in
theorem rep_zero (s : ByteArray) (w : World) : Calls Tryz.prog 143 #[.string s, .int .i64 0] w fun e w' => e = .returned (.string ⟨#[]⟩) ∧ w' = w := by
  go_enter Tryz.func143, Tryz.ntmps143
  go_wp2
  go_ret
  exact ⟨rfl, rfl⟩

theorem hex_minus : hexN 9223372036854775808 16 = [56, 48, 48, 48, 48, 48, 48, 48, 48, 48, 48, 48, 48, 48, 48, 48] := by decide +kernel

theorem k15 (k : Nat) (hk : k ≤ 15) (h : 9223372036854775808 / 16 ^ k < 16) : k = 15 := by
  rcases Nat.lt_or_ge k 15 with h1 | h1
  · exfalso
    have h2 : 16 ^ k ≤ 16 ^ 14 := Nat.pow_le_pow_right (by decide) (by omega)
    have h3 : 9223372036854775808 / 16 ^ 14 ≤ 9223372036854775808 / 16 ^ k := Nat.div_le_div_left h2 (Nat.pow_pos (by decide))
    omega
  · omega

set_option maxHeartbeats 1000000 in
theorem text_minus (w : World) (ht : w.cell? ⟨8, 15, none⟩ = some (.int .u8 4)) :
    Calls Tryz.prog 113 #[.agg #[.int .i64 (2), .int .i64 (0), .float .f64 (9223372036854775808), .string ⟨#[]⟩, .slice none 0 0]] w fun e w' => e = .returned (.string ⟨#[35, 56, 48, 48, 48, 48, 48, 48, 48, 48, 48, 48, 48, 48, 48, 48, 48]⟩) ∧ Below w.heap.size w w' := by
  go_enter Tryz.func113, Tryz.ntmps113
  go_wp2_with fail
  refine (valueOf_yes 2 0 9223372036854775808 ⟨#[]⟩ none 0 0 (by decide) (by simp [rightB, Flt.fin]) _).mono ?_
  rintro e w1 ⟨rfl, hb1⟩
  have hW : Below w.heap.size w w1 := (below_new w _).trans (hb1.mono (by simp))
  have ht1 : w1.cell? ⟨8, 15, none⟩ = some (.int .u8 4) := (hW.cell (block_lt_of_cell ht)).trans ht
  have htl : ∀ o, (w1.alloc o).cell? ⟨8, 15, none⟩ = some (.int .u8 4) := fun o => by
    rw [(below_new w1 o).cell (block_lt_of_cell ht1)]; exact ht1
  clear hb1
  go_wp2_with fail
  refine (format_16 9223372036854775808 (by decide) _ (htl _)).mono ?_
  rintro e w2 ⟨k, hk, hl, rfl, hb2⟩
  obtain rfl := k15 k hk hl
  have hW2 : Below w.heap.size w w2 := (hW.alloc hW.size _).trans (hb2.mono (by have := hW.size; simp; omega))
  rw [hex_minus]
  clear hl hb2 hW htl ht1 hk
  go_wp2_with (go_at_call 143; refine (rep_zero _ _).mono ?_; rintro e w' ⟨rfl, rfl⟩)
  go_ret
  exact ⟨rfl, hW2⟩
end Go.Proofs.YtajadhkpadkikaaGreatDoor


/- The statements' own examples: known tells true. -/
namespace Go.Proofs.YtajadhkpadkikaaGreatDoor
open Go.RowKit Go.Sort
attribute [local go_sem] store_float

theorem known_1 : numInt (576460752303423487 + 1) = ⟨0, 0, 0, 12⟩ := by simp [numInt, whB]
theorem known_2 : fltR (floatBits .quo .f64 (realV 1 1 0) (realV 1 2 0)) = ⟨2, 0, 4602678819172646912, 0⟩ := by kernel_rfl
theorem known_3 : numBits 9223372036854775808 = ⟨2, 0, 9223372036854775808, 0⟩ := by simp [numBits, Flt.fin]
theorem known_4 : numBits 9218868437227405312 = ⟨0, 0, 0, 11⟩ := by simp [numBits, Flt.fin]
theorem known_5 : zB (realV 1 2 0) = false := by decide +kernel

/-- a box laid behind a call, kept behind the next one -/
theorem boxStep {w w3 w4 : World} {t : TypeId} {v0 v1 v2 v3 v4 : Value} (hW : Below w.heap.size w w3) (hb : Below (w3.alloc (.cells #[v0, v1, v2, v3, v4] t)).heap.size (w3.alloc (.cells #[v0, v1, v2, v3, v4] t)) w4) :
    Box w4 w3.heap.size v0 v1 v2 v3 v4 ∧ Below w3.heap.size w3 w4 ∧ Below w.heap.size w w4 :=
  ⟨(Box.new _ _ _ _ _ _ _).keep hb, (below_new _ _).trans (hb.mono (by simp)), (hW.alloc hW.size _).trans (hb.mono (by have := hW.size; simp; omega))⟩

end Go.Proofs.YtajadhkpadkikaaGreatDoor


