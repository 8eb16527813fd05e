/- Text of a right float: a sign and its sixteen digits. -/
import Derived.Test.YtihkabgoaejcgaaDoorT1
import Derived.Test.YtihkabgoaejcgaaDoorK1
import Derived.Test.YtihkabgoaejcgaaDoorShelf
namespace Go.Proofs.YtihkabgoaejcgaaDoor
open Go.RowKit

theorem hexN_pad {u k : Nat} (hk : k ≤ 15) (h : u / 16 ^ k < 16) : List.replicate (15 - k) 48 ++ hexN u (k + 1) = hexN u 16 := by
  apply List.ext_getElem
  · simp [hexN]; omega
  · intro i h1 h2
    have hi : i < 16 := by simpa [hexN] using h2
    rcases Nat.lt_or_ge i (15 - k) with hlt | hge
    · rw [List.getElem_append_left (by simpa using hlt)]
      simp only [hexN, List.getElem_replicate, List.getElem_map, List.getElem_range]
      have e : u / 16 ^ (15 - i) = 0 := by
        have hp : 16 ^ (k + 1) ≤ 16 ^ (15 - i) := Nat.pow_le_pow_right (by decide) (by omega)
        have h3 : u < 16 ^ (k + 1) := by
          rw [Nat.pow_succ, Nat.mul_comm]
          exact (Nat.div_lt_iff_lt_mul (Nat.pow_pos (by decide))).1 h
        exact Nat.div_eq_of_lt (by omega)
      rw [show 16 - 1 - i = 15 - i by omega, e]
      rfl
    · rw [List.getElem_append_right (by simpa using hge)]
      simp only [hexN, List.length_replicate, List.getElem_map, List.getElem_range]
      rw [show k + 1 - 1 - (i - (15 - k)) = 16 - 1 - i by omega]

theorem rep48 : ∀ c, Lib.repeatL [48] c = List.replicate c 48
  | 0 => rfl
  | c + 1 => by rw [Lib.repeatL, rep48 c]; rfl

set_option maxHeartbeats 1000000 in
theorem text_flt (n : Int) (u : Nat) (s : ByteArray) (a : Option Addr) (l c : Nat) (hu : u < 18446744073709551616) (h : rightB 2 n u s l = true) (w : World) (ht : w.cell? ⟨4, 15, none⟩ = some (.int .u8 4)) :
    Calls Tryd.prog 37 #[.agg #[.int .i64 2, .int .i64 n, .float .f64 u, .string s, .slice a l c]] w fun e w' => e = .returned (.string ⟨(35 :: hexN u 16).toArray⟩) ∧ Below w.heap.size w w' := by
  have HR := hid h
  clear h
  go_enter Tryd.func37, Tryd.ntmps37
  go_wp2_with fail
  refine (valueOf_yes 2 n u s a l c hu HR.out _).mono ?_
  rintro e w1 ⟨rfl, hb1⟩
  have hW : Below w.heap.size w w1 := (below_new w _).trans (hb1.mono (by simp))
  have ht1 : w1.cell? ⟨4, 15, none⟩ = some (.int .u8 4) := (hW.cell (block_lt_of_cell ht)).trans ht
  have htl : ∀ o, (w1.alloc o).cell? ⟨4, 15, none⟩ = some (.int .u8 4) := fun o => by
    rw [(below_new w1 o).cell (block_lt_of_cell ht1)]; exact ht1
  clear hb1
  go_wp2_with fail
  refine (format_16 u hu _ (htl _)).mono ?_
  rintro e w2 ⟨k, hk, hl, rfl, hb2⟩
  have hW2 : Below w.heap.size w w2 := (hW.alloc hW.size _).trans (hb2.mono (by have := hW.size; simp; omega))
  have PAD := hid (hexN_pad hk hl)
  have hsz : (⟨(hexN u (k + 1)).toArray⟩ : ByteArray).size = k + 1 := by show (hexN u (k + 1)).toArray.size = _; simp [hexN_length]
  have hD : ∃ D : ByteArray, (⟨(hexN u (k + 1)).toArray⟩ : ByteArray) = D := ⟨_, rfl⟩
  obtain ⟨D, hD⟩ := hD
  rw [hD] at hsz ⊢
  have HD := hid hD
  clear hl hb2 hW htl ht1 hD hu ht
  go_wp2_with fail
  rw [show (16 - ((k : Int) + 1)) = ((15 - k : Nat) : Int) by omega]
  refine (Tryd.strings_Repeat ⟨#[48]⟩ (15 - k) _ (by omega) (by show 1 * (15 - k) ≤ _; omega)).mono ?_
  rintro e w3 ⟨rfl, hb3⟩
  have hW3 : Below w.heap.size w w3 := bthen hW2 hb3
  clear hb3 hW2
  have hR : ∃ R : ByteArray, (⟨(Lib.repeatL (⟨#[48]⟩ : ByteArray).data.toList (15 - k)).toArray⟩ : ByteArray) = R := ⟨_, rfl⟩
  obtain ⟨R, hR⟩ := hR
  have hRs : R.size = 15 - k := by
    rw [← hR]
    show (Lib.repeatL [48] (15 - k)).toArray.size = _
    rw [rep48]; simp
  have hAs : ((⟨#[35]⟩ : ByteArray) ++ R).size = 16 - k := by rw [ByteArray.size_append, hRs]; show 1 + (15 - k) = _; omega
  rw [hR]
  have HRR := hid hR
  clear hR
  go_wp2
  go_ret
  have key : ((⟨#[35]⟩ : ByteArray) ++ R) ++ D = ⟨(35 :: hexN u 16).toArray⟩ := by
    apply ByteArray.ext
    rw [ByteArray.data_append, ByteArray.data_append, ← HRR.out, ← HD.out, ← PAD.out]
    show #[35] ++ (Lib.repeatL [48] (15 - k)).toArray ++ (hexN u (k + 1)).toArray = _
    rw [rep48]
    simp
  exact ⟨congrArg (fun z => Ending.returned (Value.string z)) key, hW3⟩
end Go.Proofs.YtihkabgoaejcgaaDoor
