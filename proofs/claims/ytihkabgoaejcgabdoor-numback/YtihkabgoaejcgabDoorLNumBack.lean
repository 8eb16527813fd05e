/- The walk of NumBack: it returns true, and nothing that was there has turned. -/
import Derived.Test.YtihkabgoaejcgabDoorLNumBack0
import Derived.Test.YtihkabgoaejcgabDoorLNumNear
namespace Go.Proofs.YtihkabgoaejcgabDoor
open Go.RowKit
open Flt (ordI exactV)

theorem numBack_any (u : Nat) (hu : u < 18446744073709551616) (n : Int) (w : World) (ht : w.cell? ⟨4, 15, none⟩ = some (.int .u8 4)) :
    Calls Tryd.prog 6 #[.int .u64 u, .int .i64 n] w fun e w' => e = .returned (.bool true) ∧ Below w.heap.size w w' := by
  obtain ⟨N, hN⟩ : ∃ N, n.tmod 9007199254740992 = N := ⟨_, rfl⟩
  have b1 : N < 9007199254740992 := by rw [← hN]; exact Int.tmod_lt_of_pos _ (by decide)
  have b2 : -9007199254740992 < N := by rw [← hN]; exact Int.lt_tmod_of_pos _ (by decide)
  have hw := Flt.whole_small (decide (N < 0)) (M := N.natAbs) (by omega)
  rw [← foi] at hw
  have hv : Ieee.signed (decide (N < 0)) N.natAbs 0 = N := by
    rw [Flt.signed_0]
    by_cases hs : N < 0
    · rw [decide_eq_true hs, if_pos rfl]; omega
    · rw [decide_eq_false hs, if_neg (by simp)]; omega
  have hU := hw.U
  have hi := hw.toInt
  rw [hv] at hU hi
  have hl := hw.lt
  have hf := hw.fin
  have r1 : rightB 1 N 0 ⟨#[]⟩ 0 = true := by
    have : whB N = true := whB_mk ⟨by omega, by omega⟩
    simp [rightB, this]
  have r2 : rightB 2 0 (floatOfInt .f64 N) ⟨#[]⟩ 0 = true := by simp [rightB, hf]
  have re := fun w => real_yes 1 N 0 ⟨#[]⟩ none 0 0 (by decide) r1 w
  rw [show realV 1 N 0 = floatOfInt .f64 N from rfl, show numBits (floatOfInt .f64 N) = ⟨2, 0, floatOfInt .f64 N, 0⟩ by simp [numBits, hf]] at re
  obtain ⟨z, v, mk, wf, _, _, h0, _, _⟩ := ways hl hf
  have hv0 : v 0 = N := by rw [hi] at h0; exact (Option.some.inj h0).symm
  have wh := fun w => whole_flt (way 0) 0 (v 0) _ (z 0) ⟨#[]⟩ none 0 0 hl r2 (mk 0) (isWay_at 0) (wf 0) w
  rw [hv0, show numInt N = ⟨1, N, 0, 0⟩ by simp [numInt, show whB N = true from whB_mk ⟨by omega, by omega⟩]] at wh
  have cm := fun w => cmp_any 1 N 2 0 0 (floatOfInt .f64 N) ⟨#[]⟩ ⟨#[]⟩ none none 0 0 0 0 (by decide) hl r1 r2 w
  rw [valU_1, valU_2, hU, Int.compare_eq_eq.2 rfl] at cm
  have sa := fun w => nsame_any 1 N 2 0 0 (floatOfInt .f64 N) ⟨#[]⟩ ⟨#[]⟩ none none 0 0 0 0 (by decide) hl r1 r2 w
  rw [show (((1 : Int) == 2) && (N == 0 && ((0 : Nat) : Int) == ((floatOfInt .f64 N : Nat) : Int))) = false from rfl] at sa
  cases h : Flt.fin u
  · exact back_inf u n hu h N _ hN re wh cm sa w ht
  · exact back_fin u n hu h N _ hN re wh cm sa w ht
end Go.Proofs.YtihkabgoaejcgabDoor
