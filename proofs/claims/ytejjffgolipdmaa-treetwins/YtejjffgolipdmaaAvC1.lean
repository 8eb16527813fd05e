/- How few keys a tree of a height has, as the document reckons it; the chapter's example. -/
import Derived.Test.YtejjffgolipdmaaAvC
namespace Go.Proofs.Ytejjffgolipdmaa
open Go.RowKit Go.Lib
attribute [local go_sem ↓] Go.wp_at_zero Go.wp_at_succ

set_option maxHeartbeats 1000000 in
theorem least_any (h : Nat) (hb : (fp h).2 ≤ 1000000) (w : World) : Calls Try.prog 19 #[.int .i64 (h : Int)] w fun e w' => e = .returned (.int .i64 ((fp h).2 - 1 : Int)) ∧ w' = w := by
  go_enter Try.func19, Try.ntmps19
  go_wp2_with fail
  go_loopw [3, 4, 5] (fun av bv iv wr => ∃ (i : Nat) (A B : Int), i ≤ h ∧ A = ((fp i).1 : Int) ∧ B = ((fp i).2 : Int) ∧ av = .int .i64 A ∧ bv = .int .i64 B ∧ iv = .int .i64 (i : Int) ∧ wr = w) (fun _ _ iv _ => h - (intOf iv).toNat)
  case atStart => exact ⟨0, 1, 1, by omega, rfl, rfl, rfl, rfl, rfl, rfl⟩
  case round =>
  obtain ⟨i, A, B, hi, hA, hB, rfl, rfl, rfl, rfl⟩ := hrel
  by_cases hih : i < h
  · have f1 : (fp i).2 ≤ 1000000 := Nat.le_trans (fp_mono hi) hb
    have f2 : (fp i).1 ≤ 1000000 := Nat.le_trans (fp_one hi) hb
    have e1 : ((i : Int) < (h : Int)) := by omega
    have e2 : (B < 1152921504606846976) := by omega
    have e3 : wrap64 (A + B) = A + B := by unfold wrap64; omega
    have e4 : wrap64 ((i : Int) + 1) = ((i : Int) + 1) := by have := fp_pos i; unfold wrap64; omega
    have HA := hidb hA
    have HB := hidb hB
    clear f1 f2 hA hB hb
    go_wp2_with fail
    go_roundw
    case rel => exact ⟨i + 1, B, A + B, by omega, by rw [HB.out]; rfl, by rw [HA.out, HB.out]; simp [fp], rfl, by rw [e3], by rw [e4]; rfl, trivial⟩
    case measure =>
      clear e2 e3
      rw [e4]
      clear e4
      simp [RowKit.intOf]
      omega
  · obtain rfl : i = h := by omega
    have e1 : ¬ ((i : Int) < (i : Int)) := by omega
    have e5 : wrap64 (B - 1) = B - 1 := by unfold wrap64; omega
    have HB := hidb hB
    clear hA hB hb
    go_wp2_with fail
    go_ret
    exact ⟨by rw [← HB.out]; rfl, rfl⟩


/-- Height, and how few keys a tree so high has. -/
theorem hl_any {w : World} {tb : Nat} {D : Nat → Prop} {L : List KV} (h : TB w tb D L) (hN : L.length ≤ 900000) :
    Calls Try.prog 14 #[.pointer (some ⟨tb, 0, none⟩)] w fun e w' => ∃ hv lv : Int, e = .returned (.int .i64 hv) ∧ w' = w ∧ Hid (0 ≤ hv ∧ hv ≤ 64 ∧ (0 < hv ↔ 0 < L.length) ∧ lv ≤ (L.length : Int)) ∧ Hid (∀ w2, Calls Try.prog 19 #[.int .i64 hv] w2 fun e w' => e = .returned (.int .i64 lv) ∧ w' = w2) := by
  refine (hgt_any h).mono ?_
  rintro e w' ⟨hh, rfl, rfl, hle, hz⟩
  refine ⟨hh, (fp hh).2 - 1, rfl, rfl, hidb ⟨by omega, ?_, by omega, by omega⟩, hidb (fun w2 => least_any hh (by omega) w2)⟩
  have := fp_64 (h := hh) (by omega)
  omega

end Go.Proofs.Ytejjffgolipdmaa
