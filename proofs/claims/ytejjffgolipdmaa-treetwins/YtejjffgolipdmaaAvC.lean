/- How few keys a tree of a height has, as the document reckons it; the chapter's example. -/
import Derived.Test.YtejjffgolipdmaaAvB
namespace Go.Proofs.Ytejjffgolipdmaa
open Go.RowKit Go.Lib
attribute [local go_sem ↓] Go.wp_at_zero Go.wp_at_succ

theorem fp_lt {n m : Nat} (h : n < m) : (fp n).2 < (fp m).2 := by
  have h1 : (fp n).2 < (fp (n + 1)).2 := by have := fp_pos n; simp only [fp]; omega
  exact Nat.lt_of_lt_of_le h1 (fp_mono h)

theorem fp_one {n m : Nat} (h : n ≤ m) : (fp n).1 ≤ (fp m).2 := by
  cases n with
  | zero => have := fp_pos m; simp only [fp]; omega
  | succ n => have := fp_mono (show n ≤ m by omega); simp only [fp]; exact this

theorem fp_two (n : Nat) : 2 ^ n ≤ (fp (2 * n)).2 := by
  induction n with
  | zero => simp [fp]
  | succ n ih =>
    rw [show 2 * (n + 1) = 2 * n + 1 + 1 by omega, Nat.pow_succ]
    simp only [fp]; omega

theorem fp_64 {h : Nat} (hh : (fp h).2 ≤ 1000000) : h ≤ 64 := by
  have h1 : ¬ 64 < h := fun hc => by
    have h2 := fp_mono (Nat.le_of_lt hc)
    have h3 := fp_two 32
    rw [show 2 * 32 = 64 from rfl] at h3
    have h4 : (2 : Nat) ^ 32 = 4294967296 := by decide
    omega
  omega

end Go.Proofs.Ytejjffgolipdmaa
