/- slices.Sort of two whole numbers. -/
import Derived.Test.YtapjnnbcphpokaaGreatEf0
import Derived.Test.YtapjnnbcphpokaaGreatShelf
namespace Go.Proofs.YtapjnnbcphpokaaGreat
open Go.RowKit Go.Lib Go.Maps
attribute [local go_sem] store_float f64bits
attribute [local go_sem ↓] Go.wp_at_zero Go.wp_at_succ

set_option maxHeartbeats 1000000 in
theorem pdq2 (g cap : Nat) (a b lim : Int) (w : World) (h : w.ownsRow 0 IT 1 (.slice (some ⟨g, 0, none⟩) 2 cap) 2 [.int .i64 a, .int .i64 b]) : Calls Tryz.prog 46 #[.slice (some ⟨g, 0, none⟩) 2 cap, .int .i64 0, .int .i64 2, .int .i64 lim] w fun e w' => e = .returned (.tuple #[]) ∧ w'.ownsRow 0 IT 1 (.slice (some ⟨g, 0, none⟩) 2 cap) 2 [.int .i64 (min a b), .int .i64 (max a b)] ∧ But (fun k => k = g) w w' := by
  have IN := hidb (insertion2 g cap a b w h)
  clear h
  go_enter Tryz.func46, Tryz.ntmps46
  go_wp2_with fail
  go_loopw [1, 2] (fun av bv wr => av = .int .i64 0 ∧ bv = .int .i64 2 ∧ wr = w) (fun _ _ _ => 0)
  case atStart => exact ⟨rfl, rfl, rfl⟩
  case round =>
  obtain ⟨rfl, rfl, hw⟩ := hrel
  obtain rfl := hw.symm
  clear hw
  go_wp2_with (go_at_call 56; refine IN.out.mono ?_; rintro e w1 ⟨rfl, ho, hb⟩; have HO := hidb ho; have HB := hidb hb; clear ho hb)
  exact bodyPost_ret (v := .tuple #[]) (by simp [results, Tryz.results46]) rfl ⟨rfl, HO.out, HB.out⟩
theorem sort2 (g cap : Nat) (a b : Int) (w : World) (h : w.ownsRow 0 IT 1 (.slice (some ⟨g, 0, none⟩) 2 cap) 2 [.int .i64 a, .int .i64 b]) : Calls Tryz.prog 32 #[.slice (some ⟨g, 0, none⟩) 2 cap] w fun e w' => e = .returned (.tuple #[]) ∧ w'.ownsRow 0 IT 1 (.slice (some ⟨g, 0, none⟩) 2 cap) 2 [.int .i64 (min a b), .int .i64 (max a b)] ∧ But (fun k => k = g) w w' := by
  have PQ := hidb (fun lim => pdq2 g cap a b lim w h)
  have BL := hidb (Tryz.bits_Len 2 w (by omega) (by omega))
  clear h
  go_enter Tryz.func32, Tryz.ntmps32
  go_wp2_with (first
    | (go_at_call 47; refine BL.out.mono ?_; rintro e w1 ⟨rfl, rfl⟩)
    | (go_at_call 46; refine (PQ.out _).mono ?_; rintro e w1 ⟨rfl, ho, hb⟩; have HO := hidb ho; have HB := hidb hb; clear ho hb))
  exact bodyPost_end (by simp [results, Tryz.results32]) rfl ⟨rfl, HO.out, HB.out⟩
end Go.Proofs.YtapjnnbcphpokaaGreat
