/- Ready: who has signals for one, of two lanes. -/
import Derived.Test.YtapjnnbcphpokaaGreatEe0
import Derived.Test.YtapjnnbcphpokaaGreatEiN
namespace Go.Proofs.YtapjnnbcphpokaaGreat
open Go.RowKit Go.Lib Go.Maps
attribute [local go_sem] store_float f64bits
attribute [local go_sem ↓] Go.wp_at_zero Go.wp_at_succ

theorem isNaN_any (x : Int) (w : World) : Calls Tryz.prog 54 #[.int .i64 x] w fun e w' => e = .returned (.bool false) ∧ w' = w := by
  go_enter Tryz.func54, Tryz.ntmps54
  go_wp2
  go_ret
  exact ⟨rfl, rfl⟩

theorem less_any (x y : Int) (w : World) : Calls Tryz.prog 62 #[.int .i64 x, .int .i64 y] w fun e w' => e = .returned (.bool (decide (x < y))) ∧ w' = w := by
  have NN := hidb isNaN_any
  go_enter Tryz.func62, Tryz.ntmps62
  go_wp2_with (go_at_call 54; refine (NN.out _ _).mono ?_; rintro e w1 ⟨rfl, rfl⟩)
  go_ret
  exact ⟨rfl, rfl⟩

set_option maxHeartbeats 1000000 in
theorem insertion2 (g cap : Nat) (a b : Int) (w : World) (h : w.ownsRow 0 IT 1 (.slice (some ⟨g, 0, none⟩) 2 cap) 2 [.int .i64 a, .int .i64 b]) : Calls Tryz.prog 56 #[.slice (some ⟨g, 0, none⟩) 2 cap, .int .i64 0, .int .i64 2] w fun e w' => e = .returned (.tuple #[]) ∧ w'.ownsRow 0 IT 1 (.slice (some ⟨g, 0, none⟩) 2 cap) 2 [.int .i64 (min a b), .int .i64 (max a b)] ∧ But (fun k => k = g) w w' := by
  have LE := hidb less_any
  have c0 := h.cellAt 0 (by omega)
  have c1 := h.cellAt 1 (by omega)
  have f0 := h.frozenAt 0
  have f1 := h.frozenAt 1
  simp at c0 c1
  have HO := hidb h
  clear h
  go_enter Tryz.func56, Tryz.ntmps56
  go_wp2_with fail
  go_loopw [6] (fun iv wr => (iv = .int .i64 1 ∧ wr = w) ∨ (iv = .int .i64 2 ∧ wr.ownsRow 0 IT 1 (.slice (some ⟨g, 0, none⟩) 2 cap) 2 [.int .i64 (min a b), .int .i64 (max a b)] ∧ But (fun k => k = g) w wr)) (fun iv _ => 2 - (intOf iv).toNat)
  case atStart => exact .inl ⟨rfl, rfl⟩
  case round =>
  rcases hrel with ⟨rfl, hw⟩ | ⟨rfl, ho, hb⟩
  · obtain rfl := hw.symm
    clear hw
    go_wp2_with fail
    go_loopw [7] (fun jv wr => (jv = .int .i64 1 ∧ wr = w) ∨ (b < a ∧ jv = .int .i64 0 ∧ wr.ownsRow 0 IT 1 (.slice (some ⟨g, 0, none⟩) 2 cap) 2 [.int .i64 b, .int .i64 a] ∧ But (fun k => k = g) w wr)) (fun jv _ => (intOf jv).toNat)
    case atStart => exact .inl ⟨rfl, rfl⟩
    case round =>
    rcases hrel with ⟨rfl, hw⟩ | ⟨hlt, rfl, ho, hb⟩
    · obtain rfl := hw.symm
      clear hw
      by_cases hba : b < a
      · have hd : decide (b < a) = true := by simp [hba]
        go_wp2_with fail
        go_quiet ((go_at_call 62; exact Calls.quiet_of_same (LE.out _ _ _)))
        go_wp2_with fail
        have hN := below_drewN (Below.refl w.heap.size w) nq
        have hgl : g < w.heap.size := World.block_lt_of_cell? w _ c0
        have k0 := (hN.cell (p := ⟨g, 0, none⟩) hgl).trans c0
        have k1 := (hN.cell (p := ⟨g, 1, none⟩) hgl).trans c1
        have j0 := (hN.frozen (p := ⟨g, 0, none⟩) hgl).trans f0
        have j1 := (hN.frozen (p := ⟨g, 1, none⟩) hgl).trans f1
        have HO2 := hidb (row_but HO.out (But.of_below (S := fun _ => False) hN) (fun _ _ h => h))
        have HB2 := hidb (But.of_below (S := fun k => k = g) hN)
        generalize w.drewN nq = W at *
        clear hN
        go_region
        all_goals go_wp2_with fail
        go_roundw
        case rel =>
          have s1 := (HO2.out.stored 1 (.int .i64 a)).1
          have s2 := (s1.stored 0 (.int .i64 b)).1
          exact .inr ⟨hba, rfl, s2.drew, ((HB2.out.setCell (p := ⟨g, 1, none⟩) (fun _ => rfl) _).setCell (p := ⟨g, 0, none⟩) (fun _ => rfl) _).drew⟩
        case measure => simp [intOf]
      · have hd : decide (b < a) = false := by simp [hba]
        go_wp2_with fail
        go_quiet ((go_at_call 62; exact Calls.quiet_of_same (LE.out _ _ _)))
        go_wp2_with fail
        have hN := below_drewN (Below.refl w.heap.size w) nq
        refine ⟨.inr ⟨rfl, ?_, But.of_below hN⟩, by simp [intOf]⟩
        rw [show min a b = a by omega, show max a b = b by omega]
        exact row_but HO.out (But.of_below (S := fun _ => False) hN) (fun _ _ h => h)
    · have HOO := hidb ho
      have HBB := hidb hb
      have HLT := hidb hlt
      clear ho hb hlt
      go_wp2_with fail
      go_quiet (fail)
      go_wp2_with fail
      have hN := below_drewN (Below.refl wr.heap.size wr) nq
      have hlt := HLT.out
      refine ⟨.inr ⟨rfl, ?_, HBB.out.trans (But.of_below hN)⟩, by simp [intOf]⟩
      rw [show min a b = b by omega, show max a b = a by omega]
      exact row_but HOO.out (But.of_below (S := fun _ => False) hN) (fun _ _ h => h)
  · have HOO := hidb ho
    have HBB := hidb hb
    clear ho hb
    go_wp2_with fail
    exact bodyPost_end (by simp [results, Tryz.results56]) rfl ⟨rfl, HOO.out, HBB.out⟩
end Go.Proofs.YtapjnnbcphpokaaGreat
