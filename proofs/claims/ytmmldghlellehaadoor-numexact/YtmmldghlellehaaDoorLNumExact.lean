/- The walk of NumExact: it returns true, and nothing that was there has turned. -/
import Derived.Test.YtmmldghlellehaaDoorK1
import Derived.Test.YtmmldghlellehaaDoorE3
import Derived.Deep.DrawnRows
namespace Go.Proofs.YtmmldghlellehaaDoor
open Go.RowKit
attribute [local go_sem ↓] Go.wp_at_zero Go.wp_at_succ

set_option maxHeartbeats 2000000 in
theorem numExact_any (n : Int) (h1 : -9223372036854775808 ≤ n) (h2 : n ≤ 9223372036854775807) (u : Nat) (hu : u < 18446744073709551616) (w : World) (ht : w.cell? ⟨4, 15, none⟩ = some (.int .u8 4)) :
    Calls Tryd.prog 6 #[.int .i64 n, .int .u64 u] w fun e w' => e = .returned (.bool true) ∧ Below w.heap.size w w' := by
  have hfb := f64frombits
  have hb := f64bits
  have hn : floatOfInt .f64 n < 18446744073709551616 := by
    have := floatOfInt_wf .f64 n
    simpa [Lit.wf] using this
  have RN := hidE (refNear_any n h1 h2)
  obtain ⟨r, e1, e2⟩ := exact_both u n hu
  obtain ⟨r2, e3, e4⟩ := exact_both (floatOfInt .f64 n) n hn
  have E1 := hidE e1
  have E2 := hidE e2
  have E3 := hidE e3
  have E4 := hidE e4
  clear e1 e2 e3 e4 hn h1 h2
  go_enter Tryd.func6, Tryd.ntmps6
  go_wp2_with fail
  refine (known_any _ ht).mono ?_
  rintro e w1 ⟨rfl, hb1⟩
  clear ht
  go_wp2_with (first
    | (go_at_call 28; refine (near_any _ _).mono ?_; rintro e w' ⟨rfl, rfl⟩)
    | (go_at_call 29; refine (RN.out _).mono ?_; rintro e w' ⟨rfl, rfl⟩)
    | (go_at_call 30; (first | with_reducible refine (E1.out _).mono ?_ | with_reducible refine (E3.out _).mono ?_); rintro e w' ⟨rfl, rfl⟩)
    | (go_at_call 31; (first | with_reducible refine (E2.out _).mono ?_ | with_reducible refine (E4.out _).mono ?_); rintro e w' ⟨rfl, rfl⟩))
  all_goals (go_ret; exact ⟨rfl, hb1⟩)
end Go.Proofs.YtmmldghlellehaaDoor
