/- The statements' own size and size1; the walk of NumNear over what its calls tell. -/
import Derived.Test.YtihkabgoaejcgabDoorY1
import Derived.Test.YtihkabgoaejcgabDoorX2
import Derived.Test.YtihkabgoaejcgabDoorFltL
import Derived.Test.YtihkabgoaejcgabDoorK1
namespace Go.Proofs.YtihkabgoaejcgabDoor
open Go.RowKit

theorem lsize_wide (y : Int) (h1 : -9223372036854775807 ≤ y) (h2 : y ≤ 9223372036854775807) (w : World) : Calls Tryd.prog 12 #[.int .i64 y] w fun e w' => e = .returned (.int .i64 (y.natAbs : Int)) ∧ w' = w := by
  go_enter Tryd.func12, Tryd.ntmps12
  go_wp2
  all_goals
    go_ret
    exact ⟨congrArg (fun z => Ending.returned (Value.int .i64 z)) (by omega), rfl⟩

theorem size1_up (x : Nat) (o : FloatKind.f64.format.order x 0 = some .gt ∨ FloatKind.f64.format.order x 0 = some .eq) (w : World) : Calls Tryd.prog 18 #[.float .f64 x] w fun e w' => e = .returned (.float .f64 x) ∧ w' = w := by
  rcases o with o | o
  all_goals
    go_enter Tryd.func18, Tryd.ntmps18
    go_wp2
    go_ret
    exact ⟨rfl, rfl⟩

theorem size1_down (x z : Nat) (o : FloatKind.f64.format.order x 0 = some .lt) (hz : floatBits .sub .f64 0 x = some z) (w : World) : Calls Tryd.prog 18 #[.float .f64 x] w fun e w' => e = .returned (.float .f64 z) ∧ w' = w := by
  have hs : ∀ t (w : World), (binOp .sub t (.float .f64 0) (.float .f64 x)).run Tryd.prog w = .ok (.float .f64 z) w := fun t w => run_float_arith w .sub t .f64 _ _ _ hz
  clear hz
  go_enter Tryd.func18, Tryd.ntmps18
  go_wp2
  go_ret
  exact ⟨rfl, rfl⟩

theorem near_0 : floatOfInt .f64 0 = 0 := by kernel_rfl

/-- the nearest float is too great to be asked -/
theorem near_far (n : Int) (x : Nat) (hx : floatOfInt .f64 n = x) (fx : Flt.fin x = true)
    (o : (FloatKind.f64.format.order x 4886405595696988160 = some .gt ∨ FloatKind.f64.format.order x 4886405595696988160 = some .eq) ∨ FloatKind.f64.format.order x 4886405595696988160 = some .lt ∧ (FloatKind.f64.format.order x 14109777632551763968 = some .lt ∨ FloatKind.f64.format.order x 14109777632551763968 = some .eq))
    (w : World) (ht : w.cell? ⟨4, 15, none⟩ = some (.int .u8 4)) :
    Calls Tryd.prog 7 #[.int .i64 n] w fun e w' => e = .returned (.bool true) ∧ Below w.heap.size w w' := by
  have hb := f64bits
  have hs := fun t w => sub_fin t x fx w
  have ho : (FloatKind.f64.format.order 0 0) = some .eq := Flt.order_zero_zero
  have N0 := near_0
  clear fx
  rcases o with (o | o) | ⟨o, o2 | o2⟩
  all_goals
    go_enter Tryd.func7, Tryd.ntmps7
    go_wp2_with fail
    refine (known_any _ ht).mono ?_
    rintro e w1 ⟨rfl, hb1⟩
    go_wp2_with (go_at_call 23; refine (near_any _ _).mono ?_; rintro e w' ⟨rfl, rfl⟩)
    go_ret
    exact ⟨rfl, hb1⟩

/-- it is below 2^53 in size, and the number itself -/
theorem near_small (n : Int) (x zu zd a : Nat) (hx : floatOfInt .f64 n = x) (fx : Flt.fin x = true)
    (o1 : FloatKind.f64.format.order x 4886405595696988160 = some .lt) (o2 : FloatKind.f64.format.order x 14109777632551763968 = some .gt)
    (c0 : ∀ w, (convert 23 2 (.float .f64 x)).run Tryd.prog w = .ok (.int .i64 n) w)
    (up : ∀ w, Calls Tryd.prog 25 #[.float .f64 x, .float .f64 4890909195324358656] w fun e w' => e = .returned (.float .f64 zu) ∧ w' = w)
    (down : ∀ w, Calls Tryd.prog 25 #[.float .f64 x, .float .f64 14114281232179134464] w fun e w' => e = .returned (.float .f64 zd) ∧ w' = w)
    (s1 : ∀ w, Calls Tryd.prog 18 #[.float .f64 x] w fun e w' => e = .returned (.float .f64 a) ∧ w' = w) (o3 : FloatKind.f64.format.order a 4845873199050653696 = some .lt)
    (w : World) (ht : w.cell? ⟨4, 15, none⟩ = some (.int .u8 4)) :
    Calls Tryd.prog 7 #[.int .i64 n] w fun e w' => e = .returned (.bool true) ∧ Below w.heap.size w w' := by
  have hb := f64bits
  have hs := fun t w => sub_fin t x fx w
  have ho : (FloatKind.f64.format.order 0 0) = some .eq := Flt.order_zero_zero
  have N0 := near_0
  have UP := hidE up
  have DOWN := hidE down
  have S1 := hidE s1
  have zz : n - n = 0 := by omega
  clear fx up down s1
  go_enter Tryd.func7, Tryd.ntmps7
  go_wp2_with fail
  refine (known_any _ ht).mono ?_
  rintro e w1 ⟨rfl, hb1⟩
  go_wp2_with (first
    | (go_at_call 23; refine (near_any _ _).mono ?_; rintro e w' ⟨rfl, rfl⟩)
    | (go_at_call 12; refine (lsize_wide _ (by omega) (by omega) _).mono ?_; rintro e w' ⟨rfl, rfl⟩)
    | (go_at_call 25; (first | with_reducible refine (UP.out _).mono ?_ | with_reducible refine (DOWN.out _).mono ?_); rintro e w' ⟨rfl, rfl⟩)
    | (go_at_call 18; refine (S1.out _).mono ?_; rintro e w' ⟨rfl, rfl⟩))
  go_ret
  exact ⟨rfl, hb1⟩

/-- it is not -/
theorem near_large (n v vu vd : Int) (x zu zd a : Nat) (hx : floatOfInt .f64 n = x) (fx : Flt.fin x = true) (n1 : -20000 ≤ v - n) (n2 : v - n ≤ 20000) (u1 : -20000 ≤ vu - n) (u2 : vu - n ≤ 20000) (w1 : -20000 ≤ vd - n) (w2 : vd - n ≤ 20000)
    (o1 : FloatKind.f64.format.order x 4886405595696988160 = some .lt) (o2 : FloatKind.f64.format.order x 14109777632551763968 = some .gt)
    (c0 : ∀ w, (convert 23 2 (.float .f64 x)).run Tryd.prog w = .ok (.int .i64 v) w)
    (cu : ∀ w, (convert 23 2 (.float .f64 zu)).run Tryd.prog w = .ok (.int .i64 vu) w)
    (cd : ∀ w, (convert 23 2 (.float .f64 zd)).run Tryd.prog w = .ok (.int .i64 vd) w)
    (up : ∀ w, Calls Tryd.prog 25 #[.float .f64 x, .float .f64 4890909195324358656] w fun e w' => e = .returned (.float .f64 zu) ∧ w' = w)
    (down : ∀ w, Calls Tryd.prog 25 #[.float .f64 x, .float .f64 14114281232179134464] w fun e w' => e = .returned (.float .f64 zd) ∧ w' = w)
    (s1 : ∀ w, Calls Tryd.prog 18 #[.float .f64 x] w fun e w' => e = .returned (.float .f64 a) ∧ w' = w) (o3 : FloatKind.f64.format.order a 4845873199050653696 = some .gt ∨ FloatKind.f64.format.order a 4845873199050653696 = some .eq)
    (d1 : (v - n).natAbs ≤ (vu - n).natAbs) (d2 : (v - n).natAbs ≤ (vd - n).natAbs)
    (w : World) (ht : w.cell? ⟨4, 15, none⟩ = some (.int .u8 4)) :
    Calls Tryd.prog 7 #[.int .i64 n] w fun e w' => e = .returned (.bool true) ∧ Below w.heap.size w w' := by
  have hb := f64bits
  have hs := fun t w => sub_fin t x fx w
  have ho : (FloatKind.f64.format.order 0 0) = some .eq := Flt.order_zero_zero
  have N0 := near_0
  have UP := hidE up
  have DOWN := hidE down
  have S1 := hidE s1
  have D1 : decide ((v - n).natAbs ≤ (vu - n).natAbs) = true := decide_eq_true d1
  have D2 : decide ((v - n).natAbs ≤ (vd - n).natAbs) = true := decide_eq_true d2
  clear fx up down s1 d1 d2
  rcases o3 with o3 | o3
  all_goals
    go_enter Tryd.func7, Tryd.ntmps7
    go_wp2_with fail
    refine (known_any _ ht).mono ?_
    rintro e w1 ⟨rfl, hb1⟩
    go_wp2_with (first
      | (go_at_call 23; refine (near_any _ _).mono ?_; rintro e w' ⟨rfl, rfl⟩)
      | (go_at_call 12; refine (lsize_wide _ (by omega) (by omega) _).mono ?_; rintro e w' ⟨rfl, rfl⟩)
      | (go_at_call 25; (first | with_reducible refine (UP.out _).mono ?_ | with_reducible refine (DOWN.out _).mono ?_); rintro e w' ⟨rfl, rfl⟩)
      | (go_at_call 18; refine (S1.out _).mono ?_; rintro e w' ⟨rfl, rfl⟩))
    go_ret
    exact ⟨rfl, hb1⟩
end Go.Proofs.YtihkabgoaejcgabDoor
