/- Exact walked where the float lies among the whole numbers. -/
import Derived.Test.YtmmldghlellehaaDoorE1
namespace Go.Proofs.YtmmldghlellehaaDoor
open Go.RowKit

theorem hidE {p : Prop} (h : p) : Hid p := h

def ordI : Ordering → Int
  | .lt => -1
  | .eq => 0
  | .gt => 1

theorem compare_floats (x y : Nat) (o : Ordering) (h1 : FloatKind.f64.format.order x x = some .eq) (h2 : FloatKind.f64.format.order y y = some .eq) (h3 : FloatKind.f64.format.order x y = some o) (h4 : FloatKind.f64.format.order y x = some o.swap) (w : World) :
    Calls Tryd.prog 61 #[.float .f64 x, .float .f64 y] w fun e w' => e = .returned (.int .i64 (ordI o)) ∧ w' = w := by
  cases o
  all_goals
    simp only [Ordering.swap] at h4
    go_enter Tryd.func61, Tryd.ntmps61
    go_wp2
    go_ret
    exact ⟨rfl, rfl⟩

/-- what Exact tells where the float's whole part is v, and o how the float lies to it -/
def exactV (v n : Int) (o : Ordering) : Int := if v < n then -1 else if n < v then 1 else ordI o

theorem exact_mid (x z : Nat) (v n : Int) (o : Ordering) (o1 : FloatKind.f64.format.order x x = some .eq) (o2 : FloatKind.f64.format.order x 4890909195324358656 = some .lt) (o3 : FloatKind.f64.format.order x 14114281232179134464 = some .gt ∨ FloatKind.f64.format.order x 14114281232179134464 = some .eq)
    (t0 : Extern.MathFloor.toIntegral "math.archTrunc" .zero #[.float .f64 x] = pure (.float .f64 z)) (c0 : ∀ w, (convert 24 2 (.float .f64 z)).run Tryd.prog w = .ok (.int .i64 v) w)
    (h2 : FloatKind.f64.format.order z z = some .eq) (h3 : FloatKind.f64.format.order x z = some o) (h4 : FloatKind.f64.format.order z x = some o.swap) (w : World) : Calls Tryd.prog 30 #[.float .f64 x, .int .i64 n] w fun e w' => e = .returned (.int .i64 (exactV v n o)) ∧ w' = w := by
  have CF := hidE (compare_floats x z o o1 h2 h3 h4)
  clear h2 h3 h4
  have T0 := hidE t0
  clear t0
  rcases Int.lt_trichotomy v n with h | h | h
  · have ev : exactV v n o = -1 := by rw [exactV, if_pos h]
    have cv : (if v < n then (-1 : Int) else if n < v then 1 else 0) = -1 := by rw [if_pos h]
    rw [ev]
    clear h ev
    rcases o3 with o3 | o3
    all_goals
      go_enter Tryd.func30, Tryd.ntmps30
      go_wp2_with (first
        | (go_at_call 58; go_in)
        | (go_at_call 59; refine (trunc_to _ _ T0.out _).mono ?_; rintro e w' ⟨rfl, rfl⟩)
        | (go_at_call 60; refine (compare_ints _ _ _).mono ?_; rw [cv]; rintro e w' ⟨rfl, rfl⟩))
      go_ret
      exact ⟨rfl, rfl⟩
  · subst h
    have ev : exactV v v o = ordI o := by rw [exactV, if_neg (by omega), if_neg (by omega)]
    have cv : (if v < v then (-1 : Int) else if v < v then 1 else 0) = 0 := by rw [if_neg (by omega), if_neg (by omega)]
    rw [ev]
    clear ev
    rcases o3 with o3 | o3
    all_goals
      go_enter Tryd.func30, Tryd.ntmps30
      go_wp2_with (first
        | (go_at_call 58; go_in)
        | (go_at_call 59; refine (trunc_to _ _ T0.out _).mono ?_; rintro e w' ⟨rfl, rfl⟩)
        | (go_at_call 60; refine (compare_ints _ _ _).mono ?_; rw [cv]; rintro e w' ⟨rfl, rfl⟩)
        | (go_at_call 61; refine (CF.out _).mono ?_; rintro e w' ⟨rfl, rfl⟩))
      go_ret
      exact ⟨rfl, rfl⟩
  · have ev : exactV v n o = 1 := by rw [exactV, if_neg (by omega), if_pos h]
    have cv : (if v < n then (-1 : Int) else if n < v then 1 else 0) = 1 := by rw [if_neg (by omega), if_pos h]
    rw [ev]
    clear h ev
    rcases o3 with o3 | o3
    all_goals
      go_enter Tryd.func30, Tryd.ntmps30
      go_wp2_with (first
        | (go_at_call 58; go_in)
        | (go_at_call 59; refine (trunc_to _ _ T0.out _).mono ?_; rintro e w' ⟨rfl, rfl⟩)
        | (go_at_call 60; refine (compare_ints _ _ _).mono ?_; rw [cv]; rintro e w' ⟨rfl, rfl⟩))
      go_ret
      exact ⟨rfl, rfl⟩

theorem refExact_mid (x p q : Nat) (v n : Int) (o : Ordering) (o1 : FloatKind.f64.format.order x x = some .eq) (o2 : FloatKind.f64.format.order x 4890909195324358656 = some .lt) (o3 : FloatKind.f64.format.order x 14114281232179134464 = some .gt ∨ FloatKind.f64.format.order x 14114281232179134464 = some .eq)
    (c0 : ∀ w, (convert 24 2 (.float .f64 x)).run Tryd.prog w = .ok (.int .i64 v) w) (hq : floatOfInt .f64 v = q)
    (hp : floatBits .sub .f64 x q = some p) (h3 : FloatKind.f64.format.order p 0 = some o) (w : World) : Calls Tryd.prog 31 #[.float .f64 x, .int .i64 n] w fun e w' => e = .returned (.int .i64 (exactV v n o)) ∧ w' = w := by
  have hz : ∀ t (w : World), (binOp .sub t (.float .f64 x) (.float .f64 q)).run Tryd.prog w = .ok (.float .f64 p) w := fun t w => run_float_arith w .sub t .f64 _ _ _ hp
  clear hp
  rcases Int.lt_trichotomy v n with h | h | h
  · have ev : exactV v n o = -1 := by rw [exactV, if_pos h]
    have d1 : (v == n) = false := by rw [beq_eq_false_iff_ne]; omega
    have d2 : decide (v < n) = true := by simpa using h
    rw [ev]
    clear h ev
    rcases o3 with o3 | o3
    all_goals
      go_enter Tryd.func31, Tryd.ntmps31
      go_wp2
      go_ret
      exact ⟨rfl, rfl⟩
  · subst h
    have ev : exactV v v o = ordI o := by rw [exactV, if_neg (by omega), if_neg (by omega)]
    rw [ev]
    clear ev
    cases o
    all_goals
      rcases o3 with o3 | o3
      all_goals
        go_enter Tryd.func31, Tryd.ntmps31
        go_wp2
        go_ret
        exact ⟨rfl, rfl⟩
  · have ev : exactV v n o = 1 := by rw [exactV, if_neg (by omega), if_pos h]
    have d1 : (v == n) = false := by rw [beq_eq_false_iff_ne]; omega
    have d2 : decide (v < n) = false := by rw [decide_eq_false_iff_not]; omega
    rw [ev]
    clear h ev
    rcases o3 with o3 | o3
    all_goals
      go_enter Tryd.func31, Tryd.ntmps31
      go_wp2
      go_ret
      exact ⟨rfl, rfl⟩
end Go.Proofs.YtmmldghlellehaaDoor
