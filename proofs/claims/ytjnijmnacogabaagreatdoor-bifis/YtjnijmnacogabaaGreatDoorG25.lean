import Derived.Test.YtjnijmnacogabaaGreatDoorG24
import Derived.Test.YtjnijmnacogabaaGreatDoorG06
/- Plain facts on binary floats of 64 bits: a finite float's value in units of 2^-1074; unlike floats of one value are the zeros; a whole number against a float's value. -/
namespace Go.Proofs.YtjnijmnacogabaaGreatDoor.Flt
open Ieee

def ordI : Ordering → Int
  | .lt => -1
  | .eq => 0
  | .gt => 1

/-- what Exact tells where the float's whole part is v, and o how the float lies to it -/
def exactV (v n : Int) (o : Ordering) : Int := if v < n then -1 else if n < v then 1 else ordI o

/-- a float's value in units of 2^-1074 -/
def U (x : Nat) : Int := match double.read x with
  | .number s m p => unit s m p
  | _ => 0

theorem U_of {x : Nat} {s : Bool} {m : Nat} {p : Int} (h : double.read x = .number s m p) : U x = unit s m p := by unfold U; rw [h]

theorem U_zero : U 0 = 0 := by
  have hz : double.read 0 = .number false 0 (-1074) := by decide
  rw [U_of hz]; simp [unit, signed]

theorem order_U {x y : Nat} (hx : x < 18446744073709551616) (hy : y < 18446744073709551616) (fx : fin x = true) (fy : fin y = true) : double.order x y = some (compare (U x) (U y)) := by
  obtain ⟨m, p, hr, hc, hp, he⟩ := read_canon hx fx
  obtain ⟨n, q, hr', hc', hp', he'⟩ := read_canon hy fy
  rw [U_of hr, U_of hr']
  unfold Format.order
  rw [hr, hr', order_unit _ _ _ _ hc.lo hc'.lo]

theorem canon_le {m n : Nat} {p q : Int} (hc : Canon m p) (hd : Canon n q) (h : m * 2 ^ (p + 1074).toNat = n * 2 ^ (q + 1074).toNat) (h0 : 0 < m) : q ≤ p := by
  rcases Int.lt_or_le p q with hlt | hle
  · exfalso
    have l1 := hc.lo
    have e : (q + 1074).toNat = (q - p).toNat + (p + 1074).toNat := by omega
    rw [e, Nat.pow_add, ← Nat.mul_assoc] at h
    have h2 := Nat.eq_of_mul_eq_mul_right (Nat.two_pow_pos _) h
    have hn : 4503599627370496 ≤ n := by have := hd.norm; omega
    have e2 : (q - p).toNat = (q - p).toNat - 1 + 1 := by omega
    rw [e2, Nat.pow_succ, ← Nat.mul_assoc] at h2
    have h3 : n ≤ n * 2 ^ ((q - p).toNat - 1) := Nat.le_mul_of_pos_right _ (Nat.two_pow_pos _)
    have := hc.hi
    omega
  · exact hle

theorem canon_inj {m n : Nat} {p q : Int} (hc : Canon m p) (hd : Canon n q) (h : m * 2 ^ (p + 1074).toNat = n * 2 ^ (q + 1074).toNat) (h0 : 0 < m) : m = n ∧ p = q := by
  have a := canon_le hc hd h h0
  have h1 : 0 < n := by
    rcases Nat.eq_zero_or_pos n with e | e
    · subst e
      rw [Nat.zero_mul] at h
      have := Nat.mul_pos h0 (Nat.two_pow_pos (p + 1074).toNat)
      omega
    · exact e
  have b := canon_le hd hc h.symm h1
  have e : p = q := by omega
  subst e
  exact ⟨Nat.eq_of_mul_eq_mul_right (Nat.two_pow_pos _) h, rfl⟩

/-- unlike floats of one value: both are nothing -/
theorem U_inj {x y : Nat} (hx : x < 18446744073709551616) (hy : y < 18446744073709551616) (fx : fin x = true) (fy : fin y = true) (h : U x = U y) (hne : x ≠ y) : U x = 0 := by
  obtain ⟨m, p, hr, hc, hp, he⟩ := read_canon hx fx
  obtain ⟨n, q, hr', hc', hp', he'⟩ := read_canon hy fy
  rw [U_of hr] at h ⊢
  rw [U_of hr'] at h
  rcases Nat.eq_zero_or_pos m with h0 | h0
  · subst h0; simp [unit, signed]
  · exfalso
    have hpos := Nat.mul_pos h0 (Nat.two_pow_pos (p + 1074).toNat)
    unfold unit signed at h
    simp only [Nat.shiftLeft_eq] at h
    by_cases hs : 9223372036854775808 ≤ x <;> by_cases ht : 9223372036854775808 ≤ y
    · rw [decide_eq_true hs, decide_eq_true ht] at h
      simp only [if_true] at h
      obtain ⟨e1, e2⟩ := canon_inj hc hc' (by omega) h0
      subst e1 e2
      omega
    · rw [decide_eq_true hs, decide_eq_false ht] at h
      simp only [if_true, Bool.false_eq_true, if_false] at h
      omega
    · rw [decide_eq_false hs, decide_eq_true ht] at h
      simp only [if_true, Bool.false_eq_true, if_false] at h
      omega
    · rw [decide_eq_false hs, decide_eq_false ht] at h
      simp only [Bool.false_eq_true, if_false] at h
      obtain ⟨e1, e2⟩ := canon_inj hc hc' (by omega) h0
      subst e1 e2
      omega

/-- a whole number in units -/
def P : Int := ((2 ^ 1074 : Nat) : Int)
theorem P_pos : 0 < P := by unfold P; have := Nat.two_pow_pos 1074; omega
theorem signed_P (s : Bool) (M : Nat) : signed s M 1074 = signed s M 0 * P := by
  have := signed_up s M 0 1074
  rw [Nat.zero_add] at this
  exact this

/-- a float's whole part, and that it is less than one below it -/
theorem part_bounds (m : Nat) {p : Int} (lo : -1074 ≤ p) : (m * 2 ^ p.toNat / 2 ^ (-p).toNat) * 2 ^ 1074 ≤ m * 2 ^ (p + 1074).toNat ∧ m * 2 ^ (p + 1074).toNat < (m * 2 ^ p.toNat / 2 ^ (-p).toNat + 1) * 2 ^ 1074 := by
  generalize hK : (1074 : Nat) = K
  rcases Int.le_total 0 p with hp | hp
  · have e : (p + 1074).toNat = p.toNat + K := by omega
    have e2 : (-p).toNat = 0 := by omega
    rw [e, e2, Nat.pow_zero, Nat.div_one, Nat.pow_add, ← Nat.mul_assoc]
    exact ⟨Nat.le_refl _, Nat.mul_lt_mul_of_pos_right (Nat.lt_succ_self _) (Nat.two_pow_pos _)⟩
  · have e : p.toNat = 0 := by omega
    have e2 : K = (-p).toNat + (p + 1074).toNat := by omega
    rw [e, Nat.pow_zero, Nat.mul_one, e2, Nat.pow_add, ← Nat.mul_assoc, ← Nat.mul_assoc]
    refine ⟨Nat.mul_le_mul_right _ (Nat.div_mul_le_self _ _), Nat.mul_lt_mul_of_pos_right ?_ (Nat.two_pow_pos _)⟩
    rw [Nat.mul_comm]
    exact Nat.lt_mul_div_succ _ (Nat.two_pow_pos _)

theorem toInt_part (s : Bool) (m : Nat) (p : Int) : (Datum.number s m p).toInt .zero = some (signed s (m * 2 ^ p.toNat / 2 ^ (-p).toNat) 0) := by
  unfold Datum.toInt Datum.integral
  simp only [cut_zero, Nat.shiftLeft_eq]

/-- where a float lies by its whole part, that is where it lies by its value -/
theorem exact_value {s : Bool} {m M : Nat} {p : Int} (n : Int) (h1 : M * 2 ^ 1074 ≤ m * 2 ^ (p + 1074).toNat) (h2 : m * 2 ^ (p + 1074).toNat < (M + 1) * 2 ^ 1074) :
    exactV (signed s M 0) n (compare (unit s m p) (signed s M 1074)) = ordI (compare (unit s m p) (n * P)) := by
  rw [signed_P]
  have hP := P_pos
  have e1 : ((M : Int) * P) ≤ ((m * 2 ^ (p + 1074).toNat : Nat) : Int) := by
    have := Int.ofNat_le.2 h1
    rw [Int.natCast_mul M] at this
    exact this
  have e2 : ((m * 2 ^ (p + 1074).toNat : Nat) : Int) < ((M : Int) + 1) * P := by
    have := Int.ofNat_lt.2 h2
    rw [Int.natCast_mul (M + 1), Int.natCast_add] at this
    exact this
  have eu : unit s m p = if s then -((m * 2 ^ (p + 1074).toNat : Nat) : Int) else ((m * 2 ^ (p + 1074).toNat : Nat) : Int) := by
    unfold unit signed; simp only [Nat.shiftLeft_eq]
  rw [eu]
  generalize ((m * 2 ^ (p + 1074).toNat : Nat) : Int) = V at e1 e2
  have ev : signed s M 0 = if s then -(M : Int) else (M : Int) := by unfold signed; simp only [Nat.shiftLeft_zero]
  rw [ev]
  generalize (M : Int) = N at e1 e2
  have mono : ∀ a b : Int, a ≤ b → a * P ≤ b * P := fun a b h => Int.mul_le_mul_of_nonneg_right h (Int.le_of_lt hP)
  unfold exactV
  have addP : (N + 1) * P = N * P + P := by rw [Int.add_mul, Int.one_mul]
  cases s
  · simp only [Bool.false_eq_true, if_false]
    rcases Int.lt_trichotomy N n with h | h | h
    · rw [if_pos h, Int.compare_eq_lt.2 (by have := mono (N + 1) n (by omega); omega)]; rfl
    · subst h; rw [if_neg (by omega), if_neg (by omega)]
    · rw [if_neg (by omega), if_pos h, Int.compare_eq_gt.2 (by have := mono (n + 1) N (by omega); rw [Int.add_mul, Int.one_mul] at this; omega)]; rfl
  · simp only [if_true]
    have negN : -N * P = -(N * P) := Int.neg_mul _ _
    rcases Int.lt_trichotomy (-N) n with h | h | h
    · rw [if_pos h, Int.compare_eq_lt.2 (by have := mono (-N + 1) n (by omega); rw [Int.add_mul, Int.one_mul, negN] at this; omega)]; rfl
    · subst h; rw [if_neg (by omega), if_neg (by omega)]
    · rw [if_neg (by omega), if_pos h, Int.compare_eq_gt.2 (by have := mono n (-N - 1) (by omega); rw [Int.sub_mul, Int.one_mul, negN] at this; omega)]; rfl
end Go.Proofs.YtjnijmnacogabaaGreatDoor.Flt


/- The program's Exact walked, over plain facts on the float: its order against the ends of the whole numbers, what is left of it when it is made whole. -/
namespace Go.Proofs.YtjnijmnacogabaaGreatDoor
open Go.RowKit
open Flt (ordI exactV)


theorem isNaN_int (x : Int) (w : World) : Calls Tryz.prog 197 #[.int .i64 x] w fun e w' => e = .returned (.bool false) ∧ w' = w := by
  go_enter Tryz.func197, Tryz.ntmps197
  go_wp2
  go_ret
  exact ⟨rfl, rfl⟩

theorem compare_ints (x y : Int) (w : World) : Calls Tryz.prog 156 #[.int .i64 x, .int .i64 y] w fun e w' => e = .returned (.int .i64 (if x < y then -1 else if y < x then 1 else 0)) ∧ w' = w := by
  rcases Int.lt_trichotomy x y with h | h | h
  · have d : decide (x < y) = true := by simpa using h
    rw [if_pos h]
    clear h
    go_enter Tryz.func156, Tryz.ntmps156
    go_wp2_with (go_at_call 197; refine (isNaN_int _ _).mono ?_; rintro e w' ⟨rfl, rfl⟩)
    go_ret
    exact ⟨rfl, rfl⟩
  · subst h
    rw [if_neg (by omega), if_neg (by omega)]
    go_enter Tryz.func156, Tryz.ntmps156
    go_wp2_with (go_at_call 197; refine (isNaN_int _ _).mono ?_; rintro e w' ⟨rfl, rfl⟩)
    go_ret
    exact ⟨rfl, rfl⟩
  · have d : decide (x < y) = false := by rw [decide_eq_false_iff_not]; omega
    have d2 : decide (y < x) = true := by simpa using h
    rw [if_neg (by omega), if_pos h]
    clear h
    go_enter Tryz.func156, Tryz.ntmps156
    go_wp2_with (go_at_call 197; refine (isNaN_int _ _).mono ?_; rintro e w' ⟨rfl, rfl⟩)
    go_ret
    exact ⟨rfl, rfl⟩

set_option maxRecDepth 100000 in
theorem trunc_to (x y : Nat) (hr : Extern.MathFloor.toIntegral "math.archTrunc" .zero #[.float .f64 x] = pure (.float .f64 y)) (w : World) : Calls Tryz.prog 154 #[.float .f64 x] w fun e w' => e = .returned (.float .f64 y) ∧ w' = w := by
  have hx : ∀ w, (callFunc 195 #[.float .f64 x]).run Tryz.prog w = .ok (.value (.float .f64 y)) w := fun w => by
    rw [run_callFunc_extern Tryz.func195 (by kernel_rfl) (by kernel_rfl) (by kernel_rfl) (e := Extern.MathFloor.toIntegral "math.archTrunc" .zero) (by kernel_rfl), hr]
    rfl
  clear hr
  go_enter Tryz.func154, Tryz.ntmps154
  go_wp2
  go_ret
  exact ⟨rfl, rfl⟩

theorem exact_nan (x : Nat) (n : Int) (o1 : FloatKind.f64.format.order x x = none) (w : World) : Calls Tryz.prog 120 #[.float .f64 x, .int .i64 n] w fun e w' => e = .returned (.int .i64 2) ∧ w' = w := by
  go_enter Tryz.func120, Tryz.ntmps120
  go_wp2_with (go_at_call 155; go_in)
  go_ret
  exact ⟨rfl, rfl⟩

theorem exact_high (x : Nat) (n : Int) (o1 : FloatKind.f64.format.order x x = some .eq) (o2 : FloatKind.f64.format.order x 4890909195324358656 = some .gt ∨ FloatKind.f64.format.order x 4890909195324358656 = some .eq) (w : World) : Calls Tryz.prog 120 #[.float .f64 x, .int .i64 n] w fun e w' => e = .returned (.int .i64 1) ∧ w' = w := by
  rcases o2 with o2 | o2
  all_goals
    go_enter Tryz.func120, Tryz.ntmps120
    go_wp2_with (go_at_call 155; go_in)
    go_ret
    exact ⟨rfl, rfl⟩

theorem exact_low (x : Nat) (n : Int) (o1 : FloatKind.f64.format.order x x = some .eq) (o2 : FloatKind.f64.format.order x 4890909195324358656 = some .lt) (o3 : FloatKind.f64.format.order x 14114281232179134464 = some .lt) (w : World) : Calls Tryz.prog 120 #[.float .f64 x, .int .i64 n] w fun e w' => e = .returned (.int .i64 (-1)) ∧ w' = w := by
  go_enter Tryz.func120, Tryz.ntmps120
  go_wp2_with (go_at_call 155; go_in)
  go_ret
  exact ⟨rfl, rfl⟩



theorem hidE {p : Prop} (h : p) : Hid p := h

theorem compare_floats (x y : Nat) (o : Ordering) (h1 : FloatKind.f64.format.order x x = some .eq) (h2 : FloatKind.f64.format.order y y = some .eq) (h3 : FloatKind.f64.format.order x y = some o) (h4 : FloatKind.f64.format.order y x = some o.swap) (w : World) :
    Calls Tryz.prog 157 #[.float .f64 x, .float .f64 y] w fun e w' => e = .returned (.int .i64 (ordI o)) ∧ w' = w := by
  cases o
  all_goals
    simp only [Ordering.swap] at h4
    go_enter Tryz.func157, Tryz.ntmps157
    go_wp2
    go_ret
    exact ⟨rfl, rfl⟩

theorem exact_mid (x z : Nat) (v n : Int) (o : Ordering) (o1 : FloatKind.f64.format.order x x = some .eq) (o2 : FloatKind.f64.format.order x 4890909195324358656 = some .lt) (o3 : FloatKind.f64.format.order x 14114281232179134464 = some .gt ∨ FloatKind.f64.format.order x 14114281232179134464 = some .eq)
    (t0 : Extern.MathFloor.toIntegral "math.archTrunc" .zero #[.float .f64 x] = pure (.float .f64 z)) (c0 : ∀ w, (convert 26 2 (.float .f64 z)).run Tryz.prog w = .ok (.int .i64 v) w)
    (h2 : FloatKind.f64.format.order z z = some .eq) (h3 : FloatKind.f64.format.order x z = some o) (h4 : FloatKind.f64.format.order z x = some o.swap) (w : World) : Calls Tryz.prog 120 #[.float .f64 x, .int .i64 n] w fun e w' => e = .returned (.int .i64 (exactV v n o)) ∧ w' = w := by
  have CF := hidE (compare_floats x z o o1 h2 h3 h4)
  clear h2 h3 h4
  have T0 := hidE t0
  clear t0
  rcases Int.lt_trichotomy v n with h | h | h
  · have ev : exactV v n o = -1 := by rw [exactV, if_pos h]
    have cv : (if v < n then (-1 : Int) else if n < v then 1 else 0) = -1 := by rw [if_pos h]
    rw [ev]
    clear h ev
    rcases o3 with o3 | o3
    all_goals
      go_enter Tryz.func120, Tryz.ntmps120
      go_wp2_with (first
        | (go_at_call 155; go_in)
        | (go_at_call 154; refine (trunc_to _ _ T0.out _).mono ?_; rintro e w' ⟨rfl, rfl⟩)
        | (go_at_call 156; refine (compare_ints _ _ _).mono ?_; rw [cv]; rintro e w' ⟨rfl, rfl⟩))
      go_ret
      exact ⟨rfl, rfl⟩
  · subst h
    have ev : exactV v v o = ordI o := by rw [exactV, if_neg (by omega), if_neg (by omega)]
    have cv : (if v < v then (-1 : Int) else if v < v then 1 else 0) = 0 := by rw [if_neg (by omega), if_neg (by omega)]
    rw [ev]
    clear ev
    rcases o3 with o3 | o3
    all_goals
      go_enter Tryz.func120, Tryz.ntmps120
      go_wp2_with (first
        | (go_at_call 155; go_in)
        | (go_at_call 154; refine (trunc_to _ _ T0.out _).mono ?_; rintro e w' ⟨rfl, rfl⟩)
        | (go_at_call 156; refine (compare_ints _ _ _).mono ?_; rw [cv]; rintro e w' ⟨rfl, rfl⟩)
        | (go_at_call 157; refine (CF.out _).mono ?_; rintro e w' ⟨rfl, rfl⟩))
      go_ret
      exact ⟨rfl, rfl⟩
  · have ev : exactV v n o = 1 := by rw [exactV, if_neg (by omega), if_pos h]
    have cv : (if v < n then (-1 : Int) else if n < v then 1 else 0) = 1 := by rw [if_neg (by omega), if_pos h]
    rw [ev]
    clear h ev
    rcases o3 with o3 | o3
    all_goals
      go_enter Tryz.func120, Tryz.ntmps120
      go_wp2_with (first
        | (go_at_call 155; go_in)
        | (go_at_call 154; refine (trunc_to _ _ T0.out _).mono ?_; rintro e w' ⟨rfl, rfl⟩)
        | (go_at_call 156; refine (compare_ints _ _ _).mono ?_; rw [cv]; rintro e w' ⟨rfl, rfl⟩))
      go_ret
      exact ⟨rfl, rfl⟩

end Go.Proofs.YtjnijmnacogabaaGreatDoor


