import Derived.Test.YtgljglindgbjaaaGreatDoorG27
import Derived.Deep.DrawnRows
/- The document's sums, differences and products of whole numbers. -/
namespace Go.Proofs.YtgljglindgbjaaaGreatDoor
open Go.RowKit
attribute [local go_sem] store_float
attribute [local go_sem ↓] Go.wp_at_zero Go.wp_at_succ

theorem rprod_za (b : Int) (w : World) : Calls Tryz.prog 112 #[.int .i64 0, .int .i64 b] w fun e w' => e = .returned (.tuple #[.int .i64 0, .bool true]) ∧ w' = w := by
  go_enter Tryz.func112, Tryz.ntmps112
  go_wp2
  exact bodyPost_ret (v := .tuple #[.int .i64 0, .bool true]) (by simp [results, Tryz.results112, go_sem]) rfl ⟨rfl, rfl⟩

theorem rprod_zb (a : Int) (ha : (a == 0) = false) (w : World) : Calls Tryz.prog 112 #[.int .i64 a, .int .i64 0] w fun e w' => e = .returned (.tuple #[.int .i64 0, .bool true]) ∧ w' = w := by
  go_enter Tryz.func112, Tryz.ntmps112
  go_wp2
  exact bodyPost_ret (v := .tuple #[.int .i64 0, .bool true]) (by simp [results, Tryz.results112, go_sem]) rfl ⟨rfl, rfl⟩

theorem rprod_big_pp (a b q : Int) (a0 : (a == 0) = false) (a1 : decide (a < 0) = false) (b0 : (b == 0) = false) (b1 : decide (b < 0) = false) (r2 : 0 < b) (hq : (576460752303423488 : Int).tdiv b = q) (d : decide (q < a) = true) (q1 : -9223372036854775808 ≤ q) (q2 : q ≤ 9223372036854775807) (w : World) : Calls Tryz.prog 112 #[.int .i64 a, .int .i64 b] w fun e w' => e = .returned (.tuple #[.int .i64 0, .bool false]) ∧ w' = w := by
  go_enter Tryz.func112, Tryz.ntmps112
  go_wp2
  exact bodyPost_ret (v := .tuple #[.int .i64 0, .bool false]) (by simp [results, Tryz.results112, go_sem]) rfl ⟨rfl, rfl⟩

theorem rprod_fit_pp (a b q : Int) (p : Int) (r : Bool) (hp : a * b = p) (p1 : -576460752303423488 ≤ p) (p2 : p ≤ 576460752303423488) (hr : decide (p ≤ 576460752303423487) = r) (a0 : (a == 0) = false) (a1 : decide (a < 0) = false) (b0 : (b == 0) = false) (b1 : decide (b < 0) = false) (r2 : 0 < b) (hq : (576460752303423488 : Int).tdiv b = q) (d : decide (q < a) = false) (q1 : -9223372036854775808 ≤ q) (q2 : q ≤ 9223372036854775807) (w : World) : Calls Tryz.prog 112 #[.int .i64 a, .int .i64 b] w fun e w' => e = .returned (.tuple #[.int .i64 p, .bool r]) ∧ w' = w := by
  go_enter Tryz.func112, Tryz.ntmps112
  go_wp2
  exact bodyPost_ret (v := .tuple #[.int .i64 p, .bool r]) (by simp [results, Tryz.results112, go_sem]) rfl ⟨rfl, rfl⟩

theorem rprod_big_pn (a b q : Int) (y : Int) (a0 : (a == 0) = false) (a1 : decide (a < 0) = false) (b0 : (b == 0) = false) (_b1 : decide (b < 0) = true) (yb : -b = y) (r2 : -576460752303423488 ≤ b) (r2b : b < 0) (_y0 : (y == 0) = false) (hq : (576460752303423488 : Int).tdiv y = q) (d : decide (q < a) = true) (q1 : -9223372036854775808 ≤ q) (q2 : q ≤ 9223372036854775807) (w : World) : Calls Tryz.prog 112 #[.int .i64 a, .int .i64 b] w fun e w' => e = .returned (.tuple #[.int .i64 0, .bool false]) ∧ w' = w := by
  go_enter Tryz.func112, Tryz.ntmps112
  go_wp2
  exact bodyPost_ret (v := .tuple #[.int .i64 0, .bool false]) (by simp [results, Tryz.results112, go_sem]) rfl ⟨rfl, rfl⟩

theorem rprod_fit_pn (a b q : Int) (y : Int) (p : Int) (r : Bool) (hp : a * b = p) (p1 : -576460752303423488 ≤ p) (p2 : p ≤ 576460752303423488) (hr : decide (p ≤ 576460752303423487) = r) (a0 : (a == 0) = false) (a1 : decide (a < 0) = false) (b0 : (b == 0) = false) (_b1 : decide (b < 0) = true) (yb : -b = y) (r2 : -576460752303423488 ≤ b) (r2b : b < 0) (_y0 : (y == 0) = false) (hq : (576460752303423488 : Int).tdiv y = q) (d : decide (q < a) = false) (q1 : -9223372036854775808 ≤ q) (q2 : q ≤ 9223372036854775807) (w : World) : Calls Tryz.prog 112 #[.int .i64 a, .int .i64 b] w fun e w' => e = .returned (.tuple #[.int .i64 p, .bool r]) ∧ w' = w := by
  go_enter Tryz.func112, Tryz.ntmps112
  go_wp2
  exact bodyPost_ret (v := .tuple #[.int .i64 p, .bool r]) (by simp [results, Tryz.results112, go_sem]) rfl ⟨rfl, rfl⟩

theorem rprod_big_np (a b q : Int) (x : Int) (a0 : (a == 0) = false) (_a1 : decide (a < 0) = true) (b0 : (b == 0) = false) (b1 : decide (b < 0) = false) (xa : -a = x) (r1 : -576460752303423488 ≤ a) (r1b : a < 0) (r2 : 0 < b) (hq : (576460752303423488 : Int).tdiv b = q) (d : decide (q < x) = true) (q1 : -9223372036854775808 ≤ q) (q2 : q ≤ 9223372036854775807) (w : World) : Calls Tryz.prog 112 #[.int .i64 a, .int .i64 b] w fun e w' => e = .returned (.tuple #[.int .i64 0, .bool false]) ∧ w' = w := by
  go_enter Tryz.func112, Tryz.ntmps112
  go_wp2
  exact bodyPost_ret (v := .tuple #[.int .i64 0, .bool false]) (by simp [results, Tryz.results112, go_sem]) rfl ⟨rfl, rfl⟩

theorem rprod_fit_np (a b q : Int) (x : Int) (p : Int) (r : Bool) (hp : a * b = p) (p1 : -576460752303423488 ≤ p) (p2 : p ≤ 576460752303423488) (hr : decide (p ≤ 576460752303423487) = r) (a0 : (a == 0) = false) (_a1 : decide (a < 0) = true) (b0 : (b == 0) = false) (b1 : decide (b < 0) = false) (xa : -a = x) (r1 : -576460752303423488 ≤ a) (r1b : a < 0) (r2 : 0 < b) (hq : (576460752303423488 : Int).tdiv b = q) (d : decide (q < x) = false) (q1 : -9223372036854775808 ≤ q) (q2 : q ≤ 9223372036854775807) (w : World) : Calls Tryz.prog 112 #[.int .i64 a, .int .i64 b] w fun e w' => e = .returned (.tuple #[.int .i64 p, .bool r]) ∧ w' = w := by
  go_enter Tryz.func112, Tryz.ntmps112
  go_wp2
  exact bodyPost_ret (v := .tuple #[.int .i64 p, .bool r]) (by simp [results, Tryz.results112, go_sem]) rfl ⟨rfl, rfl⟩

theorem rprod_big_nn (a b q : Int) (x : Int) (y : Int) (a0 : (a == 0) = false) (_a1 : decide (a < 0) = true) (b0 : (b == 0) = false) (_b1 : decide (b < 0) = true) (xa : -a = x) (r1 : -576460752303423488 ≤ a) (r1b : a < 0) (yb : -b = y) (r2 : -576460752303423488 ≤ b) (r2b : b < 0) (_y0 : (y == 0) = false) (hq : (576460752303423488 : Int).tdiv y = q) (d : decide (q < x) = true) (q1 : -9223372036854775808 ≤ q) (q2 : q ≤ 9223372036854775807) (w : World) : Calls Tryz.prog 112 #[.int .i64 a, .int .i64 b] w fun e w' => e = .returned (.tuple #[.int .i64 0, .bool false]) ∧ w' = w := by
  go_enter Tryz.func112, Tryz.ntmps112
  go_wp2
  exact bodyPost_ret (v := .tuple #[.int .i64 0, .bool false]) (by simp [results, Tryz.results112, go_sem]) rfl ⟨rfl, rfl⟩

theorem rprod_fit_nn (a b q : Int) (x : Int) (y : Int) (p : Int) (r : Bool) (hp : a * b = p) (p1 : -576460752303423488 ≤ p) (p2 : p ≤ 576460752303423488) (hr : decide (p ≤ 576460752303423487) = r) (a0 : (a == 0) = false) (_a1 : decide (a < 0) = true) (b0 : (b == 0) = false) (_b1 : decide (b < 0) = true) (xa : -a = x) (r1 : -576460752303423488 ≤ a) (r1b : a < 0) (yb : -b = y) (r2 : -576460752303423488 ≤ b) (r2b : b < 0) (_y0 : (y == 0) = false) (hq : (576460752303423488 : Int).tdiv y = q) (d : decide (q < x) = false) (q1 : -9223372036854775808 ≤ q) (q2 : q ≤ 9223372036854775807) (w : World) : Calls Tryz.prog 112 #[.int .i64 a, .int .i64 b] w fun e w' => e = .returned (.tuple #[.int .i64 p, .bool r]) ∧ w' = w := by
  go_enter Tryz.func112, Tryz.ntmps112
  go_wp2
  exact bodyPost_ret (v := .tuple #[.int .i64 p, .bool r]) (by simp [results, Tryz.results112, go_sem]) rfl ⟨rfl, rfl⟩

theorem tdiv_nat (y : Nat) : (576460752303423488 : Int).tdiv (y : Int) = ((576460752303423488 / y : Nat) : Int) := rfl

theorem big_or (X Y : Nat) (hY : 0 < Y) : (576460752303423488 / Y < X ↔ 576460752303423488 < X * Y) := by
  constructor
  · intro h
    rcases Nat.lt_or_ge 576460752303423488 (X * Y) with h1 | h1
    · exact h1
    · have := (Nat.le_div_iff_mul_le hY).2 h1
      omega
  · intro h
    exact (Nat.div_lt_iff_lt_mul hY).2 h

/-- a product: too great, or as it is -/
theorem rprod_any (a b : Int) (ha : whB a = true) (hb : whB b = true) : ∃ (p : Int) (r : Bool), (∀ w, Calls Tryz.prog 112 #[.int .i64 a, .int .i64 b] w fun e w' => e = .returned (.tuple #[.int .i64 p, .bool r]) ∧ w' = w) ∧ (r = true → numInt p = numInt (a * b)) ∧ (r = false → numInt (a * b) = ⟨0, 0, 0, 12⟩) := by
  obtain ⟨a1, a2⟩ := whB_yes ha
  obtain ⟨b1, b2⟩ := whB_yes hb
  by_cases a0 : a = 0
  · subst a0
    exact ⟨0, true, rprod_za b, fun _ => by rw [Int.zero_mul], fun h => by cases h⟩
  by_cases b0 : b = 0
  · subst b0
    exact ⟨0, true, rprod_zb a (by simpa using a0), fun _ => by rw [Int.mul_zero], fun h => by cases h⟩
  have a0' : (a == 0) = false := by simpa using a0
  have b0' : (b == 0) = false := by simpa using b0
  have Y0 : 0 < b.natAbs := by omega
  have hsize : (a * b).natAbs = a.natAbs * b.natAbs := Int.natAbs_mul a b
  have hbig := big_or a.natAbs b.natAbs Y0
  have hdl : 576460752303423488 / b.natAbs ≤ 576460752303423488 := Nat.div_le_self _ _
  generalize hq0 : 576460752303423488 / b.natAbs = q at hbig hdl
  by_cases hB : q < a.natAbs
  · have hlim : numInt (a * b) = ⟨0, 0, 0, 12⟩ := by
      have := hbig.1 hB
      have hw : whB (a * b) = false := by simp only [whB, decide_eq_false_iff_not]; omega
      simp [numInt, hw]
    refine ⟨0, false, ?_, ⟨fun h => absurd h (by decide), fun _ => hlim⟩⟩
    rcases Int.lt_or_le a 0 with sa | sa <;> rcases Int.lt_or_le b 0 with sb | sb
    · exact rprod_big_nn a b q (-a) (-b) a0' (by simpa using sa) b0' (by simpa using sb) rfl a1 sa rfl b1 sb (by simp; omega) (by rw [show -b = ((b.natAbs : Nat) : Int) by omega, tdiv_nat, hq0]) (by simp; omega) (by omega) (by omega)
    · exact rprod_big_np a b q (-a) a0' (by simpa using sa) b0' (by simp; omega) rfl a1 sa (by omega) (by rw [show b = ((b.natAbs : Nat) : Int) by omega, tdiv_nat]; rw [hq0]) (by simp; omega) (by omega) (by omega)
    · exact rprod_big_pn a b q (-b) a0' (by simp; omega) b0' (by simpa using sb) rfl b1 sb (by simp; omega) (by rw [show -b = ((b.natAbs : Nat) : Int) by omega, tdiv_nat, hq0]) (by simp; omega) (by omega) (by omega)
    · exact rprod_big_pp a b q a0' (by simp; omega) b0' (by simp; omega) (by omega) (by rw [show b = ((b.natAbs : Nat) : Int) by omega, tdiv_nat]; rw [hq0]) (by simp; omega) (by omega) (by omega)
  · have hfit : (a * b).natAbs ≤ 576460752303423488 := by
      have : ¬ 576460752303423488 < a.natAbs * b.natAbs := fun h => hB (hbig.2 h)
      omega
    refine ⟨a * b, decide (a * b ≤ 576460752303423487), ?_, fun _ => rfl, fun h => ?_⟩
    · rcases Int.lt_or_le a 0 with sa | sa <;> rcases Int.lt_or_le b 0 with sb | sb
      · exact rprod_fit_nn a b q (-a) (-b) _ _ rfl (by omega) (by omega) rfl a0' (by simpa using sa) b0' (by simpa using sb) rfl a1 sa rfl b1 sb (by simp; omega) (by rw [show -b = ((b.natAbs : Nat) : Int) by omega, tdiv_nat, hq0]) (by simp; omega) (by omega) (by omega)
      · exact rprod_fit_np a b q (-a) _ _ rfl (by omega) (by omega) rfl a0' (by simpa using sa) b0' (by simp; omega) rfl a1 sa (by omega) (by rw [show b = ((b.natAbs : Nat) : Int) by omega, tdiv_nat]; rw [hq0]) (by simp; omega) (by omega) (by omega)
      · exact rprod_fit_pn a b q (-b) _ _ rfl (by omega) (by omega) rfl a0' (by simp; omega) b0' (by simpa using sb) rfl b1 sb (by simp; omega) (by rw [show -b = ((b.natAbs : Nat) : Int) by omega, tdiv_nat, hq0]) (by simp; omega) (by omega) (by omega)
      · exact rprod_fit_pp a b q _ _ rfl (by omega) (by omega) rfl a0' (by simp; omega) b0' (by simp; omega) (by omega) (by rw [show b = ((b.natAbs : Nat) : Int) by omega, tdiv_nat]; rw [hq0]) (by simp; omega) (by omega) (by omega)
    · have hw : whB (a * b) = false := by
        simp only [whB, decide_eq_false_iff_not]
        have := of_decide_eq_false h
        omega
      simp [numInt, hw]

set_option maxHeartbeats 400000 in
theorem rrk_add (a b : Int) (ha : whB a = true) (hb : whB b = true) (w : World) : Calls Tryz.prog 47 #[.string ⟨#[43]⟩, .int .i64 a, .int .i64 b] w fun e w' => e = .returned (.tuple #[.agg #[.int .i64 ((numInt (a + b)).k), .int .i64 ((numInt (a + b)).n), .float .f64 ((numInt (a + b)).f), .string ⟨#[]⟩, .slice none 0 0], .int .i64 (numInt (a + b)).e]) ∧ Below w.heap.size w w' := by
  obtain ⟨a1, a2⟩ := whB_yes ha
  obtain ⟨b1, b2⟩ := whB_yes hb
  clear ha hb
  go_enter Tryz.func47, Tryz.ntmps47
  go_wp2_with fail
  refine (refInt_any _ _).mono ?_
  rintro e w1 ⟨rfl, hb⟩
  obtain ⟨hc, hfr⟩ := bcell hb
  go_wp2
  exact bodyPost_ret (v := .tuple #[.agg #[.int .i64 ((numInt (a + b)).k), .int .i64 ((numInt (a + b)).n), .float .f64 ((numInt (a + b)).f), .string ⟨#[]⟩, .slice none 0 0], .int .i64 (numInt (a + b)).e]) (by simp [results, Tryz.results47, go_sem, hc]) rfl ⟨rfl, below_ret hb _ _ _ _ _⟩

set_option maxHeartbeats 400000 in
theorem rrk_sub (a b : Int) (ha : whB a = true) (hb : whB b = true) (w : World) : Calls Tryz.prog 47 #[.string ⟨#[45]⟩, .int .i64 a, .int .i64 b] w fun e w' => e = .returned (.tuple #[.agg #[.int .i64 ((numInt (a - b)).k), .int .i64 ((numInt (a - b)).n), .float .f64 ((numInt (a - b)).f), .string ⟨#[]⟩, .slice none 0 0], .int .i64 (numInt (a - b)).e]) ∧ Below w.heap.size w w' := by
  obtain ⟨a1, a2⟩ := whB_yes ha
  obtain ⟨b1, b2⟩ := whB_yes hb
  clear ha hb
  go_enter Tryz.func47, Tryz.ntmps47
  go_wp2_with fail
  refine (refInt_any _ _).mono ?_
  rintro e w1 ⟨rfl, hb⟩
  obtain ⟨hc, hfr⟩ := bcell hb
  go_wp2
  exact bodyPost_ret (v := .tuple #[.agg #[.int .i64 ((numInt (a - b)).k), .int .i64 ((numInt (a - b)).n), .float .f64 ((numInt (a - b)).f), .string ⟨#[]⟩, .slice none 0 0], .int .i64 (numInt (a - b)).e]) (by simp [results, Tryz.results47, go_sem, hc]) rfl ⟨rfl, below_ret hb _ _ _ _ _⟩

set_option maxHeartbeats 400000 in
theorem rrk_mul (a b : Int) (ha : whB a = true) (hb : whB b = true) (w : World) : Calls Tryz.prog 47 #[.string ⟨#[42]⟩, .int .i64 a, .int .i64 b] w fun e w' => e = .returned (.tuple #[.agg #[.int .i64 ((numInt (a * b)).k), .int .i64 ((numInt (a * b)).n), .float .f64 ((numInt (a * b)).f), .string ⟨#[]⟩, .slice none 0 0], .int .i64 (numInt (a * b)).e]) ∧ Below w.heap.size w w' := by
  obtain ⟨p, r, hp, h1, h2⟩ := rprod_any a b ha hb
  have HP := hid hp
  clear hp ha hb
  cases r
  · rw [h2 rfl]
    clear h1 h2
    go_enter Tryz.func47, Tryz.ntmps47
    go_wp2_with fail
    refine (HP.out _).mono ?_
    rintro e w' ⟨rfl, rfl⟩
    go_wp2
    exact bodyPost_ret (v := .tuple #[.agg #[.int .i64 (0), .int .i64 (0), .float .f64 (0), .string ⟨#[]⟩, .slice none 0 0], .int .i64 12]) (by simp [results, Tryz.results47, go_sem]) rfl ⟨rfl, below_new _ _⟩
  · rw [← h1 rfl]
    clear h1 h2
    go_enter Tryz.func47, Tryz.ntmps47
    go_wp2_with fail
    refine (HP.out _).mono ?_
    rintro e w' ⟨rfl, rfl⟩
    go_wp2_with fail
    refine (refInt_any _ _).mono ?_
    rintro e w1 ⟨rfl, hb⟩
    obtain ⟨hc, hfr⟩ := bcell hb
    go_wp2
    exact bodyPost_ret (v := .tuple #[.agg #[.int .i64 ((numInt p).k), .int .i64 ((numInt p).n), .float .f64 ((numInt p).f), .string ⟨#[]⟩, .slice none 0 0], .int .i64 (numInt p).e]) (by simp [results, Tryz.results47, go_sem, hc]) rfl ⟨rfl, below_ret hb _ _ _ _ _⟩
end Go.Proofs.YtgljglindgbjaaaGreatDoor


/- The document's Op walked: its boxes. -/
namespace Go.Proofs.YtgljglindgbjaaaGreatDoor
open Go.RowKit
attribute [local go_sem] store_float
attribute [local go_sem ↓] Go.wp_at_zero Go.wp_at_succ

theorem afterABC {w w1 : World} {t1 t2 t3 : TypeId} {a0 a1 a2 a3 a4 b0 b1 b2 b3 b4 c0 c1 c2 c3 c4 : Value}
    (hb : Below (((w.alloc (.cells #[a0, a1, a2, a3, a4] t1)).alloc (.cells #[b0, b1, b2, b3, b4] t2)).alloc (.cells #[c0, c1, c2, c3, c4] t3)).heap.size (((w.alloc (.cells #[a0, a1, a2, a3, a4] t1)).alloc (.cells #[b0, b1, b2, b3, b4] t2)).alloc (.cells #[c0, c1, c2, c3, c4] t3)) w1) :
    Box w1 w.heap.size a0 a1 a2 a3 a4 ∧ Box w1 (w.heap.size + 1) b0 b1 b2 b3 b4 ∧ Box w1 (w.heap.size + 1 + 1) c0 c1 c2 c3 c4 ∧ Below w.heap.size w w1 := by
  have e1 : (w.alloc (.cells #[a0, a1, a2, a3, a4] t1)).heap.size = w.heap.size + 1 := by simp
  have e2 : ((w.alloc (.cells #[a0, a1, a2, a3, a4] t1)).alloc (.cells #[b0, b1, b2, b3, b4] t2)).heap.size = w.heap.size + 1 + 1 := by simp
  refine ⟨(((Box.new w t1 a0 a1 a2 a3 a4).alloc _).alloc _).keep hb, ?_, ?_, (((below_new w _).alloc (by simp) _).alloc (by simp; omega) _).trans (hb.mono (by simp; omega))⟩
  · rw [← e1]; exact ((Box.new _ _ _ _ _ _ _).alloc _).keep hb
  · rw [← e2]; exact (Box.new _ _ _ _ _ _ _).keep hb

theorem drew_then {w1 w2 : World} (hb : Below w1.drew.heap.size w1.drew w2) : Below w1.heap.size w1 w2 := ⟨hb.os, hb.tape, hb.output, hb.size, hb.block⟩

theorem div_bounds {a b : Int} (a1 : -576460752303423488 ≤ a) (a2 : a ≤ 576460752303423487) (_b1 : -576460752303423488 ≤ b) (_b2 : b ≤ 576460752303423487) (_b0 : b ≠ 0) : -576460752303423488 ≤ a.tdiv b ∧ a.tdiv b ≤ 576460752303423488 := by
  have h1 := Int.natAbs_tdiv_le_natAbs a b
  omega

end Go.Proofs.YtgljglindgbjaaaGreatDoor


