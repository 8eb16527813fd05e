import Derived.Test.YtgljglindgbjaaaGreatDoorG24
import Derived.Test.YtgljglindgbjaaaGreatDoorG10
import Derived.LoopTactic
/- The document's nearest float is float64's own. -/
namespace Go.Proofs.YtgljglindgbjaaaGreatDoor
open Go.RowKit

theorem refNear_small (n : Int) (h1 : -9007199254740992 < n) (h2 : n < 9007199254740992) (w : World) : Calls Tryz.prog 113 #[.int .i64 n] w fun e w' => e = .returned (.float .f64 (floatOfInt .f64 n)) ∧ w' = w := by
  have d2 : decide (n < 9007199254740992) = true := by simpa using h2
  go_enter Tryz.func113, Tryz.ntmps113
  go_wp2
  go_ret
  exact ⟨rfl, rfl⟩

/-- how far a number is shifted -/
theorem shift_of {u : Nat} (h1 : 9007199254740992 ≤ u) (h2 : u ≤ 9223372036854775808) : ∃ k, 1 ≤ k ∧ k ≤ 11 ∧ 4503599627370496 ≤ u / 2 ^ k ∧ u / 2 ^ k < 9007199254740992 ∧ ∀ j, j < k → 9007199254740992 ≤ u / 2 ^ j := by
  have h0 : u ≠ 0 := by omega
  have hb := Flt.log2_bounds h0
  have hlo : 53 ≤ u.log2 := (Nat.le_log2 h0).2 (by omega)
  have hhi : u.log2 < 64 := (Nat.log2_lt h0).2 (by omega)
  have key : ∀ j, j ≤ u.log2 → 2 ^ (u.log2 - j) ≤ u / 2 ^ j := fun j hj => by
    rw [Nat.le_div_iff_mul_le (Nat.two_pow_pos j), ← Nat.pow_add, show u.log2 - j + j = u.log2 by omega]; exact hb.1
  refine ⟨u.log2 - 52, by omega, by omega, ?_, ?_, fun j hj => ?_⟩
  · have := key (u.log2 - 52) (by omega)
    rw [show u.log2 - (u.log2 - 52) = 52 by omega] at this
    exact this
  · rw [Nat.div_lt_iff_lt_mul (Nat.two_pow_pos _), show (9007199254740992 : Nat) = 2 ^ 53 from rfl, ← Nat.pow_add, show 53 + (u.log2 - 52) = u.log2 + 1 by omega]
    exact hb.2
  · have h := key j (by omega)
    have : 2 ^ 53 ≤ 2 ^ (u.log2 - j) := Nat.pow_le_pow_right (by decide) (by omega)
    omega

-- WALKS
-- WALKS
-- WALKS
-- WALKS
set_option maxHeartbeats 1000000 in
theorem refNear_posA (x t s r p h t1 : Int) (k : Nat) (gg : Nat → Nat) (hk1 : 1 ≤ k) (hk2 : k ≤ 11) (d0 : decide (-9007199254740992 < x) = true) (d1 : decide (x < 9007199254740992) = false) (d2 : decide (x < 0) = false) (d3 : IntKind.u64.wrap x = x) (HM : Hid (∀ j : Nat, j < k → decide (9007199254740992 ≤ x / 2 ^ j) = true)) (e1 : x / 2 ^ k = t) (e2 : IntKind.u64.wrap (t * 2 ^ k) = s) (e3 : IntKind.u64.wrap (x - s) = r) (e4 : IntKind.u64.wrap (2 ^ k) = p) (e5 : p / 2 = h) (e6 : IntKind.u64.wrap (t + 1) = t1) (db : decide (9007199254740992 ≤ t) = false) (dA : decide (h < r) = true) (hg0 : floatOfInt .f64 t1 = gg 0) (HG : Hid (∀ j, j ≤ 11 → floatBits .mul .f64 (gg j) 4611686018427387904 = some (gg (j + 1)))) (w : World) :
    Calls Tryz.prog 113 #[.int .i64 x] w fun e w' => e = .returned (.float .f64 (gg k)) ∧ w' = w := by
  go_enter Tryz.func113, Tryz.ntmps113
  go_wp2
  go_loop [5] (fun s => ∃ j : Nat, j ≤ k ∧ s = .int .i64 j) (fun s => k - (intOf s).toNat)
  case atStart => exact ⟨0, by omega, rfl⟩
  case round =>
    obtain ⟨j, hj, rfl⟩ := hrel
    by_cases hlt : j < k
    · have hge := HM.out j hlt
      go_wp2
      go_round
      case rel => exact ⟨j + 1, by omega, by go_num⟩
      case measure => simp [intOf]; omega
    · obtain rfl : j = k := by omega
      go_wp2
      go_loop [9, 10] (fun f i => ∃ n : Nat, n ≤ j ∧ f = .float .f64 (gg n) ∧ i = .int .i64 n) (fun _ i => j - (intOf i).toNat)
      case atStart => exact ⟨0, by omega, by first | rfl | rw [hg0], rfl⟩
      case round =>
        obtain ⟨n, hn, rfl, rfl⟩ := hrel
        have hm : ∀ t (w : World), (binOp .mul t (.float .f64 (gg n)) (.float .f64 4611686018427387904)).run Tryz.prog w = .ok (.float .f64 (gg (n + 1))) w := fun t w => run_float_arith w .mul t .f64 _ _ _ (HG.out n (by omega))
        by_cases hnj : n < j
        · go_wp2
          go_round
          case rel => exact ⟨n + 1, by omega, rfl, by go_num⟩
          case measure => simp [intOf]; omega
        · obtain rfl : n = j := by omega
          go_wp2
          go_ret
          exact ⟨rfl, rfl⟩

set_option maxHeartbeats 1000000 in
theorem refNear_posB (x t s r p h t1 q : Int) (k : Nat) (gg : Nat → Nat) (hk1 : 1 ≤ k) (hk2 : k ≤ 11) (d0 : decide (-9007199254740992 < x) = true) (d1 : decide (x < 9007199254740992) = false) (d2 : decide (x < 0) = false) (d3 : IntKind.u64.wrap x = x) (HM : Hid (∀ j : Nat, j < k → decide (9007199254740992 ≤ x / 2 ^ j) = true)) (e1 : x / 2 ^ k = t) (e2 : IntKind.u64.wrap (t * 2 ^ k) = s) (e3 : IntKind.u64.wrap (x - s) = r) (e4 : IntKind.u64.wrap (2 ^ k) = p) (e5 : p / 2 = h) (e6 : IntKind.u64.wrap (t + 1) = t1) (e7 : t.tmod 2 = q) (db : decide (9007199254740992 ≤ t) = false) (dA : decide (h < r) = false) (dB : (r == h) = true) (dD : (q == 1) = true) (hg0 : floatOfInt .f64 t1 = gg 0) (HG : Hid (∀ j, j ≤ 11 → floatBits .mul .f64 (gg j) 4611686018427387904 = some (gg (j + 1)))) (w : World) :
    Calls Tryz.prog 113 #[.int .i64 x] w fun e w' => e = .returned (.float .f64 (gg k)) ∧ w' = w := by
  go_enter Tryz.func113, Tryz.ntmps113
  go_wp2
  go_loop [5] (fun s => ∃ j : Nat, j ≤ k ∧ s = .int .i64 j) (fun s => k - (intOf s).toNat)
  case atStart => exact ⟨0, by omega, rfl⟩
  case round =>
    obtain ⟨j, hj, rfl⟩ := hrel
    by_cases hlt : j < k
    · have hge := HM.out j hlt
      go_wp2
      go_round
      case rel => exact ⟨j + 1, by omega, by go_num⟩
      case measure => simp [intOf]; omega
    · obtain rfl : j = k := by omega
      go_wp2
      go_loop [9, 10] (fun f i => ∃ n : Nat, n ≤ j ∧ f = .float .f64 (gg n) ∧ i = .int .i64 n) (fun _ i => j - (intOf i).toNat)
      case atStart => exact ⟨0, by omega, by first | rfl | rw [hg0], rfl⟩
      case round =>
        obtain ⟨n, hn, rfl, rfl⟩ := hrel
        have hm : ∀ t (w : World), (binOp .mul t (.float .f64 (gg n)) (.float .f64 4611686018427387904)).run Tryz.prog w = .ok (.float .f64 (gg (n + 1))) w := fun t w => run_float_arith w .mul t .f64 _ _ _ (HG.out n (by omega))
        by_cases hnj : n < j
        · go_wp2
          go_round
          case rel => exact ⟨n + 1, by omega, rfl, by go_num⟩
          case measure => simp [intOf]; omega
        · obtain rfl : n = j := by omega
          go_wp2
          go_ret
          exact ⟨rfl, rfl⟩

set_option maxHeartbeats 1000000 in
theorem refNear_posC (x t s r p h q : Int) (k : Nat) (gg : Nat → Nat) (hk1 : 1 ≤ k) (hk2 : k ≤ 11) (d0 : decide (-9007199254740992 < x) = true) (d1 : decide (x < 9007199254740992) = false) (d2 : decide (x < 0) = false) (d3 : IntKind.u64.wrap x = x) (HM : Hid (∀ j : Nat, j < k → decide (9007199254740992 ≤ x / 2 ^ j) = true)) (e1 : x / 2 ^ k = t) (e2 : IntKind.u64.wrap (t * 2 ^ k) = s) (e3 : IntKind.u64.wrap (x - s) = r) (e4 : IntKind.u64.wrap (2 ^ k) = p) (e5 : p / 2 = h) (e7 : t.tmod 2 = q) (db : decide (9007199254740992 ≤ t) = false) (dA : decide (h < r) = false) (dB : (r == h) = true) (dD : (q == 1) = false) (hg0 : floatOfInt .f64 t = gg 0) (HG : Hid (∀ j, j ≤ 11 → floatBits .mul .f64 (gg j) 4611686018427387904 = some (gg (j + 1)))) (w : World) :
    Calls Tryz.prog 113 #[.int .i64 x] w fun e w' => e = .returned (.float .f64 (gg k)) ∧ w' = w := by
  go_enter Tryz.func113, Tryz.ntmps113
  go_wp2
  go_loop [5] (fun s => ∃ j : Nat, j ≤ k ∧ s = .int .i64 j) (fun s => k - (intOf s).toNat)
  case atStart => exact ⟨0, by omega, rfl⟩
  case round =>
    obtain ⟨j, hj, rfl⟩ := hrel
    by_cases hlt : j < k
    · have hge := HM.out j hlt
      go_wp2
      go_round
      case rel => exact ⟨j + 1, by omega, by go_num⟩
      case measure => simp [intOf]; omega
    · obtain rfl : j = k := by omega
      go_wp2
      go_loop [9, 10] (fun f i => ∃ n : Nat, n ≤ j ∧ f = .float .f64 (gg n) ∧ i = .int .i64 n) (fun _ i => j - (intOf i).toNat)
      case atStart => exact ⟨0, by omega, by first | rfl | rw [hg0], rfl⟩
      case round =>
        obtain ⟨n, hn, rfl, rfl⟩ := hrel
        have hm : ∀ t (w : World), (binOp .mul t (.float .f64 (gg n)) (.float .f64 4611686018427387904)).run Tryz.prog w = .ok (.float .f64 (gg (n + 1))) w := fun t w => run_float_arith w .mul t .f64 _ _ _ (HG.out n (by omega))
        by_cases hnj : n < j
        · go_wp2
          go_round
          case rel => exact ⟨n + 1, by omega, rfl, by go_num⟩
          case measure => simp [intOf]; omega
        · obtain rfl : n = j := by omega
          go_wp2
          go_ret
          exact ⟨rfl, rfl⟩

set_option maxHeartbeats 1000000 in
theorem refNear_posD (x t s r p h : Int) (k : Nat) (gg : Nat → Nat) (hk1 : 1 ≤ k) (hk2 : k ≤ 11) (d0 : decide (-9007199254740992 < x) = true) (d1 : decide (x < 9007199254740992) = false) (d2 : decide (x < 0) = false) (d3 : IntKind.u64.wrap x = x) (HM : Hid (∀ j : Nat, j < k → decide (9007199254740992 ≤ x / 2 ^ j) = true)) (e1 : x / 2 ^ k = t) (e2 : IntKind.u64.wrap (t * 2 ^ k) = s) (e3 : IntKind.u64.wrap (x - s) = r) (e4 : IntKind.u64.wrap (2 ^ k) = p) (e5 : p / 2 = h) (db : decide (9007199254740992 ≤ t) = false) (dA : decide (h < r) = false) (dB : (r == h) = false) (hg0 : floatOfInt .f64 t = gg 0) (HG : Hid (∀ j, j ≤ 11 → floatBits .mul .f64 (gg j) 4611686018427387904 = some (gg (j + 1)))) (w : World) :
    Calls Tryz.prog 113 #[.int .i64 x] w fun e w' => e = .returned (.float .f64 (gg k)) ∧ w' = w := by
  go_enter Tryz.func113, Tryz.ntmps113
  go_wp2
  go_loop [5] (fun s => ∃ j : Nat, j ≤ k ∧ s = .int .i64 j) (fun s => k - (intOf s).toNat)
  case atStart => exact ⟨0, by omega, rfl⟩
  case round =>
    obtain ⟨j, hj, rfl⟩ := hrel
    by_cases hlt : j < k
    · have hge := HM.out j hlt
      go_wp2
      go_round
      case rel => exact ⟨j + 1, by omega, by go_num⟩
      case measure => simp [intOf]; omega
    · obtain rfl : j = k := by omega
      go_wp2
      go_loop [9, 10] (fun f i => ∃ n : Nat, n ≤ j ∧ f = .float .f64 (gg n) ∧ i = .int .i64 n) (fun _ i => j - (intOf i).toNat)
      case atStart => exact ⟨0, by omega, by first | rfl | rw [hg0], rfl⟩
      case round =>
        obtain ⟨n, hn, rfl, rfl⟩ := hrel
        have hm : ∀ t (w : World), (binOp .mul t (.float .f64 (gg n)) (.float .f64 4611686018427387904)).run Tryz.prog w = .ok (.float .f64 (gg (n + 1))) w := fun t w => run_float_arith w .mul t .f64 _ _ _ (HG.out n (by omega))
        by_cases hnj : n < j
        · go_wp2
          go_round
          case rel => exact ⟨n + 1, by omega, rfl, by go_num⟩
          case measure => simp [intOf]; omega
        · obtain rfl : n = j := by omega
          go_wp2
          go_ret
          exact ⟨rfl, rfl⟩

set_option maxHeartbeats 1000000 in
theorem refNear_negA (x x0 y t s r p h t1 : Int) (k : Nat) (gg : Nat → Nat) (z : Nat) (hk1 : 1 ≤ k) (hk2 : k ≤ 11) (d1 : decide (-9007199254740992 < x) = false) (d2 : decide (x < 0) = true) (d3 : IntKind.u64.wrap x = x0) (d4 : IntKind.u64.wrap (-x0) = y) (HM : Hid (∀ j : Nat, j < k → decide (9007199254740992 ≤ y / 2 ^ j) = true)) (e1 : y / 2 ^ k = t) (e2 : IntKind.u64.wrap (t * 2 ^ k) = s) (e3 : IntKind.u64.wrap (y - s) = r) (e4 : IntKind.u64.wrap (2 ^ k) = p) (e5 : p / 2 = h) (e6 : IntKind.u64.wrap (t + 1) = t1) (db : decide (9007199254740992 ≤ t) = false) (dA : decide (h < r) = true) (hg0 : floatOfInt .f64 t1 = gg 0) (HG : Hid (∀ j, j ≤ 11 → floatBits .mul .f64 (gg j) 4611686018427387904 = some (gg (j + 1)))) (HZ : floatBits .sub .f64 0 (gg k) = some z) (w : World) :
    Calls Tryz.prog 113 #[.int .i64 x] w fun e w' => e = .returned (.float .f64 z) ∧ w' = w := by
  have hz : ∀ t (w : World), (binOp .sub t (.float .f64 0) (.float .f64 (gg k))).run Tryz.prog w = .ok (.float .f64 z) w := fun t w => run_float_arith w .sub t .f64 _ _ _ HZ
  clear HZ
  go_enter Tryz.func113, Tryz.ntmps113
  go_wp2
  go_loop [5] (fun s => ∃ j : Nat, j ≤ k ∧ s = .int .i64 j) (fun s => k - (intOf s).toNat)
  case atStart => exact ⟨0, by omega, rfl⟩
  case round =>
    obtain ⟨j, hj, rfl⟩ := hrel
    by_cases hlt : j < k
    · have hge := HM.out j hlt
      go_wp2
      go_round
      case rel => exact ⟨j + 1, by omega, by go_num⟩
      case measure => simp [intOf]; omega
    · obtain rfl : j = k := by omega
      go_wp2
      go_loop [9, 10] (fun f i => ∃ n : Nat, n ≤ j ∧ f = .float .f64 (gg n) ∧ i = .int .i64 n) (fun _ i => j - (intOf i).toNat)
      case atStart => exact ⟨0, by omega, by first | rfl | rw [hg0], rfl⟩
      case round =>
        obtain ⟨n, hn, rfl, rfl⟩ := hrel
        have hm : ∀ t (w : World), (binOp .mul t (.float .f64 (gg n)) (.float .f64 4611686018427387904)).run Tryz.prog w = .ok (.float .f64 (gg (n + 1))) w := fun t w => run_float_arith w .mul t .f64 _ _ _ (HG.out n (by omega))
        by_cases hnj : n < j
        · go_wp2
          go_round
          case rel => exact ⟨n + 1, by omega, rfl, by go_num⟩
          case measure => simp [intOf]; omega
        · obtain rfl : n = j := by omega
          go_wp2
          go_ret
          exact ⟨rfl, rfl⟩

set_option maxHeartbeats 1000000 in
theorem refNear_negB (x x0 y t s r p h t1 q : Int) (k : Nat) (gg : Nat → Nat) (z : Nat) (hk1 : 1 ≤ k) (hk2 : k ≤ 11) (d1 : decide (-9007199254740992 < x) = false) (d2 : decide (x < 0) = true) (d3 : IntKind.u64.wrap x = x0) (d4 : IntKind.u64.wrap (-x0) = y) (HM : Hid (∀ j : Nat, j < k → decide (9007199254740992 ≤ y / 2 ^ j) = true)) (e1 : y / 2 ^ k = t) (e2 : IntKind.u64.wrap (t * 2 ^ k) = s) (e3 : IntKind.u64.wrap (y - s) = r) (e4 : IntKind.u64.wrap (2 ^ k) = p) (e5 : p / 2 = h) (e6 : IntKind.u64.wrap (t + 1) = t1) (e7 : t.tmod 2 = q) (db : decide (9007199254740992 ≤ t) = false) (dA : decide (h < r) = false) (dB : (r == h) = true) (dD : (q == 1) = true) (hg0 : floatOfInt .f64 t1 = gg 0) (HG : Hid (∀ j, j ≤ 11 → floatBits .mul .f64 (gg j) 4611686018427387904 = some (gg (j + 1)))) (HZ : floatBits .sub .f64 0 (gg k) = some z) (w : World) :
    Calls Tryz.prog 113 #[.int .i64 x] w fun e w' => e = .returned (.float .f64 z) ∧ w' = w := by
  have hz : ∀ t (w : World), (binOp .sub t (.float .f64 0) (.float .f64 (gg k))).run Tryz.prog w = .ok (.float .f64 z) w := fun t w => run_float_arith w .sub t .f64 _ _ _ HZ
  clear HZ
  go_enter Tryz.func113, Tryz.ntmps113
  go_wp2
  go_loop [5] (fun s => ∃ j : Nat, j ≤ k ∧ s = .int .i64 j) (fun s => k - (intOf s).toNat)
  case atStart => exact ⟨0, by omega, rfl⟩
  case round =>
    obtain ⟨j, hj, rfl⟩ := hrel
    by_cases hlt : j < k
    · have hge := HM.out j hlt
      go_wp2
      go_round
      case rel => exact ⟨j + 1, by omega, by go_num⟩
      case measure => simp [intOf]; omega
    · obtain rfl : j = k := by omega
      go_wp2
      go_loop [9, 10] (fun f i => ∃ n : Nat, n ≤ j ∧ f = .float .f64 (gg n) ∧ i = .int .i64 n) (fun _ i => j - (intOf i).toNat)
      case atStart => exact ⟨0, by omega, by first | rfl | rw [hg0], rfl⟩
      case round =>
        obtain ⟨n, hn, rfl, rfl⟩ := hrel
        have hm : ∀ t (w : World), (binOp .mul t (.float .f64 (gg n)) (.float .f64 4611686018427387904)).run Tryz.prog w = .ok (.float .f64 (gg (n + 1))) w := fun t w => run_float_arith w .mul t .f64 _ _ _ (HG.out n (by omega))
        by_cases hnj : n < j
        · go_wp2
          go_round
          case rel => exact ⟨n + 1, by omega, rfl, by go_num⟩
          case measure => simp [intOf]; omega
        · obtain rfl : n = j := by omega
          go_wp2
          go_ret
          exact ⟨rfl, rfl⟩

set_option maxHeartbeats 1000000 in
theorem refNear_negC (x x0 y t s r p h q : Int) (k : Nat) (gg : Nat → Nat) (z : Nat) (hk1 : 1 ≤ k) (hk2 : k ≤ 11) (d1 : decide (-9007199254740992 < x) = false) (d2 : decide (x < 0) = true) (d3 : IntKind.u64.wrap x = x0) (d4 : IntKind.u64.wrap (-x0) = y) (HM : Hid (∀ j : Nat, j < k → decide (9007199254740992 ≤ y / 2 ^ j) = true)) (e1 : y / 2 ^ k = t) (e2 : IntKind.u64.wrap (t * 2 ^ k) = s) (e3 : IntKind.u64.wrap (y - s) = r) (e4 : IntKind.u64.wrap (2 ^ k) = p) (e5 : p / 2 = h) (e7 : t.tmod 2 = q) (db : decide (9007199254740992 ≤ t) = false) (dA : decide (h < r) = false) (dB : (r == h) = true) (dD : (q == 1) = false) (hg0 : floatOfInt .f64 t = gg 0) (HG : Hid (∀ j, j ≤ 11 → floatBits .mul .f64 (gg j) 4611686018427387904 = some (gg (j + 1)))) (HZ : floatBits .sub .f64 0 (gg k) = some z) (w : World) :
    Calls Tryz.prog 113 #[.int .i64 x] w fun e w' => e = .returned (.float .f64 z) ∧ w' = w := by
  have hz : ∀ t (w : World), (binOp .sub t (.float .f64 0) (.float .f64 (gg k))).run Tryz.prog w = .ok (.float .f64 z) w := fun t w => run_float_arith w .sub t .f64 _ _ _ HZ
  clear HZ
  go_enter Tryz.func113, Tryz.ntmps113
  go_wp2
  go_loop [5] (fun s => ∃ j : Nat, j ≤ k ∧ s = .int .i64 j) (fun s => k - (intOf s).toNat)
  case atStart => exact ⟨0, by omega, rfl⟩
  case round =>
    obtain ⟨j, hj, rfl⟩ := hrel
    by_cases hlt : j < k
    · have hge := HM.out j hlt
      go_wp2
      go_round
      case rel => exact ⟨j + 1, by omega, by go_num⟩
      case measure => simp [intOf]; omega
    · obtain rfl : j = k := by omega
      go_wp2
      go_loop [9, 10] (fun f i => ∃ n : Nat, n ≤ j ∧ f = .float .f64 (gg n) ∧ i = .int .i64 n) (fun _ i => j - (intOf i).toNat)
      case atStart => exact ⟨0, by omega, by first | rfl | rw [hg0], rfl⟩
      case round =>
        obtain ⟨n, hn, rfl, rfl⟩ := hrel
        have hm : ∀ t (w : World), (binOp .mul t (.float .f64 (gg n)) (.float .f64 4611686018427387904)).run Tryz.prog w = .ok (.float .f64 (gg (n + 1))) w := fun t w => run_float_arith w .mul t .f64 _ _ _ (HG.out n (by omega))
        by_cases hnj : n < j
        · go_wp2
          go_round
          case rel => exact ⟨n + 1, by omega, rfl, by go_num⟩
          case measure => simp [intOf]; omega
        · obtain rfl : n = j := by omega
          go_wp2
          go_ret
          exact ⟨rfl, rfl⟩

set_option maxHeartbeats 1000000 in
theorem refNear_negD (x x0 y t s r p h : Int) (k : Nat) (gg : Nat → Nat) (z : Nat) (hk1 : 1 ≤ k) (hk2 : k ≤ 11) (d1 : decide (-9007199254740992 < x) = false) (d2 : decide (x < 0) = true) (d3 : IntKind.u64.wrap x = x0) (d4 : IntKind.u64.wrap (-x0) = y) (HM : Hid (∀ j : Nat, j < k → decide (9007199254740992 ≤ y / 2 ^ j) = true)) (e1 : y / 2 ^ k = t) (e2 : IntKind.u64.wrap (t * 2 ^ k) = s) (e3 : IntKind.u64.wrap (y - s) = r) (e4 : IntKind.u64.wrap (2 ^ k) = p) (e5 : p / 2 = h) (db : decide (9007199254740992 ≤ t) = false) (dA : decide (h < r) = false) (dB : (r == h) = false) (hg0 : floatOfInt .f64 t = gg 0) (HG : Hid (∀ j, j ≤ 11 → floatBits .mul .f64 (gg j) 4611686018427387904 = some (gg (j + 1)))) (HZ : floatBits .sub .f64 0 (gg k) = some z) (w : World) :
    Calls Tryz.prog 113 #[.int .i64 x] w fun e w' => e = .returned (.float .f64 z) ∧ w' = w := by
  have hz : ∀ t (w : World), (binOp .sub t (.float .f64 0) (.float .f64 (gg k))).run Tryz.prog w = .ok (.float .f64 z) w := fun t w => run_float_arith w .sub t .f64 _ _ _ HZ
  clear HZ
  go_enter Tryz.func113, Tryz.ntmps113
  go_wp2
  go_loop [5] (fun s => ∃ j : Nat, j ≤ k ∧ s = .int .i64 j) (fun s => k - (intOf s).toNat)
  case atStart => exact ⟨0, by omega, rfl⟩
  case round =>
    obtain ⟨j, hj, rfl⟩ := hrel
    by_cases hlt : j < k
    · have hge := HM.out j hlt
      go_wp2
      go_round
      case rel => exact ⟨j + 1, by omega, by go_num⟩
      case measure => simp [intOf]; omega
    · obtain rfl : j = k := by omega
      go_wp2
      go_loop [9, 10] (fun f i => ∃ n : Nat, n ≤ j ∧ f = .float .f64 (gg n) ∧ i = .int .i64 n) (fun _ i => j - (intOf i).toNat)
      case atStart => exact ⟨0, by omega, by first | rfl | rw [hg0], rfl⟩
      case round =>
        obtain ⟨n, hn, rfl, rfl⟩ := hrel
        have hm : ∀ t (w : World), (binOp .mul t (.float .f64 (gg n)) (.float .f64 4611686018427387904)).run Tryz.prog w = .ok (.float .f64 (gg (n + 1))) w := fun t w => run_float_arith w .mul t .f64 _ _ _ (HG.out n (by omega))
        by_cases hnj : n < j
        · go_wp2
          go_round
          case rel => exact ⟨n + 1, by omega, rfl, by go_num⟩
          case measure => simp [intOf]; omega
        · obtain rfl : n = j := by omega
          go_wp2
          go_ret
          exact ⟨rfl, rfl⟩

end Go.Proofs.YtgljglindgbjaaaGreatDoor


/- The document's nearest float is float64's own: the walks of V2 brought together. -/
namespace Go.Proofs.YtgljglindgbjaaaGreatDoor
open Go.RowKit

theorem foi (n : Int) : floatOfInt .f64 n = Ieee.double.nearest (decide (n < 0)) n.natAbs 0 := rfl
theorem wrap_nat {a : Nat} (h : a < 18446744073709551616) : IntKind.u64.wrap (a : Int) = a := by rw [IntKind.wrap_u64]; omega

/-- the numbers on the way -/
theorem parts_of {u k : Nat} (hk2 : k ≤ 11) (hu : u ≤ 9223372036854775808) :
    (u : Int) / 2 ^ k = ((u / 2 ^ k : Nat) : Int) ∧ IntKind.u64.wrap (((u / 2 ^ k : Nat) : Int) * 2 ^ k) = ((u / 2 ^ k * 2 ^ k : Nat) : Int) ∧
    IntKind.u64.wrap ((u : Int) - ((u / 2 ^ k * 2 ^ k : Nat) : Int)) = ((u % 2 ^ k : Nat) : Int) ∧ IntKind.u64.wrap (2 ^ k) = ((2 ^ k : Nat) : Int) ∧
    ((2 ^ k : Nat) : Int) / 2 = ((2 ^ k / 2 : Nat) : Int) ∧ IntKind.u64.wrap (((u / 2 ^ k : Nat) : Int) + 1) = ((u / 2 ^ k + 1 : Nat) : Int) ∧
    (((u / 2 ^ k : Nat) : Int)).tmod 2 = ((u / 2 ^ k % 2 : Nat) : Int) := by
  have hm := Nat.div_add_mod u (2 ^ k)
  have hle : 2 ^ k ≤ 2048 := Nat.le_trans (Nat.pow_le_pow_right (by decide) hk2) (by decide)
  have ht : u / 2 ^ k ≤ u := Nat.div_le_self _ _
  have hs : u / 2 ^ k * 2 ^ k ≤ u := Nat.div_mul_le_self _ _
  rw [Nat.mul_comm] at hm
  refine ⟨by simp, ?_, ?_, ?_, by simp, ?_, ?_⟩
  · have := wrap_nat (a := u / 2 ^ k * 2 ^ k) (by omega)
    simpa using this
  · rw [show (u : Int) - ((u / 2 ^ k * 2 ^ k : Nat) : Int) = ((u % 2 ^ k : Nat) : Int) by omega]
    exact wrap_nat (by omega)
  · have := wrap_nat (a := 2 ^ k) (by omega)
    simpa using this
  · have := wrap_nat (a := u / 2 ^ k + 1) (by omega)
    simpa using this
  · rw [Int.tmod_eq_emod_of_nonneg (Int.natCast_nonneg _)]
    simp

theorem more_of {u k : Nat} (h : ∀ j, j < k → 9007199254740992 ≤ u / 2 ^ j) : Hid (∀ j : Nat, j < k → decide ((9007199254740992 : Int) ≤ (u : Int) / 2 ^ j) = true) := by
  show ∀ j : Nat, j < k → _
  intro j hj
  have := h j hj
  rw [show (u : Int) / 2 ^ j = ((u / 2 ^ j : Nat) : Int) by simp, decide_eq_true_eq]
  omega

theorem rungs_of {t : Nat} (h1 : 4503599627370496 ≤ t) (h2 : t ≤ 9007199254740992) : floatOfInt .f64 ((t : Nat) : Int) = (fun j => (1074 + j) * 4503599627370496 + t) 0 ∧ Hid (∀ j, j ≤ 11 → floatBits .mul .f64 ((fun j => (1074 + j) * 4503599627370496 + t) j) 4611686018427387904 = some ((fun j => (1074 + j) * 4503599627370496 + t) (j + 1))) := by
  refine ⟨?_, fun j hj => Flt.mul_two (by omega) h1 h2⟩
  have hd : decide ((t : Int) < 0) = false := by rw [decide_eq_false_iff_not]; omega
  rw [foi, hd, Int.natAbs_natCast, Flt.near_top h1 h2]

theorem refNear_pos (x : Int) (u : Nat) (hx : x = u) (h1 : 9007199254740992 ≤ u) (h2 : u ≤ 9223372036854775807) (w : World) : Calls Tryz.prog 113 #[.int .i64 x] w fun e w' => e = .returned (.float .f64 (floatOfInt .f64 x)) ∧ w' = w := by
  obtain ⟨k, hk1, hk2, ht1, ht2, hmore⟩ := shift_of h1 (by omega)
  obtain ⟨e1, e2, e3, e4, e5, e6, e7⟩ := parts_of (u := u) hk2 (by omega)
  have HM := more_of hmore
  have d0 : decide (-9007199254740992 < x) = true := by rw [decide_eq_true_eq]; omega
  have d1 : decide (x < 9007199254740992) = false := by rw [decide_eq_false_iff_not]; omega
  have d2 : decide (x < 0) = false := by rw [decide_eq_false_iff_not]; omega
  have d3 : IntKind.u64.wrap x = x := by rw [IntKind.wrap_u64]; omega
  subst hx
  have hb := Flt.topR_bounds ht1 ht2
  have hn := Flt.near_big false (u := u) (k := k) (by omega) ht1 ht2
  have db : decide ((9007199254740992 : Int) ≤ ((u / 2 ^ k : Nat) : Int)) = false := by rw [decide_eq_false_iff_not]; omega
  have hT : Flt.topR u k = u / 2 ^ k + (2 ^ k < 2 * (u % 2 ^ k) || (2 ^ k == 2 * (u % 2 ^ k) && u / 2 ^ k % 2 == 1) : Bool).toNat := rfl
  have hev : 2 ^ k / 2 * 2 = 2 ^ k := by rw [show k = k - 1 + 1 by omega, Nat.pow_succ]; omega
  obtain ⟨g0, HG⟩ := rungs_of hb.1 hb.2
  have hfin : floatOfInt .f64 (u : Int) = (fun j => (1074 + j) * 4503599627370496 + Flt.topR u k) k := by
    rw [foi, d2, Int.natAbs_natCast, hn, Flt.word_val]; simp
  rw [hfin]
  rcases Nat.lt_trichotomy (2 ^ k) (2 * (u % 2 ^ k)) with hc | hc | hc
  · have dA : decide (((2 ^ k / 2 : Nat) : Int) < ((u % 2 ^ k : Nat) : Int)) = true := by rw [decide_eq_true_eq]; omega
    have et : Flt.topR u k = u / 2 ^ k + 1 := by rw [hT]; simp [hc]
    rw [← et] at e6
    exact refNear_posA (HM := HM) (e1 := e1) (e2 := e2) (e3 := e3) (e4 := e4) (e5 := e5) (dA := dA) (e6 := e6) (db := db) (hg0 := g0) (HG := HG) (d0 := d0) (d1 := d1) (d2 := d2) (d3 := d3) (hk1 := hk1) (hk2 := hk2) (w := w)
  · have dA : decide (((2 ^ k / 2 : Nat) : Int) < ((u % 2 ^ k : Nat) : Int)) = false := by rw [decide_eq_false_iff_not]; omega
    have dB : (((u % 2 ^ k : Nat) : Int) == ((2 ^ k / 2 : Nat) : Int)) = true := by rw [beq_iff_eq]; omega
    by_cases ho : u / 2 ^ k % 2 = 1
    · have dD : (((u / 2 ^ k % 2 : Nat) : Int) == 1) = true := by rw [beq_iff_eq]; omega
      have et : Flt.topR u k = u / 2 ^ k + 1 := by rw [hT]; simp [← hc, ho]
      rw [← et] at e6
      exact refNear_posB (HM := HM) (e1 := e1) (e2 := e2) (e3 := e3) (e4 := e4) (e5 := e5) (dA := dA) (dB := dB) (dD := dD) (e6 := e6) (e7 := e7) (db := db) (hg0 := g0) (HG := HG) (d0 := d0) (d1 := d1) (d2 := d2) (d3 := d3) (hk1 := hk1) (hk2 := hk2) (w := w)
    · have dD : (((u / 2 ^ k % 2 : Nat) : Int) == 1) = false := by rw [beq_eq_false_iff_ne]; omega
      have et : Flt.topR u k = u / 2 ^ k := by rw [hT]; simp [← hc, ho]
      exact refNear_posC (HM := HM) (e1 := e1) (e2 := e2) (e3 := e3) (e4 := e4) (e5 := e5) (dA := dA) (dB := dB) (dD := dD) (e7 := e7) (db := db) (hg0 := (by rw [← et]; exact g0)) (HG := HG) (d0 := d0) (d1 := d1) (d2 := d2) (d3 := d3) (hk1 := hk1) (hk2 := hk2) (w := w)
  · have dA : decide (((2 ^ k / 2 : Nat) : Int) < ((u % 2 ^ k : Nat) : Int)) = false := by rw [decide_eq_false_iff_not]; omega
    have dB : (((u % 2 ^ k : Nat) : Int) == ((2 ^ k / 2 : Nat) : Int)) = false := by rw [beq_eq_false_iff_ne]; omega
    have et : Flt.topR u k = u / 2 ^ k := by rw [hT]; simp [Nat.not_lt.2 (Nat.le_of_lt hc), Nat.ne_of_gt hc]
    exact refNear_posD (HM := HM) (e1 := e1) (e2 := e2) (e3 := e3) (e4 := e4) (e5 := e5) (dA := dA) (dB := dB) (db := db) (hg0 := (by rw [← et]; exact g0)) (HG := HG) (d0 := d0) (d1 := d1) (d2 := d2) (d3 := d3) (hk1 := hk1) (hk2 := hk2) (w := w)

theorem refNear_neg (x : Int) (u : Nat) (hx : x = -(u : Int)) (h1 : 9007199254740992 ≤ u) (h2 : u ≤ 9223372036854775808) (w : World) : Calls Tryz.prog 113 #[.int .i64 x] w fun e w' => e = .returned (.float .f64 (floatOfInt .f64 x)) ∧ w' = w := by
  obtain ⟨k, hk1, hk2, ht1, ht2, hmore⟩ := shift_of h1 (by omega)
  obtain ⟨e1, e2, e3, e4, e5, e6, e7⟩ := parts_of (u := u) hk2 (by omega)
  have HM := more_of hmore
  have d1 : decide (-9007199254740992 < x) = false := by rw [decide_eq_false_iff_not]; omega
  have d2 : decide (x < 0) = true := by rw [decide_eq_true_eq]; omega
  have d3 : IntKind.u64.wrap x = ((18446744073709551616 - u : Nat) : Int) := by rw [IntKind.wrap_u64]; omega
  have d4 : IntKind.u64.wrap (-((18446744073709551616 - u : Nat) : Int)) = (u : Int) := by rw [IntKind.wrap_u64]; omega
  have hb := Flt.topR_bounds ht1 ht2
  have hn := Flt.near_big true (u := u) (k := k) (by omega) ht1 ht2
  have db : decide ((9007199254740992 : Int) ≤ ((u / 2 ^ k : Nat) : Int)) = false := by rw [decide_eq_false_iff_not]; omega
  have hT : Flt.topR u k = u / 2 ^ k + (2 ^ k < 2 * (u % 2 ^ k) || (2 ^ k == 2 * (u % 2 ^ k) && u / 2 ^ k % 2 == 1) : Bool).toNat := rfl
  have hev : 2 ^ k / 2 * 2 = 2 ^ k := by rw [show k = k - 1 + 1 by omega, Nat.pow_succ]; omega
  obtain ⟨g0, HG⟩ := rungs_of hb.1 hb.2
  have HZ : floatBits .sub .f64 0 ((fun j => (1074 + j) * 4503599627370496 + Flt.topR u k) k) = some (9223372036854775808 + ((1074 + k) * 4503599627370496 + Flt.topR u k)) := Flt.zero_sub (by show 4503599627370496 ≤ (1074 + k) * 4503599627370496 + Flt.topR u k; omega) (by show (1074 + k) * 4503599627370496 + Flt.topR u k < 9218868437227405312; omega)
  have hfin : floatOfInt .f64 x = 9223372036854775808 + ((1074 + k) * 4503599627370496 + Flt.topR u k) := by
    rw [foi, d2, show x.natAbs = u by omega, hn, Flt.word_val]; rfl
  rw [hfin]
  rcases Nat.lt_trichotomy (2 ^ k) (2 * (u % 2 ^ k)) with hc | hc | hc
  · have dA : decide (((2 ^ k / 2 : Nat) : Int) < ((u % 2 ^ k : Nat) : Int)) = true := by rw [decide_eq_true_eq]; omega
    have et : Flt.topR u k = u / 2 ^ k + 1 := by rw [hT]; simp [hc]
    rw [← et] at e6
    exact refNear_negA (HM := HM) (e1 := e1) (e2 := e2) (e3 := e3) (e4 := e4) (e5 := e5) (dA := dA) (e6 := e6) (db := db) (hg0 := g0) (HG := HG) (HZ := HZ) (d1 := d1) (d2 := d2) (d3 := d3) (d4 := d4) (hk1 := hk1) (hk2 := hk2) (w := w)
  · have dA : decide (((2 ^ k / 2 : Nat) : Int) < ((u % 2 ^ k : Nat) : Int)) = false := by rw [decide_eq_false_iff_not]; omega
    have dB : (((u % 2 ^ k : Nat) : Int) == ((2 ^ k / 2 : Nat) : Int)) = true := by rw [beq_iff_eq]; omega
    by_cases ho : u / 2 ^ k % 2 = 1
    · have dD : (((u / 2 ^ k % 2 : Nat) : Int) == 1) = true := by rw [beq_iff_eq]; omega
      have et : Flt.topR u k = u / 2 ^ k + 1 := by rw [hT]; simp [← hc, ho]
      rw [← et] at e6
      exact refNear_negB (HM := HM) (e1 := e1) (e2 := e2) (e3 := e3) (e4 := e4) (e5 := e5) (dA := dA) (dB := dB) (dD := dD) (e6 := e6) (e7 := e7) (db := db) (hg0 := g0) (HG := HG) (HZ := HZ) (d1 := d1) (d2 := d2) (d3 := d3) (d4 := d4) (hk1 := hk1) (hk2 := hk2) (w := w)
    · have dD : (((u / 2 ^ k % 2 : Nat) : Int) == 1) = false := by rw [beq_eq_false_iff_ne]; omega
      have et : Flt.topR u k = u / 2 ^ k := by rw [hT]; simp [← hc, ho]
      exact refNear_negC (HM := HM) (e1 := e1) (e2 := e2) (e3 := e3) (e4 := e4) (e5 := e5) (dA := dA) (dB := dB) (dD := dD) (e7 := e7) (db := db) (hg0 := (by rw [← et]; exact g0)) (HG := HG) (HZ := HZ) (d1 := d1) (d2 := d2) (d3 := d3) (d4 := d4) (hk1 := hk1) (hk2 := hk2) (w := w)
  · have dA : decide (((2 ^ k / 2 : Nat) : Int) < ((u % 2 ^ k : Nat) : Int)) = false := by rw [decide_eq_false_iff_not]; omega
    have dB : (((u % 2 ^ k : Nat) : Int) == ((2 ^ k / 2 : Nat) : Int)) = false := by rw [beq_eq_false_iff_ne]; omega
    have et : Flt.topR u k = u / 2 ^ k := by rw [hT]; simp [Nat.not_lt.2 (Nat.le_of_lt hc), Nat.ne_of_gt hc]
    exact refNear_negD (HM := HM) (e1 := e1) (e2 := e2) (e3 := e3) (e4 := e4) (e5 := e5) (dA := dA) (dB := dB) (db := db) (hg0 := (by rw [← et]; exact g0)) (HG := HG) (HZ := HZ) (d1 := d1) (d2 := d2) (d3 := d3) (d4 := d4) (hk1 := hk1) (hk2 := hk2) (w := w)

theorem refNear_any (n : Int) (h1 : -9223372036854775808 ≤ n) (h2 : n ≤ 9223372036854775807) (w : World) : Calls Tryz.prog 113 #[.int .i64 n] w fun e w' => e = .returned (.float .f64 (floatOfInt .f64 n)) ∧ w' = w := by
  rcases (by omega : n ≤ -9007199254740992 ∨ (-9007199254740992 < n ∧ n < 9007199254740992) ∨ 9007199254740992 ≤ n) with h | h | h
  · exact refNear_neg n n.natAbs (by omega) (by omega) (by omega) w
  · exact refNear_small n h.1 h.2 w
  · exact refNear_pos n n.natAbs (by omega) (by omega) (by omega) w

end Go.Proofs.YtgljglindgbjaaaGreatDoor


/- Contracts of the document's Right, Neg, Abs, Real on any term. -/
namespace Go.Proofs.YtgljglindgbjaaaGreatDoor
open Go.RowKit
attribute [local go_sem] store_float
attribute [local go_sem ↓] Go.wp_at_zero Go.wp_at_succ

theorem refPlus_any (x : Nat) (b : Bool) (hx : ((x : Int) == 0) = b) (w : World) : Calls Tryz.prog 108 #[.float .f64 x] w fun e w' => e = .returned (.bool b) ∧ w' = w := by
  have hb := f64bits
  go_enter Tryz.func108, Tryz.ntmps108
  go_wp2
  go_ret
  exact ⟨rfl, rfl⟩

set_option maxHeartbeats 1000000 in
theorem rr_s (k n : Int) (f : Nat) (s : ByteArray) (l : Nat) (a : Option Addr) (c : Nat) (hs : s.toList.isEmpty = false) (w : World) : Calls Tryz.prog 42 #[.agg #[.int .i64 k, .int .i64 n, .float .f64 f, .string s, .slice a l c]] w fun e w' => e = .returned (.bool false) ∧ Below w.heap.size w w' := by
  go_enter Tryz.func42, Tryz.ntmps42
  go_wp2
  go_ret
  exact ⟨rfl, below_new _ _⟩

set_option maxHeartbeats 1000000 in
theorem rr_l (k n : Int) (f : Nat) (s : ByteArray) (l : Nat) (a : Option Addr) (c : Nat) (hs : s.toList.isEmpty = true) (hl : ((l : Int) == 0) = false) (w : World) : Calls Tryz.prog 42 #[.agg #[.int .i64 k, .int .i64 n, .float .f64 f, .string s, .slice a l c]] w fun e w' => e = .returned (.bool false) ∧ Below w.heap.size w w' := by
  go_enter Tryz.func42, Tryz.ntmps42
  go_wp2
  go_ret
  exact ⟨rfl, below_new _ _⟩

set_option maxHeartbeats 1000000 in
theorem rr_1a (n : Int) (f : Nat) (s : ByteArray) (a : Option Addr) (c : Nat) (hs : s.toList.isEmpty = true) (h : n < -576460752303423488) (w : World) : Calls Tryz.prog 42 #[.agg #[.int .i64 1, .int .i64 n, .float .f64 f, .string s, .slice a 0 c]] w fun e w' => e = .returned (.bool false) ∧ Below w.heap.size w w' := by
  go_enter Tryz.func42, Tryz.ntmps42
  go_wp2
  go_ret
  exact ⟨rfl, below_new _ _⟩

set_option maxHeartbeats 1000000 in
theorem rr_1b (n : Int) (f : Nat) (s : ByteArray) (a : Option Addr) (c : Nat) (hs : s.toList.isEmpty = true) (h : 576460752303423487 < n) (w : World) : Calls Tryz.prog 42 #[.agg #[.int .i64 1, .int .i64 n, .float .f64 f, .string s, .slice a 0 c]] w fun e w' => e = .returned (.bool false) ∧ Below w.heap.size w w' := by
  have d1 : -576460752303423488 ≤ n := by omega
  have d2 : decide (n ≤ 576460752303423487) = false := by simp; omega
  go_enter Tryz.func42, Tryz.ntmps42
  go_wp2
  go_ret
  exact ⟨rfl, below_new _ _⟩

set_option maxHeartbeats 1000000 in
theorem rr_1c (n : Int) (f : Nat) (s : ByteArray) (a : Option Addr) (c : Nat) (hs : s.toList.isEmpty = true) (d1 : -576460752303423488 ≤ n) (d3 : n ≤ 576460752303423487) (b : Bool) (hp : ((f : Int) == 0) = b) (w : World) : Calls Tryz.prog 42 #[.agg #[.int .i64 1, .int .i64 n, .float .f64 f, .string s, .slice a 0 c]] w fun e w' => e = .returned (.bool b) ∧ Below w.heap.size w w' := by
  have d2 : decide (n ≤ 576460752303423487) = true := by simpa using d3
  clear d3
  go_enter Tryz.func42, Tryz.ntmps42
  go_wp2_with fail
  refine (refPlus_any f _ hp _).mono ?_
  rintro e w' ⟨rfl, rfl⟩
  go_wp2
  go_ret
  exact ⟨rfl, below_new _ _⟩

set_option maxHeartbeats 1000000 in
theorem rr_2a (n : Int) (f : Nat) (s : ByteArray) (a : Option Addr) (c : Nat) (hs : s.toList.isEmpty = true) (hn : (n == 0) = false) (w : World) : Calls Tryz.prog 42 #[.agg #[.int .i64 2, .int .i64 n, .float .f64 f, .string s, .slice a 0 c]] w fun e w' => e = .returned (.bool false) ∧ Below w.heap.size w w' := by
  go_enter Tryz.func42, Tryz.ntmps42
  go_wp2
  go_ret
  exact ⟨rfl, below_new _ _⟩

set_option maxHeartbeats 1000000 in
theorem rr_2b (f : Nat) (s : ByteArray) (a : Option Addr) (c : Nat) (hs : s.toList.isEmpty = true) (b : Bool) (hp : Flt.fin f = b) (w : World) : Calls Tryz.prog 42 #[.agg #[.int .i64 2, .int .i64 0, .float .f64 f, .string s, .slice a 0 c]] w fun e w' => e = .returned (.bool b) ∧ Below w.heap.size w w' := by
  go_enter Tryz.func42, Tryz.ntmps42
  go_wp2_with fail
  refine (refFinite_any f _).mono ?_
  rintro e w2 ⟨rfl, hb⟩
  rw [hp]
  have hW : Below w.heap.size w w2 := (below_new w _).trans (hb.mono (by simp))
  clear hb
  go_wp2
  go_ret
  exact ⟨rfl, hW⟩

set_option maxHeartbeats 1000000 in
theorem rr_0 (k n : Int) (f : Nat) (s : ByteArray) (a : Option Addr) (c : Nat) (hs : s.toList.isEmpty = true) (h1 : (k == 1) = false) (h2 : (k == 2) = false) (w : World) : Calls Tryz.prog 42 #[.agg #[.int .i64 k, .int .i64 n, .float .f64 f, .string s, .slice a 0 c]] w fun e w' => e = .returned (.bool false) ∧ Below w.heap.size w w' := by
  go_enter Tryz.func42, Tryz.ntmps42
  go_wp2
  go_ret
  exact ⟨rfl, below_new _ _⟩

theorem refRight_any (k n : Int) (f : Nat) (s : ByteArray) (a : Option Addr) (l c : Nat) (w : World) : Calls Tryz.prog 42 #[.agg #[.int .i64 k, .int .i64 n, .float .f64 f, .string s, .slice a l c]] w fun e w' => e = .returned (.bool (rightB k n f s l)) ∧ Below w.heap.size w w' := by
  cases hs : s.toList.isEmpty
  · rw [show rightB k n f s l = false by simp [rightB, hs]]
    exact rr_s k n f s l a c hs w
  by_cases hl : l = 0
  · subst hl
    by_cases h1 : k = 1
    · subst h1
      cases hn : whB n
      · rw [show rightB 1 n f s 0 = false by simp [rightB, hn]]
        rcases whB_no hn with h | h
        · exact rr_1a n f s a c hs h w
        · exact rr_1b n f s a c hs h w
      · obtain ⟨b1, b2⟩ := whB_yes hn
        have := rr_1c n f s a c hs b1 b2 _ rfl w
        rw [show rightB 1 n f s 0 = ((f : Int) == 0) by
          by_cases hf : f = 0
          · subst hf; simp [rightB, hn, hs]
          · have : ((f : Int) == 0) = false := by simp; omega
            rw [this]; simp [rightB, hn, hf]]
        exact this
    · by_cases h2 : k = 2
      · subst h2
        by_cases hn : n = 0
        · subst hn
          have := rr_2b f s a c hs _ rfl w
          rw [show rightB 2 0 f s 0 = Flt.fin f by simp [rightB, hs]]
          exact this
        · rw [show rightB 2 n f s 0 = false by simp [rightB, hn]]
          exact rr_2a n f s a c hs (by simpa using hn) w
      · rw [show rightB k n f s 0 = false by simp [rightB, h1, h2]]
        exact rr_0 k n f s a c hs (by simpa using h1) (by simpa using h2) w
  · rw [show rightB k n f s l = false by simp [rightB, hl]]
    exact rr_l k n f s l a c hs (by simp; omega) w

end Go.Proofs.YtgljglindgbjaaaGreatDoor


