/- The document's nearest float is float64's own. -/
import Derived.Test.YtihkabgoaejcgaaDoorV1
import Derived.Test.YtihkabgoaejcgaaDoorFltC
import Derived.LoopTactic
namespace Go.Proofs.YtihkabgoaejcgaaDoor
open Go.RowKit

theorem refNear_small (n : Int) (h1 : -9007199254740992 < n) (h2 : n < 9007199254740992) (w : World) : Calls Tryd.prog 29 #[.int .i64 n] w fun e w' => e = .returned (.float .f64 (floatOfInt .f64 n)) ∧ w' = w := by
  have d2 : decide (n < 9007199254740992) = true := by simpa using h2
  go_enter Tryd.func29, Tryd.ntmps29
  go_wp2
  go_ret
  exact ⟨rfl, rfl⟩

/-- how far a number is shifted -/
theorem shift_of {u : Nat} (h1 : 9007199254740992 ≤ u) (h2 : u ≤ 9223372036854775808) : ∃ k, 1 ≤ k ∧ k ≤ 11 ∧ 4503599627370496 ≤ u / 2 ^ k ∧ u / 2 ^ k < 9007199254740992 ∧ ∀ j, j < k → 9007199254740992 ≤ u / 2 ^ j := by
  have h0 : u ≠ 0 := by omega
  have hb := Flt.log2_bounds h0
  have hlo : 53 ≤ u.log2 := (Nat.le_log2 h0).2 (by omega)
  have hhi : u.log2 < 64 := (Nat.log2_lt h0).2 (by omega)
  have key : ∀ j, j ≤ u.log2 → 2 ^ (u.log2 - j) ≤ u / 2 ^ j := fun j hj => by
    rw [Nat.le_div_iff_mul_le (Nat.two_pow_pos j), ← Nat.pow_add, show u.log2 - j + j = u.log2 by omega]; exact hb.1
  refine ⟨u.log2 - 52, by omega, by omega, ?_, ?_, fun j hj => ?_⟩
  · have := key (u.log2 - 52) (by omega)
    rw [show u.log2 - (u.log2 - 52) = 52 by omega] at this
    exact this
  · rw [Nat.div_lt_iff_lt_mul (Nat.two_pow_pos _), show (9007199254740992 : Nat) = 2 ^ 53 from rfl, ← Nat.pow_add, show 53 + (u.log2 - 52) = u.log2 + 1 by omega]
    exact hb.2
  · have h := key j (by omega)
    have : 2 ^ 53 ≤ 2 ^ (u.log2 - j) := Nat.pow_le_pow_right (by decide) (by omega)
    omega

-- WALKS
-- WALKS
-- WALKS
-- WALKS
set_option maxHeartbeats 1000000 in
theorem refNear_posA (x t s r p h t1 : Int) (k : Nat) (gg : Nat → Nat) (hk1 : 1 ≤ k) (hk2 : k ≤ 11) (d0 : decide (-9007199254740992 < x) = true) (d1 : decide (x < 9007199254740992) = false) (d2 : decide (x < 0) = false) (d3 : IntKind.u64.wrap x = x) (HM : Hid (∀ j : Nat, j < k → decide (9007199254740992 ≤ x / 2 ^ j) = true)) (e1 : x / 2 ^ k = t) (e2 : IntKind.u64.wrap (t * 2 ^ k) = s) (e3 : IntKind.u64.wrap (x - s) = r) (e4 : IntKind.u64.wrap (2 ^ k) = p) (e5 : p / 2 = h) (e6 : IntKind.u64.wrap (t + 1) = t1) (db : decide (9007199254740992 ≤ t) = false) (dA : decide (h < r) = true) (hg0 : floatOfInt .f64 t1 = gg 0) (HG : Hid (∀ j, j ≤ 11 → floatBits .mul .f64 (gg j) 4611686018427387904 = some (gg (j + 1)))) (w : World) :
    Calls Tryd.prog 29 #[.int .i64 x] w fun e w' => e = .returned (.float .f64 (gg k)) ∧ w' = w := by
  go_enter Tryd.func29, Tryd.ntmps29
  go_wp2
  go_loop [5] (fun s => ∃ j : Nat, j ≤ k ∧ s = .int .i64 j) (fun s => k - (intOf s).toNat)
  case atStart => exact ⟨0, by omega, rfl⟩
  case round =>
    obtain ⟨j, hj, rfl⟩ := hrel
    by_cases hlt : j < k
    · have hge := HM.out j hlt
      go_wp2
      go_round
      case rel => exact ⟨j + 1, by omega, by go_num⟩
      case measure => simp [intOf]; omega
    · obtain rfl : j = k := by omega
      go_wp2
      go_loop [9, 10] (fun f i => ∃ n : Nat, n ≤ j ∧ f = .float .f64 (gg n) ∧ i = .int .i64 n) (fun _ i => j - (intOf i).toNat)
      case atStart => exact ⟨0, by omega, by first | rfl | rw [hg0], rfl⟩
      case round =>
        obtain ⟨n, hn, rfl, rfl⟩ := hrel
        have hm : ∀ t (w : World), (binOp .mul t (.float .f64 (gg n)) (.float .f64 4611686018427387904)).run Tryd.prog w = .ok (.float .f64 (gg (n + 1))) w := fun t w => run_float_arith w .mul t .f64 _ _ _ (HG.out n (by omega))
        by_cases hnj : n < j
        · go_wp2
          go_round
          case rel => exact ⟨n + 1, by omega, rfl, by go_num⟩
          case measure => simp [intOf]; omega
        · obtain rfl : n = j := by omega
          go_wp2
          go_ret
          exact ⟨rfl, rfl⟩

set_option maxHeartbeats 1000000 in
theorem refNear_posB (x t s r p h t1 q : Int) (k : Nat) (gg : Nat → Nat) (hk1 : 1 ≤ k) (hk2 : k ≤ 11) (d0 : decide (-9007199254740992 < x) = true) (d1 : decide (x < 9007199254740992) = false) (d2 : decide (x < 0) = false) (d3 : IntKind.u64.wrap x = x) (HM : Hid (∀ j : Nat, j < k → decide (9007199254740992 ≤ x / 2 ^ j) = true)) (e1 : x / 2 ^ k = t) (e2 : IntKind.u64.wrap (t * 2 ^ k) = s) (e3 : IntKind.u64.wrap (x - s) = r) (e4 : IntKind.u64.wrap (2 ^ k) = p) (e5 : p / 2 = h) (e6 : IntKind.u64.wrap (t + 1) = t1) (e7 : t.tmod 2 = q) (db : decide (9007199254740992 ≤ t) = false) (dA : decide (h < r) = false) (dB : (r == h) = true) (dD : (q == 1) = true) (hg0 : floatOfInt .f64 t1 = gg 0) (HG : Hid (∀ j, j ≤ 11 → floatBits .mul .f64 (gg j) 4611686018427387904 = some (gg (j + 1)))) (w : World) :
    Calls Tryd.prog 29 #[.int .i64 x] w fun e w' => e = .returned (.float .f64 (gg k)) ∧ w' = w := by
  go_enter Tryd.func29, Tryd.ntmps29
  go_wp2
  go_loop [5] (fun s => ∃ j : Nat, j ≤ k ∧ s = .int .i64 j) (fun s => k - (intOf s).toNat)
  case atStart => exact ⟨0, by omega, rfl⟩
  case round =>
    obtain ⟨j, hj, rfl⟩ := hrel
    by_cases hlt : j < k
    · have hge := HM.out j hlt
      go_wp2
      go_round
      case rel => exact ⟨j + 1, by omega, by go_num⟩
      case measure => simp [intOf]; omega
    · obtain rfl : j = k := by omega
      go_wp2
      go_loop [9, 10] (fun f i => ∃ n : Nat, n ≤ j ∧ f = .float .f64 (gg n) ∧ i = .int .i64 n) (fun _ i => j - (intOf i).toNat)
      case atStart => exact ⟨0, by omega, by first | rfl | rw [hg0], rfl⟩
      case round =>
        obtain ⟨n, hn, rfl, rfl⟩ := hrel
        have hm : ∀ t (w : World), (binOp .mul t (.float .f64 (gg n)) (.float .f64 4611686018427387904)).run Tryd.prog w = .ok (.float .f64 (gg (n + 1))) w := fun t w => run_float_arith w .mul t .f64 _ _ _ (HG.out n (by omega))
        by_cases hnj : n < j
        · go_wp2
          go_round
          case rel => exact ⟨n + 1, by omega, rfl, by go_num⟩
          case measure => simp [intOf]; omega
        · obtain rfl : n = j := by omega
          go_wp2
          go_ret
          exact ⟨rfl, rfl⟩

set_option maxHeartbeats 1000000 in
theorem refNear_posC (x t s r p h q : Int) (k : Nat) (gg : Nat → Nat) (hk1 : 1 ≤ k) (hk2 : k ≤ 11) (d0 : decide (-9007199254740992 < x) = true) (d1 : decide (x < 9007199254740992) = false) (d2 : decide (x < 0) = false) (d3 : IntKind.u64.wrap x = x) (HM : Hid (∀ j : Nat, j < k → decide (9007199254740992 ≤ x / 2 ^ j) = true)) (e1 : x / 2 ^ k = t) (e2 : IntKind.u64.wrap (t * 2 ^ k) = s) (e3 : IntKind.u64.wrap (x - s) = r) (e4 : IntKind.u64.wrap (2 ^ k) = p) (e5 : p / 2 = h) (e7 : t.tmod 2 = q) (db : decide (9007199254740992 ≤ t) = false) (dA : decide (h < r) = false) (dB : (r == h) = true) (dD : (q == 1) = false) (hg0 : floatOfInt .f64 t = gg 0) (HG : Hid (∀ j, j ≤ 11 → floatBits .mul .f64 (gg j) 4611686018427387904 = some (gg (j + 1)))) (w : World) :
    Calls Tryd.prog 29 #[.int .i64 x] w fun e w' => e = .returned (.float .f64 (gg k)) ∧ w' = w := by
  go_enter Tryd.func29, Tryd.ntmps29
  go_wp2
  go_loop [5] (fun s => ∃ j : Nat, j ≤ k ∧ s = .int .i64 j) (fun s => k - (intOf s).toNat)
  case atStart => exact ⟨0, by omega, rfl⟩
  case round =>
    obtain ⟨j, hj, rfl⟩ := hrel
    by_cases hlt : j < k
    · have hge := HM.out j hlt
      go_wp2
      go_round
      case rel => exact ⟨j + 1, by omega, by go_num⟩
      case measure => simp [intOf]; omega
    · obtain rfl : j = k := by omega
      go_wp2
      go_loop [9, 10] (fun f i => ∃ n : Nat, n ≤ j ∧ f = .float .f64 (gg n) ∧ i = .int .i64 n) (fun _ i => j - (intOf i).toNat)
      case atStart => exact ⟨0, by omega, by first | rfl | rw [hg0], rfl⟩
      case round =>
        obtain ⟨n, hn, rfl, rfl⟩ := hrel
        have hm : ∀ t (w : World), (binOp .mul t (.float .f64 (gg n)) (.float .f64 4611686018427387904)).run Tryd.prog w = .ok (.float .f64 (gg (n + 1))) w := fun t w => run_float_arith w .mul t .f64 _ _ _ (HG.out n (by omega))
        by_cases hnj : n < j
        · go_wp2
          go_round
          case rel => exact ⟨n + 1, by omega, rfl, by go_num⟩
          case measure => simp [intOf]; omega
        · obtain rfl : n = j := by omega
          go_wp2
          go_ret
          exact ⟨rfl, rfl⟩

set_option maxHeartbeats 1000000 in
theorem refNear_posD (x t s r p h : Int) (k : Nat) (gg : Nat → Nat) (hk1 : 1 ≤ k) (hk2 : k ≤ 11) (d0 : decide (-9007199254740992 < x) = true) (d1 : decide (x < 9007199254740992) = false) (d2 : decide (x < 0) = false) (d3 : IntKind.u64.wrap x = x) (HM : Hid (∀ j : Nat, j < k → decide (9007199254740992 ≤ x / 2 ^ j) = true)) (e1 : x / 2 ^ k = t) (e2 : IntKind.u64.wrap (t * 2 ^ k) = s) (e3 : IntKind.u64.wrap (x - s) = r) (e4 : IntKind.u64.wrap (2 ^ k) = p) (e5 : p / 2 = h) (db : decide (9007199254740992 ≤ t) = false) (dA : decide (h < r) = false) (dB : (r == h) = false) (hg0 : floatOfInt .f64 t = gg 0) (HG : Hid (∀ j, j ≤ 11 → floatBits .mul .f64 (gg j) 4611686018427387904 = some (gg (j + 1)))) (w : World) :
    Calls Tryd.prog 29 #[.int .i64 x] w fun e w' => e = .returned (.float .f64 (gg k)) ∧ w' = w := by
  go_enter Tryd.func29, Tryd.ntmps29
  go_wp2
  go_loop [5] (fun s => ∃ j : Nat, j ≤ k ∧ s = .int .i64 j) (fun s => k - (intOf s).toNat)
  case atStart => exact ⟨0, by omega, rfl⟩
  case round =>
    obtain ⟨j, hj, rfl⟩ := hrel
    by_cases hlt : j < k
    · have hge := HM.out j hlt
      go_wp2
      go_round
      case rel => exact ⟨j + 1, by omega, by go_num⟩
      case measure => simp [intOf]; omega
    · obtain rfl : j = k := by omega
      go_wp2
      go_loop [9, 10] (fun f i => ∃ n : Nat, n ≤ j ∧ f = .float .f64 (gg n) ∧ i = .int .i64 n) (fun _ i => j - (intOf i).toNat)
      case atStart => exact ⟨0, by omega, by first | rfl | rw [hg0], rfl⟩
      case round =>
        obtain ⟨n, hn, rfl, rfl⟩ := hrel
        have hm : ∀ t (w : World), (binOp .mul t (.float .f64 (gg n)) (.float .f64 4611686018427387904)).run Tryd.prog w = .ok (.float .f64 (gg (n + 1))) w := fun t w => run_float_arith w .mul t .f64 _ _ _ (HG.out n (by omega))
        by_cases hnj : n < j
        · go_wp2
          go_round
          case rel => exact ⟨n + 1, by omega, rfl, by go_num⟩
          case measure => simp [intOf]; omega
        · obtain rfl : n = j := by omega
          go_wp2
          go_ret
          exact ⟨rfl, rfl⟩

set_option maxHeartbeats 1000000 in
theorem refNear_negA (x x0 y t s r p h t1 : Int) (k : Nat) (gg : Nat → Nat) (z : Nat) (hk1 : 1 ≤ k) (hk2 : k ≤ 11) (d1 : decide (-9007199254740992 < x) = false) (d2 : decide (x < 0) = true) (d3 : IntKind.u64.wrap x = x0) (d4 : IntKind.u64.wrap (-x0) = y) (HM : Hid (∀ j : Nat, j < k → decide (9007199254740992 ≤ y / 2 ^ j) = true)) (e1 : y / 2 ^ k = t) (e2 : IntKind.u64.wrap (t * 2 ^ k) = s) (e3 : IntKind.u64.wrap (y - s) = r) (e4 : IntKind.u64.wrap (2 ^ k) = p) (e5 : p / 2 = h) (e6 : IntKind.u64.wrap (t + 1) = t1) (db : decide (9007199254740992 ≤ t) = false) (dA : decide (h < r) = true) (hg0 : floatOfInt .f64 t1 = gg 0) (HG : Hid (∀ j, j ≤ 11 → floatBits .mul .f64 (gg j) 4611686018427387904 = some (gg (j + 1)))) (HZ : floatBits .sub .f64 0 (gg k) = some z) (w : World) :
    Calls Tryd.prog 29 #[.int .i64 x] w fun e w' => e = .returned (.float .f64 z) ∧ w' = w := by
  have hz : ∀ t (w : World), (binOp .sub t (.float .f64 0) (.float .f64 (gg k))).run Tryd.prog w = .ok (.float .f64 z) w := fun t w => run_float_arith w .sub t .f64 _ _ _ HZ
  clear HZ
  go_enter Tryd.func29, Tryd.ntmps29
  go_wp2
  go_loop [5] (fun s => ∃ j : Nat, j ≤ k ∧ s = .int .i64 j) (fun s => k - (intOf s).toNat)
  case atStart => exact ⟨0, by omega, rfl⟩
  case round =>
    obtain ⟨j, hj, rfl⟩ := hrel
    by_cases hlt : j < k
    · have hge := HM.out j hlt
      go_wp2
      go_round
      case rel => exact ⟨j + 1, by omega, by go_num⟩
      case measure => simp [intOf]; omega
    · obtain rfl : j = k := by omega
      go_wp2
      go_loop [9, 10] (fun f i => ∃ n : Nat, n ≤ j ∧ f = .float .f64 (gg n) ∧ i = .int .i64 n) (fun _ i => j - (intOf i).toNat)
      case atStart => exact ⟨0, by omega, by first | rfl | rw [hg0], rfl⟩
      case round =>
        obtain ⟨n, hn, rfl, rfl⟩ := hrel
        have hm : ∀ t (w : World), (binOp .mul t (.float .f64 (gg n)) (.float .f64 4611686018427387904)).run Tryd.prog w = .ok (.float .f64 (gg (n + 1))) w := fun t w => run_float_arith w .mul t .f64 _ _ _ (HG.out n (by omega))
        by_cases hnj : n < j
        · go_wp2
          go_round
          case rel => exact ⟨n + 1, by omega, rfl, by go_num⟩
          case measure => simp [intOf]; omega
        · obtain rfl : n = j := by omega
          go_wp2
          go_ret
          exact ⟨rfl, rfl⟩

set_option maxHeartbeats 1000000 in
theorem refNear_negB (x x0 y t s r p h t1 q : Int) (k : Nat) (gg : Nat → Nat) (z : Nat) (hk1 : 1 ≤ k) (hk2 : k ≤ 11) (d1 : decide (-9007199254740992 < x) = false) (d2 : decide (x < 0) = true) (d3 : IntKind.u64.wrap x = x0) (d4 : IntKind.u64.wrap (-x0) = y) (HM : Hid (∀ j : Nat, j < k → decide (9007199254740992 ≤ y / 2 ^ j) = true)) (e1 : y / 2 ^ k = t) (e2 : IntKind.u64.wrap (t * 2 ^ k) = s) (e3 : IntKind.u64.wrap (y - s) = r) (e4 : IntKind.u64.wrap (2 ^ k) = p) (e5 : p / 2 = h) (e6 : IntKind.u64.wrap (t + 1) = t1) (e7 : t.tmod 2 = q) (db : decide (9007199254740992 ≤ t) = false) (dA : decide (h < r) = false) (dB : (r == h) = true) (dD : (q == 1) = true) (hg0 : floatOfInt .f64 t1 = gg 0) (HG : Hid (∀ j, j ≤ 11 → floatBits .mul .f64 (gg j) 4611686018427387904 = some (gg (j + 1)))) (HZ : floatBits .sub .f64 0 (gg k) = some z) (w : World) :
    Calls Tryd.prog 29 #[.int .i64 x] w fun e w' => e = .returned (.float .f64 z) ∧ w' = w := by
  have hz : ∀ t (w : World), (binOp .sub t (.float .f64 0) (.float .f64 (gg k))).run Tryd.prog w = .ok (.float .f64 z) w := fun t w => run_float_arith w .sub t .f64 _ _ _ HZ
  clear HZ
  go_enter Tryd.func29, Tryd.ntmps29
  go_wp2
  go_loop [5] (fun s => ∃ j : Nat, j ≤ k ∧ s = .int .i64 j) (fun s => k - (intOf s).toNat)
  case atStart => exact ⟨0, by omega, rfl⟩
  case round =>
    obtain ⟨j, hj, rfl⟩ := hrel
    by_cases hlt : j < k
    · have hge := HM.out j hlt
      go_wp2
      go_round
      case rel => exact ⟨j + 1, by omega, by go_num⟩
      case measure => simp [intOf]; omega
    · obtain rfl : j = k := by omega
      go_wp2
      go_loop [9, 10] (fun f i => ∃ n : Nat, n ≤ j ∧ f = .float .f64 (gg n) ∧ i = .int .i64 n) (fun _ i => j - (intOf i).toNat)
      case atStart => exact ⟨0, by omega, by first | rfl | rw [hg0], rfl⟩
      case round =>
        obtain ⟨n, hn, rfl, rfl⟩ := hrel
        have hm : ∀ t (w : World), (binOp .mul t (.float .f64 (gg n)) (.float .f64 4611686018427387904)).run Tryd.prog w = .ok (.float .f64 (gg (n + 1))) w := fun t w => run_float_arith w .mul t .f64 _ _ _ (HG.out n (by omega))
        by_cases hnj : n < j
        · go_wp2
          go_round
          case rel => exact ⟨n + 1, by omega, rfl, by go_num⟩
          case measure => simp [intOf]; omega
        · obtain rfl : n = j := by omega
          go_wp2
          go_ret
          exact ⟨rfl, rfl⟩

set_option maxHeartbeats 1000000 in
theorem refNear_negC (x x0 y t s r p h q : Int) (k : Nat) (gg : Nat → Nat) (z : Nat) (hk1 : 1 ≤ k) (hk2 : k ≤ 11) (d1 : decide (-9007199254740992 < x) = false) (d2 : decide (x < 0) = true) (d3 : IntKind.u64.wrap x = x0) (d4 : IntKind.u64.wrap (-x0) = y) (HM : Hid (∀ j : Nat, j < k → decide (9007199254740992 ≤ y / 2 ^ j) = true)) (e1 : y / 2 ^ k = t) (e2 : IntKind.u64.wrap (t * 2 ^ k) = s) (e3 : IntKind.u64.wrap (y - s) = r) (e4 : IntKind.u64.wrap (2 ^ k) = p) (e5 : p / 2 = h) (e7 : t.tmod 2 = q) (db : decide (9007199254740992 ≤ t) = false) (dA : decide (h < r) = false) (dB : (r == h) = true) (dD : (q == 1) = false) (hg0 : floatOfInt .f64 t = gg 0) (HG : Hid (∀ j, j ≤ 11 → floatBits .mul .f64 (gg j) 4611686018427387904 = some (gg (j + 1)))) (HZ : floatBits .sub .f64 0 (gg k) = some z) (w : World) :
    Calls Tryd.prog 29 #[.int .i64 x] w fun e w' => e = .returned (.float .f64 z) ∧ w' = w := by
  have hz : ∀ t (w : World), (binOp .sub t (.float .f64 0) (.float .f64 (gg k))).run Tryd.prog w = .ok (.float .f64 z) w := fun t w => run_float_arith w .sub t .f64 _ _ _ HZ
  clear HZ
  go_enter Tryd.func29, Tryd.ntmps29
  go_wp2
  go_loop [5] (fun s => ∃ j : Nat, j ≤ k ∧ s = .int .i64 j) (fun s => k - (intOf s).toNat)
  case atStart => exact ⟨0, by omega, rfl⟩
  case round =>
    obtain ⟨j, hj, rfl⟩ := hrel
    by_cases hlt : j < k
    · have hge := HM.out j hlt
      go_wp2
      go_round
      case rel => exact ⟨j + 1, by omega, by go_num⟩
      case measure => simp [intOf]; omega
    · obtain rfl : j = k := by omega
      go_wp2
      go_loop [9, 10] (fun f i => ∃ n : Nat, n ≤ j ∧ f = .float .f64 (gg n) ∧ i = .int .i64 n) (fun _ i => j - (intOf i).toNat)
      case atStart => exact ⟨0, by omega, by first | rfl | rw [hg0], rfl⟩
      case round =>
        obtain ⟨n, hn, rfl, rfl⟩ := hrel
        have hm : ∀ t (w : World), (binOp .mul t (.float .f64 (gg n)) (.float .f64 4611686018427387904)).run Tryd.prog w = .ok (.float .f64 (gg (n + 1))) w := fun t w => run_float_arith w .mul t .f64 _ _ _ (HG.out n (by omega))
        by_cases hnj : n < j
        · go_wp2
          go_round
          case rel => exact ⟨n + 1, by omega, rfl, by go_num⟩
          case measure => simp [intOf]; omega
        · obtain rfl : n = j := by omega
          go_wp2
          go_ret
          exact ⟨rfl, rfl⟩

set_option maxHeartbeats 1000000 in
theorem refNear_negD (x x0 y t s r p h : Int) (k : Nat) (gg : Nat → Nat) (z : Nat) (hk1 : 1 ≤ k) (hk2 : k ≤ 11) (d1 : decide (-9007199254740992 < x) = false) (d2 : decide (x < 0) = true) (d3 : IntKind.u64.wrap x = x0) (d4 : IntKind.u64.wrap (-x0) = y) (HM : Hid (∀ j : Nat, j < k → decide (9007199254740992 ≤ y / 2 ^ j) = true)) (e1 : y / 2 ^ k = t) (e2 : IntKind.u64.wrap (t * 2 ^ k) = s) (e3 : IntKind.u64.wrap (y - s) = r) (e4 : IntKind.u64.wrap (2 ^ k) = p) (e5 : p / 2 = h) (db : decide (9007199254740992 ≤ t) = false) (dA : decide (h < r) = false) (dB : (r == h) = false) (hg0 : floatOfInt .f64 t = gg 0) (HG : Hid (∀ j, j ≤ 11 → floatBits .mul .f64 (gg j) 4611686018427387904 = some (gg (j + 1)))) (HZ : floatBits .sub .f64 0 (gg k) = some z) (w : World) :
    Calls Tryd.prog 29 #[.int .i64 x] w fun e w' => e = .returned (.float .f64 z) ∧ w' = w := by
  have hz : ∀ t (w : World), (binOp .sub t (.float .f64 0) (.float .f64 (gg k))).run Tryd.prog w = .ok (.float .f64 z) w := fun t w => run_float_arith w .sub t .f64 _ _ _ HZ
  clear HZ
  go_enter Tryd.func29, Tryd.ntmps29
  go_wp2
  go_loop [5] (fun s => ∃ j : Nat, j ≤ k ∧ s = .int .i64 j) (fun s => k - (intOf s).toNat)
  case atStart => exact ⟨0, by omega, rfl⟩
  case round =>
    obtain ⟨j, hj, rfl⟩ := hrel
    by_cases hlt : j < k
    · have hge := HM.out j hlt
      go_wp2
      go_round
      case rel => exact ⟨j + 1, by omega, by go_num⟩
      case measure => simp [intOf]; omega
    · obtain rfl : j = k := by omega
      go_wp2
      go_loop [9, 10] (fun f i => ∃ n : Nat, n ≤ j ∧ f = .float .f64 (gg n) ∧ i = .int .i64 n) (fun _ i => j - (intOf i).toNat)
      case atStart => exact ⟨0, by omega, by first | rfl | rw [hg0], rfl⟩
      case round =>
        obtain ⟨n, hn, rfl, rfl⟩ := hrel
        have hm : ∀ t (w : World), (binOp .mul t (.float .f64 (gg n)) (.float .f64 4611686018427387904)).run Tryd.prog w = .ok (.float .f64 (gg (n + 1))) w := fun t w => run_float_arith w .mul t .f64 _ _ _ (HG.out n (by omega))
        by_cases hnj : n < j
        · go_wp2
          go_round
          case rel => exact ⟨n + 1, by omega, rfl, by go_num⟩
          case measure => simp [intOf]; omega
        · obtain rfl : n = j := by omega
          go_wp2
          go_ret
          exact ⟨rfl, rfl⟩

end Go.Proofs.YtihkabgoaejcgaaDoor
