import Derived.Test.YtgljglindgbjaaaGreatDoorG22
import Derived.Laws.BitsAllLaws
import Derived.Test.YtgljglindgbjaaaGreatDoorG12
import Derived.Test.YtgljglindgbjaaaGreatDoorG21
import Derived.Test.YtgljglindgbjaaaGreatDoorG06
/- The library's Round tells a float rounded, half away from nothing. -/
namespace Go.Proofs.YtgljglindgbjaaaGreatDoor
open Go.RowKit

theorem and_exp11 (x : Nat) : (x / 4503599627370496) &&& 2047 = x / 4503599627370496 % 2048 := by
  rw [show (2047 : Nat) = 2 ^ 11 - 1 from rfl, Nat.and_two_pow_sub_one_eq_mod]

theorem and_top {x : Nat} (hx : x < 18446744073709551616) : x &&& 9223372036854775808 = if 9223372036854775808 ≤ x then 9223372036854775808 else 0 := by
  have h := Nat.and_div_two_pow (a := x) (b := 9223372036854775808) (n := 63)
  have h2 := Nat.and_mod_two_pow (a := x) (b := 9223372036854775808) (n := 63)
  rw [show (2 : Nat) ^ 63 = 9223372036854775808 from rfl, show 9223372036854775808 / 9223372036854775808 = 1 from rfl, Nat.and_one_is_mod] at h
  rw [show (2 : Nat) ^ 63 = 9223372036854775808 from rfl, show 9223372036854775808 % 9223372036854775808 = 0 from rfl, Nat.and_zero] at h2
  generalize x &&& 9223372036854775808 = y at *
  split <;> omega

theorem or_one (s : Bool) : (if s then 9223372036854775808 else 0) ||| 4607182418800017408 = (if s then 9223372036854775808 else 0) + 4607182418800017408 := by
  cases s <;> decide

theorem clear_low {y k : Nat} (hy : y < 18446744073709551616) (hk : k ≤ 52) : y &&& (18446744073709551615 - (2 ^ k - 1)) = y / 2 ^ k * 2 ^ k := by
  have hp := Nat.two_pow_pos k
  have e : 18446744073709551615 - (2 ^ k - 1) = (2 ^ (64 - k) - 1) <<< k := by
    have : 2 ^ (64 - k) * 2 ^ k = 18446744073709551616 := by rw [← Nat.pow_add, show 64 - k + k = 64 by omega]
    rw [Nat.shiftLeft_eq, Nat.sub_mul, this, Nat.one_mul]
    omega
  rw [e, ← Nat.shiftRight_eq_div_pow, ← Nat.shiftLeft_eq]
  apply Nat.eq_of_testBit_eq
  intro i
  simp only [Nat.testBit_and, Nat.testBit_shiftLeft, Nat.testBit_shiftRight, Nat.testBit_two_pow_sub_one]
  by_cases h : k ≤ i
  · by_cases h2 : i - k < 64 - k
    · simp [h, h2, show k + (i - k) = i by omega]
    · have : y.testBit i = false := Nat.testBit_lt_two_pow (Nat.lt_of_lt_of_le hy (by rw [show (18446744073709551616 : Nat) = 2 ^ 64 from rfl]; exact Nat.pow_le_pow_right (by decide) (by omega)))
      simp [h, h2, show k + (i - k) = i by omega, this]
  · simp [h]

theorem round_any {x : Nat} (hx : x < 18446744073709551616) (fx : Flt.fin x = true) : ∃ z v, Flt.Rounded x z v ∧ ∀ w, Calls Tryz.prog 178 #[.float .f64 x] w fun e w' => e = .returned (.float .f64 z) ∧ w' = w := by
  have hb := f64bits x
  have hq : x / 4503599627370496 < 18446744073709551616 := by omega
  have e1 : bits .and .u64 ((x : Int) / 4503599627370496) 2047 = ((x / 4503599627370496 % 2048 : Nat) : Int) := by
    have := bits_and_u64_nat (x / 4503599627370496) 2047 hq (by decide)
    rw [and_exp11] at this
    exact this
  have e2 : bits .and .u64 (x : Int) 9223372036854775808 = ((if 9223372036854775808 ≤ x then 9223372036854775808 else 0 : Nat) : Int) := by
    have := bits_and_u64_nat x 9223372036854775808 hx (by decide)
    rw [and_top hx] at this
    exact this
  rcases Nat.lt_or_ge (x / 4503599627370496 % 2048) 1022 with h | h
  · have := round_w0 x _ _ _ hb e1 (by simp; omega) e2 (by simp; omega)
    rw [Int.toNat_natCast] at this
    exact ⟨_, _, Flt.round_none hx fx h, this⟩
  rcases Nat.eq_or_lt_of_le h with h | h
  · have e3 : bits .or .u64 ((if 9223372036854775808 ≤ x then 9223372036854775808 else 0 : Nat) : Int) 4607182418800017408 = (((if 9223372036854775808 ≤ x then 9223372036854775808 else 0) + 4607182418800017408 : Nat) : Int) := by
      have k := bits_or_u64_nat (if 9223372036854775808 ≤ x then 9223372036854775808 else 0) 4607182418800017408 (by split <;> decide) (by decide)
      have o := or_one (decide (9223372036854775808 ≤ x))
      simp only [decide_eq_true_eq] at o
      rw [o] at k
      exact k
    have := round_w1 x _ _ _ _ hb e1 (by simp; omega) e2 (by simp; omega) e3
    rw [Int.toNat_natCast] at this
    exact ⟨_, _, Flt.round_one hx fx h.symm, this⟩
  rcases Nat.lt_or_ge (x / 4503599627370496 % 2048) 1075 with h2 | h2
  · obtain ⟨k, k1, k2, he⟩ : ∃ k, 1 ≤ k ∧ k ≤ 52 ∧ x / 4503599627370496 % 2048 = 1075 - k := ⟨1075 - x / 4503599627370496 % 2048, by omega, by omega, by omega⟩
    obtain ⟨v, hv⟩ := Flt.round_mid hx fx k1 k2 he
    have p1 : 2251799813685248 / 2 ^ (52 - k) = 2 ^ (k - 1) := by
      rw [show 2251799813685248 = 2 ^ (k - 1) * 2 ^ (52 - k) by rw [← Nat.pow_add, show k - 1 + (52 - k) = 51 by omega]]
      exact Nat.mul_div_cancel _ (Nat.two_pow_pos _)
    have p2 : 4503599627370495 / 2 ^ (52 - k) = 2 ^ k - 1 := by
      have hp := Nat.two_pow_pos (52 - k)
      have hp2 := Nat.two_pow_pos k
      have hm : 2 ^ k * 2 ^ (52 - k) = 4503599627370496 := by rw [← Nat.pow_add, show k + (52 - k) = 52 by omega]
      refine (Nat.div_eq_iff hp).2 ⟨?_, ?_⟩ <;> rw [Nat.sub_mul] <;> omega
    have hk52 : 2 ^ (k - 1) ≤ 2 ^ 51 := Nat.pow_le_pow_right (by decide) (by omega)
    have hk53 : 2 ^ k ≤ 2 ^ 52 := Nat.pow_le_pow_right (by decide) (by omega)
    have hfx : x % 9223372036854775808 < 9218868437227405312 := by simpa [Flt.fin] using fx
    have hy : x + 2 ^ (k - 1) < 18446744073709551616 := by omega
    have e3 : (2251799813685248 : Int) / 2 ^ (52 - k) = ((2 ^ (k - 1) : Nat) : Int) := by rw [← p1]; simp
    have e5 : (4503599627370495 : Int) / 2 ^ (52 - k) = ((2 ^ k - 1 : Nat) : Int) := by rw [← p2]; simp
    have e4 : IntKind.u64.wrap ((x : Int) + ((2 ^ (k - 1) : Nat) : Int)) = ((x + 2 ^ (k - 1) : Nat) : Int) := by
      rw [IntKind.wrap_u64]
      generalize 2 ^ (k - 1) = q at hy
      omega
    have e6 : bits .andNot .u64 ((x + 2 ^ (k - 1) : Nat) : Int) ((2 ^ k - 1 : Nat) : Int) = (((x + 2 ^ (k - 1)) / 2 ^ k * 2 ^ k : Nat) : Int) := by
      have := u64_andNot_nat (x + 2 ^ (k - 1)) (2 ^ k - 1) hy (by omega)
      rw [clear_low hy k2] at this
      exact this
    have := round_w2 x _ _ _ _ _ _ (52 - k) (by omega) hb e1 (by simp; omega) (by simp; omega) (by rw [IntKind.wrap_u64]; omega) e3 e4 e5 e6
    rw [Int.toNat_natCast] at this
    exact ⟨_, v, hv, this⟩
  · obtain ⟨v, hv⟩ := Flt.round_self hx fx h2
    have := round_w3 x _ _ hb e1 (by simp; omega) (by simp; omega)
    rw [Int.toNat_natCast] at this
    exact ⟨_, v, hv, this⟩
end Go.Proofs.YtgljglindgbjaaaGreatDoor


/- Floats without their fractions: the four ways. -/
namespace Go.Proofs.YtgljglindgbjaaaGreatDoor
open Go.RowKit Ieee
open Flt (ordI exactV)

set_option maxRecDepth 100000 in
theorem floor_to (x y : Nat) (hr : Extern.MathFloor.toIntegral "math.archFloor" .down #[.float .f64 x] = pure (.float .f64 y)) (w : World) : Calls Tryz.prog 179 #[.float .f64 x] w fun e w' => e = .returned (.float .f64 y) ∧ w' = w := by
  have hx : ∀ w, (callFunc 214 #[.float .f64 x]).run Tryz.prog w = .ok (.value (.float .f64 y)) w := fun w => by
    rw [run_callFunc_extern Tryz.func214 (by kernel_rfl) (by kernel_rfl) (by kernel_rfl) (e := Extern.MathFloor.toIntegral "math.archFloor" .down) (by kernel_rfl), hr]
    rfl
  clear hr
  go_enter Tryz.func179, Tryz.ntmps179
  go_wp2
  go_ret
  exact ⟨rfl, rfl⟩

set_option maxRecDepth 100000 in
theorem ceil_to (x y : Nat) (hr : Extern.MathFloor.toIntegral "math.archCeil" .up #[.float .f64 x] = pure (.float .f64 y)) (w : World) : Calls Tryz.prog 180 #[.float .f64 x] w fun e w' => e = .returned (.float .f64 y) ∧ w' = w := by
  have hx : ∀ w, (callFunc 216 #[.float .f64 x]).run Tryz.prog w = .ok (.value (.float .f64 y)) w := fun w => by
    rw [run_callFunc_extern Tryz.func216 (by kernel_rfl) (by kernel_rfl) (by kernel_rfl) (e := Extern.MathFloor.toIntegral "math.archCeil" .up) (by kernel_rfl), hr]
    rfl
  clear hr
  go_enter Tryz.func180, Tryz.ntmps180
  go_wp2
  go_ret
  exact ⟨rfl, rfl⟩

theorem integral_by' (nm : String) (tw : Toward) (x : Nat) {s : Bool} {m : Nat} {p : Int} {z : Nat} (hr : double.read x = .number s m p) (hz : double.write ((Datum.number s m p).integral tw) = z) : Extern.MathFloor.toIntegral nm tw #[.float .f64 x] = pure (.float .f64 z) := by
  have hG : ∃ G : Bool → Nat → Sem Value, Extern.MathFloor.toIntegral nm tw #[.float .f64 x] = (match FloatKind.f64.decode x with | .nan s t => G s t | d => pure (.float .f64 (FloatKind.f64.encode (d.integral tw)))) := ⟨_, rfl⟩
  obtain ⟨G, hG⟩ := hG
  have hdc : FloatKind.f64.decode x = .number s m p := hr
  rw [hG, hdc]
  show pure (Value.float .f64 (FloatKind.f64.encode ((Datum.number s m p).integral tw))) = _
  rw [← hz]
  rfl

theorem wf_round (x z : Nat) (h : ∀ w, Calls Tryz.prog 178 #[.float .f64 x] w fun e w' => e = .returned (.float .f64 z) ∧ w' = w) (w : World) : Calls Tryz.prog 153 #[.string ⟨#[114, 111, 117, 110, 100]⟩, .float .f64 x] w fun e w' => e = .returned (.float .f64 z) ∧ w' = w := by
  have H := hidE h
  clear h
  go_enter Tryz.func153, Tryz.ntmps153
  go_wp2_with (go_at_call 178; refine (H.out _).mono ?_; rintro e w' ⟨rfl, rfl⟩)
  go_ret
  exact ⟨rfl, rfl⟩

theorem wf_floor (x z : Nat) (h : ∀ w, Calls Tryz.prog 179 #[.float .f64 x] w fun e w' => e = .returned (.float .f64 z) ∧ w' = w) (w : World) : Calls Tryz.prog 153 #[.string ⟨#[102, 108, 111, 111, 114]⟩, .float .f64 x] w fun e w' => e = .returned (.float .f64 z) ∧ w' = w := by
  have H := hidE h
  clear h
  go_enter Tryz.func153, Tryz.ntmps153
  go_wp2_with (go_at_call 179; refine (H.out _).mono ?_; rintro e w' ⟨rfl, rfl⟩)
  go_ret
  exact ⟨rfl, rfl⟩

theorem wf_ceil (x z : Nat) (h : ∀ w, Calls Tryz.prog 180 #[.float .f64 x] w fun e w' => e = .returned (.float .f64 z) ∧ w' = w) (w : World) : Calls Tryz.prog 153 #[.string ⟨#[99, 101, 105, 108]⟩, .float .f64 x] w fun e w' => e = .returned (.float .f64 z) ∧ w' = w := by
  have H := hidE h
  clear h
  go_enter Tryz.func153, Tryz.ntmps153
  go_wp2_with (go_at_call 180; refine (H.out _).mono ?_; rintro e w' ⟨rfl, rfl⟩)
  go_ret
  exact ⟨rfl, rfl⟩

theorem wf_trunc (x z : Nat) (h : ∀ w, Calls Tryz.prog 181 #[.float .f64 x] w fun e w' => e = .returned (.float .f64 z) ∧ w' = w) (w : World) : Calls Tryz.prog 153 #[.string ⟨#[116, 114, 117, 110, 99]⟩, .float .f64 x] w fun e w' => e = .returned (.float .f64 z) ∧ w' = w := by
  have H := hidE h
  clear h
  go_enter Tryz.func153, Tryz.ntmps153
  go_wp2_with (go_at_call 181; refine (H.out _).mono ?_; rintro e w' ⟨rfl, rfl⟩)
  go_ret
  exact ⟨rfl, rfl⟩

/-- the four ways' spellings -/
def way (i : Fin 4) : ByteArray := match i with
  | 0 => ⟨#[116, 114, 117, 110, 99]⟩
  | 1 => ⟨#[102, 108, 111, 111, 114]⟩
  | 2 => ⟨#[99, 101, 105, 108]⟩
  | 3 => ⟨#[114, 111, 117, 110, 100]⟩

/-- a float without its fraction, each way; how the four lie to each other -/
theorem ways {x : Nat} (hx : x < 18446744073709551616) (fx : Flt.fin x = true) : ∃ (z : Fin 4 → Nat) (v : Fin 4 → Int),
    (∀ i, Flt.Made x (z i) (v i)) ∧ (∀ i w, Calls Tryz.prog 153 #[.string (way i), .float .f64 x] w fun e w' => e = .returned (.float .f64 (z i)) ∧ w' = w) ∧
    Flt.Lies (Flt.U x) (v 1) (v 2) (v 0) (v 3) ∧ Flt.Rounded x (z 3) (v 3) ∧ (double.read x).toInt .zero = some (v 0) ∧ Flt.U x < (v 1 + 1) * Flt.P ∧ (v 2 - 1) * Flt.P < Flt.U x := by
  obtain ⟨zt, zf, zc, t, f, c, ⟨s, m, p, hr, h1, h2, h3⟩, mt, mf, mc, ht, b1, b2, b3, b4, b5, b6⟩ := Flt.cut_all hx fx
  obtain ⟨zr, r, hR, hw⟩ := round_any hx fx
  refine ⟨fun i => match i with | 0 => zt | 1 => zf | 2 => zc | 3 => zr, fun i => match i with | 0 => t | 1 => f | 2 => c | 3 => r, ?_, ?_, Flt.lies b1 b2 b3 b4 b5 b6 hR, hR, ht, b2, b4⟩
  · intro i
    match i with
    | 0 => exact mt
    | 1 => exact mf
    | 2 => exact mc
    | 3 => exact hR.made
  · intro i
    match i with
    | 0 => exact wf_trunc x zt (trunc_to x zt (integral_by' _ _ x hr h1))
    | 1 => exact wf_floor x zf (floor_to x zf (integral_by' _ _ x hr h2))
    | 2 => exact wf_ceil x zc (ceil_to x zc (integral_by' _ _ x hr h3))
    | 3 => exact wf_round x zr hw
end Go.Proofs.YtgljglindgbjaaaGreatDoor


/- Whole of a right float: its number each way, or the limit. -/
namespace Go.Proofs.YtgljglindgbjaaaGreatDoor
open Go.RowKit
open Flt (ordI exactV)
attribute [local go_sem] store_float
attribute [local go_sem ↓] Go.wp_at_zero Go.wp_at_succ

theorem isWay_at (i : Fin 4) (w : World) : Calls Tryz.prog 152 #[.string (way i)] w fun e w' => e = .returned (.bool true) ∧ w' = w := by
  match i with
  | 0 =>
    show Calls Tryz.prog 152 #[.string ⟨#[116, 114, 117, 110, 99]⟩] w _
    go_enter Tryz.func152, Tryz.ntmps152
    go_wp2
    go_ret
    exact ⟨rfl, rfl⟩
  | 1 =>
    show Calls Tryz.prog 152 #[.string ⟨#[102, 108, 111, 111, 114]⟩] w _
    go_enter Tryz.func152, Tryz.ntmps152
    go_wp2
    go_ret
    exact ⟨rfl, rfl⟩
  | 2 =>
    show Calls Tryz.prog 152 #[.string ⟨#[99, 101, 105, 108]⟩] w _
    go_enter Tryz.func152, Tryz.ntmps152
    go_wp2
    go_ret
    exact ⟨rfl, rfl⟩
  | 3 =>
    show Calls Tryz.prog 152 #[.string ⟨#[114, 111, 117, 110, 100]⟩] w _
    go_enter Tryz.func152, Tryz.ntmps152
    go_wp2
    go_ret
    exact ⟨rfl, rfl⟩

set_option maxHeartbeats 1000000 in
theorem whole_in (how : ByteArray) (n v a1 a2 : Int) (x z : Nat) (s : ByteArray) (a : Option Addr) (l c : Nat) (hx : x < 18446744073709551616) (h : rightB 2 n x s l = true)
    (iw : ∀ w, Calls Tryz.prog 152 #[.string how] w fun e w' => e = .returned (.bool true) ∧ w' = w)
    (wf : ∀ w, Calls Tryz.prog 153 #[.string how, .float .f64 x] w fun e w' => e = .returned (.float .f64 z) ∧ w' = w)
    (e1 : ∀ w, Calls Tryz.prog 154 #[.float .f64 z, .int .i64 (-576460752303423488)] w fun e w' => e = .returned (.int .i64 a1) ∧ w' = w) (d1 : decide (a1 < 0) = false)
    (e2 : ∀ w, Calls Tryz.prog 154 #[.float .f64 z, .int .i64 576460752303423487] w fun e w' => e = .returned (.int .i64 a2) ∧ w' = w) (d2 : decide (0 < a2) = false)
    (c0 : ∀ w, (convert 25 2 (.float .f64 z)).run Tryz.prog w = .ok (.int .i64 v) w) (w : World) :
    Calls Tryz.prog 117 #[.string how, .agg #[.int .i64 2, .int .i64 n, .float .f64 x, .string s, .slice a l c]] w fun e w' =>
      e = .returned (.tuple #[.agg #[.int .i64 ((numInt v).k), .int .i64 ((numInt v).n), .float .f64 ((numInt v).f), .string ⟨#[]⟩, .slice none 0 0], .int .i64 (numInt v).e]) ∧ Below w.heap.size w w' := by
  have HR := hid h
  have IW := hid iw
  have WF := hid wf
  have E1 := hid e1
  have E2 := hid e2
  clear h iw wf e1 e2
  go_enter Tryz.func117, Tryz.ntmps117
  go_wp2_with fail
  refine (valueOf_yes 2 n x s a l c hx HR.out _).mono ?_
  rintro e w1 ⟨rfl, hb1⟩
  obtain ⟨RB, hW⟩ := afterA hb1
  have HRB := hid RB
  clear hb1 RB
  go_wp2_with fail
  refine (IW.out _).mono ?_
  rintro e w' ⟨rfl, rfl⟩
  go_wp2_with fail
  refine (real_at _ _ _ _).mono ?_
  rintro e w' ⟨rfl, rfl⟩
  go_wp2_with fail
  refine (WF.out _).mono ?_
  rintro e w' ⟨rfl, rfl⟩
  go_wp2_with fail
  refine (E1.out _).mono ?_
  rintro e w' ⟨rfl, rfl⟩
  go_wp2_with fail
  refine (E2.out _).mono ?_
  rintro e w' ⟨rfl, rfl⟩
  go_wp2_with fail
  refine (numInt_any _ _).mono ?_
  rintro e w2 ⟨rfl, hb2⟩
  have RB2 := ((HRB.out.alloc _).alloc _).keep hb2
  have hW2 := two_more hW hb2
  obtain ⟨d0', d1', d2', d3', d4', g0, g1, g2, g3, g4, ltr⟩ := RB2
  clear hb2 HRB
  go_wp2
  exact bodyPost_ret (v := .tuple #[.agg #[.int .i64 ((numInt v).k), .int .i64 ((numInt v).n), .float .f64 ((numInt v).f), .string ⟨#[]⟩, .slice none 0 0], .int .i64 (numInt v).e]) (by simp [results, Tryz.results117, go_sem, d0', d1', d2', d3', d4']) rfl ⟨rfl, below_set5 hW2 (by omega) _ _ _ _ _⟩

set_option maxHeartbeats 1000000 in
theorem whole_low (how : ByteArray) (n a1 : Int) (x z : Nat) (s : ByteArray) (a : Option Addr) (l c : Nat) (hx : x < 18446744073709551616) (h : rightB 2 n x s l = true)
    (iw : ∀ w, Calls Tryz.prog 152 #[.string how] w fun e w' => e = .returned (.bool true) ∧ w' = w)
    (wf : ∀ w, Calls Tryz.prog 153 #[.string how, .float .f64 x] w fun e w' => e = .returned (.float .f64 z) ∧ w' = w)
    (e1 : ∀ w, Calls Tryz.prog 154 #[.float .f64 z, .int .i64 (-576460752303423488)] w fun e w' => e = .returned (.int .i64 a1) ∧ w' = w) (d1 : decide (a1 < 0) = true) (w : World) :
    Calls Tryz.prog 117 #[.string how, .agg #[.int .i64 2, .int .i64 n, .float .f64 x, .string s, .slice a l c]] w fun e w' =>
      e = .returned (.tuple #[.agg #[.int .i64 (0), .int .i64 (0), .float .f64 (0), .string ⟨#[]⟩, .slice none 0 0], .int .i64 12]) ∧ Below w.heap.size w w' := by
  have HR := hid h
  have IW := hid iw
  have WF := hid wf
  have E1 := hid e1
  clear h iw wf e1
  go_enter Tryz.func117, Tryz.ntmps117
  go_wp2_with fail
  refine (valueOf_yes 2 n x s a l c hx HR.out _).mono ?_
  rintro e w1 ⟨rfl, hb1⟩
  obtain ⟨RB, hW⟩ := afterA hb1
  have HRB := hid RB
  clear hb1 RB
  go_wp2_with fail
  refine (IW.out _).mono ?_
  rintro e w' ⟨rfl, rfl⟩
  go_wp2_with fail
  refine (real_at _ _ _ _).mono ?_
  rintro e w' ⟨rfl, rfl⟩
  go_wp2_with fail
  refine (WF.out _).mono ?_
  rintro e w' ⟨rfl, rfl⟩
  go_wp2_with fail
  refine (E1.out _).mono ?_
  rintro e w' ⟨rfl, rfl⟩
  have RB2 := (HRB.out.alloc (.cells #[.int .i64 2, .int .i64 n, .int .u64 x] 114)).alloc (.cells #[.int .i64 2, .int .i64 n, .int .u64 x] 114)
  clear HRB
  obtain ⟨d0', d1', d2', d3', d4', g0, g1, g2, g3, g4, ltr⟩ := RB2
  go_wp2
  exact bodyPost_ret (v := .tuple #[.agg #[.int .i64 (0), .int .i64 (0), .float .f64 (0), .string ⟨#[]⟩, .slice none 0 0], .int .i64 12]) (by simp [results, Tryz.results117, go_sem, d0', d1', d2', d3', d4']) rfl ⟨rfl, below_set5 (below_a2 hW _ _) (by omega) _ _ _ _ _⟩

set_option maxHeartbeats 1000000 in
theorem whole_high (how : ByteArray) (n a1 a2 : Int) (x z : Nat) (s : ByteArray) (a : Option Addr) (l c : Nat) (hx : x < 18446744073709551616) (h : rightB 2 n x s l = true)
    (iw : ∀ w, Calls Tryz.prog 152 #[.string how] w fun e w' => e = .returned (.bool true) ∧ w' = w)
    (wf : ∀ w, Calls Tryz.prog 153 #[.string how, .float .f64 x] w fun e w' => e = .returned (.float .f64 z) ∧ w' = w)
    (e1 : ∀ w, Calls Tryz.prog 154 #[.float .f64 z, .int .i64 (-576460752303423488)] w fun e w' => e = .returned (.int .i64 a1) ∧ w' = w) (d1 : decide (a1 < 0) = false)
    (e2 : ∀ w, Calls Tryz.prog 154 #[.float .f64 z, .int .i64 576460752303423487] w fun e w' => e = .returned (.int .i64 a2) ∧ w' = w) (d2 : decide (0 < a2) = true) (w : World) :
    Calls Tryz.prog 117 #[.string how, .agg #[.int .i64 2, .int .i64 n, .float .f64 x, .string s, .slice a l c]] w fun e w' =>
      e = .returned (.tuple #[.agg #[.int .i64 (0), .int .i64 (0), .float .f64 (0), .string ⟨#[]⟩, .slice none 0 0], .int .i64 12]) ∧ Below w.heap.size w w' := by
  have HR := hid h
  have IW := hid iw
  have WF := hid wf
  have E1 := hid e1
  have E2 := hid e2
  clear h iw wf e1 e2
  go_enter Tryz.func117, Tryz.ntmps117
  go_wp2_with fail
  refine (valueOf_yes 2 n x s a l c hx HR.out _).mono ?_
  rintro e w1 ⟨rfl, hb1⟩
  obtain ⟨RB, hW⟩ := afterA hb1
  have HRB := hid RB
  clear hb1 RB
  go_wp2_with fail
  refine (IW.out _).mono ?_
  rintro e w' ⟨rfl, rfl⟩
  go_wp2_with fail
  refine (real_at _ _ _ _).mono ?_
  rintro e w' ⟨rfl, rfl⟩
  go_wp2_with fail
  refine (WF.out _).mono ?_
  rintro e w' ⟨rfl, rfl⟩
  go_wp2_with fail
  refine (E1.out _).mono ?_
  rintro e w' ⟨rfl, rfl⟩
  go_wp2_with fail
  refine (E2.out _).mono ?_
  rintro e w' ⟨rfl, rfl⟩
  have RB2 := (HRB.out.alloc (.cells #[.int .i64 2, .int .i64 n, .int .u64 x] 114)).alloc (.cells #[.int .i64 2, .int .i64 n, .int .u64 x] 114)
  clear HRB
  obtain ⟨d0', d1', d2', d3', d4', g0, g1, g2, g3, g4, ltr⟩ := RB2
  go_wp2
  exact bodyPost_ret (v := .tuple #[.agg #[.int .i64 (0), .int .i64 (0), .float .f64 (0), .string ⟨#[]⟩, .slice none 0 0], .int .i64 12]) (by simp [results, Tryz.results117, go_sem, d0', d1', d2', d3', d4']) rfl ⟨rfl, below_set5 (below_a2 hW _ _) (by omega) _ _ _ _ _⟩

end Go.Proofs.YtgljglindgbjaaaGreatDoor


