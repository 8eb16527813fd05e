import Derived.Test.YtgljglindgbjaaaGreatDoorG04
import Derived.Deep.DrawnRows
import Derived.Test.YtgljglindgbjaaaGreatDoorQ2
import Derived.Test.YtgljglindgbjaaaGreatDoorQ3
import Derived.Test.YtgljglindgbjaaaGreatDoorG31
import Derived.Test.YtgljglindgbjaaaGreatDoorG32
import Derived.Test.YtgljglindgbjaaaGreatDoorG33
import Derived.Test.YtgljglindgbjaaaGreatDoorG27
/- Contracts of Op on numbers that are reckoned as floats: products. -/
namespace Go.Proofs.YtgljglindgbjaaaGreatDoor
open Go.RowKit
attribute [local go_sem] store_float
attribute [local go_sem ↓] Go.wp_at_zero Go.wp_at_succ

set_option maxHeartbeats 2000000 in
theorem op_fmul_a (ka kb : Int) (na nb : Int) (fa fb : Nat) (sa sb : ByteArray) (aa ab : Option Addr) (la ca lb cb : Nat) (ha : rightB ka na fa sa la = true) (hb : rightB kb nb fb sb lb = true) (hfa : fa < 18446744073709551616) (hfb : fb < 18446744073709551616) (hka : (ka == 1) = true) (hkb : (kb == 1) = false) (w : World) :
    Calls Tryz.prog 98 #[.string ⟨#[42]⟩, .agg #[.int .i64 ka, .int .i64 na, .float .f64 fa, .string sa, .slice aa la ca], .agg #[.int .i64 kb, .int .i64 nb, .float .f64 fb, .string sb, .slice ab lb cb]] w fun e w' => e = .returned (.tuple #[.agg #[.int .i64 ((fltR (floatBits .mul .f64 (realV ka na fa) (realV kb nb fb))).k), .int .i64 ((fltR (floatBits .mul .f64 (realV ka na fa) (realV kb nb fb))).n), .float .f64 ((fltR (floatBits .mul .f64 (realV ka na fa) (realV kb nb fb))).f), .string ⟨#[]⟩, .slice none 0 0], .int .i64 (fltR (floatBits .mul .f64 (realV ka na fa) (realV kb nb fb))).e]) ∧ Below w.heap.size w w' := by
  have HA : Hid (rightB ka na fa sa la = true) := ha
  have HB : Hid (rightB kb nb fb sb lb = true) := hb
  clear ha hb
  go_enter Tryz.func98, Tryz.ntmps98
  go_wp2_with fail
  refine (isSign_yes _ (by simp) _).mono ?_
  rintro e w' ⟨rfl, rfl⟩
  go_wp2_with fail
  refine (valueOf_yes ka na fa sa aa la ca hfa HA.out _).mono ?_
  rintro e w1 ⟨rfl, hb1⟩
  obtain ⟨⟨c0, c1, c2, c3, c4, _, _, _, _, _, lt⟩, RB, hW⟩ := after3 hb1
  have HRB := hid RB
  clear hb1 RB
  go_wp2_with fail
  refine (valueOf_yes kb nb fb sb ab lb cb hfb HB.out _).mono ?_
  rintro e w2 ⟨rfl, hb2⟩
  clear c0 c1 c2 c3 c4 lt
  obtain ⟨⟨x0, x1, x2, ltx⟩, hk, hW2⟩ := later3 hW hb2
  have HRB2 := hid (HRB.out.keep hk)
  clear hb2 hk hW HRB
  go_wp2_with fail
  go_region_with (first
    | (go_at_call 146; refine (real_at _ _ _ _).mono ?_; rintro e w' ⟨rfl, rfl⟩)
    | (go_at_call 145; refine (rf_mul _ _ _).mono ?_; rintro e w3 ⟨rfl, hb3⟩; obtain ⟨⟨d0, d1, d2, d3, d4, g0, g1, g2, g3, g4, ltr⟩, hW3⟩ := keepR HRB2.out hW2 hb3; clear hb3))
  all_goals go_wp2
  all_goals exact bodyPost_ret (v := .tuple #[.agg #[.int .i64 ((fltR (floatBits .mul .f64 (realV ka na fa) (realV kb nb fb))).k), .int .i64 ((fltR (floatBits .mul .f64 (realV ka na fa) (realV kb nb fb))).n), .float .f64 ((fltR (floatBits .mul .f64 (realV ka na fa) (realV kb nb fb))).f), .string ⟨#[]⟩, .slice none 0 0], .int .i64 (fltR (floatBits .mul .f64 (realV ka na fa) (realV kb nb fb))).e]) (by simp [results, Tryz.results98, go_sem, d0, d1, d2, d3, d4]) rfl ⟨rfl, below_set5 hW3 (by omega) _ _ _ _ _⟩

set_option maxHeartbeats 2000000 in
theorem op_fmul_b (ka kb : Int) (na nb : Int) (fa fb : Nat) (sa sb : ByteArray) (aa ab : Option Addr) (la ca lb cb : Nat) (ha : rightB ka na fa sa la = true) (hb : rightB kb nb fb sb lb = true) (hfa : fa < 18446744073709551616) (hfb : fb < 18446744073709551616) (hka : (ka == 1) = false) (w : World) :
    Calls Tryz.prog 98 #[.string ⟨#[42]⟩, .agg #[.int .i64 ka, .int .i64 na, .float .f64 fa, .string sa, .slice aa la ca], .agg #[.int .i64 kb, .int .i64 nb, .float .f64 fb, .string sb, .slice ab lb cb]] w fun e w' => e = .returned (.tuple #[.agg #[.int .i64 ((fltR (floatBits .mul .f64 (realV ka na fa) (realV kb nb fb))).k), .int .i64 ((fltR (floatBits .mul .f64 (realV ka na fa) (realV kb nb fb))).n), .float .f64 ((fltR (floatBits .mul .f64 (realV ka na fa) (realV kb nb fb))).f), .string ⟨#[]⟩, .slice none 0 0], .int .i64 (fltR (floatBits .mul .f64 (realV ka na fa) (realV kb nb fb))).e]) ∧ Below w.heap.size w w' := by
  have HA : Hid (rightB ka na fa sa la = true) := ha
  have HB : Hid (rightB kb nb fb sb lb = true) := hb
  clear ha hb
  go_enter Tryz.func98, Tryz.ntmps98
  go_wp2_with fail
  refine (isSign_yes _ (by simp) _).mono ?_
  rintro e w' ⟨rfl, rfl⟩
  go_wp2_with fail
  refine (valueOf_yes ka na fa sa aa la ca hfa HA.out _).mono ?_
  rintro e w1 ⟨rfl, hb1⟩
  obtain ⟨⟨c0, c1, c2, c3, c4, _, _, _, _, _, lt⟩, RB, hW⟩ := after3 hb1
  have HRB := hid RB
  clear hb1 RB
  go_wp2_with fail
  refine (valueOf_yes kb nb fb sb ab lb cb hfb HB.out _).mono ?_
  rintro e w2 ⟨rfl, hb2⟩
  clear c0 c1 c2 c3 c4 lt
  obtain ⟨⟨x0, x1, x2, ltx⟩, hk, hW2⟩ := later3 hW hb2
  have HRB2 := hid (HRB.out.keep hk)
  clear hb2 hk hW HRB
  go_wp2_with fail
  go_region_with (first
    | (go_at_call 146; refine (real_at _ _ _ _).mono ?_; rintro e w' ⟨rfl, rfl⟩)
    | (go_at_call 145; refine (rf_mul _ _ _).mono ?_; rintro e w3 ⟨rfl, hb3⟩; obtain ⟨⟨d0, d1, d2, d3, d4, g0, g1, g2, g3, g4, ltr⟩, hW3⟩ := keepR HRB2.out hW2 hb3; clear hb3))
  all_goals go_wp2
  all_goals exact bodyPost_ret (v := .tuple #[.agg #[.int .i64 ((fltR (floatBits .mul .f64 (realV ka na fa) (realV kb nb fb))).k), .int .i64 ((fltR (floatBits .mul .f64 (realV ka na fa) (realV kb nb fb))).n), .float .f64 ((fltR (floatBits .mul .f64 (realV ka na fa) (realV kb nb fb))).f), .string ⟨#[]⟩, .slice none 0 0], .int .i64 (fltR (floatBits .mul .f64 (realV ka na fa) (realV kb nb fb))).e]) (by simp [results, Tryz.results98, go_sem, d0, d1, d2, d3, d4]) rfl ⟨rfl, below_set5 hW3 (by omega) _ _ _ _ _⟩

theorem op_fmul (ka kb : Int) (na nb : Int) (fa fb : Nat) (sa sb : ByteArray) (aa ab : Option Addr) (la ca lb cb : Nat) (ha : rightB ka na fa sa la = true) (hb : rightB kb nb fb sb lb = true) (hfa : fa < 18446744073709551616) (hfb : fb < 18446744073709551616) (hk : ¬ (ka = 1 ∧ kb = 1)) (w : World) :
    Calls Tryz.prog 98 #[.string ⟨#[42]⟩, .agg #[.int .i64 ka, .int .i64 na, .float .f64 fa, .string sa, .slice aa la ca], .agg #[.int .i64 kb, .int .i64 nb, .float .f64 fb, .string sb, .slice ab lb cb]] w fun e w' => e = .returned (.tuple #[.agg #[.int .i64 ((fltR (floatBits .mul .f64 (realV ka na fa) (realV kb nb fb))).k), .int .i64 ((fltR (floatBits .mul .f64 (realV ka na fa) (realV kb nb fb))).n), .float .f64 ((fltR (floatBits .mul .f64 (realV ka na fa) (realV kb nb fb))).f), .string ⟨#[]⟩, .slice none 0 0], .int .i64 (fltR (floatBits .mul .f64 (realV ka na fa) (realV kb nb fb))).e]) ∧ Below w.heap.size w w' := by
  cases hka : (ka == 1)
  · exact op_fmul_b ka kb na nb fa fb sa sb aa ab la ca lb cb ha hb hfa hfb hka w
  · exact op_fmul_a ka kb na nb fa fb sa sb aa ab la ca lb cb ha hb hfa hfb hka (by simp at hka ⊢; exact fun h => hk ⟨hka, h⟩) w
end Go.Proofs.YtgljglindgbjaaaGreatDoor


/- Both Ops tell the same: a right number, or an error and nothing. -/
namespace Go.Proofs.YtgljglindgbjaaaGreatDoor
open Go.RowKit
attribute [local go_sem] store_float
attribute [local go_sem ↓] Go.wp_at_zero Go.wp_at_succ

set_option maxHeartbeats 2000000 in
theorem rop_bad (g : ByteArray) (ka na : Int) (fa : Nat) (sa : ByteArray) (aa : Option Addr) (la ca : Nat) (kb nb : Int) (fb : Nat) (sb : ByteArray) (ab : Option Addr) (lb cb : Nat) (h1 : (g.toList == [43]) = false) (h2 : (g.toList == [45]) = false) (h3 : (g.toList == [42]) = false) (h4 : (g.toList == [47]) = false) (h5 : (g.toList == [100, 105, 118]) = false) (h6 : (g.toList == [114, 101, 109]) = false) (w : World) :
    Calls Tryz.prog 20 #[.string g, .agg #[.int .i64 ka, .int .i64 na, .float .f64 fa, .string sa, .slice aa la ca], .agg #[.int .i64 kb, .int .i64 nb, .float .f64 fb, .string sb, .slice ab lb cb]] w fun e w' => e = .returned (.tuple #[.agg #[.int .i64 (0), .int .i64 (0), .float .f64 (0), .string ⟨#[]⟩, .slice none 0 0], .int .i64 13]) ∧ Below w.heap.size w w' := by
  go_enter Tryz.func20, Tryz.ntmps20
  go_wp2
  exact bodyPost_ret (v := .tuple #[.agg #[.int .i64 (0), .int .i64 (0), .float .f64 (0), .string ⟨#[]⟩, .slice none 0 0], .int .i64 13]) (by simp [results, Tryz.results20, go_sem]) rfl ⟨rfl, three_new _ _ _⟩

theorem right_parts {k n : Int} {f : Nat} {s : ByteArray} {l : Nat} (h : rightB k n f s l = true) : s.toList.isEmpty = true ∧ l = 0 ∧ ((k = 1 ∧ whB n = true ∧ f = 0) ∨ (k = 2 ∧ n = 0 ∧ Flt.fin f = true)) := by
  simp only [rightB, Bool.and_eq_true, Bool.or_eq_true, beq_iff_eq] at h
  obtain ⟨⟨h1, hs⟩, hl⟩ := h
  refine ⟨hs, hl, ?_⟩
  rcases h1 with ⟨⟨a, b⟩, c⟩ | ⟨⟨a, b⟩, c⟩
  · exact Or.inl ⟨a, b, c⟩
  · exact Or.inr ⟨a, b, c⟩

theorem realV_ok {k n : Int} {f : Nat} {s : ByteArray} {l : Nat} (hf : f < 18446744073709551616) (h : rightB k n f s l = true) : realV k n f < 18446744073709551616 ∧ Flt.fin (realV k n f) = true := by
  obtain ⟨_, _, ⟨rfl, hw, rfl⟩ | ⟨rfl, rfl, hff⟩⟩ := right_parts h
  · obtain ⟨b1, b2⟩ := whB_yes hw
    refine ⟨?_, ?_⟩
    · have := floatOfInt_wf .f64 n
      show floatOfInt .f64 n < _
      simpa [Lit.wf] using this
    · show Flt.fin (floatOfInt .f64 n) = true
      rw [foi]; exact Flt.near_fin _ (by omega)
  · exact ⟨hf, hff⟩

theorem zero_order {y : Nat} (hy : y < 18446744073709551616) (fy : Flt.fin y = true) : (zB y = true → FloatKind.f64.format.order y 0 = some .eq) ∧ (zB y = false → FloatKind.f64.format.order y 0 = some .lt ∨ FloatKind.f64.format.order y 0 = some .gt) := by
  have o : FloatKind.f64.format.order y 0 = some (compare (Flt.U y) 0) := by
    show Ieee.double.order y 0 = _
    rw [Flt.order_U hy (by decide) fy (by decide), Flt.U_zero]
  obtain ⟨m, p, hr, hc, hp, he⟩ := Flt.read_canon hy fy
  have hU : Flt.U y = _ := Flt.U_of hr
  have l1 := hc.lo
  have l3 := hc.norm
  constructor
  · intro h
    have h0 : y % 9223372036854775808 = 0 := by simpa [zB] using h
    have m0 : m = 0 := by omega
    subst m0
    have : Flt.U y = 0 := by rw [hU]; simp [Flt.unit, Ieee.signed]
    rw [this] at o
    exact o
  · intro h
    have h0 : y % 9223372036854775808 ≠ 0 := by simpa [zB] using h
    have m0 : 0 < m := by
      rcases Nat.eq_zero_or_pos m with hm | hm
      · exfalso; subst hm; omega
      · exact hm
    have hne : Flt.U y ≠ 0 := by
      rw [hU]
      unfold Flt.unit Ieee.signed
      rw [Nat.shiftLeft_eq]
      have := Nat.mul_pos m0 (Nat.two_pow_pos (p + 1074).toNat)
      generalize m * 2 ^ (p + 1074).toNat = q at this
      split <;> omega
    rcases Int.lt_or_gt_of_ne hne with h' | h'
    · rw [Int.compare_eq_lt.2 h'] at o; exact Or.inl o
    · rw [Int.compare_eq_gt.2 h'] at o; exact Or.inr o

theorem bytes_are {s : ByteArray} {l : List UInt8} (h : (s.toList == l) = true) : s = ⟨l.toArray⟩ := by
  rw [ByteArray.toList_eq] at h
  have h2 : s.data.toList = l := by simpa using h
  apply ByteArray.ext
  rw [← h2]

/-- what may be told: a right number, or an error and nothing -/
def ToldN (r : R) : Prop := (r.e = 0 ∧ ((r.k = 1 ∧ whB r.n = true ∧ r.f = 0) ∨ (r.k = 2 ∧ r.n = 0 ∧ Flt.fin r.f = true ∧ r.f < 18446744073709551616))) ∨ ((r.e = 11 ∨ r.e = 12 ∨ r.e = 13) ∧ r.k = 0 ∧ r.n = 0 ∧ r.f = 0)
theorem toldN_int (z : Int) : ToldN (numInt z) := by
  unfold numInt
  split
  · rename_i h; exact Or.inl ⟨rfl, Or.inl ⟨rfl, h, rfl⟩⟩
  · exact Or.inr ⟨by decide, rfl, rfl, rfl⟩
theorem toldN_bits (u : Nat) (hu : u < 18446744073709551616) : ToldN (numBits u) := by
  unfold numBits
  split
  · rename_i h; exact Or.inl ⟨rfl, Or.inr ⟨rfl, rfl, h, hu⟩⟩
  · exact Or.inr ⟨by decide, rfl, rfl, rfl⟩
theorem toldN_11 : ToldN ⟨0, 0, 0, 11⟩ := Or.inr ⟨by decide, rfl, rfl, rfl⟩
theorem toldN_13 : ToldN ⟨0, 0, 0, 13⟩ := Or.inr ⟨by decide, rfl, rfl, rfl⟩

/-- what both Ops tell -/
def OpBoth (g : ByteArray) (a b : Value) : Prop := ∃ r : R, ToldN r ∧
  (∀ w, Calls Tryz.prog 98 #[.string g, a, b] w fun e w' => e = .returned (.tuple #[.agg #[.int .i64 (r.k), .int .i64 (r.n), .float .f64 (r.f), .string ⟨#[]⟩, .slice none 0 0], .int .i64 r.e]) ∧ Below w.heap.size w w') ∧
  (∀ w, Calls Tryz.prog 20 #[.string g, a, b] w fun e w' => e = .returned (.tuple #[.agg #[.int .i64 (r.k), .int .i64 (r.n), .float .f64 (r.f), .string ⟨#[]⟩, .slice none 0 0], .int .i64 r.e]) ∧ Below w.heap.size w w')

theorem both_add (ka na : Int) (fa : Nat) (sa : ByteArray) (aa : Option Addr) (la ca : Nat) (kb nb : Int) (fb : Nat) (sb : ByteArray) (ab : Option Addr) (lb cb : Nat) (hfa : fa < 18446744073709551616) (hfb : fb < 18446744073709551616) (ha : rightB ka na fa sa la = true) (hb : rightB kb nb fb sb lb = true) : OpBoth ⟨#[43]⟩ (.agg #[.int .i64 ka, .int .i64 na, .float .f64 fa, .string sa, .slice aa la ca]) (.agg #[.int .i64 kb, .int .i64 nb, .float .f64 fb, .string sb, .slice ab lb cb]) := by
  have va := realV_ok hfa ha
  have vb := realV_ok hfb hb
  rcases right_parts ha with ⟨_, _, ⟨ea, wa, ea2⟩ | ⟨ea, ea2, fina⟩⟩ <;> rcases right_parts hb with ⟨_, _, ⟨eb, wb, eb2⟩ | ⟨eb, eb2, finb⟩⟩
  · subst ea eb
    have ba := whB_yes wa
    have bb := whB_yes wb
    exact ⟨_, (by first | exact toldN_11 | exact toldN_13 | exact toldN_bits _ (floatBits_lt hr) | exact toldN_int _), op_wadd na nb fa fb sa sb aa ab la ca lb cb ha hb hfa hfb wa wb, rop_add_w na nb fa fb sa sb aa ab la ca lb cb ha hb wa wb⟩
  · subst ea eb
    have ba := whB_yes wa
    have hN := op_fadd 1 2 na nb fa fb sa sb aa ab la ca lb cb ha hb hfa hfb (by omega)
    cases hr : floatBits .add .f64 (realV 1 na fa) (realV 2 nb fb) with
    | none =>
      rw [hr] at hN
      exact ⟨⟨0, 0, 0, 11⟩, (by first | exact toldN_11 | exact toldN_13 | exact toldN_bits _ (floatBits_lt hr) | exact toldN_int _), hN, rop_add_none12 na nb fa fb sa sb aa ab la ca lb cb ha hb (by omega) (by omega) _ _ rfl rfl hr⟩
    | some r =>
      rw [hr] at hN
      exact ⟨numBits r, (by first | exact toldN_11 | exact toldN_13 | exact toldN_bits _ (floatBits_lt hr) | exact toldN_int _), hN, rop_add_some12 na nb fa fb sa sb aa ab la ca lb cb ha hb (by omega) (by omega) _ _ rfl rfl r hr⟩
  · subst ea eb
    have bb := whB_yes wb
    have hN := op_fadd 2 1 na nb fa fb sa sb aa ab la ca lb cb ha hb hfa hfb (by omega)
    cases hr : floatBits .add .f64 (realV 2 na fa) (realV 1 nb fb) with
    | none =>
      rw [hr] at hN
      exact ⟨⟨0, 0, 0, 11⟩, (by first | exact toldN_11 | exact toldN_13 | exact toldN_bits _ (floatBits_lt hr) | exact toldN_int _), hN, rop_add_none21 na nb fa fb sa sb aa ab la ca lb cb ha hb (by omega) (by omega) _ _ rfl rfl hr⟩
    | some r =>
      rw [hr] at hN
      exact ⟨numBits r, (by first | exact toldN_11 | exact toldN_13 | exact toldN_bits _ (floatBits_lt hr) | exact toldN_int _), hN, rop_add_some21 na nb fa fb sa sb aa ab la ca lb cb ha hb (by omega) (by omega) _ _ rfl rfl r hr⟩
  · subst ea eb
    have hN := op_fadd 2 2 na nb fa fb sa sb aa ab la ca lb cb ha hb hfa hfb (by omega)
    cases hr : floatBits .add .f64 (realV 2 na fa) (realV 2 nb fb) with
    | none =>
      rw [hr] at hN
      exact ⟨⟨0, 0, 0, 11⟩, (by first | exact toldN_11 | exact toldN_13 | exact toldN_bits _ (floatBits_lt hr) | exact toldN_int _), hN, rop_add_none22 na nb fa fb sa sb aa ab la ca lb cb ha hb _ _ rfl rfl hr⟩
    | some r =>
      rw [hr] at hN
      exact ⟨numBits r, (by first | exact toldN_11 | exact toldN_13 | exact toldN_bits _ (floatBits_lt hr) | exact toldN_int _), hN, rop_add_some22 na nb fa fb sa sb aa ab la ca lb cb ha hb _ _ rfl rfl r hr⟩

theorem both_sub (ka na : Int) (fa : Nat) (sa : ByteArray) (aa : Option Addr) (la ca : Nat) (kb nb : Int) (fb : Nat) (sb : ByteArray) (ab : Option Addr) (lb cb : Nat) (hfa : fa < 18446744073709551616) (hfb : fb < 18446744073709551616) (ha : rightB ka na fa sa la = true) (hb : rightB kb nb fb sb lb = true) : OpBoth ⟨#[45]⟩ (.agg #[.int .i64 ka, .int .i64 na, .float .f64 fa, .string sa, .slice aa la ca]) (.agg #[.int .i64 kb, .int .i64 nb, .float .f64 fb, .string sb, .slice ab lb cb]) := by
  have va := realV_ok hfa ha
  have vb := realV_ok hfb hb
  rcases right_parts ha with ⟨_, _, ⟨ea, wa, ea2⟩ | ⟨ea, ea2, fina⟩⟩ <;> rcases right_parts hb with ⟨_, _, ⟨eb, wb, eb2⟩ | ⟨eb, eb2, finb⟩⟩
  · subst ea eb
    have ba := whB_yes wa
    have bb := whB_yes wb
    exact ⟨_, (by first | exact toldN_11 | exact toldN_13 | exact toldN_bits _ (floatBits_lt hr) | exact toldN_int _), op_wsub na nb fa fb sa sb aa ab la ca lb cb ha hb hfa hfb wa wb, rop_sub_w na nb fa fb sa sb aa ab la ca lb cb ha hb wa wb⟩
  · subst ea eb
    have ba := whB_yes wa
    have hN := op_fsub 1 2 na nb fa fb sa sb aa ab la ca lb cb ha hb hfa hfb (by omega)
    cases hr : floatBits .sub .f64 (realV 1 na fa) (realV 2 nb fb) with
    | none =>
      rw [hr] at hN
      exact ⟨⟨0, 0, 0, 11⟩, (by first | exact toldN_11 | exact toldN_13 | exact toldN_bits _ (floatBits_lt hr) | exact toldN_int _), hN, rop_sub_none12 na nb fa fb sa sb aa ab la ca lb cb ha hb (by omega) (by omega) _ _ rfl rfl hr⟩
    | some r =>
      rw [hr] at hN
      exact ⟨numBits r, (by first | exact toldN_11 | exact toldN_13 | exact toldN_bits _ (floatBits_lt hr) | exact toldN_int _), hN, rop_sub_some12 na nb fa fb sa sb aa ab la ca lb cb ha hb (by omega) (by omega) _ _ rfl rfl r hr⟩
  · subst ea eb
    have bb := whB_yes wb
    have hN := op_fsub 2 1 na nb fa fb sa sb aa ab la ca lb cb ha hb hfa hfb (by omega)
    cases hr : floatBits .sub .f64 (realV 2 na fa) (realV 1 nb fb) with
    | none =>
      rw [hr] at hN
      exact ⟨⟨0, 0, 0, 11⟩, (by first | exact toldN_11 | exact toldN_13 | exact toldN_bits _ (floatBits_lt hr) | exact toldN_int _), hN, rop_sub_none21 na nb fa fb sa sb aa ab la ca lb cb ha hb (by omega) (by omega) _ _ rfl rfl hr⟩
    | some r =>
      rw [hr] at hN
      exact ⟨numBits r, (by first | exact toldN_11 | exact toldN_13 | exact toldN_bits _ (floatBits_lt hr) | exact toldN_int _), hN, rop_sub_some21 na nb fa fb sa sb aa ab la ca lb cb ha hb (by omega) (by omega) _ _ rfl rfl r hr⟩
  · subst ea eb
    have hN := op_fsub 2 2 na nb fa fb sa sb aa ab la ca lb cb ha hb hfa hfb (by omega)
    cases hr : floatBits .sub .f64 (realV 2 na fa) (realV 2 nb fb) with
    | none =>
      rw [hr] at hN
      exact ⟨⟨0, 0, 0, 11⟩, (by first | exact toldN_11 | exact toldN_13 | exact toldN_bits _ (floatBits_lt hr) | exact toldN_int _), hN, rop_sub_none22 na nb fa fb sa sb aa ab la ca lb cb ha hb _ _ rfl rfl hr⟩
    | some r =>
      rw [hr] at hN
      exact ⟨numBits r, (by first | exact toldN_11 | exact toldN_13 | exact toldN_bits _ (floatBits_lt hr) | exact toldN_int _), hN, rop_sub_some22 na nb fa fb sa sb aa ab la ca lb cb ha hb _ _ rfl rfl r hr⟩

theorem both_mul (ka na : Int) (fa : Nat) (sa : ByteArray) (aa : Option Addr) (la ca : Nat) (kb nb : Int) (fb : Nat) (sb : ByteArray) (ab : Option Addr) (lb cb : Nat) (hfa : fa < 18446744073709551616) (hfb : fb < 18446744073709551616) (ha : rightB ka na fa sa la = true) (hb : rightB kb nb fb sb lb = true) : OpBoth ⟨#[42]⟩ (.agg #[.int .i64 ka, .int .i64 na, .float .f64 fa, .string sa, .slice aa la ca]) (.agg #[.int .i64 kb, .int .i64 nb, .float .f64 fb, .string sb, .slice ab lb cb]) := by
  have va := realV_ok hfa ha
  have vb := realV_ok hfb hb
  rcases right_parts ha with ⟨_, _, ⟨ea, wa, ea2⟩ | ⟨ea, ea2, fina⟩⟩ <;> rcases right_parts hb with ⟨_, _, ⟨eb, wb, eb2⟩ | ⟨eb, eb2, finb⟩⟩
  · subst ea eb
    have ba := whB_yes wa
    have bb := whB_yes wb
    exact ⟨_, (by first | exact toldN_11 | exact toldN_13 | exact toldN_bits _ (floatBits_lt hr) | exact toldN_int _), op_wmul na nb fa fb sa sb aa ab la ca lb cb ha hb hfa hfb wa wb, rop_mul_w na nb fa fb sa sb aa ab la ca lb cb ha hb wa wb⟩
  · subst ea eb
    have ba := whB_yes wa
    have hN := op_fmul 1 2 na nb fa fb sa sb aa ab la ca lb cb ha hb hfa hfb (by omega)
    cases hr : floatBits .mul .f64 (realV 1 na fa) (realV 2 nb fb) with
    | none =>
      rw [hr] at hN
      exact ⟨⟨0, 0, 0, 11⟩, (by first | exact toldN_11 | exact toldN_13 | exact toldN_bits _ (floatBits_lt hr) | exact toldN_int _), hN, rop_mul_none12 na nb fa fb sa sb aa ab la ca lb cb ha hb (by omega) (by omega) _ _ rfl rfl hr⟩
    | some r =>
      rw [hr] at hN
      exact ⟨numBits r, (by first | exact toldN_11 | exact toldN_13 | exact toldN_bits _ (floatBits_lt hr) | exact toldN_int _), hN, rop_mul_some12 na nb fa fb sa sb aa ab la ca lb cb ha hb (by omega) (by omega) _ _ rfl rfl r hr⟩
  · subst ea eb
    have bb := whB_yes wb
    have hN := op_fmul 2 1 na nb fa fb sa sb aa ab la ca lb cb ha hb hfa hfb (by omega)
    cases hr : floatBits .mul .f64 (realV 2 na fa) (realV 1 nb fb) with
    | none =>
      rw [hr] at hN
      exact ⟨⟨0, 0, 0, 11⟩, (by first | exact toldN_11 | exact toldN_13 | exact toldN_bits _ (floatBits_lt hr) | exact toldN_int _), hN, rop_mul_none21 na nb fa fb sa sb aa ab la ca lb cb ha hb (by omega) (by omega) _ _ rfl rfl hr⟩
    | some r =>
      rw [hr] at hN
      exact ⟨numBits r, (by first | exact toldN_11 | exact toldN_13 | exact toldN_bits _ (floatBits_lt hr) | exact toldN_int _), hN, rop_mul_some21 na nb fa fb sa sb aa ab la ca lb cb ha hb (by omega) (by omega) _ _ rfl rfl r hr⟩
  · subst ea eb
    have hN := op_fmul 2 2 na nb fa fb sa sb aa ab la ca lb cb ha hb hfa hfb (by omega)
    cases hr : floatBits .mul .f64 (realV 2 na fa) (realV 2 nb fb) with
    | none =>
      rw [hr] at hN
      exact ⟨⟨0, 0, 0, 11⟩, (by first | exact toldN_11 | exact toldN_13 | exact toldN_bits _ (floatBits_lt hr) | exact toldN_int _), hN, rop_mul_none22 na nb fa fb sa sb aa ab la ca lb cb ha hb _ _ rfl rfl hr⟩
    | some r =>
      rw [hr] at hN
      exact ⟨numBits r, (by first | exact toldN_11 | exact toldN_13 | exact toldN_bits _ (floatBits_lt hr) | exact toldN_int _), hN, rop_mul_some22 na nb fa fb sa sb aa ab la ca lb cb ha hb _ _ rfl rfl r hr⟩

theorem both_quo (ka na : Int) (fa : Nat) (sa : ByteArray) (aa : Option Addr) (la ca : Nat) (kb nb : Int) (fb : Nat) (sb : ByteArray) (ab : Option Addr) (lb cb : Nat) (hfa : fa < 18446744073709551616) (hfb : fb < 18446744073709551616) (ha : rightB ka na fa sa la = true) (hb : rightB kb nb fb sb lb = true) : OpBoth ⟨#[47]⟩ (.agg #[.int .i64 ka, .int .i64 na, .float .f64 fa, .string sa, .slice aa la ca]) (.agg #[.int .i64 kb, .int .i64 nb, .float .f64 fb, .string sb, .slice ab lb cb]) := by
  have va := realV_ok hfa ha
  have vb := realV_ok hfb hb
  rcases right_parts ha with ⟨_, _, ⟨ea, wa, ea2⟩ | ⟨ea, ea2, fina⟩⟩ <;> rcases right_parts hb with ⟨_, _, ⟨eb, wb, eb2⟩ | ⟨eb, eb2, finb⟩⟩
  · subst ea eb
    have ba := whB_yes wa
    have bb := whB_yes wb
    cases hz : zB (realV 1 nb fb)
    · have hN := op_quo 1 1 na nb fa fb sa sb aa ab la ca lb cb ha hb hfa hfb hz
      have oz := (zero_order vb.1 vb.2).2 hz
      cases hr : floatBits .quo .f64 (realV 1 na fa) (realV 1 nb fb) with
      | none =>
        rw [hr] at hN
        exact ⟨⟨0, 0, 0, 11⟩, (by first | exact toldN_11 | exact toldN_13 | exact toldN_bits _ (floatBits_lt hr) | exact toldN_int _), hN, rop_quo_none11 na nb fa fb sa sb aa ab la ca lb cb ha hb (by omega) (by omega) (by omega) (by omega) _ _ rfl rfl oz hr⟩
      | some r =>
        rw [hr] at hN
        exact ⟨numBits r, (by first | exact toldN_11 | exact toldN_13 | exact toldN_bits _ (floatBits_lt hr) | exact toldN_int _), hN, rop_quo_some11 na nb fa fb sa sb aa ab la ca lb cb ha hb (by omega) (by omega) (by omega) (by omega) _ _ rfl rfl oz r hr⟩
    · exact ⟨⟨0, 0, 0, 11⟩, (by first | exact toldN_11 | exact toldN_13 | exact toldN_bits _ (floatBits_lt hr) | exact toldN_int _), op_quoz 1 1 na nb fa fb sa sb aa ab la ca lb cb ha hb hfa hfb hz, rop_quo_zero11 na nb fa fb sa sb aa ab la ca lb cb ha hb (by omega) (by omega) (by omega) (by omega) _ _ rfl rfl ((zero_order vb.1 vb.2).1 hz)⟩
  · subst ea eb
    have ba := whB_yes wa
    cases hz : zB (realV 2 nb fb)
    · have hN := op_quo 1 2 na nb fa fb sa sb aa ab la ca lb cb ha hb hfa hfb hz
      have oz := (zero_order vb.1 vb.2).2 hz
      cases hr : floatBits .quo .f64 (realV 1 na fa) (realV 2 nb fb) with
      | none =>
        rw [hr] at hN
        exact ⟨⟨0, 0, 0, 11⟩, (by first | exact toldN_11 | exact toldN_13 | exact toldN_bits _ (floatBits_lt hr) | exact toldN_int _), hN, rop_quo_none12 na nb fa fb sa sb aa ab la ca lb cb ha hb (by omega) (by omega) _ _ rfl rfl oz hr⟩
      | some r =>
        rw [hr] at hN
        exact ⟨numBits r, (by first | exact toldN_11 | exact toldN_13 | exact toldN_bits _ (floatBits_lt hr) | exact toldN_int _), hN, rop_quo_some12 na nb fa fb sa sb aa ab la ca lb cb ha hb (by omega) (by omega) _ _ rfl rfl oz r hr⟩
    · exact ⟨⟨0, 0, 0, 11⟩, (by first | exact toldN_11 | exact toldN_13 | exact toldN_bits _ (floatBits_lt hr) | exact toldN_int _), op_quoz 1 2 na nb fa fb sa sb aa ab la ca lb cb ha hb hfa hfb hz, rop_quo_zero12 na nb fa fb sa sb aa ab la ca lb cb ha hb (by omega) (by omega) _ _ rfl rfl ((zero_order vb.1 vb.2).1 hz)⟩
  · subst ea eb
    have bb := whB_yes wb
    cases hz : zB (realV 1 nb fb)
    · have hN := op_quo 2 1 na nb fa fb sa sb aa ab la ca lb cb ha hb hfa hfb hz
      have oz := (zero_order vb.1 vb.2).2 hz
      cases hr : floatBits .quo .f64 (realV 2 na fa) (realV 1 nb fb) with
      | none =>
        rw [hr] at hN
        exact ⟨⟨0, 0, 0, 11⟩, (by first | exact toldN_11 | exact toldN_13 | exact toldN_bits _ (floatBits_lt hr) | exact toldN_int _), hN, rop_quo_none21 na nb fa fb sa sb aa ab la ca lb cb ha hb (by omega) (by omega) _ _ rfl rfl oz hr⟩
      | some r =>
        rw [hr] at hN
        exact ⟨numBits r, (by first | exact toldN_11 | exact toldN_13 | exact toldN_bits _ (floatBits_lt hr) | exact toldN_int _), hN, rop_quo_some21 na nb fa fb sa sb aa ab la ca lb cb ha hb (by omega) (by omega) _ _ rfl rfl oz r hr⟩
    · exact ⟨⟨0, 0, 0, 11⟩, (by first | exact toldN_11 | exact toldN_13 | exact toldN_bits _ (floatBits_lt hr) | exact toldN_int _), op_quoz 2 1 na nb fa fb sa sb aa ab la ca lb cb ha hb hfa hfb hz, rop_quo_zero21 na nb fa fb sa sb aa ab la ca lb cb ha hb (by omega) (by omega) _ _ rfl rfl ((zero_order vb.1 vb.2).1 hz)⟩
  · subst ea eb
    cases hz : zB (realV 2 nb fb)
    · have hN := op_quo 2 2 na nb fa fb sa sb aa ab la ca lb cb ha hb hfa hfb hz
      have oz := (zero_order vb.1 vb.2).2 hz
      cases hr : floatBits .quo .f64 (realV 2 na fa) (realV 2 nb fb) with
      | none =>
        rw [hr] at hN
        exact ⟨⟨0, 0, 0, 11⟩, (by first | exact toldN_11 | exact toldN_13 | exact toldN_bits _ (floatBits_lt hr) | exact toldN_int _), hN, rop_quo_none22 na nb fa fb sa sb aa ab la ca lb cb ha hb _ _ rfl rfl oz hr⟩
      | some r =>
        rw [hr] at hN
        exact ⟨numBits r, (by first | exact toldN_11 | exact toldN_13 | exact toldN_bits _ (floatBits_lt hr) | exact toldN_int _), hN, rop_quo_some22 na nb fa fb sa sb aa ab la ca lb cb ha hb _ _ rfl rfl oz r hr⟩
    · exact ⟨⟨0, 0, 0, 11⟩, (by first | exact toldN_11 | exact toldN_13 | exact toldN_bits _ (floatBits_lt hr) | exact toldN_int _), op_quoz 2 2 na nb fa fb sa sb aa ab la ca lb cb ha hb hfa hfb hz, rop_quo_zero22 na nb fa fb sa sb aa ab la ca lb cb ha hb _ _ rfl rfl ((zero_order vb.1 vb.2).1 hz)⟩

theorem both_div (ka na : Int) (fa : Nat) (sa : ByteArray) (aa : Option Addr) (la ca : Nat) (kb nb : Int) (fb : Nat) (sb : ByteArray) (ab : Option Addr) (lb cb : Nat) (hfa : fa < 18446744073709551616) (hfb : fb < 18446744073709551616) (ha : rightB ka na fa sa la = true) (hb : rightB kb nb fb sb lb = true) : OpBoth ⟨#[100, 105, 118]⟩ (.agg #[.int .i64 ka, .int .i64 na, .float .f64 fa, .string sa, .slice aa la ca]) (.agg #[.int .i64 kb, .int .i64 nb, .float .f64 fb, .string sb, .slice ab lb cb]) := by
  have va := realV_ok hfa ha
  have vb := realV_ok hfb hb
  rcases right_parts ha with ⟨_, _, ⟨ea, wa, ea2⟩ | ⟨ea, ea2, fina⟩⟩ <;> rcases right_parts hb with ⟨_, _, ⟨eb, wb, eb2⟩ | ⟨eb, eb2, finb⟩⟩
  · subst ea eb
    have ba := whB_yes wa
    have bb := whB_yes wb
    by_cases h0 : nb = 0
    · subst h0
      exact ⟨⟨0, 0, 0, 11⟩, (by first | exact toldN_11 | exact toldN_13 | exact toldN_bits _ (floatBits_lt hr) | exact toldN_int _), op_wdiv0 na fa fb sa sb aa ab la ca lb cb ha hb hfa hfb, rop_div_0 na 0 fa fb sa sb aa ab la ca lb cb ha hb rfl⟩
    · exact ⟨_, (by first | exact toldN_11 | exact toldN_13 | exact toldN_bits _ (floatBits_lt hr) | exact toldN_int _), op_wdiv na nb fa fb sa sb aa ab la ca lb cb ha hb hfa hfb wa wb h0, rop_div_d na nb fa fb sa sb aa ab la ca lb cb ha hb (by simpa using h0) wa wb⟩
  · subst ea eb
    have ba := whB_yes wa
    exact ⟨⟨0, 0, 0, 11⟩, (by first | exact toldN_11 | exact toldN_13 | exact toldN_bits _ (floatBits_lt hr) | exact toldN_int _), op_mdiv_a 1 2 na nb fa fb sa sb aa ab la ca lb cb ha hb hfa hfb rfl rfl, rop_div_m12 na nb fa fb sa sb aa ab la ca lb cb ha hb⟩
  · subst ea eb
    have bb := whB_yes wb
    exact ⟨⟨0, 0, 0, 11⟩, (by first | exact toldN_11 | exact toldN_13 | exact toldN_bits _ (floatBits_lt hr) | exact toldN_int _), op_mdiv_b 2 1 na nb fa fb sa sb aa ab la ca lb cb ha hb hfa hfb rfl, rop_div_m21 na nb fa fb sa sb aa ab la ca lb cb ha hb⟩
  · subst ea eb
    exact ⟨⟨0, 0, 0, 11⟩, (by first | exact toldN_11 | exact toldN_13 | exact toldN_bits _ (floatBits_lt hr) | exact toldN_int _), op_mdiv_b 2 2 na nb fa fb sa sb aa ab la ca lb cb ha hb hfa hfb rfl, rop_div_m22 na nb fa fb sa sb aa ab la ca lb cb ha hb⟩

theorem both_rem (ka na : Int) (fa : Nat) (sa : ByteArray) (aa : Option Addr) (la ca : Nat) (kb nb : Int) (fb : Nat) (sb : ByteArray) (ab : Option Addr) (lb cb : Nat) (hfa : fa < 18446744073709551616) (hfb : fb < 18446744073709551616) (ha : rightB ka na fa sa la = true) (hb : rightB kb nb fb sb lb = true) : OpBoth ⟨#[114, 101, 109]⟩ (.agg #[.int .i64 ka, .int .i64 na, .float .f64 fa, .string sa, .slice aa la ca]) (.agg #[.int .i64 kb, .int .i64 nb, .float .f64 fb, .string sb, .slice ab lb cb]) := by
  have va := realV_ok hfa ha
  have vb := realV_ok hfb hb
  rcases right_parts ha with ⟨_, _, ⟨ea, wa, ea2⟩ | ⟨ea, ea2, fina⟩⟩ <;> rcases right_parts hb with ⟨_, _, ⟨eb, wb, eb2⟩ | ⟨eb, eb2, finb⟩⟩
  · subst ea eb
    have ba := whB_yes wa
    have bb := whB_yes wb
    by_cases h0 : nb = 0
    · subst h0
      exact ⟨⟨0, 0, 0, 11⟩, (by first | exact toldN_11 | exact toldN_13 | exact toldN_bits _ (floatBits_lt hr) | exact toldN_int _), op_wrem0 na fa fb sa sb aa ab la ca lb cb ha hb hfa hfb, rop_rem_0 na 0 fa fb sa sb aa ab la ca lb cb ha hb rfl⟩
    · exact ⟨_, (by first | exact toldN_11 | exact toldN_13 | exact toldN_bits _ (floatBits_lt hr) | exact toldN_int _), op_wrem na nb fa fb sa sb aa ab la ca lb cb ha hb hfa hfb wa wb h0, rop_rem_d na nb fa fb sa sb aa ab la ca lb cb ha hb (by simpa using h0) wa wb⟩
  · subst ea eb
    have ba := whB_yes wa
    exact ⟨⟨0, 0, 0, 11⟩, (by first | exact toldN_11 | exact toldN_13 | exact toldN_bits _ (floatBits_lt hr) | exact toldN_int _), op_mrem_a 1 2 na nb fa fb sa sb aa ab la ca lb cb ha hb hfa hfb rfl rfl, rop_rem_m12 na nb fa fb sa sb aa ab la ca lb cb ha hb⟩
  · subst ea eb
    have bb := whB_yes wb
    exact ⟨⟨0, 0, 0, 11⟩, (by first | exact toldN_11 | exact toldN_13 | exact toldN_bits _ (floatBits_lt hr) | exact toldN_int _), op_mrem_b 2 1 na nb fa fb sa sb aa ab la ca lb cb ha hb hfa hfb rfl, rop_rem_m21 na nb fa fb sa sb aa ab la ca lb cb ha hb⟩
  · subst ea eb
    exact ⟨⟨0, 0, 0, 11⟩, (by first | exact toldN_11 | exact toldN_13 | exact toldN_bits _ (floatBits_lt hr) | exact toldN_int _), op_mrem_b 2 2 na nb fa fb sa sb aa ab la ca lb cb ha hb hfa hfb rfl, rop_rem_m22 na nb fa fb sa sb aa ab la ca lb cb ha hb⟩

theorem both_any (g : ByteArray) (ka na : Int) (fa : Nat) (sa : ByteArray) (aa : Option Addr) (la ca : Nat) (kb nb : Int) (fb : Nat) (sb : ByteArray) (ab : Option Addr) (lb cb : Nat) (hfa : fa < 18446744073709551616) (hfb : fb < 18446744073709551616) : OpBoth g (.agg #[.int .i64 ka, .int .i64 na, .float .f64 fa, .string sa, .slice aa la ca]) (.agg #[.int .i64 kb, .int .i64 nb, .float .f64 fb, .string sb, .slice ab lb cb]) := by
  cases h1 : (g.toList == [43])
  case true =>
    obtain rfl := bytes_are h1
    have is := isSign_yes ⟨#[43]⟩ (by simp)
    cases hra : rightB ka na fa sa la
    · cases hrb : rightB kb nb fb sb lb
      · exact ⟨⟨0, 0, 0, 11⟩, (by first | exact toldN_11 | exact toldN_13 | exact toldN_bits _ (floatBits_lt hr) | exact toldN_int _), op_nn _ ka kb na nb fa fb sa sb aa ab la ca lb cb hra hrb hfa hfb is, rop_add_na ka kb na nb fa fb sa sb aa ab la ca lb cb hra⟩
      · exact ⟨⟨0, 0, 0, 11⟩, (by first | exact toldN_11 | exact toldN_13 | exact toldN_bits _ (floatBits_lt hr) | exact toldN_int _), op_ny _ ka kb na nb fa fb sa sb aa ab la ca lb cb hra hrb hfa hfb is, rop_add_na ka kb na nb fa fb sa sb aa ab la ca lb cb hra⟩
    · cases hrb : rightB kb nb fb sb lb
      · exact ⟨⟨0, 0, 0, 11⟩, (by first | exact toldN_11 | exact toldN_13 | exact toldN_bits _ (floatBits_lt hr) | exact toldN_int _), op_yn _ ka kb na nb fa fb sa sb aa ab la ca lb cb hra hrb hfa hfb is, rop_add_nb ka kb na nb fa fb sa sb aa ab la ca lb cb hra hrb⟩
      · exact both_add ka na fa sa aa la ca kb nb fb sb ab lb cb hfa hfb hra hrb
  cases h2 : (g.toList == [45])
  case true =>
    obtain rfl := bytes_are h2
    have is := isSign_yes ⟨#[45]⟩ (by simp)
    cases hra : rightB ka na fa sa la
    · cases hrb : rightB kb nb fb sb lb
      · exact ⟨⟨0, 0, 0, 11⟩, (by first | exact toldN_11 | exact toldN_13 | exact toldN_bits _ (floatBits_lt hr) | exact toldN_int _), op_nn _ ka kb na nb fa fb sa sb aa ab la ca lb cb hra hrb hfa hfb is, rop_sub_na ka kb na nb fa fb sa sb aa ab la ca lb cb hra⟩
      · exact ⟨⟨0, 0, 0, 11⟩, (by first | exact toldN_11 | exact toldN_13 | exact toldN_bits _ (floatBits_lt hr) | exact toldN_int _), op_ny _ ka kb na nb fa fb sa sb aa ab la ca lb cb hra hrb hfa hfb is, rop_sub_na ka kb na nb fa fb sa sb aa ab la ca lb cb hra⟩
    · cases hrb : rightB kb nb fb sb lb
      · exact ⟨⟨0, 0, 0, 11⟩, (by first | exact toldN_11 | exact toldN_13 | exact toldN_bits _ (floatBits_lt hr) | exact toldN_int _), op_yn _ ka kb na nb fa fb sa sb aa ab la ca lb cb hra hrb hfa hfb is, rop_sub_nb ka kb na nb fa fb sa sb aa ab la ca lb cb hra hrb⟩
      · exact both_sub ka na fa sa aa la ca kb nb fb sb ab lb cb hfa hfb hra hrb
  cases h3 : (g.toList == [42])
  case true =>
    obtain rfl := bytes_are h3
    have is := isSign_yes ⟨#[42]⟩ (by simp)
    cases hra : rightB ka na fa sa la
    · cases hrb : rightB kb nb fb sb lb
      · exact ⟨⟨0, 0, 0, 11⟩, (by first | exact toldN_11 | exact toldN_13 | exact toldN_bits _ (floatBits_lt hr) | exact toldN_int _), op_nn _ ka kb na nb fa fb sa sb aa ab la ca lb cb hra hrb hfa hfb is, rop_mul_na ka kb na nb fa fb sa sb aa ab la ca lb cb hra⟩
      · exact ⟨⟨0, 0, 0, 11⟩, (by first | exact toldN_11 | exact toldN_13 | exact toldN_bits _ (floatBits_lt hr) | exact toldN_int _), op_ny _ ka kb na nb fa fb sa sb aa ab la ca lb cb hra hrb hfa hfb is, rop_mul_na ka kb na nb fa fb sa sb aa ab la ca lb cb hra⟩
    · cases hrb : rightB kb nb fb sb lb
      · exact ⟨⟨0, 0, 0, 11⟩, (by first | exact toldN_11 | exact toldN_13 | exact toldN_bits _ (floatBits_lt hr) | exact toldN_int _), op_yn _ ka kb na nb fa fb sa sb aa ab la ca lb cb hra hrb hfa hfb is, rop_mul_nb ka kb na nb fa fb sa sb aa ab la ca lb cb hra hrb⟩
      · exact both_mul ka na fa sa aa la ca kb nb fb sb ab lb cb hfa hfb hra hrb
  cases h4 : (g.toList == [47])
  case true =>
    obtain rfl := bytes_are h4
    have is := isSign_yes ⟨#[47]⟩ (by simp)
    cases hra : rightB ka na fa sa la
    · cases hrb : rightB kb nb fb sb lb
      · exact ⟨⟨0, 0, 0, 11⟩, (by first | exact toldN_11 | exact toldN_13 | exact toldN_bits _ (floatBits_lt hr) | exact toldN_int _), op_nn _ ka kb na nb fa fb sa sb aa ab la ca lb cb hra hrb hfa hfb is, rop_quo_na ka kb na nb fa fb sa sb aa ab la ca lb cb hra⟩
      · exact ⟨⟨0, 0, 0, 11⟩, (by first | exact toldN_11 | exact toldN_13 | exact toldN_bits _ (floatBits_lt hr) | exact toldN_int _), op_ny _ ka kb na nb fa fb sa sb aa ab la ca lb cb hra hrb hfa hfb is, rop_quo_na ka kb na nb fa fb sa sb aa ab la ca lb cb hra⟩
    · cases hrb : rightB kb nb fb sb lb
      · exact ⟨⟨0, 0, 0, 11⟩, (by first | exact toldN_11 | exact toldN_13 | exact toldN_bits _ (floatBits_lt hr) | exact toldN_int _), op_yn _ ka kb na nb fa fb sa sb aa ab la ca lb cb hra hrb hfa hfb is, rop_quo_nb ka kb na nb fa fb sa sb aa ab la ca lb cb hra hrb⟩
      · exact both_quo ka na fa sa aa la ca kb nb fb sb ab lb cb hfa hfb hra hrb
  cases h5 : (g.toList == [100, 105, 118])
  case true =>
    obtain rfl := bytes_are h5
    have is := isSign_yes ⟨#[100, 105, 118]⟩ (by simp)
    cases hra : rightB ka na fa sa la
    · cases hrb : rightB kb nb fb sb lb
      · exact ⟨⟨0, 0, 0, 11⟩, (by first | exact toldN_11 | exact toldN_13 | exact toldN_bits _ (floatBits_lt hr) | exact toldN_int _), op_nn _ ka kb na nb fa fb sa sb aa ab la ca lb cb hra hrb hfa hfb is, rop_div_na ka kb na nb fa fb sa sb aa ab la ca lb cb hra⟩
      · exact ⟨⟨0, 0, 0, 11⟩, (by first | exact toldN_11 | exact toldN_13 | exact toldN_bits _ (floatBits_lt hr) | exact toldN_int _), op_ny _ ka kb na nb fa fb sa sb aa ab la ca lb cb hra hrb hfa hfb is, rop_div_na ka kb na nb fa fb sa sb aa ab la ca lb cb hra⟩
    · cases hrb : rightB kb nb fb sb lb
      · exact ⟨⟨0, 0, 0, 11⟩, (by first | exact toldN_11 | exact toldN_13 | exact toldN_bits _ (floatBits_lt hr) | exact toldN_int _), op_yn _ ka kb na nb fa fb sa sb aa ab la ca lb cb hra hrb hfa hfb is, rop_div_nb ka kb na nb fa fb sa sb aa ab la ca lb cb hra hrb⟩
      · exact both_div ka na fa sa aa la ca kb nb fb sb ab lb cb hfa hfb hra hrb
  cases h6 : (g.toList == [114, 101, 109])
  case true =>
    obtain rfl := bytes_are h6
    have is := isSign_yes ⟨#[114, 101, 109]⟩ (by simp)
    cases hra : rightB ka na fa sa la
    · cases hrb : rightB kb nb fb sb lb
      · exact ⟨⟨0, 0, 0, 11⟩, (by first | exact toldN_11 | exact toldN_13 | exact toldN_bits _ (floatBits_lt hr) | exact toldN_int _), op_nn _ ka kb na nb fa fb sa sb aa ab la ca lb cb hra hrb hfa hfb is, rop_rem_na ka kb na nb fa fb sa sb aa ab la ca lb cb hra⟩
      · exact ⟨⟨0, 0, 0, 11⟩, (by first | exact toldN_11 | exact toldN_13 | exact toldN_bits _ (floatBits_lt hr) | exact toldN_int _), op_ny _ ka kb na nb fa fb sa sb aa ab la ca lb cb hra hrb hfa hfb is, rop_rem_na ka kb na nb fa fb sa sb aa ab la ca lb cb hra⟩
    · cases hrb : rightB kb nb fb sb lb
      · exact ⟨⟨0, 0, 0, 11⟩, (by first | exact toldN_11 | exact toldN_13 | exact toldN_bits _ (floatBits_lt hr) | exact toldN_int _), op_yn _ ka kb na nb fa fb sa sb aa ab la ca lb cb hra hrb hfa hfb is, rop_rem_nb ka kb na nb fa fb sa sb aa ab la ca lb cb hra hrb⟩
      · exact both_rem ka na fa sa aa la ca kb nb fb sb ab lb cb hfa hfb hra hrb
  exact ⟨⟨0, 0, 0, 13⟩, (by first | exact toldN_11 | exact toldN_13 | exact toldN_bits _ (floatBits_lt hr) | exact toldN_int _), op_bad g ka kb na nb fa fb sa sb aa ab la ca lb cb (isSign_not g h1 h2 h3 h4 h5 h6), rop_bad g ka na fa sa aa la ca kb nb fb sb ab lb cb h1 h2 h3 h4 h5 h6⟩
end Go.Proofs.YtgljglindgbjaaaGreatDoor


/- Both Negs tell the same: a right number, or an error and nothing. -/
namespace Go.Proofs.YtgljglindgbjaaaGreatDoor
open Go.RowKit Ieee

/-- what both Negs tell -/
def NegBoth (a : Value) : Prop := ∃ r : R, ToldN r ∧
  (∀ w, Calls Tryz.prog 105 #[a] w fun e w' => e = .returned (.tuple #[.agg #[.int .i64 (r.k), .int .i64 (r.n), .float .f64 (r.f), .string ⟨#[]⟩, .slice none 0 0], .int .i64 r.e]) ∧ Below w.heap.size w w') ∧
  (∀ w, Calls Tryz.prog 16 #[a] w fun e w' => e = .returned (.tuple #[.agg #[.int .i64 (r.k), .int .i64 (r.n), .float .f64 (r.f), .string ⟨#[]⟩, .slice none 0 0], .int .i64 r.e]) ∧ Below w.heap.size w w')
theorem neg_both (k n : Int) (f : Nat) (s : ByteArray) (a : Option Addr) (l c : Nat) (hf : f < 18446744073709551616) : NegBoth (.agg #[.int .i64 k, .int .i64 n, .float .f64 f, .string s, .slice a l c]) := by
  cases h : rightB k n f s l
  · exact ⟨⟨0, 0, 0, 11⟩, toldN_11, neg_no k n f s a l c hf h, rneg_no k n f s a l c h⟩
  · obtain ⟨_, _, ⟨rfl, hw, rfl⟩ | ⟨rfl, rfl, hff⟩⟩ := right_parts h
    · obtain ⟨b1, b2⟩ := whB_yes hw
      exact ⟨numInt (-n), toldN_int _, neg_1 n 0 s a l c hf h hw, rneg_1 n 0 s a l c h b1 b2⟩
    · have x := Flt.U_xor hf hff
      have := neg_2 0 f s a l c hf h
      rw [show numBits (f ^^^ 9223372036854775808) = ⟨2, 0, f ^^^ 9223372036854775808, 0⟩ by simp [numBits, x.2.1]] at this
      exact ⟨⟨2, 0, f ^^^ 9223372036854775808, 0⟩, .inl ⟨rfl, .inr ⟨rfl, rfl, x.2.1, x.1⟩⟩, this, rneg_2 0 f s a l c h _ rfl hf⟩
end Go.Proofs.YtgljglindgbjaaaGreatDoor


