/- Both Ops tell the same; the walk of NumOps: it returns true, and nothing that was there has turned. -/
import Derived.Test.YtihkabgoaejcgaaDoorQ2
import Derived.Test.YtihkabgoaejcgaaDoorQ3
import Derived.Test.YtihkabgoaejcgaaDoorQ4
import Derived.Test.YtihkabgoaejcgaaDoorO5
import Derived.Test.YtihkabgoaejcgaaDoorO2m
import Derived.Test.YtihkabgoaejcgaaDoorO3z
import Derived.Test.YtihkabgoaejcgaaDoorO4add
import Derived.Test.YtihkabgoaejcgaaDoorO4sub
import Derived.Test.YtihkabgoaejcgaaDoorO4mul
import Derived.Test.YtihkabgoaejcgaaDoorLNumOps0
namespace Go.Proofs.YtihkabgoaejcgaaDoor
open Go.RowKit
attribute [local go_sem] store_float
attribute [local go_sem ↓] Go.wp_at_zero Go.wp_at_succ

set_option maxHeartbeats 2000000 in
theorem rop_bad (g : ByteArray) (ka na : Int) (fa : Nat) (sa : ByteArray) (aa : Option Addr) (la ca : Nat) (kb nb : Int) (fb : Nat) (sb : ByteArray) (ab : Option Addr) (lb cb : Nat) (h1 : (g.toList == [43]) = false) (h2 : (g.toList == [45]) = false) (h3 : (g.toList == [42]) = false) (h4 : (g.toList == [47]) = false) (h5 : (g.toList == [100, 105, 118]) = false) (h6 : (g.toList == [114, 101, 109]) = false) (w : World) :
    Calls Tryd.prog 18 #[.string g, .agg #[.int .i64 ka, .int .i64 na, .float .f64 fa, .string sa, .slice aa la ca], .agg #[.int .i64 kb, .int .i64 nb, .float .f64 fb, .string sb, .slice ab lb cb]] w fun e w' => e = .returned (.tuple #[.agg #[.int .i64 (0), .int .i64 (0), .float .f64 (0), .string ⟨#[]⟩, .slice none 0 0], .int .i64 13]) ∧ Below w.heap.size w w' := by
  go_enter Tryd.func18, Tryd.ntmps18
  go_wp2
  exact bodyPost_ret (v := .tuple #[.agg #[.int .i64 (0), .int .i64 (0), .float .f64 (0), .string ⟨#[]⟩, .slice none 0 0], .int .i64 13]) (by simp [results, Tryd.results18, go_sem]) rfl ⟨rfl, three_new _ _ _⟩

theorem right_parts {k n : Int} {f : Nat} {s : ByteArray} {l : Nat} (h : rightB k n f s l = true) : s.toList.isEmpty = true ∧ l = 0 ∧ ((k = 1 ∧ whB n = true ∧ f = 0) ∨ (k = 2 ∧ n = 0 ∧ Flt.fin f = true)) := by
  simp only [rightB, Bool.and_eq_true, Bool.or_eq_true, beq_iff_eq] at h
  obtain ⟨⟨h1, hs⟩, hl⟩ := h
  refine ⟨hs, hl, ?_⟩
  rcases h1 with ⟨⟨a, b⟩, c⟩ | ⟨⟨a, b⟩, c⟩
  · exact Or.inl ⟨a, b, c⟩
  · exact Or.inr ⟨a, b, c⟩

theorem realV_ok {k n : Int} {f : Nat} {s : ByteArray} {l : Nat} (hf : f < 18446744073709551616) (h : rightB k n f s l = true) : realV k n f < 18446744073709551616 ∧ Flt.fin (realV k n f) = true := by
  obtain ⟨_, _, ⟨rfl, hw, rfl⟩ | ⟨rfl, rfl, hff⟩⟩ := right_parts h
  · obtain ⟨b1, b2⟩ := whB_yes hw
    refine ⟨?_, ?_⟩
    · have := floatOfInt_wf .f64 n
      show floatOfInt .f64 n < _
      simpa [Lit.wf] using this
    · show Flt.fin (floatOfInt .f64 n) = true
      rw [foi]; exact Flt.near_fin _ (by omega)
  · exact ⟨hf, hff⟩

theorem zero_order {y : Nat} (hy : y < 18446744073709551616) (fy : Flt.fin y = true) : (zB y = true → FloatKind.f64.format.order y 0 = some .eq) ∧ (zB y = false → FloatKind.f64.format.order y 0 = some .lt ∨ FloatKind.f64.format.order y 0 = some .gt) := by
  have o : FloatKind.f64.format.order y 0 = some (compare (Flt.U y) 0) := by
    show Ieee.double.order y 0 = _
    rw [Flt.order_U hy (by decide) fy (by decide), Flt.U_zero]
  obtain ⟨m, p, hr, hc, hp, he⟩ := Flt.read_canon hy fy
  have hU : Flt.U y = _ := Flt.U_of hr
  have l1 := hc.lo
  have l3 := hc.norm
  constructor
  · intro h
    have h0 : y % 9223372036854775808 = 0 := by simpa [zB] using h
    have m0 : m = 0 := by omega
    subst m0
    have : Flt.U y = 0 := by rw [hU]; simp [Flt.unit, Ieee.signed]
    rw [this] at o
    exact o
  · intro h
    have h0 : y % 9223372036854775808 ≠ 0 := by simpa [zB] using h
    have m0 : 0 < m := by
      rcases Nat.eq_zero_or_pos m with hm | hm
      · exfalso; subst hm; omega
      · exact hm
    have hne : Flt.U y ≠ 0 := by
      rw [hU]
      unfold Flt.unit Ieee.signed
      rw [Nat.shiftLeft_eq]
      have := Nat.mul_pos m0 (Nat.two_pow_pos (p + 1074).toNat)
      generalize m * 2 ^ (p + 1074).toNat = q at this
      split <;> omega
    rcases Int.lt_or_gt_of_ne hne with h' | h'
    · rw [Int.compare_eq_lt.2 h'] at o; exact Or.inl o
    · rw [Int.compare_eq_gt.2 h'] at o; exact Or.inr o

theorem bytes_are {s : ByteArray} {l : List UInt8} (h : (s.toList == l) = true) : s = ⟨l.toArray⟩ := by
  rw [ByteArray.toList_eq] at h
  have h2 : s.data.toList = l := by simpa using h
  apply ByteArray.ext
  rw [← h2]

/-- what both Ops tell -/
def OpBoth (g : ByteArray) (a b : Value) : Prop := ∃ r : R,
  (∀ w, Calls Tryd.prog 17 #[.string g, a, b] w fun e w' => e = .returned (.tuple #[.agg #[.int .i64 (r.k), .int .i64 (r.n), .float .f64 (r.f), .string ⟨#[]⟩, .slice none 0 0], .int .i64 r.e]) ∧ Below w.heap.size w w') ∧
  (∀ w, Calls Tryd.prog 18 #[.string g, a, b] w fun e w' => e = .returned (.tuple #[.agg #[.int .i64 (r.k), .int .i64 (r.n), .float .f64 (r.f), .string ⟨#[]⟩, .slice none 0 0], .int .i64 r.e]) ∧ Below w.heap.size w w')

theorem both_add (ka na : Int) (fa : Nat) (sa : ByteArray) (aa : Option Addr) (la ca : Nat) (kb nb : Int) (fb : Nat) (sb : ByteArray) (ab : Option Addr) (lb cb : Nat) (hfa : fa < 18446744073709551616) (hfb : fb < 18446744073709551616) (ha : rightB ka na fa sa la = true) (hb : rightB kb nb fb sb lb = true) : OpBoth ⟨#[43]⟩ (.agg #[.int .i64 ka, .int .i64 na, .float .f64 fa, .string sa, .slice aa la ca]) (.agg #[.int .i64 kb, .int .i64 nb, .float .f64 fb, .string sb, .slice ab lb cb]) := by
  have va := realV_ok hfa ha
  have vb := realV_ok hfb hb
  rcases right_parts ha with ⟨_, _, ⟨ea, wa, ea2⟩ | ⟨ea, ea2, fina⟩⟩ <;> rcases right_parts hb with ⟨_, _, ⟨eb, wb, eb2⟩ | ⟨eb, eb2, finb⟩⟩
  · subst ea eb
    have ba := whB_yes wa
    have bb := whB_yes wb
    exact ⟨_, op_wadd na nb fa fb sa sb aa ab la ca lb cb ha hb hfa hfb wa wb, rop_add_w na nb fa fb sa sb aa ab la ca lb cb ha hb wa wb⟩
  · subst ea eb
    have ba := whB_yes wa
    have hN := op_fadd 1 2 na nb fa fb sa sb aa ab la ca lb cb ha hb hfa hfb (by omega)
    cases hr : floatBits .add .f64 (realV 1 na fa) (realV 2 nb fb) with
    | none =>
      rw [hr] at hN
      exact ⟨⟨0, 0, 0, 11⟩, hN, rop_add_none12 na nb fa fb sa sb aa ab la ca lb cb ha hb (by omega) (by omega) _ _ rfl rfl hr⟩
    | some r =>
      rw [hr] at hN
      exact ⟨numBits r, hN, rop_add_some12 na nb fa fb sa sb aa ab la ca lb cb ha hb (by omega) (by omega) _ _ rfl rfl r hr⟩
  · subst ea eb
    have bb := whB_yes wb
    have hN := op_fadd 2 1 na nb fa fb sa sb aa ab la ca lb cb ha hb hfa hfb (by omega)
    cases hr : floatBits .add .f64 (realV 2 na fa) (realV 1 nb fb) with
    | none =>
      rw [hr] at hN
      exact ⟨⟨0, 0, 0, 11⟩, hN, rop_add_none21 na nb fa fb sa sb aa ab la ca lb cb ha hb (by omega) (by omega) _ _ rfl rfl hr⟩
    | some r =>
      rw [hr] at hN
      exact ⟨numBits r, hN, rop_add_some21 na nb fa fb sa sb aa ab la ca lb cb ha hb (by omega) (by omega) _ _ rfl rfl r hr⟩
  · subst ea eb
    have hN := op_fadd 2 2 na nb fa fb sa sb aa ab la ca lb cb ha hb hfa hfb (by omega)
    cases hr : floatBits .add .f64 (realV 2 na fa) (realV 2 nb fb) with
    | none =>
      rw [hr] at hN
      exact ⟨⟨0, 0, 0, 11⟩, hN, rop_add_none22 na nb fa fb sa sb aa ab la ca lb cb ha hb _ _ rfl rfl hr⟩
    | some r =>
      rw [hr] at hN
      exact ⟨numBits r, hN, rop_add_some22 na nb fa fb sa sb aa ab la ca lb cb ha hb _ _ rfl rfl r hr⟩

theorem both_sub (ka na : Int) (fa : Nat) (sa : ByteArray) (aa : Option Addr) (la ca : Nat) (kb nb : Int) (fb : Nat) (sb : ByteArray) (ab : Option Addr) (lb cb : Nat) (hfa : fa < 18446744073709551616) (hfb : fb < 18446744073709551616) (ha : rightB ka na fa sa la = true) (hb : rightB kb nb fb sb lb = true) : OpBoth ⟨#[45]⟩ (.agg #[.int .i64 ka, .int .i64 na, .float .f64 fa, .string sa, .slice aa la ca]) (.agg #[.int .i64 kb, .int .i64 nb, .float .f64 fb, .string sb, .slice ab lb cb]) := by
  have va := realV_ok hfa ha
  have vb := realV_ok hfb hb
  rcases right_parts ha with ⟨_, _, ⟨ea, wa, ea2⟩ | ⟨ea, ea2, fina⟩⟩ <;> rcases right_parts hb with ⟨_, _, ⟨eb, wb, eb2⟩ | ⟨eb, eb2, finb⟩⟩
  · subst ea eb
    have ba := whB_yes wa
    have bb := whB_yes wb
    exact ⟨_, op_wsub na nb fa fb sa sb aa ab la ca lb cb ha hb hfa hfb wa wb, rop_sub_w na nb fa fb sa sb aa ab la ca lb cb ha hb wa wb⟩
  · subst ea eb
    have ba := whB_yes wa
    have hN := op_fsub 1 2 na nb fa fb sa sb aa ab la ca lb cb ha hb hfa hfb (by omega)
    cases hr : floatBits .sub .f64 (realV 1 na fa) (realV 2 nb fb) with
    | none =>
      rw [hr] at hN
      exact ⟨⟨0, 0, 0, 11⟩, hN, rop_sub_none12 na nb fa fb sa sb aa ab la ca lb cb ha hb (by omega) (by omega) _ _ rfl rfl hr⟩
    | some r =>
      rw [hr] at hN
      exact ⟨numBits r, hN, rop_sub_some12 na nb fa fb sa sb aa ab la ca lb cb ha hb (by omega) (by omega) _ _ rfl rfl r hr⟩
  · subst ea eb
    have bb := whB_yes wb
    have hN := op_fsub 2 1 na nb fa fb sa sb aa ab la ca lb cb ha hb hfa hfb (by omega)
    cases hr : floatBits .sub .f64 (realV 2 na fa) (realV 1 nb fb) with
    | none =>
      rw [hr] at hN
      exact ⟨⟨0, 0, 0, 11⟩, hN, rop_sub_none21 na nb fa fb sa sb aa ab la ca lb cb ha hb (by omega) (by omega) _ _ rfl rfl hr⟩
    | some r =>
      rw [hr] at hN
      exact ⟨numBits r, hN, rop_sub_some21 na nb fa fb sa sb aa ab la ca lb cb ha hb (by omega) (by omega) _ _ rfl rfl r hr⟩
  · subst ea eb
    have hN := op_fsub 2 2 na nb fa fb sa sb aa ab la ca lb cb ha hb hfa hfb (by omega)
    cases hr : floatBits .sub .f64 (realV 2 na fa) (realV 2 nb fb) with
    | none =>
      rw [hr] at hN
      exact ⟨⟨0, 0, 0, 11⟩, hN, rop_sub_none22 na nb fa fb sa sb aa ab la ca lb cb ha hb _ _ rfl rfl hr⟩
    | some r =>
      rw [hr] at hN
      exact ⟨numBits r, hN, rop_sub_some22 na nb fa fb sa sb aa ab la ca lb cb ha hb _ _ rfl rfl r hr⟩

theorem both_mul (ka na : Int) (fa : Nat) (sa : ByteArray) (aa : Option Addr) (la ca : Nat) (kb nb : Int) (fb : Nat) (sb : ByteArray) (ab : Option Addr) (lb cb : Nat) (hfa : fa < 18446744073709551616) (hfb : fb < 18446744073709551616) (ha : rightB ka na fa sa la = true) (hb : rightB kb nb fb sb lb = true) : OpBoth ⟨#[42]⟩ (.agg #[.int .i64 ka, .int .i64 na, .float .f64 fa, .string sa, .slice aa la ca]) (.agg #[.int .i64 kb, .int .i64 nb, .float .f64 fb, .string sb, .slice ab lb cb]) := by
  have va := realV_ok hfa ha
  have vb := realV_ok hfb hb
  rcases right_parts ha with ⟨_, _, ⟨ea, wa, ea2⟩ | ⟨ea, ea2, fina⟩⟩ <;> rcases right_parts hb with ⟨_, _, ⟨eb, wb, eb2⟩ | ⟨eb, eb2, finb⟩⟩
  · subst ea eb
    have ba := whB_yes wa
    have bb := whB_yes wb
    exact ⟨_, op_wmul na nb fa fb sa sb aa ab la ca lb cb ha hb hfa hfb wa wb, rop_mul_w na nb fa fb sa sb aa ab la ca lb cb ha hb wa wb⟩
  · subst ea eb
    have ba := whB_yes wa
    have hN := op_fmul 1 2 na nb fa fb sa sb aa ab la ca lb cb ha hb hfa hfb (by omega)
    cases hr : floatBits .mul .f64 (realV 1 na fa) (realV 2 nb fb) with
    | none =>
      rw [hr] at hN
      exact ⟨⟨0, 0, 0, 11⟩, hN, rop_mul_none12 na nb fa fb sa sb aa ab la ca lb cb ha hb (by omega) (by omega) _ _ rfl rfl hr⟩
    | some r =>
      rw [hr] at hN
      exact ⟨numBits r, hN, rop_mul_some12 na nb fa fb sa sb aa ab la ca lb cb ha hb (by omega) (by omega) _ _ rfl rfl r hr⟩
  · subst ea eb
    have bb := whB_yes wb
    have hN := op_fmul 2 1 na nb fa fb sa sb aa ab la ca lb cb ha hb hfa hfb (by omega)
    cases hr : floatBits .mul .f64 (realV 2 na fa) (realV 1 nb fb) with
    | none =>
      rw [hr] at hN
      exact ⟨⟨0, 0, 0, 11⟩, hN, rop_mul_none21 na nb fa fb sa sb aa ab la ca lb cb ha hb (by omega) (by omega) _ _ rfl rfl hr⟩
    | some r =>
      rw [hr] at hN
      exact ⟨numBits r, hN, rop_mul_some21 na nb fa fb sa sb aa ab la ca lb cb ha hb (by omega) (by omega) _ _ rfl rfl r hr⟩
  · subst ea eb
    have hN := op_fmul 2 2 na nb fa fb sa sb aa ab la ca lb cb ha hb hfa hfb (by omega)
    cases hr : floatBits .mul .f64 (realV 2 na fa) (realV 2 nb fb) with
    | none =>
      rw [hr] at hN
      exact ⟨⟨0, 0, 0, 11⟩, hN, rop_mul_none22 na nb fa fb sa sb aa ab la ca lb cb ha hb _ _ rfl rfl hr⟩
    | some r =>
      rw [hr] at hN
      exact ⟨numBits r, hN, rop_mul_some22 na nb fa fb sa sb aa ab la ca lb cb ha hb _ _ rfl rfl r hr⟩

theorem both_quo (ka na : Int) (fa : Nat) (sa : ByteArray) (aa : Option Addr) (la ca : Nat) (kb nb : Int) (fb : Nat) (sb : ByteArray) (ab : Option Addr) (lb cb : Nat) (hfa : fa < 18446744073709551616) (hfb : fb < 18446744073709551616) (ha : rightB ka na fa sa la = true) (hb : rightB kb nb fb sb lb = true) : OpBoth ⟨#[47]⟩ (.agg #[.int .i64 ka, .int .i64 na, .float .f64 fa, .string sa, .slice aa la ca]) (.agg #[.int .i64 kb, .int .i64 nb, .float .f64 fb, .string sb, .slice ab lb cb]) := by
  have va := realV_ok hfa ha
  have vb := realV_ok hfb hb
  rcases right_parts ha with ⟨_, _, ⟨ea, wa, ea2⟩ | ⟨ea, ea2, fina⟩⟩ <;> rcases right_parts hb with ⟨_, _, ⟨eb, wb, eb2⟩ | ⟨eb, eb2, finb⟩⟩
  · subst ea eb
    have ba := whB_yes wa
    have bb := whB_yes wb
    cases hz : zB (realV 1 nb fb)
    · have hN := op_quo 1 1 na nb fa fb sa sb aa ab la ca lb cb ha hb hfa hfb hz
      have oz := (zero_order vb.1 vb.2).2 hz
      cases hr : floatBits .quo .f64 (realV 1 na fa) (realV 1 nb fb) with
      | none =>
        rw [hr] at hN
        exact ⟨⟨0, 0, 0, 11⟩, hN, rop_quo_none11 na nb fa fb sa sb aa ab la ca lb cb ha hb (by omega) (by omega) (by omega) (by omega) _ _ rfl rfl oz hr⟩
      | some r =>
        rw [hr] at hN
        exact ⟨numBits r, hN, rop_quo_some11 na nb fa fb sa sb aa ab la ca lb cb ha hb (by omega) (by omega) (by omega) (by omega) _ _ rfl rfl oz r hr⟩
    · exact ⟨⟨0, 0, 0, 11⟩, op_quoz 1 1 na nb fa fb sa sb aa ab la ca lb cb ha hb hfa hfb hz, rop_quo_zero11 na nb fa fb sa sb aa ab la ca lb cb ha hb (by omega) (by omega) (by omega) (by omega) _ _ rfl rfl ((zero_order vb.1 vb.2).1 hz)⟩
  · subst ea eb
    have ba := whB_yes wa
    cases hz : zB (realV 2 nb fb)
    · have hN := op_quo 1 2 na nb fa fb sa sb aa ab la ca lb cb ha hb hfa hfb hz
      have oz := (zero_order vb.1 vb.2).2 hz
      cases hr : floatBits .quo .f64 (realV 1 na fa) (realV 2 nb fb) with
      | none =>
        rw [hr] at hN
        exact ⟨⟨0, 0, 0, 11⟩, hN, rop_quo_none12 na nb fa fb sa sb aa ab la ca lb cb ha hb (by omega) (by omega) _ _ rfl rfl oz hr⟩
      | some r =>
        rw [hr] at hN
        exact ⟨numBits r, hN, rop_quo_some12 na nb fa fb sa sb aa ab la ca lb cb ha hb (by omega) (by omega) _ _ rfl rfl oz r hr⟩
    · exact ⟨⟨0, 0, 0, 11⟩, op_quoz 1 2 na nb fa fb sa sb aa ab la ca lb cb ha hb hfa hfb hz, rop_quo_zero12 na nb fa fb sa sb aa ab la ca lb cb ha hb (by omega) (by omega) _ _ rfl rfl ((zero_order vb.1 vb.2).1 hz)⟩
  · subst ea eb
    have bb := whB_yes wb
    cases hz : zB (realV 1 nb fb)
    · have hN := op_quo 2 1 na nb fa fb sa sb aa ab la ca lb cb ha hb hfa hfb hz
      have oz := (zero_order vb.1 vb.2).2 hz
      cases hr : floatBits .quo .f64 (realV 2 na fa) (realV 1 nb fb) with
      | none =>
        rw [hr] at hN
        exact ⟨⟨0, 0, 0, 11⟩, hN, rop_quo_none21 na nb fa fb sa sb aa ab la ca lb cb ha hb (by omega) (by omega) _ _ rfl rfl oz hr⟩
      | some r =>
        rw [hr] at hN
        exact ⟨numBits r, hN, rop_quo_some21 na nb fa fb sa sb aa ab la ca lb cb ha hb (by omega) (by omega) _ _ rfl rfl oz r hr⟩
    · exact ⟨⟨0, 0, 0, 11⟩, op_quoz 2 1 na nb fa fb sa sb aa ab la ca lb cb ha hb hfa hfb hz, rop_quo_zero21 na nb fa fb sa sb aa ab la ca lb cb ha hb (by omega) (by omega) _ _ rfl rfl ((zero_order vb.1 vb.2).1 hz)⟩
  · subst ea eb
    cases hz : zB (realV 2 nb fb)
    · have hN := op_quo 2 2 na nb fa fb sa sb aa ab la ca lb cb ha hb hfa hfb hz
      have oz := (zero_order vb.1 vb.2).2 hz
      cases hr : floatBits .quo .f64 (realV 2 na fa) (realV 2 nb fb) with
      | none =>
        rw [hr] at hN
        exact ⟨⟨0, 0, 0, 11⟩, hN, rop_quo_none22 na nb fa fb sa sb aa ab la ca lb cb ha hb _ _ rfl rfl oz hr⟩
      | some r =>
        rw [hr] at hN
        exact ⟨numBits r, hN, rop_quo_some22 na nb fa fb sa sb aa ab la ca lb cb ha hb _ _ rfl rfl oz r hr⟩
    · exact ⟨⟨0, 0, 0, 11⟩, op_quoz 2 2 na nb fa fb sa sb aa ab la ca lb cb ha hb hfa hfb hz, rop_quo_zero22 na nb fa fb sa sb aa ab la ca lb cb ha hb _ _ rfl rfl ((zero_order vb.1 vb.2).1 hz)⟩

theorem both_div (ka na : Int) (fa : Nat) (sa : ByteArray) (aa : Option Addr) (la ca : Nat) (kb nb : Int) (fb : Nat) (sb : ByteArray) (ab : Option Addr) (lb cb : Nat) (hfa : fa < 18446744073709551616) (hfb : fb < 18446744073709551616) (ha : rightB ka na fa sa la = true) (hb : rightB kb nb fb sb lb = true) : OpBoth ⟨#[100, 105, 118]⟩ (.agg #[.int .i64 ka, .int .i64 na, .float .f64 fa, .string sa, .slice aa la ca]) (.agg #[.int .i64 kb, .int .i64 nb, .float .f64 fb, .string sb, .slice ab lb cb]) := by
  have va := realV_ok hfa ha
  have vb := realV_ok hfb hb
  rcases right_parts ha with ⟨_, _, ⟨ea, wa, ea2⟩ | ⟨ea, ea2, fina⟩⟩ <;> rcases right_parts hb with ⟨_, _, ⟨eb, wb, eb2⟩ | ⟨eb, eb2, finb⟩⟩
  · subst ea eb
    have ba := whB_yes wa
    have bb := whB_yes wb
    by_cases h0 : nb = 0
    · subst h0
      exact ⟨⟨0, 0, 0, 11⟩, op_wdiv0 na fa fb sa sb aa ab la ca lb cb ha hb hfa hfb, rop_div_0 na 0 fa fb sa sb aa ab la ca lb cb ha hb rfl⟩
    · exact ⟨_, op_wdiv na nb fa fb sa sb aa ab la ca lb cb ha hb hfa hfb wa wb h0, rop_div_d na nb fa fb sa sb aa ab la ca lb cb ha hb (by simpa using h0) wa wb⟩
  · subst ea eb
    have ba := whB_yes wa
    exact ⟨⟨0, 0, 0, 11⟩, op_mdiv_a 1 2 na nb fa fb sa sb aa ab la ca lb cb ha hb hfa hfb rfl rfl, rop_div_m12 na nb fa fb sa sb aa ab la ca lb cb ha hb⟩
  · subst ea eb
    have bb := whB_yes wb
    exact ⟨⟨0, 0, 0, 11⟩, op_mdiv_b 2 1 na nb fa fb sa sb aa ab la ca lb cb ha hb hfa hfb rfl, rop_div_m21 na nb fa fb sa sb aa ab la ca lb cb ha hb⟩
  · subst ea eb
    exact ⟨⟨0, 0, 0, 11⟩, op_mdiv_b 2 2 na nb fa fb sa sb aa ab la ca lb cb ha hb hfa hfb rfl, rop_div_m22 na nb fa fb sa sb aa ab la ca lb cb ha hb⟩

theorem both_rem (ka na : Int) (fa : Nat) (sa : ByteArray) (aa : Option Addr) (la ca : Nat) (kb nb : Int) (fb : Nat) (sb : ByteArray) (ab : Option Addr) (lb cb : Nat) (hfa : fa < 18446744073709551616) (hfb : fb < 18446744073709551616) (ha : rightB ka na fa sa la = true) (hb : rightB kb nb fb sb lb = true) : OpBoth ⟨#[114, 101, 109]⟩ (.agg #[.int .i64 ka, .int .i64 na, .float .f64 fa, .string sa, .slice aa la ca]) (.agg #[.int .i64 kb, .int .i64 nb, .float .f64 fb, .string sb, .slice ab lb cb]) := by
  have va := realV_ok hfa ha
  have vb := realV_ok hfb hb
  rcases right_parts ha with ⟨_, _, ⟨ea, wa, ea2⟩ | ⟨ea, ea2, fina⟩⟩ <;> rcases right_parts hb with ⟨_, _, ⟨eb, wb, eb2⟩ | ⟨eb, eb2, finb⟩⟩
  · subst ea eb
    have ba := whB_yes wa
    have bb := whB_yes wb
    by_cases h0 : nb = 0
    · subst h0
      exact ⟨⟨0, 0, 0, 11⟩, op_wrem0 na fa fb sa sb aa ab la ca lb cb ha hb hfa hfb, rop_rem_0 na 0 fa fb sa sb aa ab la ca lb cb ha hb rfl⟩
    · exact ⟨_, op_wrem na nb fa fb sa sb aa ab la ca lb cb ha hb hfa hfb wa wb h0, rop_rem_d na nb fa fb sa sb aa ab la ca lb cb ha hb (by simpa using h0) wa wb⟩
  · subst ea eb
    have ba := whB_yes wa
    exact ⟨⟨0, 0, 0, 11⟩, op_mrem_a 1 2 na nb fa fb sa sb aa ab la ca lb cb ha hb hfa hfb rfl rfl, rop_rem_m12 na nb fa fb sa sb aa ab la ca lb cb ha hb⟩
  · subst ea eb
    have bb := whB_yes wb
    exact ⟨⟨0, 0, 0, 11⟩, op_mrem_b 2 1 na nb fa fb sa sb aa ab la ca lb cb ha hb hfa hfb rfl, rop_rem_m21 na nb fa fb sa sb aa ab la ca lb cb ha hb⟩
  · subst ea eb
    exact ⟨⟨0, 0, 0, 11⟩, op_mrem_b 2 2 na nb fa fb sa sb aa ab la ca lb cb ha hb hfa hfb rfl, rop_rem_m22 na nb fa fb sa sb aa ab la ca lb cb ha hb⟩

theorem both_any (g : ByteArray) (ka na : Int) (fa : Nat) (sa : ByteArray) (aa : Option Addr) (la ca : Nat) (kb nb : Int) (fb : Nat) (sb : ByteArray) (ab : Option Addr) (lb cb : Nat) (hfa : fa < 18446744073709551616) (hfb : fb < 18446744073709551616) : OpBoth g (.agg #[.int .i64 ka, .int .i64 na, .float .f64 fa, .string sa, .slice aa la ca]) (.agg #[.int .i64 kb, .int .i64 nb, .float .f64 fb, .string sb, .slice ab lb cb]) := by
  cases h1 : (g.toList == [43])
  case true =>
    obtain rfl := bytes_are h1
    have is := isSign_yes ⟨#[43]⟩ (by simp)
    cases hra : rightB ka na fa sa la
    · cases hrb : rightB kb nb fb sb lb
      · exact ⟨⟨0, 0, 0, 11⟩, op_nn _ ka kb na nb fa fb sa sb aa ab la ca lb cb hra hrb hfa hfb is, rop_add_na ka kb na nb fa fb sa sb aa ab la ca lb cb hra⟩
      · exact ⟨⟨0, 0, 0, 11⟩, op_ny _ ka kb na nb fa fb sa sb aa ab la ca lb cb hra hrb hfa hfb is, rop_add_na ka kb na nb fa fb sa sb aa ab la ca lb cb hra⟩
    · cases hrb : rightB kb nb fb sb lb
      · exact ⟨⟨0, 0, 0, 11⟩, op_yn _ ka kb na nb fa fb sa sb aa ab la ca lb cb hra hrb hfa hfb is, rop_add_nb ka kb na nb fa fb sa sb aa ab la ca lb cb hra hrb⟩
      · exact both_add ka na fa sa aa la ca kb nb fb sb ab lb cb hfa hfb hra hrb
  cases h2 : (g.toList == [45])
  case true =>
    obtain rfl := bytes_are h2
    have is := isSign_yes ⟨#[45]⟩ (by simp)
    cases hra : rightB ka na fa sa la
    · cases hrb : rightB kb nb fb sb lb
      · exact ⟨⟨0, 0, 0, 11⟩, op_nn _ ka kb na nb fa fb sa sb aa ab la ca lb cb hra hrb hfa hfb is, rop_sub_na ka kb na nb fa fb sa sb aa ab la ca lb cb hra⟩
      · exact ⟨⟨0, 0, 0, 11⟩, op_ny _ ka kb na nb fa fb sa sb aa ab la ca lb cb hra hrb hfa hfb is, rop_sub_na ka kb na nb fa fb sa sb aa ab la ca lb cb hra⟩
    · cases hrb : rightB kb nb fb sb lb
      · exact ⟨⟨0, 0, 0, 11⟩, op_yn _ ka kb na nb fa fb sa sb aa ab la ca lb cb hra hrb hfa hfb is, rop_sub_nb ka kb na nb fa fb sa sb aa ab la ca lb cb hra hrb⟩
      · exact both_sub ka na fa sa aa la ca kb nb fb sb ab lb cb hfa hfb hra hrb
  cases h3 : (g.toList == [42])
  case true =>
    obtain rfl := bytes_are h3
    have is := isSign_yes ⟨#[42]⟩ (by simp)
    cases hra : rightB ka na fa sa la
    · cases hrb : rightB kb nb fb sb lb
      · exact ⟨⟨0, 0, 0, 11⟩, op_nn _ ka kb na nb fa fb sa sb aa ab la ca lb cb hra hrb hfa hfb is, rop_mul_na ka kb na nb fa fb sa sb aa ab la ca lb cb hra⟩
      · exact ⟨⟨0, 0, 0, 11⟩, op_ny _ ka kb na nb fa fb sa sb aa ab la ca lb cb hra hrb hfa hfb is, rop_mul_na ka kb na nb fa fb sa sb aa ab la ca lb cb hra⟩
    · cases hrb : rightB kb nb fb sb lb
      · exact ⟨⟨0, 0, 0, 11⟩, op_yn _ ka kb na nb fa fb sa sb aa ab la ca lb cb hra hrb hfa hfb is, rop_mul_nb ka kb na nb fa fb sa sb aa ab la ca lb cb hra hrb⟩
      · exact both_mul ka na fa sa aa la ca kb nb fb sb ab lb cb hfa hfb hra hrb
  cases h4 : (g.toList == [47])
  case true =>
    obtain rfl := bytes_are h4
    have is := isSign_yes ⟨#[47]⟩ (by simp)
    cases hra : rightB ka na fa sa la
    · cases hrb : rightB kb nb fb sb lb
      · exact ⟨⟨0, 0, 0, 11⟩, op_nn _ ka kb na nb fa fb sa sb aa ab la ca lb cb hra hrb hfa hfb is, rop_quo_na ka kb na nb fa fb sa sb aa ab la ca lb cb hra⟩
      · exact ⟨⟨0, 0, 0, 11⟩, op_ny _ ka kb na nb fa fb sa sb aa ab la ca lb cb hra hrb hfa hfb is, rop_quo_na ka kb na nb fa fb sa sb aa ab la ca lb cb hra⟩
    · cases hrb : rightB kb nb fb sb lb
      · exact ⟨⟨0, 0, 0, 11⟩, op_yn _ ka kb na nb fa fb sa sb aa ab la ca lb cb hra hrb hfa hfb is, rop_quo_nb ka kb na nb fa fb sa sb aa ab la ca lb cb hra hrb⟩
      · exact both_quo ka na fa sa aa la ca kb nb fb sb ab lb cb hfa hfb hra hrb
  cases h5 : (g.toList == [100, 105, 118])
  case true =>
    obtain rfl := bytes_are h5
    have is := isSign_yes ⟨#[100, 105, 118]⟩ (by simp)
    cases hra : rightB ka na fa sa la
    · cases hrb : rightB kb nb fb sb lb
      · exact ⟨⟨0, 0, 0, 11⟩, op_nn _ ka kb na nb fa fb sa sb aa ab la ca lb cb hra hrb hfa hfb is, rop_div_na ka kb na nb fa fb sa sb aa ab la ca lb cb hra⟩
      · exact ⟨⟨0, 0, 0, 11⟩, op_ny _ ka kb na nb fa fb sa sb aa ab la ca lb cb hra hrb hfa hfb is, rop_div_na ka kb na nb fa fb sa sb aa ab la ca lb cb hra⟩
    · cases hrb : rightB kb nb fb sb lb
      · exact ⟨⟨0, 0, 0, 11⟩, op_yn _ ka kb na nb fa fb sa sb aa ab la ca lb cb hra hrb hfa hfb is, rop_div_nb ka kb na nb fa fb sa sb aa ab la ca lb cb hra hrb⟩
      · exact both_div ka na fa sa aa la ca kb nb fb sb ab lb cb hfa hfb hra hrb
  cases h6 : (g.toList == [114, 101, 109])
  case true =>
    obtain rfl := bytes_are h6
    have is := isSign_yes ⟨#[114, 101, 109]⟩ (by simp)
    cases hra : rightB ka na fa sa la
    · cases hrb : rightB kb nb fb sb lb
      · exact ⟨⟨0, 0, 0, 11⟩, op_nn _ ka kb na nb fa fb sa sb aa ab la ca lb cb hra hrb hfa hfb is, rop_rem_na ka kb na nb fa fb sa sb aa ab la ca lb cb hra⟩
      · exact ⟨⟨0, 0, 0, 11⟩, op_ny _ ka kb na nb fa fb sa sb aa ab la ca lb cb hra hrb hfa hfb is, rop_rem_na ka kb na nb fa fb sa sb aa ab la ca lb cb hra⟩
    · cases hrb : rightB kb nb fb sb lb
      · exact ⟨⟨0, 0, 0, 11⟩, op_yn _ ka kb na nb fa fb sa sb aa ab la ca lb cb hra hrb hfa hfb is, rop_rem_nb ka kb na nb fa fb sa sb aa ab la ca lb cb hra hrb⟩
      · exact both_rem ka na fa sa aa la ca kb nb fb sb ab lb cb hfa hfb hra hrb
  exact ⟨⟨0, 0, 0, 13⟩, op_bad g ka kb na nb fa fb sa sb aa ab la ca lb cb (isSign_not g h1 h2 h3 h4 h5 h6), rop_bad g ka na fa sa aa la ca kb nb fb sb ab lb cb h1 h2 h3 h4 h5 h6⟩

theorem numOps_any (g : ByteArray) (ka na : Int) (fa : Nat) (sa : ByteArray) (aa : Option Addr) (la ca : Nat) (kb nb : Int) (fb : Nat) (sb : ByteArray) (ab : Option Addr) (lb cb : Nat) (hfa : fa < 18446744073709551616) (hfb : fb < 18446744073709551616) (w : World) (ht : w.cell? ⟨4, 15, none⟩ = some (.int .u8 4)) :
    Calls Tryd.prog 4 #[.string g, .agg #[.int .i64 ka, .int .i64 na, .float .f64 fa, .string sa, .slice aa la ca], .agg #[.int .i64 kb, .int .i64 nb, .float .f64 fb, .string sb, .slice ab lb cb]] w fun e w' => e = .returned (.bool true) ∧ Below w.heap.size w w' := by
  rcases Nat.lt_or_ge 1000 g.size with hg | hg
  · exact ops_long g ka na fa sa aa la ca kb nb fb sb ab lb cb hg w ht
  · obtain ⟨r, N, M⟩ := both_any g ka na fa sa aa la ca kb nb fb sb ab lb cb hfa hfb
    exact ops_walk g ka na fa sa aa la ca kb nb fb sb ab lb cb hg r N M w ht
end Go.Proofs.YtihkabgoaejcgaaDoor
