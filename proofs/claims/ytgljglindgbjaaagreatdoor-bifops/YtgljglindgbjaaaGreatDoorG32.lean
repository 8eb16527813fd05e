import Derived.Shelf.Small.Utf8
import Derived.Shelf.Small.Strs
import Derived.Shelf.Strings.Search1
import Derived.Shelf.Bits.Mul64
import Derived.Test.YtgljglindgbjaaaGreatDoorProg
import Derived.Test.YtgljglindgbjaaaGreatDoorG04
import Derived.Deep.DrawnRows
/- Contracts of the library (Mul64, FormatInt at base 10, Repeat), laid at this program by the kit's own tool, in plain words. -/
namespace Go.Proofs
open Go.Shelf
def Tryz.lays264_ren : Go.Shelf.Ren := ⟨fun | 264 => 211 | n => n, fun | 53 => 50 | 46 => 126 | n => n, fun | n => n⟩
theorem Tryz.lays264 : Go.Proofs.Lays.n264 Tryz.prog Tryz.lays264_ren := {
  mixed := by kernel_rfl
  f264 := Tryz.func211.trans (congrArg some (by kernel_rfl))
  t46 := Tryz.underlying126
  a46 := Tryz.isAgg126
  z46 := Tryz.sizeOf126
  v46 := Tryz.zeroValue126
  t53 := Tryz.underlying50
  a53 := Tryz.isAgg50
  z53 := Tryz.sizeOf50
  v53 := Tryz.zeroValue50 }
open Go.RowKit Go.Lib in
theorem Tryz.bits_Mul64 (x y : Nat) (hx : x < 18446744073709551616) (hy : y < 18446744073709551616) (w : World) :
    Calls Tryz.prog 211 #[.int .u64 x, .int .u64 y] w fun e w' => e = .returned (.tuple #[.int .u64 ((x * y / 18446744073709551616 : Nat) : Int), .int .u64 ((x * y % 18446744073709551616 : Nat) : Int)]) ∧ w' = w := Any.bits_Mul64 Tryz.lays264 x y hx hy w
end Go.Proofs


/- The contract of multiply: the product of two whole numbers, or its refusal. -/
namespace Go.Proofs.YtgljglindgbjaaaGreatDoor
open Go.RowKit
attribute [local go_sem] store_float

theorem mul_sign (a b : Int) : a * b = if decide (a < 0) = decide (b < 0) then ((a.natAbs * b.natAbs : Nat) : Int) else -((a.natAbs * b.natAbs : Nat) : Int) := by
  rcases (by omega : a < 0 ∨ 0 ≤ a) with ha | ha <;> rcases (by omega : b < 0 ∨ 0 ≤ b) with hb | hb
  · rw [if_pos (by simp [ha, hb])]
    obtain ⟨x, rfl⟩ := Int.eq_negSucc_of_lt_zero ha
    obtain ⟨y, rfl⟩ := Int.eq_negSucc_of_lt_zero hb
    simp [Int.natAbs_negSucc, Int.negSucc_mul_negSucc]
  · rw [if_neg (by simp [ha, hb])]
    obtain ⟨y, rfl⟩ := Int.eq_ofNat_of_zero_le hb
    have e : a = -(a.natAbs : Int) := by omega
    rw [Int.natAbs_natCast, Int.natCast_mul, ← Int.neg_mul, ← e]
  · rw [if_neg (by simp; omega)]
    obtain ⟨x, rfl⟩ := Int.eq_ofNat_of_zero_le ha
    have e : b = -(b.natAbs : Int) := by omega
    rw [Int.natAbs_natCast, Int.natCast_mul, ← Int.mul_neg, ← e]
  · rw [if_pos (by simp; omega)]
    obtain ⟨x, rfl⟩ := Int.eq_ofNat_of_zero_le ha
    obtain ⟨y, rfl⟩ := Int.eq_ofNat_of_zero_le hb
    simp

theorem numInt_big {z : Int} {P : Nat} (h : z = P ∨ z = -(P : Int)) (hP : 576460752303423488 < P) : numInt z = ⟨0, 0, 0, 12⟩ := by
  have : whB z = false := by
    cases e : whB z
    · rfl
    · have := whB_yes e; omega
  simp [numInt, this]

set_option maxHeartbeats 1000000 in
theorem multiply_any (a b : Int) (ha : whB a = true) (hb : whB b = true) (w : World) : Calls Tryz.prog 176 #[.int .i64 a, .int .i64 b] w fun e w' => e = .returned (.tuple #[.agg #[.int .i64 ((numInt (a * b)).k), .int .i64 ((numInt (a * b)).n), .float .f64 ((numInt (a * b)).f), .string ⟨#[]⟩, .slice none 0 0], .int .i64 (numInt (a * b)).e]) ∧ Below w.heap.size w w' := by
  have hs := mul_sign a b
  obtain ⟨a1, a2⟩ := whB_yes ha
  obtain ⟨b1, b2⟩ := whB_yes hb
  have HA := (show Hid (whB a = true) from ha)
  have HB := (show Hid (whB b = true) from hb)
  have hax : a.natAbs < 18446744073709551616 := by omega
  have hbx : b.natAbs < 18446744073709551616 := by omega
  have hmul := fun W => Tryz.bits_Mul64 a.natAbs b.natAbs hax hbx W
  have hz : a * b = ((a.natAbs * b.natAbs : Nat) : Int) ∨ a * b = -((a.natAbs * b.natAbs : Nat) : Int) := by
    rw [hs]; split
    · exact Or.inl rfl
    · exact Or.inr rfl
  rcases Nat.lt_or_ge (a.natAbs * b.natAbs) 18446744073709551616 with hlt | hge
  · rw [Nat.div_eq_of_lt hlt, Nat.mod_eq_of_lt hlt] at hmul
    generalize a.natAbs * b.natAbs = P at *
    rcases Nat.lt_or_ge 576460752303423488 P with hbig | hsm
    · rw [numInt_big hz hbig]
      have HM := (show Hid (∀ W, Calls _ _ _ W _) from hmul)
      clear hmul hs hz hlt hax hbx ha hb
      go_enter Tryz.func176, Tryz.ntmps176
      go_wp2_with fail
      refine (size_any _ HA.out _).mono ?_
      rintro e w' ⟨rfl, rfl⟩
      go_wp2_with fail
      refine (size_any _ HB.out _).mono ?_
      rintro e w' ⟨rfl, rfl⟩
      go_wp2_with fail
      refine (HM.out _).mono ?_
      rintro e w' ⟨rfl, rfl⟩
      go_wp2_with fail
      refine (size_any _ (by simp [whB]) _).mono ?_
      rintro e w' ⟨rfl, rfl⟩
      go_wp2
      exact bodyPost_ret (v := .tuple #[.agg #[.int .i64 (0), .int .i64 (0), .float .f64 (0), .string ⟨#[]⟩, .slice none 0 0], .int .i64 12]) (by simp [results, Tryz.results176, go_sem]) rfl ⟨rfl, below_new _ _⟩
    · have HM := (show Hid (∀ W, Calls _ _ _ W _) from hmul)
      have HS := (show Hid (a * b = if decide (a < 0) = decide (b < 0) then (P : Int) else -(P : Int)) from hs)
      clear hmul hs hz hlt hax hbx ha hb
      cases hda : decide (a < 0) <;> cases hdb : decide (b < 0)
      · go_enter Tryz.func176, Tryz.ntmps176
        go_wp2_with fail
        refine (size_any _ HA.out _).mono ?_
        rintro e w' ⟨rfl, rfl⟩
        go_wp2_with fail
        refine (size_any _ HB.out _).mono ?_
        rintro e w' ⟨rfl, rfl⟩
        go_wp2_with fail
        refine (HM.out _).mono ?_
        rintro e w' ⟨rfl, rfl⟩
        go_wp2_with fail
        refine (size_any _ (by simp [whB]) _).mono ?_
        rintro e w' ⟨rfl, rfl⟩
        go_wp2_with fail
        rw [show (P : Int) = a * b from by rw [HS.out, hda, hdb]; simp]
        refine (numInt_any _ _).mono ?_
        rintro e w1 ⟨rfl, hb⟩
        obtain ⟨hc, hfr⟩ := bcell hb
        go_wp2
        exact bodyPost_ret (v := .tuple #[.agg #[.int .i64 ((numInt (a * b)).k), .int .i64 ((numInt (a * b)).n), .float .f64 ((numInt (a * b)).f), .string ⟨#[]⟩, .slice none 0 0], .int .i64 (numInt (a * b)).e]) (by simp [results, Tryz.results176, go_sem, hc]) rfl ⟨rfl, below_ret hb _ _ _ _ _⟩
      · go_enter Tryz.func176, Tryz.ntmps176
        go_wp2_with fail
        refine (size_any _ HA.out _).mono ?_
        rintro e w' ⟨rfl, rfl⟩
        go_wp2_with fail
        refine (size_any _ HB.out _).mono ?_
        rintro e w' ⟨rfl, rfl⟩
        go_wp2_with fail
        refine (HM.out _).mono ?_
        rintro e w' ⟨rfl, rfl⟩
        go_wp2_with fail
        refine (size_any _ (by simp [whB]) _).mono ?_
        rintro e w' ⟨rfl, rfl⟩
        go_wp2_with fail
        rw [show (-(P : Int)) = a * b from by rw [HS.out, hda, hdb]; simp]
        refine (numInt_any _ _).mono ?_
        rintro e w1 ⟨rfl, hb⟩
        obtain ⟨hc, hfr⟩ := bcell hb
        go_wp2
        exact bodyPost_ret (v := .tuple #[.agg #[.int .i64 ((numInt (a * b)).k), .int .i64 ((numInt (a * b)).n), .float .f64 ((numInt (a * b)).f), .string ⟨#[]⟩, .slice none 0 0], .int .i64 (numInt (a * b)).e]) (by simp [results, Tryz.results176, go_sem, hc]) rfl ⟨rfl, below_ret hb _ _ _ _ _⟩
      · go_enter Tryz.func176, Tryz.ntmps176
        go_wp2_with fail
        refine (size_any _ HA.out _).mono ?_
        rintro e w' ⟨rfl, rfl⟩
        go_wp2_with fail
        refine (size_any _ HB.out _).mono ?_
        rintro e w' ⟨rfl, rfl⟩
        go_wp2_with fail
        refine (HM.out _).mono ?_
        rintro e w' ⟨rfl, rfl⟩
        go_wp2_with fail
        refine (size_any _ (by simp [whB]) _).mono ?_
        rintro e w' ⟨rfl, rfl⟩
        go_wp2_with fail
        rw [show (-(P : Int)) = a * b from by rw [HS.out, hda, hdb]; simp]
        refine (numInt_any _ _).mono ?_
        rintro e w1 ⟨rfl, hb⟩
        obtain ⟨hc, hfr⟩ := bcell hb
        go_wp2
        exact bodyPost_ret (v := .tuple #[.agg #[.int .i64 ((numInt (a * b)).k), .int .i64 ((numInt (a * b)).n), .float .f64 ((numInt (a * b)).f), .string ⟨#[]⟩, .slice none 0 0], .int .i64 (numInt (a * b)).e]) (by simp [results, Tryz.results176, go_sem, hc]) rfl ⟨rfl, below_ret hb _ _ _ _ _⟩
      · go_enter Tryz.func176, Tryz.ntmps176
        go_wp2_with fail
        refine (size_any _ HA.out _).mono ?_
        rintro e w' ⟨rfl, rfl⟩
        go_wp2_with fail
        refine (size_any _ HB.out _).mono ?_
        rintro e w' ⟨rfl, rfl⟩
        go_wp2_with fail
        refine (HM.out _).mono ?_
        rintro e w' ⟨rfl, rfl⟩
        go_wp2_with fail
        refine (size_any _ (by simp [whB]) _).mono ?_
        rintro e w' ⟨rfl, rfl⟩
        go_wp2_with fail
        rw [show (P : Int) = a * b from by rw [HS.out, hda, hdb]; simp]
        refine (numInt_any _ _).mono ?_
        rintro e w1 ⟨rfl, hb⟩
        obtain ⟨hc, hfr⟩ := bcell hb
        go_wp2
        exact bodyPost_ret (v := .tuple #[.agg #[.int .i64 ((numInt (a * b)).k), .int .i64 ((numInt (a * b)).n), .float .f64 ((numInt (a * b)).f), .string ⟨#[]⟩, .slice none 0 0], .int .i64 (numInt (a * b)).e]) (by simp [results, Tryz.results176, go_sem, hc]) rfl ⟨rfl, below_ret hb _ _ _ _ _⟩
  · have hP : 576460752303423488 < a.natAbs * b.natAbs := by omega
    rw [numInt_big hz hP]
    have hh : (((a.natAbs * b.natAbs / 18446744073709551616 : Nat) : Int) != 0) = true := by
      have : 1 ≤ a.natAbs * b.natAbs / 18446744073709551616 := (Nat.le_div_iff_mul_le (by decide)).2 (by omega)
      rw [bne_iff_ne]; omega
    generalize a.natAbs * b.natAbs / 18446744073709551616 = Hi at *
    generalize a.natAbs * b.natAbs % 18446744073709551616 = Lo at *
    have HM := (show Hid (∀ W, Calls _ _ _ W _) from hmul)
    clear hmul hs hz hge hP hax hbx ha hb
    go_enter Tryz.func176, Tryz.ntmps176
    go_wp2_with fail
    refine (size_any _ HA.out _).mono ?_
    rintro e w' ⟨rfl, rfl⟩
    go_wp2_with fail
    refine (size_any _ HB.out _).mono ?_
    rintro e w' ⟨rfl, rfl⟩
    go_wp2_with fail
    refine (HM.out _).mono ?_
    rintro e w' ⟨rfl, rfl⟩
    go_wp2
    exact bodyPost_ret (v := .tuple #[.agg #[.int .i64 (0), .int .i64 (0), .float .f64 (0), .string ⟨#[]⟩, .slice none 0 0], .int .i64 12]) (by simp [results, Tryz.results176, go_sem]) rfl ⟨rfl, below_new _ _⟩

theorem rw_mul (a b : Int) (ha : whB a = true) (hb : whB b = true) (w : World) : Calls Tryz.prog 147 #[.string ⟨#[42]⟩, .int .i64 a, .int .i64 b] w fun e w' => e = .returned (.tuple #[.agg #[.int .i64 ((numInt (a * b)).k), .int .i64 ((numInt (a * b)).n), .float .f64 ((numInt (a * b)).f), .string ⟨#[]⟩, .slice none 0 0], .int .i64 (numInt (a * b)).e]) ∧ Below w.heap.size w w' := by
  go_enter Tryz.func147, Tryz.ntmps147
  go_wp2_with fail
  refine (multiply_any _ _ ha hb _).mono ?_
  rintro e w1 ⟨rfl, hb⟩
  obtain ⟨hc, hfr⟩ := bcell hb
  go_wp2
  exact bodyPost_ret (v := .tuple #[.agg #[.int .i64 ((numInt (a * b)).k), .int .i64 ((numInt (a * b)).n), .float .f64 ((numInt (a * b)).f), .string ⟨#[]⟩, .slice none 0 0], .int .i64 (numInt (a * b)).e]) (by simp [results, Tryz.results147, go_sem, hc]) rfl ⟨rfl, below_ret hb _ _ _ _ _⟩
end Go.Proofs.YtgljglindgbjaaaGreatDoor


/- Contracts of Op on whole numbers: products, quotients, rests. -/
namespace Go.Proofs.YtgljglindgbjaaaGreatDoor
open Go.RowKit
attribute [local go_sem] store_float
attribute [local go_sem ↓] Go.wp_at_zero Go.wp_at_succ

set_option maxHeartbeats 1000000 in
theorem op_wmul (na nb : Int) (fa fb : Nat) (sa sb : ByteArray) (aa ab : Option Addr) (la ca lb cb : Nat) (ha : rightB 1 na fa sa la = true) (hb : rightB 1 nb fb sb lb = true) (hfa : fa < 18446744073709551616) (hfb : fb < 18446744073709551616) (hna : whB na = true) (hnb : whB nb = true) (w : World) :
    Calls Tryz.prog 98 #[.string ⟨#[42]⟩, .agg #[.int .i64 1, .int .i64 na, .float .f64 fa, .string sa, .slice aa la ca], .agg #[.int .i64 1, .int .i64 nb, .float .f64 fb, .string sb, .slice ab lb cb]] w fun e w' => e = .returned (.tuple #[.agg #[.int .i64 ((numInt (na * nb)).k), .int .i64 ((numInt (na * nb)).n), .float .f64 ((numInt (na * nb)).f), .string ⟨#[]⟩, .slice none 0 0], .int .i64 (numInt (na * nb)).e]) ∧ Below w.heap.size w w' := by
  have HA : Hid (rightB 1 na fa sa la = true) := ha
  have HB : Hid (rightB 1 nb fb sb lb = true) := hb
  clear ha hb
  go_enter Tryz.func98, Tryz.ntmps98
  go_wp2_with fail
  refine (isSign_yes _ (by simp) _).mono ?_
  rintro e w' ⟨rfl, rfl⟩
  go_wp2_with fail
  refine (valueOf_yes 1 na fa sa aa la ca hfa HA.out _).mono ?_
  rintro e w1 ⟨rfl, hb1⟩
  obtain ⟨⟨c0, c1, c2, c3, c4, _, _, _, _, _, lt⟩, RB, hW⟩ := after3 hb1
  have HRB := hid RB
  clear hb1 RB
  go_wp2_with fail
  refine (valueOf_yes 1 nb fb sb ab lb cb hfb HB.out _).mono ?_
  rintro e w2 ⟨rfl, hb2⟩
  clear c0 c1 c2 c3 c4 lt
  obtain ⟨⟨x0, x1, x2, ltx⟩, hk, hW2⟩ := later3 hW hb2
  have HRB2 := hid (HRB.out.keep hk)
  clear hb2 hk hW HRB
  go_wp2_with fail
  refine (rw_mul na nb hna hnb _).mono ?_
  rintro e w3 ⟨rfl, hb3⟩
  clear x0 x1 x2 ltx
  have RB3 := (HRB2.out.alloc _).keep hb3
  have hW3 : Below w.heap.size w w3 := (hW2.alloc hW2.size _).trans (hb3.mono (by have := hW2.size; simp; omega))
  obtain ⟨d0, d1, d2, d3, d4, g0, g1, g2, g3, g4, ltr⟩ := RB3
  clear hb3 HRB2
  go_wp2
  exact bodyPost_ret (v := .tuple #[.agg #[.int .i64 ((numInt (na * nb)).k), .int .i64 ((numInt (na * nb)).n), .float .f64 ((numInt (na * nb)).f), .string ⟨#[]⟩, .slice none 0 0], .int .i64 (numInt (na * nb)).e]) (by simp [results, Tryz.results98, go_sem, d0, d1, d2, d3, d4]) rfl ⟨rfl, below_set5 hW3 (by omega) _ _ _ _ _⟩

set_option maxHeartbeats 1000000 in
theorem op_wdiv (na nb : Int) (fa fb : Nat) (sa sb : ByteArray) (aa ab : Option Addr) (la ca lb cb : Nat) (ha : rightB 1 na fa sa la = true) (hb : rightB 1 nb fb sb lb = true) (hfa : fa < 18446744073709551616) (hfb : fb < 18446744073709551616) (hna : whB na = true) (hnb : whB nb = true) (h0 : ¬ nb = 0) (w : World) :
    Calls Tryz.prog 98 #[.string ⟨#[100, 105, 118]⟩, .agg #[.int .i64 1, .int .i64 na, .float .f64 fa, .string sa, .slice aa la ca], .agg #[.int .i64 1, .int .i64 nb, .float .f64 fb, .string sb, .slice ab lb cb]] w fun e w' => e = .returned (.tuple #[.agg #[.int .i64 ((numInt (na.tdiv nb)).k), .int .i64 ((numInt (na.tdiv nb)).n), .float .f64 ((numInt (na.tdiv nb)).f), .string ⟨#[]⟩, .slice none 0 0], .int .i64 (numInt (na.tdiv nb)).e]) ∧ Below w.heap.size w w' := by
  have HA : Hid (rightB 1 na fa sa la = true) := ha
  have HB : Hid (rightB 1 nb fb sb lb = true) := hb
  clear ha hb
  go_enter Tryz.func98, Tryz.ntmps98
  go_wp2_with fail
  refine (isSign_yes _ (by simp) _).mono ?_
  rintro e w' ⟨rfl, rfl⟩
  go_wp2_with fail
  refine (valueOf_yes 1 na fa sa aa la ca hfa HA.out _).mono ?_
  rintro e w1 ⟨rfl, hb1⟩
  obtain ⟨⟨c0, c1, c2, c3, c4, _, _, _, _, _, lt⟩, RB, hW⟩ := after3 hb1
  have HRB := hid RB
  clear hb1 RB
  go_wp2_with fail
  refine (valueOf_yes 1 nb fb sb ab lb cb hfb HB.out _).mono ?_
  rintro e w2 ⟨rfl, hb2⟩
  clear c0 c1 c2 c3 c4 lt
  obtain ⟨⟨x0, x1, x2, ltx⟩, hk, hW2⟩ := later3 hW hb2
  have HRB2 := hid (HRB.out.keep hk)
  clear hb2 hk hW HRB
  go_wp2_with fail
  refine (divide_div na nb hna hnb h0 _).mono ?_
  rintro e w3 ⟨rfl, hb3⟩
  clear x0 x1 x2 ltx
  have RB3 := (HRB2.out.alloc _).keep hb3
  have hW3 : Below w.heap.size w w3 := (hW2.alloc hW2.size _).trans (hb3.mono (by have := hW2.size; simp; omega))
  obtain ⟨d0, d1, d2, d3, d4, g0, g1, g2, g3, g4, ltr⟩ := RB3
  clear hb3 HRB2
  go_wp2
  exact bodyPost_ret (v := .tuple #[.agg #[.int .i64 ((numInt (na.tdiv nb)).k), .int .i64 ((numInt (na.tdiv nb)).n), .float .f64 ((numInt (na.tdiv nb)).f), .string ⟨#[]⟩, .slice none 0 0], .int .i64 (numInt (na.tdiv nb)).e]) (by simp [results, Tryz.results98, go_sem, d0, d1, d2, d3, d4]) rfl ⟨rfl, below_set5 hW3 (by omega) _ _ _ _ _⟩

set_option maxHeartbeats 1000000 in
theorem op_wrem (na nb : Int) (fa fb : Nat) (sa sb : ByteArray) (aa ab : Option Addr) (la ca lb cb : Nat) (ha : rightB 1 na fa sa la = true) (hb : rightB 1 nb fb sb lb = true) (hfa : fa < 18446744073709551616) (hfb : fb < 18446744073709551616) (hna : whB na = true) (hnb : whB nb = true) (h0 : ¬ nb = 0) (w : World) :
    Calls Tryz.prog 98 #[.string ⟨#[114, 101, 109]⟩, .agg #[.int .i64 1, .int .i64 na, .float .f64 fa, .string sa, .slice aa la ca], .agg #[.int .i64 1, .int .i64 nb, .float .f64 fb, .string sb, .slice ab lb cb]] w fun e w' => e = .returned (.tuple #[.agg #[.int .i64 ((numInt (na.tmod nb)).k), .int .i64 ((numInt (na.tmod nb)).n), .float .f64 ((numInt (na.tmod nb)).f), .string ⟨#[]⟩, .slice none 0 0], .int .i64 (numInt (na.tmod nb)).e]) ∧ Below w.heap.size w w' := by
  have HA : Hid (rightB 1 na fa sa la = true) := ha
  have HB : Hid (rightB 1 nb fb sb lb = true) := hb
  clear ha hb
  go_enter Tryz.func98, Tryz.ntmps98
  go_wp2_with fail
  refine (isSign_yes _ (by simp) _).mono ?_
  rintro e w' ⟨rfl, rfl⟩
  go_wp2_with fail
  refine (valueOf_yes 1 na fa sa aa la ca hfa HA.out _).mono ?_
  rintro e w1 ⟨rfl, hb1⟩
  obtain ⟨⟨c0, c1, c2, c3, c4, _, _, _, _, _, lt⟩, RB, hW⟩ := after3 hb1
  have HRB := hid RB
  clear hb1 RB
  go_wp2_with fail
  refine (valueOf_yes 1 nb fb sb ab lb cb hfb HB.out _).mono ?_
  rintro e w2 ⟨rfl, hb2⟩
  clear c0 c1 c2 c3 c4 lt
  obtain ⟨⟨x0, x1, x2, ltx⟩, hk, hW2⟩ := later3 hW hb2
  have HRB2 := hid (HRB.out.keep hk)
  clear hb2 hk hW HRB
  go_wp2_with fail
  refine (divide_rem na nb hna hnb h0 _).mono ?_
  rintro e w3 ⟨rfl, hb3⟩
  clear x0 x1 x2 ltx
  have RB3 := (HRB2.out.alloc _).keep hb3
  have hW3 : Below w.heap.size w w3 := (hW2.alloc hW2.size _).trans (hb3.mono (by have := hW2.size; simp; omega))
  obtain ⟨d0, d1, d2, d3, d4, g0, g1, g2, g3, g4, ltr⟩ := RB3
  clear hb3 HRB2
  go_wp2
  exact bodyPost_ret (v := .tuple #[.agg #[.int .i64 ((numInt (na.tmod nb)).k), .int .i64 ((numInt (na.tmod nb)).n), .float .f64 ((numInt (na.tmod nb)).f), .string ⟨#[]⟩, .slice none 0 0], .int .i64 (numInt (na.tmod nb)).e]) (by simp [results, Tryz.results98, go_sem, d0, d1, d2, d3, d4]) rfl ⟨rfl, below_set5 hW3 (by omega) _ _ _ _ _⟩

set_option maxHeartbeats 1000000 in
theorem op_wdiv0 (na : Int) (fa fb : Nat) (sa sb : ByteArray) (aa ab : Option Addr) (la ca lb cb : Nat) (ha : rightB 1 na fa sa la = true) (hb : rightB 1 0 fb sb lb = true) (hfa : fa < 18446744073709551616) (hfb : fb < 18446744073709551616) (w : World) :
    Calls Tryz.prog 98 #[.string ⟨#[100, 105, 118]⟩, .agg #[.int .i64 1, .int .i64 na, .float .f64 fa, .string sa, .slice aa la ca], .agg #[.int .i64 1, .int .i64 0, .float .f64 fb, .string sb, .slice ab lb cb]] w fun e w' => e = .returned (.tuple #[.agg #[.int .i64 ((⟨0, 0, 0, 11⟩ : R).k), .int .i64 ((⟨0, 0, 0, 11⟩ : R).n), .float .f64 ((⟨0, 0, 0, 11⟩ : R).f), .string ⟨#[]⟩, .slice none 0 0], .int .i64 (⟨0, 0, 0, 11⟩ : R).e]) ∧ Below w.heap.size w w' := by
  have HA : Hid (rightB 1 na fa sa la = true) := ha
  have HB : Hid (rightB 1 0 fb sb lb = true) := hb
  clear ha hb
  go_enter Tryz.func98, Tryz.ntmps98
  go_wp2_with fail
  refine (isSign_yes _ (by simp) _).mono ?_
  rintro e w' ⟨rfl, rfl⟩
  go_wp2_with fail
  refine (valueOf_yes 1 na fa sa aa la ca hfa HA.out _).mono ?_
  rintro e w1 ⟨rfl, hb1⟩
  obtain ⟨⟨c0, c1, c2, c3, c4, _, _, _, _, _, lt⟩, RB, hW⟩ := after3 hb1
  have HRB := hid RB
  clear hb1 RB
  go_wp2_with fail
  refine (valueOf_yes 1 0 fb sb ab lb cb hfb HB.out _).mono ?_
  rintro e w2 ⟨rfl, hb2⟩
  clear c0 c1 c2 c3 c4 lt
  obtain ⟨⟨x0, x1, x2, ltx⟩, hk, hW2⟩ := later3 hW hb2
  have HRB2 := hid (HRB.out.keep hk)
  clear hb2 hk hW HRB
  go_wp2_with fail
  refine (divide_zero _ na _).mono ?_
  rintro e w3 ⟨rfl, hb3⟩
  clear x0 x1 x2 ltx
  have RB3 := (HRB2.out.alloc _).keep hb3
  have hW3 : Below w.heap.size w w3 := (hW2.alloc hW2.size _).trans (hb3.mono (by have := hW2.size; simp; omega))
  obtain ⟨d0, d1, d2, d3, d4, g0, g1, g2, g3, g4, ltr⟩ := RB3
  clear hb3 HRB2
  go_wp2
  exact bodyPost_ret (v := .tuple #[.agg #[.int .i64 ((⟨0, 0, 0, 11⟩ : R).k), .int .i64 ((⟨0, 0, 0, 11⟩ : R).n), .float .f64 ((⟨0, 0, 0, 11⟩ : R).f), .string ⟨#[]⟩, .slice none 0 0], .int .i64 (⟨0, 0, 0, 11⟩ : R).e]) (by simp [results, Tryz.results98, go_sem, d0, d1, d2, d3, d4]) rfl ⟨rfl, below_set5 hW3 (by omega) _ _ _ _ _⟩

set_option maxHeartbeats 1000000 in
theorem op_wrem0 (na : Int) (fa fb : Nat) (sa sb : ByteArray) (aa ab : Option Addr) (la ca lb cb : Nat) (ha : rightB 1 na fa sa la = true) (hb : rightB 1 0 fb sb lb = true) (hfa : fa < 18446744073709551616) (hfb : fb < 18446744073709551616) (w : World) :
    Calls Tryz.prog 98 #[.string ⟨#[114, 101, 109]⟩, .agg #[.int .i64 1, .int .i64 na, .float .f64 fa, .string sa, .slice aa la ca], .agg #[.int .i64 1, .int .i64 0, .float .f64 fb, .string sb, .slice ab lb cb]] w fun e w' => e = .returned (.tuple #[.agg #[.int .i64 ((⟨0, 0, 0, 11⟩ : R).k), .int .i64 ((⟨0, 0, 0, 11⟩ : R).n), .float .f64 ((⟨0, 0, 0, 11⟩ : R).f), .string ⟨#[]⟩, .slice none 0 0], .int .i64 (⟨0, 0, 0, 11⟩ : R).e]) ∧ Below w.heap.size w w' := by
  have HA : Hid (rightB 1 na fa sa la = true) := ha
  have HB : Hid (rightB 1 0 fb sb lb = true) := hb
  clear ha hb
  go_enter Tryz.func98, Tryz.ntmps98
  go_wp2_with fail
  refine (isSign_yes _ (by simp) _).mono ?_
  rintro e w' ⟨rfl, rfl⟩
  go_wp2_with fail
  refine (valueOf_yes 1 na fa sa aa la ca hfa HA.out _).mono ?_
  rintro e w1 ⟨rfl, hb1⟩
  obtain ⟨⟨c0, c1, c2, c3, c4, _, _, _, _, _, lt⟩, RB, hW⟩ := after3 hb1
  have HRB := hid RB
  clear hb1 RB
  go_wp2_with fail
  refine (valueOf_yes 1 0 fb sb ab lb cb hfb HB.out _).mono ?_
  rintro e w2 ⟨rfl, hb2⟩
  clear c0 c1 c2 c3 c4 lt
  obtain ⟨⟨x0, x1, x2, ltx⟩, hk, hW2⟩ := later3 hW hb2
  have HRB2 := hid (HRB.out.keep hk)
  clear hb2 hk hW HRB
  go_wp2_with fail
  refine (divide_zero _ na _).mono ?_
  rintro e w3 ⟨rfl, hb3⟩
  clear x0 x1 x2 ltx
  have RB3 := (HRB2.out.alloc _).keep hb3
  have hW3 : Below w.heap.size w w3 := (hW2.alloc hW2.size _).trans (hb3.mono (by have := hW2.size; simp; omega))
  obtain ⟨d0, d1, d2, d3, d4, g0, g1, g2, g3, g4, ltr⟩ := RB3
  clear hb3 HRB2
  go_wp2
  exact bodyPost_ret (v := .tuple #[.agg #[.int .i64 ((⟨0, 0, 0, 11⟩ : R).k), .int .i64 ((⟨0, 0, 0, 11⟩ : R).n), .float .f64 ((⟨0, 0, 0, 11⟩ : R).f), .string ⟨#[]⟩, .slice none 0 0], .int .i64 (⟨0, 0, 0, 11⟩ : R).e]) (by simp [results, Tryz.results98, go_sem, d0, d1, d2, d3, d4]) rfl ⟨rfl, below_set5 hW3 (by omega) _ _ _ _ _⟩

end Go.Proofs.YtgljglindgbjaaaGreatDoor


