/- The contract of multiply: the product of two whole numbers, or its refusal. -/
import Derived.Test.YtihkabgoaejcgaaDoorO1
import Derived.Test.YtihkabgoaejcgaaDoorShelf
namespace Go.Proofs.YtihkabgoaejcgaaDoor
open Go.RowKit
attribute [local go_sem] store_float

theorem mul_sign (a b : Int) : a * b = if decide (a < 0) = decide (b < 0) then ((a.natAbs * b.natAbs : Nat) : Int) else -((a.natAbs * b.natAbs : Nat) : Int) := by
  rcases (by omega : a < 0 ∨ 0 ≤ a) with ha | ha <;> rcases (by omega : b < 0 ∨ 0 ≤ b) with hb | hb
  · rw [if_pos (by simp [ha, hb])]
    obtain ⟨x, rfl⟩ := Int.eq_negSucc_of_lt_zero ha
    obtain ⟨y, rfl⟩ := Int.eq_negSucc_of_lt_zero hb
    simp [Int.natAbs_negSucc, Int.negSucc_mul_negSucc]
  · rw [if_neg (by simp [ha, hb])]
    obtain ⟨y, rfl⟩ := Int.eq_ofNat_of_zero_le hb
    have e : a = -(a.natAbs : Int) := by omega
    rw [Int.natAbs_natCast, Int.natCast_mul, ← Int.neg_mul, ← e]
  · rw [if_neg (by simp; omega)]
    obtain ⟨x, rfl⟩ := Int.eq_ofNat_of_zero_le ha
    have e : b = -(b.natAbs : Int) := by omega
    rw [Int.natAbs_natCast, Int.natCast_mul, ← Int.mul_neg, ← e]
  · rw [if_pos (by simp; omega)]
    obtain ⟨x, rfl⟩ := Int.eq_ofNat_of_zero_le ha
    obtain ⟨y, rfl⟩ := Int.eq_ofNat_of_zero_le hb
    simp

theorem numInt_big {z : Int} {P : Nat} (h : z = P ∨ z = -(P : Int)) (hP : 576460752303423488 < P) : numInt z = ⟨0, 0, 0, 12⟩ := by
  have : whB z = false := by
    cases e : whB z
    · rfl
    · have := whB_yes e; omega
  simp [numInt, this]

set_option maxHeartbeats 1000000 in
theorem multiply_any (a b : Int) (ha : whB a = true) (hb : whB b = true) (w : World) : Calls Tryd.prog 69 #[.int .i64 a, .int .i64 b] w fun e w' => e = .returned (.tuple #[.agg #[.int .i64 ((numInt (a * b)).k), .int .i64 ((numInt (a * b)).n), .float .f64 ((numInt (a * b)).f), .string ⟨#[]⟩, .slice none 0 0], .int .i64 (numInt (a * b)).e]) ∧ Below w.heap.size w w' := by
  have hs := mul_sign a b
  obtain ⟨a1, a2⟩ := whB_yes ha
  obtain ⟨b1, b2⟩ := whB_yes hb
  have HA := (show Hid (whB a = true) from ha)
  have HB := (show Hid (whB b = true) from hb)
  have hax : a.natAbs < 18446744073709551616 := by omega
  have hbx : b.natAbs < 18446744073709551616 := by omega
  have hmul := fun W => Tryd.bits_Mul64 a.natAbs b.natAbs hax hbx W
  have hz : a * b = ((a.natAbs * b.natAbs : Nat) : Int) ∨ a * b = -((a.natAbs * b.natAbs : Nat) : Int) := by
    rw [hs]; split
    · exact Or.inl rfl
    · exact Or.inr rfl
  rcases Nat.lt_or_ge (a.natAbs * b.natAbs) 18446744073709551616 with hlt | hge
  · rw [Nat.div_eq_of_lt hlt, Nat.mod_eq_of_lt hlt] at hmul
    generalize a.natAbs * b.natAbs = P at *
    rcases Nat.lt_or_ge 576460752303423488 P with hbig | hsm
    · rw [numInt_big hz hbig]
      have HM := (show Hid (∀ W, Calls _ _ _ W _) from hmul)
      clear hmul hs hz hlt hax hbx ha hb
      go_enter Tryd.func69, Tryd.ntmps69
      go_wp2_with fail
      refine (size_any _ HA.out _).mono ?_
      rintro e w' ⟨rfl, rfl⟩
      go_wp2_with fail
      refine (size_any _ HB.out _).mono ?_
      rintro e w' ⟨rfl, rfl⟩
      go_wp2_with fail
      refine (HM.out _).mono ?_
      rintro e w' ⟨rfl, rfl⟩
      go_wp2_with fail
      refine (size_any _ (by simp [whB]) _).mono ?_
      rintro e w' ⟨rfl, rfl⟩
      go_wp2
      exact bodyPost_ret (v := .tuple #[.agg #[.int .i64 (0), .int .i64 (0), .float .f64 (0), .string ⟨#[]⟩, .slice none 0 0], .int .i64 12]) (by simp [results, Tryd.results69, go_sem]) rfl ⟨rfl, below_new _ _⟩
    · have HM := (show Hid (∀ W, Calls _ _ _ W _) from hmul)
      have HS := (show Hid (a * b = if decide (a < 0) = decide (b < 0) then (P : Int) else -(P : Int)) from hs)
      clear hmul hs hz hlt hax hbx ha hb
      cases hda : decide (a < 0) <;> cases hdb : decide (b < 0)
      · go_enter Tryd.func69, Tryd.ntmps69
        go_wp2_with fail
        refine (size_any _ HA.out _).mono ?_
        rintro e w' ⟨rfl, rfl⟩
        go_wp2_with fail
        refine (size_any _ HB.out _).mono ?_
        rintro e w' ⟨rfl, rfl⟩
        go_wp2_with fail
        refine (HM.out _).mono ?_
        rintro e w' ⟨rfl, rfl⟩
        go_wp2_with fail
        refine (size_any _ (by simp [whB]) _).mono ?_
        rintro e w' ⟨rfl, rfl⟩
        go_wp2_with fail
        rw [show (P : Int) = a * b from by rw [HS.out, hda, hdb]; simp]
        refine (numInt_any _ _).mono ?_
        rintro e w1 ⟨rfl, hb⟩
        obtain ⟨hc, hfr⟩ := bcell hb
        go_wp2
        exact bodyPost_ret (v := .tuple #[.agg #[.int .i64 ((numInt (a * b)).k), .int .i64 ((numInt (a * b)).n), .float .f64 ((numInt (a * b)).f), .string ⟨#[]⟩, .slice none 0 0], .int .i64 (numInt (a * b)).e]) (by simp [results, Tryd.results69, go_sem, hc]) rfl ⟨rfl, below_ret hb _ _ _ _ _⟩
      · go_enter Tryd.func69, Tryd.ntmps69
        go_wp2_with fail
        refine (size_any _ HA.out _).mono ?_
        rintro e w' ⟨rfl, rfl⟩
        go_wp2_with fail
        refine (size_any _ HB.out _).mono ?_
        rintro e w' ⟨rfl, rfl⟩
        go_wp2_with fail
        refine (HM.out _).mono ?_
        rintro e w' ⟨rfl, rfl⟩
        go_wp2_with fail
        refine (size_any _ (by simp [whB]) _).mono ?_
        rintro e w' ⟨rfl, rfl⟩
        go_wp2_with fail
        rw [show (-(P : Int)) = a * b from by rw [HS.out, hda, hdb]; simp]
        refine (numInt_any _ _).mono ?_
        rintro e w1 ⟨rfl, hb⟩
        obtain ⟨hc, hfr⟩ := bcell hb
        go_wp2
        exact bodyPost_ret (v := .tuple #[.agg #[.int .i64 ((numInt (a * b)).k), .int .i64 ((numInt (a * b)).n), .float .f64 ((numInt (a * b)).f), .string ⟨#[]⟩, .slice none 0 0], .int .i64 (numInt (a * b)).e]) (by simp [results, Tryd.results69, go_sem, hc]) rfl ⟨rfl, below_ret hb _ _ _ _ _⟩
      · go_enter Tryd.func69, Tryd.ntmps69
        go_wp2_with fail
        refine (size_any _ HA.out _).mono ?_
        rintro e w' ⟨rfl, rfl⟩
        go_wp2_with fail
        refine (size_any _ HB.out _).mono ?_
        rintro e w' ⟨rfl, rfl⟩
        go_wp2_with fail
        refine (HM.out _).mono ?_
        rintro e w' ⟨rfl, rfl⟩
        go_wp2_with fail
        refine (size_any _ (by simp [whB]) _).mono ?_
        rintro e w' ⟨rfl, rfl⟩
        go_wp2_with fail
        rw [show (-(P : Int)) = a * b from by rw [HS.out, hda, hdb]; simp]
        refine (numInt_any _ _).mono ?_
        rintro e w1 ⟨rfl, hb⟩
        obtain ⟨hc, hfr⟩ := bcell hb
        go_wp2
        exact bodyPost_ret (v := .tuple #[.agg #[.int .i64 ((numInt (a * b)).k), .int .i64 ((numInt (a * b)).n), .float .f64 ((numInt (a * b)).f), .string ⟨#[]⟩, .slice none 0 0], .int .i64 (numInt (a * b)).e]) (by simp [results, Tryd.results69, go_sem, hc]) rfl ⟨rfl, below_ret hb _ _ _ _ _⟩
      · go_enter Tryd.func69, Tryd.ntmps69
        go_wp2_with fail
        refine (size_any _ HA.out _).mono ?_
        rintro e w' ⟨rfl, rfl⟩
        go_wp2_with fail
        refine (size_any _ HB.out _).mono ?_
        rintro e w' ⟨rfl, rfl⟩
        go_wp2_with fail
        refine (HM.out _).mono ?_
        rintro e w' ⟨rfl, rfl⟩
        go_wp2_with fail
        refine (size_any _ (by simp [whB]) _).mono ?_
        rintro e w' ⟨rfl, rfl⟩
        go_wp2_with fail
        rw [show (P : Int) = a * b from by rw [HS.out, hda, hdb]; simp]
        refine (numInt_any _ _).mono ?_
        rintro e w1 ⟨rfl, hb⟩
        obtain ⟨hc, hfr⟩ := bcell hb
        go_wp2
        exact bodyPost_ret (v := .tuple #[.agg #[.int .i64 ((numInt (a * b)).k), .int .i64 ((numInt (a * b)).n), .float .f64 ((numInt (a * b)).f), .string ⟨#[]⟩, .slice none 0 0], .int .i64 (numInt (a * b)).e]) (by simp [results, Tryd.results69, go_sem, hc]) rfl ⟨rfl, below_ret hb _ _ _ _ _⟩
  · have hP : 576460752303423488 < a.natAbs * b.natAbs := by omega
    rw [numInt_big hz hP]
    have hh : (((a.natAbs * b.natAbs / 18446744073709551616 : Nat) : Int) != 0) = true := by
      have : 1 ≤ a.natAbs * b.natAbs / 18446744073709551616 := (Nat.le_div_iff_mul_le (by decide)).2 (by omega)
      rw [bne_iff_ne]; omega
    generalize a.natAbs * b.natAbs / 18446744073709551616 = Hi at *
    generalize a.natAbs * b.natAbs % 18446744073709551616 = Lo at *
    have HM := (show Hid (∀ W, Calls _ _ _ W _) from hmul)
    clear hmul hs hz hge hP hax hbx ha hb
    go_enter Tryd.func69, Tryd.ntmps69
    go_wp2_with fail
    refine (size_any _ HA.out _).mono ?_
    rintro e w' ⟨rfl, rfl⟩
    go_wp2_with fail
    refine (size_any _ HB.out _).mono ?_
    rintro e w' ⟨rfl, rfl⟩
    go_wp2_with fail
    refine (HM.out _).mono ?_
    rintro e w' ⟨rfl, rfl⟩
    go_wp2
    exact bodyPost_ret (v := .tuple #[.agg #[.int .i64 (0), .int .i64 (0), .float .f64 (0), .string ⟨#[]⟩, .slice none 0 0], .int .i64 12]) (by simp [results, Tryd.results69, go_sem]) rfl ⟨rfl, below_new _ _⟩

theorem rw_mul (a b : Int) (ha : whB a = true) (hb : whB b = true) (w : World) : Calls Tryd.prog 52 #[.string ⟨#[42]⟩, .int .i64 a, .int .i64 b] w fun e w' => e = .returned (.tuple #[.agg #[.int .i64 ((numInt (a * b)).k), .int .i64 ((numInt (a * b)).n), .float .f64 ((numInt (a * b)).f), .string ⟨#[]⟩, .slice none 0 0], .int .i64 (numInt (a * b)).e]) ∧ Below w.heap.size w w' := by
  go_enter Tryd.func52, Tryd.ntmps52
  go_wp2_with fail
  refine (multiply_any _ _ ha hb _).mono ?_
  rintro e w1 ⟨rfl, hb⟩
  obtain ⟨hc, hfr⟩ := bcell hb
  go_wp2
  exact bodyPost_ret (v := .tuple #[.agg #[.int .i64 ((numInt (a * b)).k), .int .i64 ((numInt (a * b)).n), .float .f64 ((numInt (a * b)).f), .string ⟨#[]⟩, .slice none 0 0], .int .i64 (numInt (a * b)).e]) (by simp [results, Tryd.results52, go_sem, hc]) rfl ⟨rfl, below_ret hb _ _ _ _ _⟩
end Go.Proofs.YtihkabgoaejcgaaDoor
