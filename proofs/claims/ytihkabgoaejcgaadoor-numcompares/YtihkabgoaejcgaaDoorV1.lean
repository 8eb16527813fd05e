/- How numbers are made, or refused, by the document's own reckoning. -/
import Derived.Test.YtihkabgoaejcgaaDoorW1
namespace Go.Proofs.YtihkabgoaejcgaaDoor
open Go.RowKit
attribute [local go_sem] store_float

theorem refI_any (n : Int) (w : World) : Calls Tryd.prog 43 #[.int .i64 n] w fun e w' => e = .returned (.agg #[.int .i64 1, .int .i64 n, .float .f64 0, .string ⟨#[]⟩, .slice none 0 0]) ∧ Below w.heap.size w w' := by
  go_enter Tryd.func43, Tryd.ntmps43
  go_wp2
  exact bodyPost_ret (v := .agg #[.int .i64 1, .int .i64 n, .float .f64 0, .string ⟨#[]⟩, .slice none 0 0]) (by simp [results, Tryd.results43, go_sem]) rfl ⟨rfl, (Below.refl _ _).alloc (Nat.le_refl _) _⟩

theorem refF_any (x : Nat) (w : World) : Calls Tryd.prog 45 #[.float .f64 x] w fun e w' => e = .returned (.agg #[.int .i64 2, .int .i64 0, .float .f64 x, .string ⟨#[]⟩, .slice none 0 0]) ∧ Below w.heap.size w w' := by
  go_enter Tryd.func45, Tryd.ntmps45
  go_wp2
  exact bodyPost_ret (v := .agg #[.int .i64 2, .int .i64 0, .float .f64 x, .string ⟨#[]⟩, .slice none 0 0]) (by simp [results, Tryd.results45, go_sem]) rfl ⟨rfl, (Below.refl _ _).alloc (Nat.le_refl _) _⟩

theorem refFinite_any (x : Nat) (w : World) : Calls Tryd.prog 44 #[.float .f64 x] w fun e w' => e = .returned (.bool (Flt.fin x)) ∧ Below w.heap.size w w' := by
  cases hb : Flt.fin x
  · have hs := fun t w => sub_nan t x hb w
    have ho : ∀ t y, (FloatKind.f64.format.order (Flt.nanOf t) y) = none := fun t y => Flt.nanOf_order t y
    go_enter Tryd.func44, Tryd.ntmps44
    go_wp2
    go_ret
    exact ⟨rfl, (Below.refl _ _).drew⟩
  · have hs := fun t w => sub_fin t x hb w
    have ho : (FloatKind.f64.format.order 0 0) = some .eq := Flt.order_zero_zero
    go_enter Tryd.func44, Tryd.ntmps44
    go_wp2
    go_ret
    exact ⟨rfl, Below.refl _ _⟩

theorem refInt_any (n : Int) (w : World) : Calls Tryd.prog 11 #[.int .i64 n] w fun e w' => e = .returned (.tuple #[.agg #[.int .i64 ((numInt n).k), .int .i64 ((numInt n).n), .float .f64 ((numInt n).f), .string ⟨#[]⟩, .slice none 0 0], .int .i64 (numInt n).e]) ∧ Below w.heap.size w w' := by
  cases hb : whB n
  · have e : numInt n = ⟨0, 0, 0, 12⟩ := by simp [numInt, hb]
    rw [e]; clear e
    rcases whB_no hb with h | h
    · clear hb
      go_enter Tryd.func11, Tryd.ntmps11
      go_wp2
      exact bodyPost_ret (v := .tuple #[.agg #[.int .i64 (0), .int .i64 (0), .float .f64 (0), .string ⟨#[]⟩, .slice none 0 0], .int .i64 12]) (by simp [results, Tryd.results11, go_sem]) rfl ⟨rfl, below_new _ _⟩
    · have h2 : ¬ n < -576460752303423488 := by omega
      clear hb
      go_enter Tryd.func11, Tryd.ntmps11
      go_wp2
      exact bodyPost_ret (v := .tuple #[.agg #[.int .i64 (0), .int .i64 (0), .float .f64 (0), .string ⟨#[]⟩, .slice none 0 0], .int .i64 12]) (by simp [results, Tryd.results11, go_sem]) rfl ⟨rfl, below_new _ _⟩
  · have e : numInt n = ⟨1, n, 0, 0⟩ := by simp [numInt, hb]
    rw [e]; clear e
    obtain ⟨h1, h2⟩ := whB_yes hb
    clear hb
    go_enter Tryd.func11, Tryd.ntmps11
    go_wp2_with fail
    refine (refI_any n _).mono ?_
    rintro e w1 ⟨rfl, hb⟩
    obtain ⟨hc, hfr⟩ := bcell hb
    have hz := hb.size
    go_wp2
    exact bodyPost_ret (v := .tuple #[.agg #[.int .i64 (1), .int .i64 (n), .float .f64 (0), .string ⟨#[]⟩, .slice none 0 0], .int .i64 0]) (by simp [results, Tryd.results11, go_sem, hc]) rfl ⟨rfl, below_ret hb _ _ _ _ _⟩

theorem refFloat_any (x : Nat) (w : World) : Calls Tryd.prog 15 #[.float .f64 x] w fun e w' => e = .returned (.tuple #[.agg #[.int .i64 ((numBits x).k), .int .i64 ((numBits x).n), .float .f64 ((numBits x).f), .string ⟨#[]⟩, .slice none 0 0], .int .i64 (numBits x).e]) ∧ Below w.heap.size w w' := by
  cases hb : Flt.fin x
  · have e : numBits x = ⟨0, 0, 0, 11⟩ := by simp [numBits, hb]
    rw [e]; clear e
    go_enter Tryd.func15, Tryd.ntmps15
    go_wp2_with fail
    refine (refFinite_any x _).mono ?_
    rintro e w1 ⟨rfl, hb1⟩
    obtain ⟨hc, hfr⟩ := bcell hb1
    have hz := hb1.size
    go_wp2
    exact bodyPost_ret (v := .tuple #[.agg #[.int .i64 (0), .int .i64 (0), .float .f64 (0), .string ⟨#[]⟩, .slice none 0 0], .int .i64 11]) (by simp [results, Tryd.results15, go_sem, hc]) rfl ⟨rfl, below_ret hb1 _ _ _ _ _⟩
  · have e : numBits x = ⟨2, 0, x, 0⟩ := by simp [numBits, hb]
    rw [e]; clear e
    go_enter Tryd.func15, Tryd.ntmps15
    go_wp2_with fail
    refine (refFinite_any x _).mono ?_
    rintro e w1 ⟨rfl, hb1⟩
    obtain ⟨hc, hfr⟩ := bcell hb1
    have hz := hb1.size
    go_wp2_with fail
    refine (refF_any x _).mono ?_
    rintro e w2 ⟨rfl, hb2⟩
    replace hb1 := bthen hb1 hb2
    clear hc hfr hb2 hz
    obtain ⟨hc, hfr⟩ := bcell hb1
    go_wp2
    exact bodyPost_ret (v := .tuple #[.agg #[.int .i64 (2), .int .i64 (0), .float .f64 (x), .string ⟨#[]⟩, .slice none 0 0], .int .i64 0]) (by simp [results, Tryd.results15, go_sem, hc]) rfl ⟨rfl, below_ret hb1 _ _ _ _ _⟩
end Go.Proofs.YtihkabgoaejcgaaDoor
