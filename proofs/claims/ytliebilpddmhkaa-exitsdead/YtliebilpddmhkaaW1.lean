/- Small contracts of the program: how numbers are made, or refused, by the program. -/
import Derived.Test.YtliebilpddmhkaaW0
namespace Go.Proofs.Ytliebilpddmhkaa
open Go.RowKit
attribute [local go_sem] store_float

theorem isWhole_any (n : Int) (w : World) : Calls Try.prog 79 #[.int .i64 n] w fun e w' => e = .returned (.bool (whB n)) ∧ w' = w := by
  cases hb : whB n
  · rcases whB_no hb with h | h
    · clear hb
      go_enter Try.func79, Try.ntmps79
      go_wp2
      go_ret
      exact ⟨rfl, rfl⟩
    · have h2 : -576460752303423488 ≤ n := by omega
      clear hb
      go_enter Try.func79, Try.ntmps79
      go_wp2
      go_ret
      refine ⟨?_, rfl⟩
      simp
      omega
  · obtain ⟨h1, h2⟩ := whB_yes hb
    clear hb
    go_enter Try.func79, Try.ntmps79
    go_wp2
    go_ret
    refine ⟨?_, rfl⟩
    simp

theorem isFinite_any (u : Nat) (hu : u < 18446744073709551616) (w : World) : Calls Try.prog 80 #[.int .u64 u] w fun e w' => e = .returned (.bool (Flt.fin u)) ∧ w' = w := by
  have hx := Flt.and_exp u hu
  have hy := u64_and_nat u 9218868437227405312 hu (by decide)
  have hz : (bits .and .u64 (u : Int) 9218868437227405312 != 9218868437227405312) = Flt.fin u := by
    rw [show (9218868437227405312 : Int) = ((9218868437227405312 : Nat) : Int) from rfl, hy, Bool.eq_iff_iff]
    cases hf : Flt.fin u
    · have := hx.2 hf; rw [this]; simp
    · have : ¬ (u &&& 9218868437227405312 = 9218868437227405312) := fun h => by rw [hx.1 h] at hf; cases hf
      simp; omega
  clear hx hy
  go_enter Try.func80, Try.ntmps80
  go_wp2
  go_ret
  exact ⟨rfl, rfl⟩

theorem numBits_any (u : Nat) (hu : u < 18446744073709551616) (w : World) : Calls Try.prog 81 #[.int .u64 u] w fun e w' => e = .returned (.tuple #[.agg #[.int .i64 (numBits u).k, .int .i64 (numBits u).n, .float .f64 (numBits u).f, .string ⟨#[]⟩, .slice none 0 0], .int .i64 (numBits u).e]) ∧ Below w.heap.size w w' := by
  have hf := f64frombits
  cases hb : Flt.fin u
  · have e : numBits u = ⟨0, 0, 0, 11⟩ := by simp [numBits, hb]
    rw [e]; clear e
    go_enter Try.func81, Try.ntmps81
    go_wp2_with (go_at_call 80; refine (isFinite_any _ hu _).mono ?_; rintro e w' ⟨rfl, rfl⟩)
    exact bodyPost_ret (v := .tuple #[.agg #[.int .i64 0, .int .i64 0, .float .f64 0, .string ⟨#[]⟩, .slice none 0 0], .int .i64 11]) (by simp [results, Try.results81, go_sem]) rfl ⟨rfl, (Below.refl _ _).alloc (Nat.le_refl _) _⟩
  · have e : numBits u = ⟨2, 0, u, 0⟩ := by simp [numBits, hb]
    rw [e]; clear e
    go_enter Try.func81, Try.ntmps81
    go_wp2_with (go_at_call 80; refine (isFinite_any _ hu _).mono ?_; rintro e w' ⟨rfl, rfl⟩)
    exact bodyPost_ret (v := .tuple #[.agg #[.int .i64 2, .int .i64 0, .float .f64 u, .string ⟨#[]⟩, .slice none 0 0], .int .i64 0]) (by simp [results, Try.results81, go_sem]) rfl ⟨rfl, (Below.refl _ _).alloc (Nat.le_refl _) _⟩

theorem numFloat_any (x : Nat) (hu : x < 18446744073709551616) (w : World) : Calls Try.prog 77 #[.float .f64 x] w fun e w' => e = .returned (.tuple #[.agg #[.int .i64 (numBits x).k, .int .i64 (numBits x).n, .float .f64 (numBits x).f, .string ⟨#[]⟩, .slice none 0 0], .int .i64 (numBits x).e]) ∧ Below w.heap.size w w' := by
  have hf := f64bits
  go_enter Try.func77, Try.ntmps77
  go_wp2_with fail
  refine (numBits_any x hu _).mono ?_
  rintro e w1 ⟨rfl, hb⟩
  obtain ⟨hc, hfr⟩ := bcell hb
  have hz := hb.size
  go_wp2
  exact bodyPost_ret (v := .tuple #[.agg #[.int .i64 ((numBits x).k), .int .i64 ((numBits x).n), .float .f64 ((numBits x).f), .string ⟨#[]⟩, .slice none 0 0], .int .i64 (numBits x).e]) (by simp [results, Try.results77, go_sem, hc]) rfl ⟨rfl, below_ret hb _ _ _ _ _⟩

end Go.Proofs.Ytliebilpddmhkaa
