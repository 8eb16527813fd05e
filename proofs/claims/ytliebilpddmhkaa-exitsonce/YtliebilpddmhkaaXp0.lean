/- The chapter's examples, as stage 16's laws ask for them. -/
import Derived.Test.YtliebilpddmhkaaXo1
namespace Go.Proofs.Ytliebilpddmhkaa
open Go.RowKit Go.Lib Go.Deep
attribute [local go_sem] store_float f64bits
attribute [local go_sem ↓] Go.wp_at_zero Go.wp_at_succ

theorem err_kill : errT (aTr ⟨#[107, 105, 108, 108]⟩) = 0 := by decide
theorem kill_in (w : World) (B : Nat) : (aTr ⟨#[107, 105, 108, 108]⟩).In w B := leaf0 3 0 _ (by decide) (by decide) (by decide) w B
theorem act_known1 (w : World) : Calls Try.prog 12 #[.agg #[.int .i64 3, .int .i64 1, .int .i64 5, .int .i64 0, .int .i64 0, .bool false, .string ⟨#[]⟩, .int .i64 3, .int .i64 0, .float .f64 0, .string ⟨#[107, 105, 108, 108]⟩, .slice none 0 0], .bool true] w fun e w' => e = .returned (.tuple #[.agg #[.int .i64 2, .int .i64 3, .int .i64 0, .float .f64 0, .string ⟨#[107, 105, 108, 108, 101, 100]⟩, .slice none 0 0], .int .i64 0]) ∧ Below w.heap.size w w' := by
  refine (Act_any 0 0 ⟨#[]⟩ 3 1 false true 3 0 0 ⟨#[107, 105, 108, 108]⟩ none 0 [] w (kill_in w 0) (leaf_small _ _ _ _ _ _) (by decide) (by decide) err_kill (by decide) (by decide)).mono ?_
  rintro e w' ⟨k0, k2, n2, f2, s2, a2, c2, kids2, rfl, ho, -, hb⟩
  unfold OcR at ho
  rw [if_pos (by decide)] at ho
  obtain ⟨rfl, e2⟩ := ho
  unfold aTr at e2
  cases e2
  exact ⟨rfl, hb⟩
theorem act_known2 (w : World) : Calls Try.prog 12 #[.agg #[.int .i64 3, .int .i64 1, .int .i64 5, .int .i64 0, .int .i64 0, .bool true, .string ⟨#[]⟩, .int .i64 3, .int .i64 0, .float .f64 0, .string ⟨#[107, 105, 108, 108]⟩, .slice none 0 0], .bool false] w fun e w' => ∃ (ay : Option Addr) (cy : Nat), e = .returned (.tuple #[.agg #[.int .i64 2, .int .i64 3, .int .i64 0, .float .f64 0, .string ⟨#[107, 105, 108, 108]⟩, .slice ay 0 cy], .int .i64 0]) ∧ Below w.heap.size w w' := by
  refine (Act_any 0 0 ⟨#[]⟩ 3 1 true false 3 0 0 ⟨#[107, 105, 108, 108]⟩ none 0 [] w (kill_in w 0) (leaf_small _ _ _ _ _ _) (by decide) (by decide) err_kill (by decide) (by decide)).mono ?_
  rintro e w' ⟨k0, k2, n2, f2, s2, a2, c2, kids2, rfl, ho, -, hb⟩
  unfold OcR at ho
  rw [if_neg (by decide), if_neg (by decide), if_neg (by decide)] at ho
  obtain ⟨rfl, hs⟩ := ho
  unfold Sm at hs
  obtain ⟨rfl, rfl, rfl, rfl, hk⟩ := hs
  have : kids2 = [] := by
    cases kids2 with
    | nil => rfl
    | cons a l => unfold SmA at hk; exact hk.elim
  subst this
  exact ⟨a2, c2, rfl, hb⟩
theorem latom_val (s : ByteArray) (w : World) : Calls Try.prog 15 #[.string s] w fun e w' => e = .returned (.agg #[.int .i64 3, .int .i64 0, .float .f64 0, .string s, .slice none 0 0]) ∧ Below w.heap.size w w' := by
  go_enter Try.func15, Try.ntmps15
  go_wp2
  exact bodyPost_ret (v := .agg #[.int .i64 3, .int .i64 0, .float .f64 0, .string s, .slice none 0 0]) (by simp [results, Try.results15, go_sem]) rfl ⟨rfl, by (repeat (first | exact Below.refl _ _ | assumption | refine Below.drew ?_ | refine below_drewN ?_ _ | refine Below.setCell ?_ (by simp) _ | refine Below.alloc ?_ (by (first | exact Nat.le_refl _ | (simp; done) | (simp; omega) | omega)) _ | refine Below.trans ?_ (Below.mono (by assumption) (by first | exact Nat.le_refl _ | (simp; done) | (simp; omega) | omega))))⟩

set_option maxRecDepth 100000 in
set_option maxHeartbeats 4000000 in
theorem known16_any (w : World) : Calls Try.prog 6 #[] w fun e w' => e = .returned (.bool true) ∧ Below w.heap.size w w' := by
  have A1 := hidb (fun w => latom_val ⟨#[107, 105, 108, 108]⟩ w)
  have A2 := hidb (fun w => latom_val ⟨#[107, 105, 108, 108]⟩ w)
  have K1 := hidb act_known1
  have K2 := hidb act_known2
  have DE : Hid (∀ w, Calls Try.prog 9 #[.agg #[.int .i64 1, .int .i64 7, .int .i64 2, .int .i64 0, .int .i64 0, .bool false, .string ⟨#[]⟩, .int .i64 0, .int .i64 0, .float .f64 0, .string ⟨#[]⟩, .slice none 0 0]] w fun e w' => e = .returned (.tuple #[.agg #[.int .i64 7, .int .i64 1, .int .i64 5, .int .i64 0, .int .i64 0, .bool true, .string ⟨#[]⟩, .int .i64 3, .int .i64 0, .float .f64 0, .string ⟨#[110, 111, 112, 114, 111, 99]⟩, .slice none 0 0], .bool true]) ∧ Below w.heap.size w w') := hidb (fun w => Dead_link 1 7 0 0 false ⟨#[]⟩ 0 0 0 ⟨#[]⟩ none 0 0 (by decide) w)
  go_enter Try.func6, Try.ntmps6
  go_wp2_with (first
    | (go_at_call 15; refine (A1.out _).mono ?_; clear A1; rintro e w1 ⟨rfl, hb1⟩; have HB1 := hidb hb1; clear hb1)
    | (go_at_call 12; refine (K1.out _).mono ?_; clear K1; rintro e w2 ⟨rfl, hb2⟩; have HB2 := hidb (HB1.out.trans (hb2.mono HB1.out.size)); clear hb2)
    | (go_at_call 15; refine (A2.out _).mono ?_; clear A2; rintro e w3 ⟨rfl, hb3⟩; have HB3 := hidb ((HB2.out.alloc HB2.out.size _).trans (hb3.mono (HB2.out.alloc HB2.out.size _).size)); have HX3 := hidb (at_keep (at_new w2 (.cells #[.int .i64 2, .int .i64 3, .int .i64 0, .float .f64 0, .string ⟨#[107, 105, 108, 108, 101, 100]⟩, .slice none 0 0] 37)) hb3); clear hb3)
    | (go_at_call 12; refine (K2.out _).mono ?_; clear K2; rintro e w4 ⟨ay, cy, rfl, hb4⟩; have HB4 := hidb (HB3.out.trans (hb4.mono HB3.out.size)); have HX4 := hidb (at_keep HX3.out hb4); clear hb4)
    | (go_at_call 9; refine (DE.out _).mono ?_; clear DE; rintro e w5 ⟨rfl, hb5⟩; have HB5 := hidb ((HB4.out.alloc HB4.out.size _).trans (hb5.mono (HB4.out.alloc HB4.out.size _).size)); have HX5 := hidb (at_keep (at_keep HX4.out (below_new w4 (.cells #[.int .i64 2, .int .i64 3, .int .i64 0, .float .f64 0, .string ⟨#[107, 105, 108, 108]⟩, .slice ay 0 cy] 37))) hb5); have HY5 := hidb (at_keep (at_new w4 (.cells #[.int .i64 2, .int .i64 3, .int .i64 0, .float .f64 0, .string ⟨#[107, 105, 108, 108]⟩, .slice ay 0 cy] 37)) hb5); obtain ⟨p0, p1, p2, p3, p4, p5⟩ := box6 HX5.out; obtain ⟨q0, q1, q2, q3, q4, q5⟩ := box6 HY5.out; have hx5 : w2.heap.size < w5.heap.size := (Array.getElem?_eq_some_iff.1 HX5.out).1; have hy5 : w4.heap.size < w5.heap.size := (Array.getElem?_eq_some_iff.1 HY5.out).1; have hxn : w2.heap.size ≠ w5.heap.size := Nat.ne_of_lt hx5; have hyn : w4.heap.size ≠ w5.heap.size := Nat.ne_of_lt hy5; clear hb5))
  go_ret
  exact ⟨rfl, HB5.out.alloc HB5.out.size _⟩
end Go.Proofs.Ytliebilpddmhkaa
