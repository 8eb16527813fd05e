/- Put that refuses; Take of nothing; whole numbers as terms. -/
import Derived.Test.YtapjnnbcphpokaaIb8
namespace Go.Proofs.Ytapjnnbcphpokaa
open Go.RowKit Go.Deep
attribute [local go_sem] store_float f64bits
attribute [local go_sem ↓] Go.wp_at_zero Go.wp_at_succ
variable {w : World} {bb place most puts : Nat} {ms : List Msg} {R : Nat → Prop}

set_option maxHeartbeats 400000 in
set_option maxRecDepth 100000 in
theorem putB_err (t : Tr) (hin : t.In w 0) (hs : Small t) (he : (errT t == 0) = false) :
    Calls Try.prog 16 #[.pointer (some ⟨bb, 0, none⟩), t.val] w fun e w' => e = .returned (.int .i64 (errT t)) ∧ Below w.heap.size w w' := by
  have WD := hidb (fun w' hb => words_t t w' (in_below (w := w) hb hin) hs)
  generalize errT t = E at *
  generalize wordsT t = Wd at *
  obtain ⟨k, n, f, s, a, c, kids⟩ := t
  clear hin hs
  show Calls Try.prog 16 #[.pointer (some ⟨bb, 0, none⟩), .agg #[.int .i64 k, .int .i64 n, .float .f64 f, .string s, .slice a kids.length c]] w _
  go_enter Try.func16, Try.ntmps16
  go_wp2_with (first
    | (go_at_call 37; refine (WD.out _ (below_new w _)).mono ?_; rintro e w1 ⟨rfl, hb1⟩; have HB2 := hidb (box_then (Below.refl _ _) hb1); clear hb1 WD))
  go_ret
  exact ⟨rfl, box_below HB2.out⟩

set_option maxHeartbeats 400000 in
set_option maxRecDepth 100000 in
theorem putB_full (t : Tr) (W2 : Nat) (h : BX w bb ms place most puts R) (hin : t.In w 0) (hs : Small t) (he : errT t = 0) (hw2 : wordsT t = (W2 : Int)) (hW2 : W2 ≤ 65536) (hfit : most < wds ms + (W2 + 2)) (_hmost : most ≤ 16777216) (hwd : wds ms ≤ most) :
    Calls Try.prog 16 #[.pointer (some ⟨bb, 0, none⟩), t.val] w fun e w' => e = .returned (.int .i64 12) ∧ Below w.heap.size w w' := by
  have WD := hidb (fun w' hb => words_t t w' (in_below (w := w) hb hin) hs)
  rw [he, hw2] at WD
  have HB := hidb h
  obtain ⟨k, n, f, s, a, c, kids⟩ := t
  clear hin hs he hw2 h
  show Calls Try.prog 16 #[.pointer (some ⟨bb, 0, none⟩), .agg #[.int .i64 k, .int .i64 n, .float .f64 f, .string s, .slice a kids.length c]] w _
  have hW : IntKind.i64.wrap ((W2 : Int) + 2) = (W2 : Int) + 2 := by rw [IntKind.wrap_i64]; omega
  have hsub : IntKind.i64.wrap ((most : Int) - (wds ms : Int)) = (most : Int) - (wds ms : Int) := by rw [IntKind.wrap_i64]; omega
  have hcmp : (most : Int) - (wds ms : Int) < (W2 : Int) + 2 := by omega
  go_enter Try.func16, Try.ntmps16
  go_wp2_with (first
    | (go_at_call 37; refine (WD.out _ (below_new w _)).mono ?_; rintro e w1 ⟨rfl, hb1⟩; have HB2 := hidb (box_then (Below.refl _ _) hb1); clear hb1 WD))
  have HX1 := hidb (HB.out.keep (box_below HB2.out))
  obtain ⟨c4, -⟩ := HX1.out.box.1 4 _ rfl
  obtain ⟨c5, -⟩ := HX1.out.box.1 5 _ rfl
  go_region_held3 (fun w' => w'.cell? ⟨bb, 4, none⟩ = some (.int .i64 (wds ms : Int)) ∧ w'.cell? ⟨bb, 5, none⟩ = some (.int .i64 (most : Int))) (first | go_keep) (first | fail)
  go_wp2_with fail
  go_ret
  exact ⟨rfl, (box_below HB2.out).drew⟩

/-- A whole number as a term. -/
def numT (k : Int) : Tr := .mk 1 k 0 ⟨#[]⟩ none 0 []
theorem numT_in (k : Int) (h1 : 0 ≤ k) (h2 : k ≤ 1000) (w : World) : (numT k).In w 0 := by
  unfold numT Tr.In
  refine ⟨⟨by decide, ?_, by decide, by show 0 ≤ maxLen; omega, by simp, by simp, fun _ => rfl⟩, fun ad h => by simp at h⟩
  have e0 : IntKind.i64.min = -9223372036854775808 := by decide
  have e1 : IntKind.i64.max = 9223372036854775807 := by decide
  simp only [Lit.wf, e0, e1, Bool.and_eq_true, decide_eq_true_eq]
  omega
theorem numT_on (k : Int) (S : Nat → Prop) : (numT k).On S := by unfold numT Tr.On Tr.OnAll; exact ⟨fun h => by simp at h, trivial⟩
theorem numT_small (k : Int) : Small (numT k) := by unfold numT Small SmallAll; exact ⟨by simp, trivial⟩
theorem numT_err (k : Int) (h1 : 0 ≤ k) (h2 : k ≤ 1000) : errT (numT k) = 0 ∧ wordsT (numT k) = 0 := by
  have h : whB k = true := by simp [whB]; omega
  have e : errT (numT k) = 0 := by simp [errT, numT, meas, measAll, own, allT, allAll, goodT, rightB, h, ByteArray.toList_eq]
  refine ⟨e, ?_⟩
  unfold wordsT
  rw [if_pos e]
  simp [numT, meas, measAll, own]
theorem sm_num {k : Int} {t : Tr} (h : Sm (numT k) t) : ∃ a c, t = .mk 1 k 0 ⟨#[]⟩ a c [] := by
  obtain ⟨k', n', f', s', a', c', kids'⟩ := t
  unfold numT Sm at h
  obtain ⟨rfl, rfl, rfl, rfl, h⟩ := h
  cases kids' with
  | nil => exact ⟨a', c', rfl⟩
  | cons => simp [SmA] at h
end Go.Proofs.Ytapjnnbcphpokaa
