/- Numbers: the tokens. -/
import Derived.Test.YtecgddiohoeboaaDoorLx8
namespace Go.Proofs.YtecgddiohoeboaaDoor
open Go.RowKit Go.Lib
attribute [local go_sem] store_float f64bits
attribute [local go_sem ↓] Go.wp_at_zero Go.wp_at_succ

/-- A token that is none, with its error. -/
abbrev badV (e : Int) : Value := .tuple #[.agg #[.int .i64 (0), .string (⟨#[]⟩), .int .i64 (0), .float .f64 (0), .int .i64 (0)], .int .i64 e]

def wholeV (D : ByteArray) : Value := if 18 < D.size then badV 22 else if 576460752303423487 < wor D D.size then badV 22 else .tuple #[.agg #[.int .i64 (3), .string (⟨#[]⟩), .int .i64 ((wor D D.size : Nat)), .float .f64 (0), .int .i64 (0)], .int .i64 0]

theorem below_chain {a b c d : World} (h1 : Below a.heap.size a b) (h2 : Below b.heap.size b c) (h3 : Below c.heap.size c d) : Below a.heap.size a d :=
  (h1.trans (h2.mono h1.size)).trans (h3.mono (Nat.le_trans h1.size h2.size))

set_option maxHeartbeats 1000000 in
theorem wholeNumber_any (D : ByteArray) (h : Digs D) (hs : D.size ≤ 65536) (w : World) :
    Calls Tryd.prog 59 #[.string D] w fun e w' => e = .returned (wholeV D) ∧ Below w.heap.size w w' := by
  unfold wholeV
  by_cases h18 : 18 < D.size
  · have h1 : (18 : Int) < (D.size : Int) := by omega
    rw [if_pos h18]
    go_enter Tryd.func59, Tryd.ntmps59
    go_wp2_with fail
    exact bodyPost_ret (v := badV 22) (by simp [results, Tryd.results59, go_sem]) rfl ⟨rfl, by (repeat (first | exact Below.refl _ _ | assumption | refine Below.drew ?_ | refine below_drewN ?_ _ | refine Below.setCell ?_ (by simp) _ | refine Below.alloc ?_ (by (first | exact Nat.le_refl _ | (simp; done) | (simp; omega) | omega)) _ | refine Below.trans ?_ (Below.mono (by assumption) (by first | exact Nat.le_refl _ | (simp; done) | (simp; omega) | omega))))⟩
  · have h1 : ¬ (18 : Int) < (D.size : Int) := by omega
    rw [if_neg h18]
    have cW := worth_any D h (by omega)
    have hv := wor_lt18 D h (by omega) D.size (Nat.le_refl _)
    obtain ⟨V, hV⟩ : ∃ V, wor D D.size = V := ⟨_, rfl⟩
    rw [hV] at cW hv ⊢
    have cI := numInt_any (V : Int)
    by_cases hm : 576460752303423487 < V
    · have e : numInt (V : Int) = ⟨0, 0, 0, 12⟩ := by
        have : whB (V : Int) = false := by simp [whB]; omega
        simp [numInt, this]
      rw [if_pos hm]
      simp only [e] at cI
      clear hV hm e hv
      go_enter Tryd.func59, Tryd.ntmps59
      go_wp2_with (first
        | (go_at_call 75; refine (cW _).mono ?_; rintro e w1 ⟨rfl, hb1⟩; have HB1 := hidb hb1)
        | (go_at_call 74; refine (cI _).mono ?_; rintro e w2 ⟨rfl, hb2⟩; have HB2 := hidb hb2; obtain ⟨d0, d1, d2, d3, d4, g0, g1, g2, g3, g4, _⟩ := (((wbox_box w).keep HB1.out).keep hb2).alloc (.cells #[.int .i64 0, .int .i64 0, .float .f64 0, .string ⟨#[]⟩, .slice none 0 0] 44)))
      exact bodyPost_ret (v := badV 22) (by simp [results, Tryd.results59, go_sem, d0, d1, d2, d3, d4]) rfl ⟨rfl, below_set5 ((below_chain (wbox_below w) HB1.out HB2.out).alloc (Nat.le_trans (Nat.le_trans (wbox_below w).size HB1.out.size) HB2.out.size) _) (Nat.le_refl _) _ _ _ _ _⟩
    · have e : numInt (V : Int) = ⟨1, V, 0, 0⟩ := by
        have : whB (V : Int) = true := by simp [whB]; omega
        simp [numInt, this]
      rw [if_neg hm]
      simp only [e] at cI
      clear hV hm e hv
      go_enter Tryd.func59, Tryd.ntmps59
      go_wp2_with (first
        | (go_at_call 75; refine (cW _).mono ?_; rintro e w1 ⟨rfl, hb1⟩; have HB1 := hidb hb1)
        | (go_at_call 74; refine (cI _).mono ?_; rintro e w2 ⟨rfl, hb2⟩; have HB2 := hidb hb2; obtain ⟨d0, d1, d2, d3, d4, g0, g1, g2, g3, g4, _⟩ := (((wbox_box w).keep HB1.out).keep hb2).alloc (.cells #[.int .i64 1, .int .i64 (V : Int), .float .f64 0, .string ⟨#[]⟩, .slice none 0 0] 44)))
      exact bodyPost_ret (v := .tuple #[.agg #[.int .i64 (3), .string (⟨#[]⟩), .int .i64 ((V : Nat)), .float .f64 (0), .int .i64 (0)], .int .i64 0]) (by simp [results, Tryd.results59, go_sem, d0, d1, d2, d3, d4]) rfl ⟨rfl, below_set5 ((below_chain (wbox_below w) HB1.out HB2.out).alloc (Nat.le_trans (Nat.le_trans (wbox_below w).size HB1.out.size) HB2.out.size) _) (Nat.le_refl _) _ _ _ _ _⟩
end Go.Proofs.YtecgddiohoeboaaDoor
