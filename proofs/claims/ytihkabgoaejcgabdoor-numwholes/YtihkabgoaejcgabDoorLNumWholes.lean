/- The walk of NumWholes: it returns true, and nothing that was there has turned. -/
import Derived.Test.YtihkabgoaejcgabDoorLNumWholes1
import Derived.Test.YtihkabgoaejcgabDoorLNumWholes2
import Derived.Test.YtihkabgoaejcgabDoorLNumWholes3
import Derived.Test.YtihkabgoaejcgabDoorLNumNear
namespace Go.Proofs.YtihkabgoaejcgabDoor
open Go.RowKit Ieee
open Flt (ordI exactV)

theorem k59 : Flt.U 4872894796814876672 = 576460752303423488 * Flt.P ∧ Flt.fin 4872894796814876672 = true ∧ 4872894796814876672 < 18446744073709551616 :=
  U_const false 7 (by omega) 4872894796814876672 576460752303423488 (by rw [Flt.word_val]; decide) (by decide)

theorem right2 {u : Nat} (h : Flt.fin u = true) : rightB 2 0 u ⟨#[]⟩ 0 = true := by simp [rightB, h]

theorem numInt_yes {v : Int} (h1 : -576460752303423488 ≤ v) (h2 : v ≤ 576460752303423487) : numInt v = ⟨1, v, 0, 0⟩ := by
  have : whB v = true := whB_mk ⟨h1, h2⟩
  simp [numInt, this]

theorem size1_far {x : Nat} (hx : x < 18446744073709551616) (fx : Flt.fin x = true) (h : 576460752303423488 * Flt.P ≤ Flt.U x ∨ Flt.U x ≤ -(576460752303423488 * Flt.P)) :
    ∃ z, (∀ w, Calls Tryd.prog 18 #[.float .f64 x] w fun e w' => e = .returned (.float .f64 z) ∧ w' = w) ∧ (FloatKind.f64.format.order z 4872894796814876672 = some .gt ∨ FloatKind.f64.format.order z 4872894796814876672 = some .eq) := by
  have hP := Flt.P_pos
  have fin : ∀ z, z < 18446744073709551616 → Flt.fin z = true → 576460752303423488 * Flt.P ≤ Flt.U z → (FloatKind.f64.format.order z 4872894796814876672 = some .gt ∨ FloatKind.f64.format.order z 4872894796814876672 = some .eq) := fun z z1 z2 z3 => by
    have o : FloatKind.f64.format.order z 4872894796814876672 = some (compare (Flt.U z) (576460752303423488 * Flt.P)) := by
      show double.order z _ = _
      rw [Flt.order_U z1 k59.2.2 z2 k59.2.1, k59.1]
    rcases Int.lt_or_eq_of_le z3 with h' | h'
    · rw [Int.compare_eq_gt.2 h'] at o; exact Or.inl o
    · rw [Int.compare_eq_eq.2 h'.symm] at o; exact Or.inr o
  have o0 : FloatKind.f64.format.order x 0 = some (compare (Flt.U x) 0) := by
    show double.order x 0 = _
    rw [Flt.order_U hx (by decide) fx (by decide), Flt.U_zero]
  rcases h with h | h
  · rw [Int.compare_eq_gt.2 (by omega)] at o0
    exact ⟨x, size1_up x (Or.inl o0), fin x hx fx h⟩
  · rw [Int.compare_eq_lt.2 (by omega)] at o0
    obtain ⟨N, a, h1, h2, h3⟩ := abs_U hx fx
    obtain ⟨z, z1, z2, z3, z4⟩ := zero_less hx fx h1 h2 h3
    exact ⟨z, size1_down x z o0 z1, fin z z2 z3 (by omega)⟩

theorem numWholes_any (u : Nat) (hu : u < 18446744073709551616) (w : World) (ht : w.cell? ⟨4, 15, none⟩ = some (.int .u8 4)) :
    Calls Tryd.prog 5 #[.int .u64 u] w fun e w' => e = .returned (.bool true) ∧ Below w.heap.size w w' := by
  cases hf : Flt.fin u
  · exact wholes_none u hu hf w ht
  obtain ⟨z, v, mk, wf, L, hR, _, b2, b4⟩ := ways hu hf
  have WH : ∀ (i : Fin 4) (w : World), Calls Tryd.prog 17 #[.string (way i), .agg #[.int .i64 (2), .int .i64 (0), .float .f64 (u), .string ⟨#[]⟩, .slice none 0 0]] w fun e w' => e = .returned (.tuple #[.agg #[.int .i64 ((numInt (v i)).k), .int .i64 ((numInt (v i)).n), .float .f64 ((numInt (v i)).f), .string ⟨#[]⟩, .slice none 0 0], .int .i64 (numInt (v i)).e]) ∧ Below w.heap.size w w' :=
    fun i w => whole_flt (way i) 0 (v i) u (z i) ⟨#[]⟩ none 0 0 hu (right2 hf) (mk i) (isWay_at i) (wf i) w
  have WT := WH 0
  have WF := WH 1
  have WC := WH 2
  have WR := WH 3
  clear WH
  by_cases hl : -576460752303423488 ≤ v 1 ∧ v 1 ≤ 576460752303423487
  · by_cases hh : -576460752303423488 ≤ v 2 ∧ v 2 ≤ 576460752303423487
    · have x1 := L.fc
      have x2 := L.cf
      have x3 := L.ft
      have x4 := L.tc
      have x5 := L.rr
      rw [numInt_yes hl.1 hl.2] at WF
      rw [numInt_yes hh.1 hh.2] at WC
      rw [numInt_yes (by omega) (by omega)] at WT
      rw [numInt_yes (by omega) (by omega)] at WR
      have EL := exact_val u (v 1) hu hf (by omega) (by omega)
      have EH := exact_val u (v 2) hu hf (by omega) (by omega)
      -- the negative
      obtain ⟨xl, xf, xU⟩ := Flt.U_xor hu hf
      have NG : ∀ w, Calls Tryd.prog 20 #[.agg #[.int .i64 (2), .int .i64 (0), .float .f64 (u), .string ⟨#[]⟩, .slice none 0 0]] w fun e w' => e = .returned (.tuple #[.agg #[.int .i64 (2), .int .i64 (0), .float .f64 (u ^^^ 9223372036854775808), .string ⟨#[]⟩, .slice none 0 0], .int .i64 0]) ∧ Below w.heap.size w w' := fun w => by
        have := neg_2 0 u ⟨#[]⟩ none 0 0 hu (right2 hf) w
        rw [show numBits (u ^^^ 9223372036854775808) = ⟨2, 0, u ^^^ 9223372036854775808, 0⟩ by simp [numBits, xf]] at this
        exact this
      obtain ⟨z', v', mk', wf', L', _, _, b2', _⟩ := ways xl xf
      have WN := fun w => whole_flt (way 1) 0 (v' 1) _ (z' 1) ⟨#[]⟩ none 0 0 xl (right2 xf) (mk' 1) (isWay_at 1) (wf' 1) w
      have hv' : v' 1 = -v 2 := by
        have y1 := L'.vf
        have y2 := L.vc
        rw [xU] at y1 b2'
        have n1 : ∀ a : Int, -a * Flt.P = -(a * Flt.P) := fun a => Int.neg_mul _ _
        have a1 : (v' 1) * Flt.P < (-(v 2) + 1) * Flt.P := by
          rw [show (-(v 2) + 1 : Int) = -(v 2 - 1) by omega, n1]; omega
        have a2 : (-(v 2)) * Flt.P < (v' 1 + 1) * Flt.P := by rw [n1]; omega
        have := Flt.ltP a1
        have := Flt.ltP a2
        omega
      rw [hv'] at WN
      have o0 : FloatKind.f64.format.order u 0 = some (compare (Flt.U u) 0) := by
        show double.order u 0 = _
        rw [Flt.order_U hu (by decide) hf (by decide), Flt.U_zero]
      have pos := L.pos
      have neg := L.neg
      have leq := L.eq
      have vf := L.vf
      have vc := L.vc
      generalize hlo : v 1 = lo at *
      generalize hhi : v 2 = hi at *
      generalize hrr : v 3 = r at *
      generalize htt : v 0 = t at *
      have tail : ∀ (HI : Int), (-576460752303423488 ≤ -HI ∧ -HI ≤ 576460752303423487) ∨ ¬ (-576460752303423488 ≤ -HI ∧ -HI ≤ 576460752303423487) := fun _ => Classical.em _
      by_cases hq : lo = hi
      · have hU := leq.1 hq
        subst hq
        have hr : r = lo := by omega
        have htl : t = lo := by omega
        subst hr htl
        rw [hU, Int.compare_eq_eq.2 rfl] at EL
        rcases tail t with hn | hn
        · rw [numInt_yes hn.1 hn.2] at WN
          rcases Int.lt_trichotomy (Flt.U u) 0 with h | h | h
          · rw [Int.compare_eq_lt.2 h] at o0
            exact wholes_lt_true_lo_in u hu hf _ _ WF WC WT WR EL NG WN hl.1 hl.2 o0 w ht
          · rw [Int.compare_eq_eq.2 h] at o0
            exact wholes_eq_true_lo_in u hu hf _ _ WF WC WT WR EL NG WN hl.1 hl.2 o0 w ht
          · rw [Int.compare_eq_gt.2 h] at o0
            exact wholes_gt_true_lo_in u hu hf _ _ WF WC WT WR EL NG WN hl.1 hl.2 o0 w ht
        · rw [numInt_not hn] at WN
          rcases Int.lt_trichotomy (Flt.U u) 0 with h | h | h
          · rw [Int.compare_eq_lt.2 h] at o0
            exact wholes_lt_true_lo_out u hu hf _ _ WF WC WT WR EL NG WN hl.1 hl.2 o0 w ht
          · rw [Int.compare_eq_eq.2 h] at o0
            exact wholes_eq_true_lo_out u hu hf _ _ WF WC WT WR EL NG WN hl.1 hl.2 o0 w ht
          · rw [Int.compare_eq_gt.2 h] at o0
            exact wholes_gt_true_lo_out u hu hf _ _ WF WC WT WR EL NG WN hl.1 hl.2 o0 w ht
      · have hh1 : hi = lo + 1 := by omega
        have hU : ¬ Flt.U u = lo * Flt.P := fun h => hq (leq.2 h)
        rw [Int.compare_eq_gt.2 (by omega)] at EL
        have hU2 : ¬ Flt.U u = hi * Flt.P := by
          intro h
          rw [h] at b2
          have := Flt.ltP b2
          omega
        rw [Int.compare_eq_lt.2 (by omega)] at EH
        rcases x5 with hr | hr
        · subst hr
          rcases tail hi with hn | hn
          · rw [numInt_yes hn.1 hn.2] at WN
            rcases Int.lt_trichotomy (Flt.U u) 0 with h | h | h
            · have := neg h
              subst this
              rw [Int.compare_eq_lt.2 h] at o0
              exact wholes_lt_false_lo_in u hu hf _ _ _ WF WC WT WR EL EH NG WN hl.1 hl.2 hh1 o0 w ht
            · have := pos (by omega)
              subst this
              rw [Int.compare_eq_eq.2 h] at o0
              exact wholes_eq_false_lo_in u hu hf _ _ _ WF WC WT WR EL EH NG WN hl.1 hl.2 hh1 o0 w ht
            · have := pos (by omega)
              subst this
              rw [Int.compare_eq_gt.2 h] at o0
              exact wholes_gt_false_lo_in u hu hf _ _ _ WF WC WT WR EL EH NG WN hl.1 hl.2 hh1 o0 w ht
          · rw [numInt_not hn] at WN
            rcases Int.lt_trichotomy (Flt.U u) 0 with h | h | h
            · have := neg h
              subst this
              rw [Int.compare_eq_lt.2 h] at o0
              exact wholes_lt_false_lo_out u hu hf _ _ _ WF WC WT WR EL EH NG WN hl.1 hl.2 hh1 o0 w ht
            · have := pos (by omega)
              subst this
              rw [Int.compare_eq_eq.2 h] at o0
              exact wholes_eq_false_lo_out u hu hf _ _ _ WF WC WT WR EL EH NG WN hl.1 hl.2 hh1 o0 w ht
            · have := pos (by omega)
              subst this
              rw [Int.compare_eq_gt.2 h] at o0
              exact wholes_gt_false_lo_out u hu hf _ _ _ WF WC WT WR EL EH NG WN hl.1 hl.2 hh1 o0 w ht
        · subst hr
          rcases tail r with hn | hn
          · rw [numInt_yes hn.1 hn.2] at WN
            rcases Int.lt_trichotomy (Flt.U u) 0 with h | h | h
            · have := neg h
              subst this
              rw [Int.compare_eq_lt.2 h] at o0
              exact wholes_lt_false_hi_in u hu hf _ _ _ WF WC WT WR EL EH NG WN hl.1 hl.2 hh1 o0 w ht
            · have := pos (by omega)
              subst this
              rw [Int.compare_eq_eq.2 h] at o0
              exact wholes_eq_false_hi_in u hu hf _ _ _ WF WC WT WR EL EH NG WN hl.1 hl.2 hh1 o0 w ht
            · have := pos (by omega)
              subst this
              rw [Int.compare_eq_gt.2 h] at o0
              exact wholes_gt_false_hi_in u hu hf _ _ _ WF WC WT WR EL EH NG WN hl.1 hl.2 hh1 o0 w ht
          · rw [numInt_not hn] at WN
            rcases Int.lt_trichotomy (Flt.U u) 0 with h | h | h
            · have := neg h
              subst this
              rw [Int.compare_eq_lt.2 h] at o0
              exact wholes_lt_false_hi_out u hu hf _ _ _ WF WC WT WR EL EH NG WN hl.1 hl.2 hh1 o0 w ht
            · have := pos (by omega)
              subst this
              rw [Int.compare_eq_eq.2 h] at o0
              exact wholes_eq_false_hi_out u hu hf _ _ _ WF WC WT WR EL EH NG WN hl.1 hl.2 hh1 o0 w ht
            · have := pos (by omega)
              subst this
              rw [Int.compare_eq_gt.2 h] at o0
              exact wholes_gt_false_hi_out u hu hf _ _ _ WF WC WT WR EL EH NG WN hl.1 hl.2 hh1 o0 w ht
    · obtain ⟨z1, s1, o1⟩ := size1_far hu hf (Flt.beyond hu hf L.vf b2 L.vc b4 (by omega))
      rw [numInt_yes hl.1 hl.2] at WF
      rw [numInt_not hh] at WC
      exact wholes_e2 u hu hf _ WF WC z1 s1 o1 w ht
  · obtain ⟨z1, s1, o1⟩ := size1_far hu hf (Flt.beyond hu hf L.vf b2 L.vc b4 (by omega))
    rw [numInt_not hl] at WF
    exact wholes_e1 u hu hf _ WF WC z1 s1 o1 w ht
end Go.Proofs.YtihkabgoaejcgabDoor
