/- The walk of NumOrder: it returns true, and nothing that was there has turned. -/
import Derived.Test.YtihkabgoaejcgabDoorLNumOrder0
namespace Go.Proofs.YtihkabgoaejcgabDoor
open Go.RowKit
open Flt (ordI exactV)

theorem ord_lt {a b : Int} (h : a < b) : ordI (compare a b) = -1 := by rw [Int.compare_eq_lt.2 h]; rfl
theorem ord_gt {a b : Int} (h : b < a) : ordI (compare a b) = 1 := by rw [Int.compare_eq_gt.2 h]; rfl
theorem ord_eq {a b : Int} (h : a = b) : ordI (compare a b) = 0 := by rw [Int.compare_eq_eq.2 h]; rfl
theorem ord_le {a b : Int} : decide (ordI (compare a b) ≤ 0) = decide (a ≤ b) := by
  rcases Int.lt_trichotomy a b with h | h | h
  · rw [ord_lt h]; simp; omega
  · rw [ord_eq h]; simp; omega
  · rw [ord_gt h]; simp; omega
theorem ord_pos {a b : Int} (h : a ≤ b) : decide (0 < ordI (compare a b)) = false := by
  rcases Int.lt_or_eq_of_le h with h | h
  · rw [ord_lt h]; rfl
  · rw [ord_eq h]; rfl

theorem numOrder_any (ka na : Int) (fa : Nat) (sa : ByteArray) (aa : Option Addr) (la ca : Nat) (kb nb : Int) (fb : Nat) (sb : ByteArray) (ab : Option Addr) (lb cb : Nat) (kc nc : Int) (fc : Nat) (sc : ByteArray) (ac : Option Addr) (lc cc : Nat)
    (hfa : fa < 18446744073709551616) (hfb : fb < 18446744073709551616) (hfc : fc < 18446744073709551616) (w : World) (ht : w.cell? ⟨4, 15, none⟩ = some (.int .u8 4)) :
    Calls Tryd.prog 4 #[.agg #[.int .i64 ka, .int .i64 na, .float .f64 fa, .string sa, .slice aa la ca], .agg #[.int .i64 kb, .int .i64 nb, .float .f64 fb, .string sb, .slice ab lb cb], .agg #[.int .i64 kc, .int .i64 nc, .float .f64 fc, .string sc, .slice ac lc cc]] w fun e w' => e = .returned (.bool true) ∧ Below w.heap.size w w' := by
  cases hra : rightB ka na fa sa la
  · exact order_no_a ka na fa sa aa la ca kb nb fb sb ab lb cb kc nc fc sc ac lc cc hra w ht
  cases hrb : rightB kb nb fb sb lb
  · exact order_no_b ka na fa sa aa la ca kb nb fb sb ab lb cb kc nc fc sc ac lc cc hra hrb w ht
  cases hrc : rightB kc nc fc sc lc
  · exact order_no_c ka na fa sa aa la ca kb nb fb sb ab lb cb kc nc fc sc ac lc cc hra hrb hrc w ht
  have Cab := cmp_any ka na kb nb fa fb sa sb aa ab la ca lb cb hfa hfb hra hrb
  have Cba := cmp_any kb nb ka na fb fa sb sa ab aa lb cb la ca hfb hfa hrb hra
  have Caa := cmp_any ka na ka na fa fa sa sa aa aa la ca la ca hfa hfa hra hra
  have Cbc := cmp_any kb nb kc nc fb fc sb sc ab ac lb cb lc cc hfb hfc hrb hrc
  have Cac := cmp_any ka na kc nc fa fc sa sc aa ac la ca lc cc hfa hfc hra hrc
  have Saa := nsame_any ka na ka na fa fa sa sa aa aa la ca la ca hfa hfa hra hra
  have Sab := nsame_any ka na kb nb fa fb sa sb aa ab la ca lb cb hfa hfb hra hrb
  rw [ord_eq rfl] at Caa
  simp only [beq_self_eq_true, Bool.and_self] at Saa
  generalize hxa : valU ka na fa = xa at *
  generalize hxb : valU kb nb fb = xb at *
  generalize hxc : valU kc nc fc = xc at *
  rcases Int.lt_trichotomy xa xb with h | h | h
  · have sf : (ka == kb && (na == nb && (fa : Int) == (fb : Int))) = false := by
      rw [Bool.eq_false_iff]
      intro hh
      simp only [Bool.and_eq_true, beq_iff_eq] at hh
      obtain ⟨h1, h2, h3⟩ := hh
      have h4 : fa = fb := by omega
      subst h1 h2 h4
      omega
    rw [sf] at Sab
    rw [ord_lt h] at Cab
    rw [ord_gt h] at Cba
    cases hbc : decide (xb ≤ xc)
    · exact order_lt_gt ka na fa sa aa la ca kb nb fb sb ab lb cb kc nc fc sc ac lc cc hra hrb hrc Cab Cba Caa Saa _ Cbc (by rw [ord_le]; exact hbc) Sab w ht
    · have hbc' := of_decide_eq_true hbc
      exact order_lt_le ka na fa sa aa la ca kb nb fb sb ab lb cb kc nc fc sc ac lc cc hra hrb hrc Cab Cba Caa Saa _ Cbc (by rw [ord_le]; exact hbc) _ Cac (ord_pos (by omega)) Sab w ht
  · rw [ord_eq h] at Cab
    rw [ord_eq h.symm] at Cba
    cases hsab : (ka == kb && (na == nb && (fa : Int) == (fb : Int)))
    · rw [hsab] at Sab
      cases hk : (ka == kb)
      · cases hbc : decide (xb ≤ xc)
        · exact order_eq_gt_kinds ka na fa sa aa la ca kb nb fb sb ab lb cb kc nc fc sc ac lc cc hra hrb hrc Cab Cba Caa Saa _ Cbc (by rw [ord_le]; exact hbc) Sab hk w ht
        · have hbc' := of_decide_eq_true hbc
          exact order_eq_le_kinds ka na fa sa aa la ca kb nb fb sb ab lb cb kc nc fc sc ac lc cc hra hrb hrc Cab Cba Caa Saa _ Cbc (by rw [ord_le]; exact hbc) _ Cac (ord_pos (by omega)) Sab hk w ht
      · have hk' : ka = kb := by simpa using hk
        subst hk'
        have zeros : ka = 2 ∧ FloatKind.f64.format.order fa 0 = some .eq ∧ FloatKind.f64.format.order fb 0 = some .eq := by
          rcases right_kind hra with rfl | rfl
          · exfalso
            have e1 : fa = 0 := by
              simp only [rightB, Bool.and_eq_true, Bool.or_eq_true, beq_iff_eq] at hra
              rcases hra.1.1 with ⟨_, h⟩ | ⟨⟨h, _⟩, _⟩
              · exact h
              · exact absurd h (by omega)
            have e2 : fb = 0 := by
              simp only [rightB, Bool.and_eq_true, Bool.or_eq_true, beq_iff_eq] at hrb
              rcases hrb.1.1 with ⟨_, h⟩ | ⟨⟨h, _⟩, _⟩
              · exact h
              · exact absurd h (by omega)
            rw [← hxa, ← hxb, valU_1, valU_1] at h
            have hn : na = nb := Int.eq_of_mul_eq_mul_right (by have := Flt.P_pos; omega) h
            subst e1 e2 hn
            simp at hsab
          · have ea : na = 0 := by
              simp only [rightB, Bool.and_eq_true, Bool.or_eq_true, beq_iff_eq] at hra
              rcases hra.1.1 with ⟨⟨h, _⟩, _⟩ | ⟨⟨_, h⟩, _⟩
              · exact absurd h (by omega)
              · exact h
            have eb : nb = 0 := by
              simp only [rightB, Bool.and_eq_true, Bool.or_eq_true, beq_iff_eq] at hrb
              rcases hrb.1.1 with ⟨⟨h, _⟩, _⟩ | ⟨⟨_, h⟩, _⟩
              · exact absurd h (by omega)
              · exact h
            subst ea eb
            have hne : fa ≠ fb := by
              intro hh
              subst hh
              simp at hsab
            have fa1 := flt_fin hra
            have fb1 := flt_fin hrb
            rw [← hxa, ← hxb, valU_2, valU_2] at h
            have u0 := Flt.U_inj hfa hfb fa1 fb1 h hne
            refine ⟨rfl, ?_, ?_⟩
            · show Ieee.double.order fa 0 = _
              rw [Flt.order_U hfa (by decide) fa1 (by decide), Flt.U_zero, u0]; rfl
            · show Ieee.double.order fb 0 = _
              rw [Flt.order_U hfb (by decide) fb1 (by decide), Flt.U_zero, ← h, u0]; rfl
        obtain ⟨hk2, z1, z2⟩ := zeros
        cases hbc : decide (xb ≤ xc)
        · exact order_eq_gt_zeros ka na fa sa aa la ca ka nb fb sb ab lb cb kc nc fc sc ac lc cc hra hrb hrc Cab Cba Caa Saa _ Cbc (by rw [ord_le]; exact hbc) Sab hk2 hk2 z1 z2 w ht
        · have hbc' := of_decide_eq_true hbc
          exact order_eq_le_zeros ka na fa sa aa la ca ka nb fb sb ab lb cb kc nc fc sc ac lc cc hra hrb hrc Cab Cba Caa Saa _ Cbc (by rw [ord_le]; exact hbc) _ Cac (ord_pos (by omega)) Sab hk2 hk2 z1 z2 w ht
    · rw [hsab] at Sab
      have hk : (ka == kb) = true := by simp only [Bool.and_eq_true] at hsab; exact hsab.1
      cases hbc : decide (xb ≤ xc)
      · exact order_eq_gt_same ka na fa sa aa la ca kb nb fb sb ab lb cb kc nc fc sc ac lc cc hra hrb hrc Cab Cba Caa Saa _ Cbc (by rw [ord_le]; exact hbc) Sab hk w ht
      · have hbc' := of_decide_eq_true hbc
        exact order_eq_le_same ka na fa sa aa la ca kb nb fb sb ab lb cb kc nc fc sc ac lc cc hra hrb hrc Cab Cba Caa Saa _ Cbc (by rw [ord_le]; exact hbc) _ Cac (ord_pos (by omega)) Sab hk w ht
  · have sf : (ka == kb && (na == nb && (fa : Int) == (fb : Int))) = false := by
      rw [Bool.eq_false_iff]
      intro hh
      simp only [Bool.and_eq_true, beq_iff_eq] at hh
      obtain ⟨h1, h2, h3⟩ := hh
      have h4 : fa = fb := by omega
      subst h1 h2 h4
      omega
    rw [sf] at Sab
    rw [ord_gt h] at Cab
    rw [ord_lt h] at Cba
    exact order_gt ka na fa sa aa la ca kb nb fb sb ab lb cb kc nc fc sc ac lc cc hra hrb hrc Cab Cba Caa Saa Sab w ht
end Go.Proofs.YtihkabgoaejcgabDoor
