/- The reference's small functions. -/
import Derived.Test.YtecgddiohoeboaaDoorLxJ
namespace Go.Proofs.YtecgddiohoeboaaDoor
open Go.RowKit Go.Lib
attribute [local go_sem] store_float f64bits
attribute [local go_sem ↓] Go.wp_at_zero Go.wp_at_succ

theorem rdigit_any (n : Nat) (w : World) : Calls Tryd.prog 44 #[.int .u8 (n : Int)] w fun e w' => e = .returned (.bool (pDigit n)) ∧ w' = w := by
  unfold pDigit
  by_cases h1 : 48 ≤ n <;> by_cases h2 : n ≤ 57 <;> (have i1 : ((48 : Int) ≤ (n : Int)) = (48 ≤ n) := by (apply propext; omega)) <;> (have i2 : ((n : Int) ≤ 57) = (n ≤ 57) := by (apply propext; omega)) <;> (go_enter Tryd.func44, Tryd.ntmps44; go_wp2; go_ret; refine ⟨?_, rfl⟩; simp [h1, h2]) <;> omega

theorem rletter_any (n : Nat) (w : World) : Calls Tryd.prog 65 #[.int .u8 (n : Int)] w fun e w' => e = .returned (.bool (pName n)) ∧ w' = w := by
  go_enter Tryd.func65, Tryd.ntmps65
  go_wp2
  all_goals (go_ret; refine ⟨congrArg (fun b => Ending.returned (Value.bool b)) ?_, rfl⟩; simp only [pName, pSmall, pCapital, pDigit]; rw [Bool.eq_iff_iff]; simp; omega)

theorem rhexed_any (n : Nat) (w : World) : Calls Tryd.prog 67 #[.int .u8 (n : Int)] w fun e w' => e = .returned (.int .i64 (match hexd n with | some d => (d : Int) | none => -1)) ∧ w' = w := by
  have cD := rdigit_any n w
  unfold hexd
  cases hd : pDigit n <;> rw [hd] at cD
  · simp only [Bool.false_eq_true, if_false]
    by_cases h1 : 97 ≤ n
    · have i1 : (97 : Int) ≤ (n : Int) := by omega
      by_cases h2 : n ≤ 102
      · have i2 : (n : Int) ≤ 102 := by omega
        rw [if_pos ⟨h1, h2⟩]
        go_enter Tryd.func67, Tryd.ntmps67
        go_wp2_with (go_at_call 44; refine cD.mono ?_; rintro e w' ⟨rfl, hw'⟩; obtain rfl := hw'.symm)
        go_ret
        exact ⟨congrArg (fun b => Ending.returned (Value.int .i64 b)) (by omega), rfl⟩
      · have i2 : ¬ (n : Int) ≤ 102 := by omega
        rw [if_neg (by omega)]
        go_enter Tryd.func67, Tryd.ntmps67
        go_wp2_with (go_at_call 44; refine cD.mono ?_; rintro e w' ⟨rfl, hw'⟩; obtain rfl := hw'.symm)
        go_ret
        exact ⟨rfl, rfl⟩
    · have i1 : ¬ (97 : Int) ≤ (n : Int) := by omega
      rw [if_neg (by omega)]
      go_enter Tryd.func67, Tryd.ntmps67
      go_wp2_with (go_at_call 44; refine cD.mono ?_; rintro e w' ⟨rfl, hw'⟩; obtain rfl := hw'.symm)
      go_ret
      exact ⟨rfl, rfl⟩
  · simp only [if_true]
    simp [pDigit] at hd
    have i1 : (48 : Int) ≤ (n : Int) := by omega
    have i2 : (n : Int) ≤ 57 := by omega
    go_enter Tryd.func67, Tryd.ntmps67
    go_wp2_with (go_at_call 44; refine cD.mono ?_; rintro e w' ⟨rfl, hw'⟩; obtain rfl := hw'.symm)
    go_ret
    exact ⟨congrArg (fun b => Ending.returned (Value.int .i64 b)) (by omega), rfl⟩

theorem at_byte (s : ByteArray) (p : Nat) (h : p < s.size) : (s[p]'h).toNat = bt s p := by unfold bt; rw [get_of_lt _ _ h]

set_option maxHeartbeats 1000000 in
theorem rword_any (s : ByteArray) (i : Nat) (hi : i ≤ s.size) (hs : s.size ≤ 65536) (w : World) : Calls Tryd.prog 43 #[.string s, .int .i64 (i : Int)] w fun e w' => e = .returned (.int .i64 (goes pName s i : Nat)) ∧ w' = w := by
  go_enter Tryd.func43, Tryd.ntmps43
  go_wp2_with fail
  go_loopg [1] (s.size - i) (fun gf s1 wx => ∃ p : Nat, s1 = .int .i64 (p : Int) ∧ p ≤ s.size ∧ p + gf = s.size ∧ goes pName s p = goes pName s i ∧ wx = w)
  case atStart => exact ⟨i, rfl, hi, by omega, rfl, rfl⟩
  case round =>
    obtain ⟨p, rfl, hp, hgf, hgo, hwx⟩ := hrel
    obtain rfl := hwx.symm
    by_cases hlt : p < s.size
    · obtain ⟨g', rfl⟩ : ∃ g', gk = g' + 1 := ⟨gk - 1, by omega⟩
      have i0 : (0 : Int) ≤ (p : Int) := by omega
      have i1 : (p : Int) < (s.size : Int) := by omega
      have hb := fun h => at_byte s p h
      have cL := rletter_any (bt s p)
      have h1 := goes_on (p := pName) hlt
      have h2 := goes_stop (p := pName) (s := s) (i := p)
      obtain ⟨c, hc⟩ : ∃ c, bt s p = c := ⟨_, rfl⟩
      rw [hc] at cL h1 h2
      simp only [hc] at hb
      cases hn : pName c <;> rw [hn] at cL
      · have hg := h2 hn
        clear h1 h2 hc
        go_wp2_with (first | (go_at_call 65; refine (cL _).mono ?_; rintro e w' ⟨rfl, hw'⟩; obtain rfl := hw'.symm))
        go_ret
        refine ⟨?_, rfl⟩
        rw [← hgo, hg]
        rfl
      · have hg := h1 hn
        clear h1 h2 hc
        go_wp2_with (first | (go_at_call 65; refine (cL _).mono ?_; rintro e w' ⟨rfl, hw'⟩; obtain rfl := hw'.symm))
        go_roundg g'
        case measure => omega
        case rel => exact ⟨p + 1, by simp, by omega, by omega, by rw [← hg]; exact hgo, rfl⟩
    · have i1 : ¬ (p : Int) < (s.size : Int) := by omega
      go_wp2_with fail
      go_ret
      refine ⟨?_, rfl⟩
      rw [← hgo, goes_end (by omega)]
      rfl

set_option maxHeartbeats 1000000 in
theorem rwhole_any (D : ByteArray) (h : Digs D) (hs : D.size ≤ 18) (w : World) : Calls Tryd.prog 66 #[.string D] w fun e w' => e = .returned (.int .i64 (wor D D.size : Nat)) ∧ w' = w := by
  go_enter Tryd.func66, Tryd.ntmps66
  go_wp2_with fail
  go_loopg [3, 4] D.size (fun gf s3 s4 wx => ∃ pos : Nat, s3 = .int .i64 (wor D pos : Nat) ∧ s4 = .int .i64 (pos : Int) ∧ pos + gf = D.size ∧ wx = w)
  case atStart => exact ⟨0, rfl, rfl, by omega, rfl⟩
  case round =>
    obtain ⟨pos, rfl, rfl, hgf, hwx⟩ := hrel
    obtain rfl := hwx.symm
    by_cases hlt : pos < D.size
    · obtain ⟨g', rfl⟩ : ∃ g', gk = g' + 1 := ⟨gk - 1, by omega⟩
      have i0 : (0 : Int) ≤ (pos : Int) := by omega
      have i1 : (pos : Int) < (D.size : Int) := by omega
      have hd := h pos hlt
      simp [pDigit] at hd
      have hb := fun h => at_byte D pos h
      have hv : wor D pos < 100000000000000000 := by
        have h1 := wor_lt D h pos (by omega)
        have h2 : 10 ^ pos ≤ 10 ^ 17 := Nat.pow_le_pow_right (by omega) (by omega)
        omega
      have hsu : wor D (pos + 1) = wor D pos * 10 + (bt D pos - 48) := rfl
      obtain ⟨V, hV⟩ : ∃ V, wor D pos = V := ⟨_, rfl⟩
      obtain ⟨c, hc⟩ : ∃ c, bt D pos = c := ⟨_, rfl⟩
      rw [hV] at hv hsu ⊢
      rw [hc] at hd hsu
      obtain ⟨X, hX⟩ : ∃ X : Int, (V : Int) = X := ⟨_, rfl⟩
      obtain ⟨Y, hY⟩ : ∃ Y : Int, (c : Int) = Y := ⟨_, rfl⟩
      have hb2 : ∀ h, (((D[pos]'h).toNat : Nat) : Int) = Y := fun h => by rw [hb h, hc, hY]
      rw [hX]
      have x0 : 0 ≤ X := by omega
      have x1 : X < 100000000000000000 := by omega
      have y0 : 48 ≤ Y := by omega
      have y1 : Y ≤ 57 := by omega
      have u1 : IntKind.u8.wrap (Y - 48) = Y - 48 := by rw [IntKind.wrap_u8]; omega
      have HR : Hid ((wor D (pos + 1) : Int) = 10 * X + (Y - 48)) := hidb (by omega)
      clear hv hsu hX hY hd hV hc hb
      go_wp2_with fail
      go_roundg g'
      case measure => omega
      case rel => exact ⟨pos + 1, by rw [HR.out], by simp, by omega, rfl⟩
    · obtain rfl : pos = D.size := by omega
      have i1 : ¬ (D.size : Int) < (D.size : Int) := by omega
      go_wp2_with fail
      go_ret
      exact ⟨rfl, rfl⟩
end Go.Proofs.YtecgddiohoeboaaDoor
