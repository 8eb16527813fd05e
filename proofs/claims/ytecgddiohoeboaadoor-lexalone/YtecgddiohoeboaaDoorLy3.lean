/- The reference passes over blanks and comments. -/
import Derived.Test.YtecgddiohoeboaaDoorLy0
import Derived.Test.YtecgddiohoeboaaDoorLxH
namespace Go.Proofs.YtecgddiohoeboaaDoor
open Go.RowKit Go.Lib
attribute [local go_sem] store_float f64bits
attribute [local go_sem ↓] Go.wp_at_zero Go.wp_at_succ

/-- From p on the tokens are those from p' on. -/
def Goes (s : ByteArray) (p p' : Nat) : Prop := p ≤ p' ∧ p' ≤ s.size ∧ ∀ k done, s.size < p + k → ∃ k', s.size < p' + k' ∧ toks s k p done = toks s k' p' done

theorem Goes.refl (s : ByteArray) (p : Nat) (hp : p ≤ s.size) : Goes s p p := ⟨Nat.le_refl _, hp, fun k _ h => ⟨k, h, rfl⟩⟩
theorem Goes.trans {s : ByteArray} {p q r : Nat} (h1 : Goes s p q) (h2 : Goes s q r) : Goes s p r :=
  ⟨Nat.le_trans h1.1 h2.1, h2.2.1, fun k done h => by
    obtain ⟨k1, a1, b1⟩ := h1.2.2 k done h
    obtain ⟨k2, a2, b2⟩ := h2.2.2 k1 done a1
    exact ⟨k2, a2, b1.trans b2⟩⟩
theorem Goes.blank {s : ByteArray} {p : Nat} (hp : p < s.size) (hb : pBlank (bt s p) = true) : Goes s p (p + 1) := by
  refine ⟨by omega, hp, fun k done h => ⟨k, by omega, ?_⟩⟩
  obtain ⟨k, rfl⟩ : ∃ k', k = k' + 1 := ⟨k - 1, by omega⟩
  simp only [toks, goes_on hp hb]
theorem Goes.line {s : ByteArray} {p : Nat} (hp : p < s.size) (hb : bt s p = 37) : Goes s p (goes pLine s p) := by
  have h1 : p + 1 ≤ goes pLine s p := by rw [goes_on hp (by simp [pLine, hb])]; exact goes_ge _ _ _
  refine ⟨by omega, goes_le _ _ _ (by omega), fun k done h => ?_⟩
  obtain ⟨k, rfl⟩ : ∃ k', k = k' + 1 := ⟨k - 1, by omega⟩
  refine ⟨k, by omega, ?_⟩
  have h2 : goes pBlank s p = p := goes_stop (by rw [hb]; rfl)
  simp only [toks, h2, hp, if_true, hb]

set_option maxHeartbeats 1000000 in
set_option maxRecDepth 1000000 in
theorem rpassed_any (s : ByteArray) (i : Nat) (hi : i ≤ s.size) (hs : s.size ≤ 65536) (w : World) : Calls Tryd.prog 22 #[.string s, .int .i64 (i : Int)] w fun e w' => ∃ q : Nat, e = .returned (.int .i64 (q : Int)) ∧ w' = w ∧ Goes s i q ∧ (q < s.size → pBlank (bt s q) = false ∧ bt s q ≠ 37) := by
  go_enter Tryd.func22, Tryd.ntmps22
  go_wp2_with fail
  go_loopg [1] (s.size - i) (fun gf s1 wx => ∃ p : Nat, s1 = .int .i64 (p : Int) ∧ s.size - p ≤ gf ∧ Goes s i p ∧ wx = w)
  case atStart => exact ⟨i, rfl, Nat.le_refl _, Goes.refl s i hi, rfl⟩
  case round =>
    obtain ⟨p, rfl, hgf, hgo, hwx⟩ := hrel
    obtain rfl := hwx.symm
    have hps := hgo.2.1
    by_cases hlt : p < s.size
    · obtain ⟨g', rfl⟩ : ∃ g', gk = g' + 1 := ⟨gk - 1, by omega⟩
      have i0 : (0 : Int) ≤ (p : Int) := by omega
      have i1 : (p : Int) < (s.size : Int) := by omega
      have hb := fun h => at_byte s p h
      have hg1 := Goes.blank hlt
      have hg2 := Goes.line hlt
      have hge : bt s p = 37 → p + 1 ≤ goes pLine s p := fun hb => by rw [goes_on hlt (by simp [pLine, hb])]; exact goes_ge _ _ _
      obtain ⟨c, hc⟩ : ∃ c, bt s p = c := ⟨_, rfl⟩
      have HC := hidb hc
      rw [hc] at hg1 hg2 hge
      simp only [hc] at hb
      clear hc
      by_cases h37 : c = 37
      · subst h37
        have HG := hidb (hgo.trans (hg2 rfl))
        have hge2 := hge rfl
        clear hg1 hg2 hge
        go_wp2_with fail
        go_loopg [1] (s.size - p) (fun gf s1 wx => ∃ q : Nat, s1 = .int .i64 (q : Int) ∧ p ≤ q ∧ q ≤ s.size ∧ s.size - q ≤ gf ∧ goes pLine s q = goes pLine s p ∧ wx = w)
        case atStart => exact ⟨p, rfl, Nat.le_refl _, hps, Nat.le_refl _, rfl, rfl⟩
        case round =>
          obtain ⟨q, rfl, hpq, hqs, hqg, hqo, hwx2⟩ := hrel
          obtain rfl := hwx2.symm
          clear i0 i1 hb
          by_cases hql : q < s.size
          · obtain ⟨g2, rfl⟩ : ∃ g2, gk = g2 + 1 := ⟨gk - 1, by omega⟩
            have i0 : (0 : Int) ≤ (q : Int) := by omega
            have i1 : (q : Int) < (s.size : Int) := by omega
            have hb := fun h => at_byte s q h
            have h1 := goes_on (p := pLine) hql
            have h2 := goes_stop (p := pLine) (s := s) (i := q)
            obtain ⟨c, hc⟩ : ∃ c, bt s q = c := ⟨_, rfl⟩
            rw [hc] at h1 h2
            simp only [hc] at hb
            clear hc
            by_cases h10 : c = 10
            · subst h10
              have hqe : goes pLine s p = q := by rw [← hqo]; exact h2 rfl
              rw [hqe] at HG hge2
              clear h1 h2
              go_wp2_with fail
              go_roundg g'
              case measure => omega
              case rel => exact ⟨q, rfl, by omega, HG.out, rfl⟩
            · have e10 : ((c : Int) == 10) = false := by simp; omega
              have e11 : ((c : Int) != 10) = true := by simp; omega
              have h3 := h1 (by simp [pLine, h10])
              clear h1 h2
              go_wp2_with fail
              go_roundg g2
              case measure => omega
              case rel => exact ⟨q + 1, by simp, by omega, by omega, by omega, by rw [← h3]; exact hqo, rfl⟩
          · have i1 : ¬ (q : Int) < (s.size : Int) := by omega
            have hqe : goes pLine s p = q := by rw [← hqo]; exact goes_end (by omega)
            rw [hqe] at HG hge2
            go_wp2_with fail
            go_roundg g'
            case measure => omega
            case rel => exact ⟨q, rfl, by omega, HG.out, rfl⟩
      · have e37 : ((c : Int) == 37) = false := by simp; omega
        cases hbl : pBlank c
        · simp [pBlank] at hbl
          have e1 : ((c : Int) == 9) = false := by simp; omega
          have e2 : ((c : Int) == 10) = false := by simp; omega
          have e3 : ((c : Int) == 13) = false := by simp; omega
          have e4 : ((c : Int) == 32) = false := by simp; omega
          clear hg1 hg2 hge
          go_wp2_with fail
          go_ret
          exact ⟨p, rfl, rfl, hgo, fun _ => by rw [HC.out]; exact ⟨by simp [pBlank]; omega, h37⟩⟩
        · have HG := hidb (hgo.trans (hg1 hbl))
          simp [pBlank] at hbl
          clear hg1 hg2 hge
          rcases hbl with ((rfl | rfl) | rfl) | rfl
          all_goals (go_wp2_with fail)
          all_goals (go_roundg g')
          all_goals first | omega | exact ⟨p + 1, by simp, by omega, HG.out, rfl⟩
    · have i1 : ¬ (p : Int) < (s.size : Int) := by omega
      go_wp2_with fail
      go_ret
      exact ⟨p, rfl, rfl, hgo, fun h => absurd h hlt⟩
end Go.Proofs.YtecgddiohoeboaaDoor
