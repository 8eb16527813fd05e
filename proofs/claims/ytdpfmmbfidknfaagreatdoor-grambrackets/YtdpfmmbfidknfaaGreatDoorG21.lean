import Derived.Test.YtdpfmmbfidknfaaGreatDoorG20
import Derived.Test.YtdpfmmbfidknfaaGreatDoorG12
/- The reference passes over blanks and comments. -/
namespace Go.Proofs.YtdpfmmbfidknfaaGreatDoor
open Go.RowKit Go.Lib
attribute [local go_sem] store_float f64bits
attribute [local go_sem ↓] Go.wp_at_zero Go.wp_at_succ

/-- From p on the tokens are those from p' on. -/
def Goes (s : ByteArray) (p p' : Nat) : Prop := p ≤ p' ∧ p' ≤ s.size ∧ ∀ k done, s.size < p + k → ∃ k', s.size < p' + k' ∧ toks s k p done = toks s k' p' done

theorem Goes.refl (s : ByteArray) (p : Nat) (hp : p ≤ s.size) : Goes s p p := ⟨Nat.le_refl _, hp, fun k _ h => ⟨k, h, rfl⟩⟩
theorem Goes.trans {s : ByteArray} {p q r : Nat} (h1 : Goes s p q) (h2 : Goes s q r) : Goes s p r :=
  ⟨Nat.le_trans h1.1 h2.1, h2.2.1, fun k done h => by
    obtain ⟨k1, a1, b1⟩ := h1.2.2 k done h
    obtain ⟨k2, a2, b2⟩ := h2.2.2 k1 done a1
    exact ⟨k2, a2, b1.trans b2⟩⟩
theorem Goes.blank {s : ByteArray} {p : Nat} (hp : p < s.size) (hb : pBlank (bt s p) = true) : Goes s p (p + 1) := by
  refine ⟨by omega, hp, fun k done h => ⟨k, by omega, ?_⟩⟩
  obtain ⟨k, rfl⟩ : ∃ k', k = k' + 1 := ⟨k - 1, by omega⟩
  simp only [toks, goes_on hp hb]
theorem Goes.line {s : ByteArray} {p : Nat} (hp : p < s.size) (hb : bt s p = 37) : Goes s p (goes pLine s p) := by
  have h1 : p + 1 ≤ goes pLine s p := by rw [goes_on hp (by simp [pLine, hb])]; exact goes_ge _ _ _
  refine ⟨by omega, goes_le _ _ _ (by omega), fun k done h => ?_⟩
  obtain ⟨k, rfl⟩ : ∃ k', k = k' + 1 := ⟨k - 1, by omega⟩
  refine ⟨k, by omega, ?_⟩
  have h2 : goes pBlank s p = p := goes_stop (by rw [hb]; rfl)
  simp only [toks, h2, hp, if_true, hb]

end Go.Proofs.YtdpfmmbfidknfaaGreatDoor


/- The reference's numbers. -/
namespace Go.Proofs.YtdpfmmbfidknfaaGreatDoor
open Go.RowKit Go.Lib
attribute [local go_sem] store_float f64bits
attribute [local go_sem ↓] Go.wp_at_zero Go.wp_at_succ

/-- A token as the reference tells it. -/
def rV (v : Value) (i E : Nat) : Value :=
  match v with
  | .tuple #[.agg #[a, b, c, d, _], .int _ e] => if e = 0 then .tuple #[.agg #[a, b, c, d, .int .i64 (i : Int)], .int .i64 (E : Int), .int .i64 0] else .tuple #[.agg #[.int .i64 (0), .string (⟨#[]⟩), .int .i64 (0), .float .f64 (0), .int .i64 (0)], .int .i64 0, .int .i64 e]
  | v => v
theorem rV_tk (k : Int) (x : ByteArray) (n : Int) (f : Nat) (i E : Nat) : rV (.tuple #[.agg #[.int .i64 (k), .string (x), .int .i64 (n), .float .f64 (f), .int .i64 (0)], .int .i64 0]) i E = .tuple #[.agg #[.int .i64 (k), .string (x), .int .i64 (n), .float .f64 (f), .int .i64 ((i : Int))], .int .i64 (E : Int), .int .i64 0] := rfl
theorem rV_bad (e : Int) (he : e ≠ 0) (i E : Nat) : rV (badV e) i E = .tuple #[.agg #[.int .i64 (0), .string (⟨#[]⟩), .int .i64 (0), .float .f64 (0), .int .i64 (0)], .int .i64 0, .int .i64 e] := by
  show (if e = 0 then _ else _) = _
  rw [if_neg he]

end Go.Proofs.YtdpfmmbfidknfaaGreatDoor


