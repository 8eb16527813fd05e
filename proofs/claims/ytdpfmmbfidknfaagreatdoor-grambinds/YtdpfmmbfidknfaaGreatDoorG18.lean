import Derived.Test.YtdpfmmbfidknfaaGreatDoorG17
import Derived.Test.YtdpfmmbfidknfaaGreatDoorG12
import Derived.Test.YtdpfmmbfidknfaaGreatDoorG16
/- The reference's numbers. -/
namespace Go.Proofs.YtdpfmmbfidknfaaGreatDoor
open Go.RowKit Go.Lib
attribute [local go_sem] store_float f64bits
attribute [local go_sem ↓] Go.wp_at_zero Go.wp_at_succ

/-- A token as the reference tells it. -/
def rV (v : Value) (i E : Nat) : Value :=
  match v with
  | .tuple #[.agg #[a, b, c, d, _], .int _ e] => if e = 0 then .tuple #[.agg #[a, b, c, d, .int .i64 (i : Int)], .int .i64 (E : Int), .int .i64 0] else .tuple #[.agg #[.int .i64 (0), .string (⟨#[]⟩), .int .i64 (0), .float .f64 (0), .int .i64 (0)], .int .i64 0, .int .i64 e]
  | v => v
theorem rV_tk (k : Int) (x : ByteArray) (n : Int) (f : Nat) (i E : Nat) : rV (.tuple #[.agg #[.int .i64 (k), .string (x), .int .i64 (n), .float .f64 (f), .int .i64 (0)], .int .i64 0]) i E = .tuple #[.agg #[.int .i64 (k), .string (x), .int .i64 (n), .float .f64 (f), .int .i64 ((i : Int))], .int .i64 (E : Int), .int .i64 0] := rfl
theorem rV_bad (e : Int) (he : e ≠ 0) (i E : Nat) : rV (badV e) i E = .tuple #[.agg #[.int .i64 (0), .string (⟨#[]⟩), .int .i64 (0), .float .f64 (0), .int .i64 (0)], .int .i64 0, .int .i64 e] := by
  show (if e = 0 then _ else _) = _
  rw [if_neg he]

end Go.Proofs.YtdpfmmbfidknfaaGreatDoor


/- The reference's tokens, given its token. -/
namespace Go.Proofs.YtdpfmmbfidknfaaGreatDoor
open Go.RowKit Go.Lib
attribute [local go_sem] store_float f64bits
attribute [local go_sem ↓] Go.wp_at_zero Go.wp_at_succ

theorem rV_err (k : Int) (x : ByteArray) (n : Int) (f : Nat) (er : Int) (he : er ≠ 0) (i E : Nat) : rV (.tuple #[.agg #[.int .i64 (k), .string (x), .int .i64 (n), .float .f64 (f), .int .i64 (0)], .int .i64 er]) i E = .tuple #[.agg #[.int .i64 (0), .string (⟨#[]⟩), .int .i64 (0), .float .f64 (0), .int .i64 (0)], .int .i64 0, .int .i64 er] := by
  show (if er = 0 then _ else _) = _
  rw [if_neg he]

theorem toks_at (s : ByteArray) (k p : Nat) (done : List Tk) (hp : p < s.size) (hb : pBlank (bt s p) = false) (h37 : bt s p ≠ 37) : toks s (k + 1) p done = layT s k p done := by
  have h : goes pBlank s p = p := goes_stop hb
  simp only [toks, h, hp, if_true, h37, if_false, layT]
theorem toks_end (s : ByteArray) (k p : Nat) (done : List Tk) (hp : s.size ≤ p) : toks s (k + 1) p done = .inl (done ++ [⟨8, ⟨#[]⟩, 0, 0, p⟩]) := by
  have h : goes pBlank s p = p := goes_end hp
  have h2 : ¬ p < s.size := by omega
  simp only [toks, h, h2, if_false]

end Go.Proofs.YtdpfmmbfidknfaaGreatDoor


