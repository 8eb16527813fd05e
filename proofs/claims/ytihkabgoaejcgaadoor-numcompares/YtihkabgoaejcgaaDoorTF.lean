/- A term that is handed in, opened: its five fields. -/
import Derived.Test.YtihkabgoaejcgaaDoorLaid
import Derived.WalkLawsBesides
namespace Go.Proofs.YtihkabgoaejcgaaDoor
open Go.ChangeShapes Go.WideShapes Go.ChangeAt Go.WideMaps Go.WideElems Go.RowKit

set_option maxRecDepth 100000
theorem laidOut : laidOutB Tryd.prog = true := by kernel_rfl
theorem termCells : Tryd.prog.cellTypes Tryd.prog.depth 27 = some [3, 2, 24, 9, 25] := by kernel_rfl
theorem termSize : Tryd.prog.cellsOf 27 = 5 := by kernel_rfl

theorem value_of_cell {P : Program} {W : World} {r : Reach} {base : Nat} {t : TypeId} {d : TypeDesc} {v : Value} (hd : P.underlying t = some d) (h1 : ∀ fs, d ≠ .struct fs) (h2 : ∀ n e, d ≠ .array n e) (h : Cell.okWide P W r base t v) : Value.okWide P W r base t v := by
  unfold Value.okWide
  rw [hd]
  cases d <;> first | exact h | exact absurd rfl (h1 _) | exact absurd rfl (h2 _ _)

theorem float_lt {P : Program} {W : World} {r : Reach} {base : Nat} {t : TypeId} {f : Nat} (ht : P.underlying t = some (.float .f64)) (h : Value.okWide P W r base t (.float .f64 f)) : f < 2 ^ 64 := by
  simp only [Value.okWide, ht, Cell.okWide, Cell.ok] at h
  simpa [FloatKind.has] using h

theorem term_form {W : World} {base : Nat} {v : Value} (h : Value.okWide Tryd.prog W .any base 27 v) :
    ∃ (k n : Int) (f : Nat) (s : ByteArray) (a : Option Addr) (l c : Nat), v = .agg #[.int .i64 k, .int .i64 n, .float .f64 f, .string s, .slice a l c] ∧ f < 18446744073709551616 := by
  simp only [Value.okWide, Tryd.underlying27] at h
  obtain ⟨cs, rfl, hsz, ts, hts, _, hc⟩ := h
  obtain rfl := Option.some.inj (termCells.symm.trans hts)
  rw [termSize] at hsz
  obtain ⟨l⟩ := cs
  match l, hsz with
  | [c0, c1, c2, c3, c4], _ =>
    obtain ⟨u0, e0, g0⟩ := hc 0 c0 rfl
    obtain ⟨u1, e1, g1⟩ := hc 1 c1 rfl
    obtain ⟨u2, e2, g2⟩ := hc 2 c2 rfl
    obtain ⟨u3, e3, g3⟩ := hc 3 c3 rfl
    obtain ⟨u4, e4, g4⟩ := hc 4 c4 rfl
    obtain rfl : 3 = u0 := Option.some.inj e0
    obtain rfl : 2 = u1 := Option.some.inj e1
    obtain rfl : 24 = u2 := Option.some.inj e2
    obtain rfl : 9 = u3 := Option.some.inj e3
    obtain rfl : 25 = u4 := Option.some.inj e4
    have v0 : Value.okWide Tryd.prog W .any base 3 c0 := value_of_cell Tryd.underlying3 (by simp) (by simp) g0
    have v1 : Value.okWide Tryd.prog W .any base 2 c1 := value_of_cell Tryd.underlying2 (by simp) (by simp) g1
    have v2 : Value.okWide Tryd.prog W .any base 24 c2 := value_of_cell Tryd.underlying24 (by simp) (by simp) g2
    have v3 : Value.okWide Tryd.prog W .any base 9 c3 := value_of_cell Tryd.underlying9 (by simp) (by simp) g3
    have v4 : Value.okWide Tryd.prog W .any base 25 c4 := value_of_cell Tryd.underlying25 (by simp) (by simp) g4
    obtain ⟨k, rfl⟩ := okWide_int Tryd.underlying3 v0
    obtain ⟨n, rfl⟩ := okWide_int Tryd.underlying2 v1
    obtain ⟨f, rfl⟩ := okWide_float Tryd.underlying24 v2
    obtain ⟨s, rfl⟩ := okWide_string Tryd.underlying9 v3
    obtain ⟨a, l, c, rfl⟩ := okWide_slice Tryd.underlying25 v4
    exact ⟨k, n, f, s, a, l, c, rfl, float_lt Tryd.underlying24 v2⟩
end Go.Proofs.YtihkabgoaejcgaaDoor
