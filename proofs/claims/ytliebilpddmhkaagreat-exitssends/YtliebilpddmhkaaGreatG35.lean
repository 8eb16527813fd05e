import Derived.Test.YtliebilpddmhkaaGreatG25
import Derived.WalkLawsBesides
import Derived.OpenShut
import Derived.ChangeAt
import Derived.ChangeSame
import Derived.ProofKit
/- A signal that is handed in, opened. -/
namespace Go.Proofs.YtliebilpddmhkaaGreat
open Go.ChangeShapes Go.WideShapes Go.ChangeAt Go.WideMaps Go.WideElems Go.RowKit

set_option maxRecDepth 100000
theorem laidOut : laidOutB Tryz.prog = true := by kernel_rfl
theorem termCells : Tryz.prog.cellTypes Tryz.prog.depth 25 = some [3, 2, 22, 9, 23] := by kernel_rfl
theorem termSize : Tryz.prog.cellsOf 25 = 5 := by kernel_rfl
theorem sigCells : Tryz.prog.cellTypes Tryz.prog.depth 27 = some [3, 3, 3, 3, 3, 4, 9, 3, 2, 22, 9, 23] := by kernel_rfl
theorem sigSize : Tryz.prog.cellsOf 27 = 12 := by kernel_rfl

theorem value_of_cell {P : Program} {W : World} {r : Reach} {base : Nat} {t : TypeId} {d : TypeDesc} {v : Value} (hd : P.underlying t = some d) (h1 : ∀ fs, d ≠ .struct fs) (h2 : ∀ n e, d ≠ .array n e) (h : Cell.okWide P W r base t v) : Value.okWide P W r base t v := by
  unfold Value.okWide
  rw [hd]
  cases d <;> first | exact h | exact absurd rfl (h1 _) | exact absurd rfl (h2 _ _)

theorem term_form {W : World} {base : Nat} {v : Value} (h : Value.okWide Tryz.prog W .any base 25 v) :
    ∃ (k n : Int) (f : Nat) (s : ByteArray) (a : Option Addr) (l c : Nat), v = .agg #[.int .i64 k, .int .i64 n, .float .f64 f, .string s, .slice a l c] := by
  simp only [Value.okWide, Tryz.underlying25] at h
  obtain ⟨cs, rfl, hsz, ts, hts, _, hc⟩ := h
  obtain rfl := Option.some.inj (termCells.symm.trans hts)
  rw [termSize] at hsz
  obtain ⟨l⟩ := cs
  match l, hsz with
  | [c0, c1, c2, c3, c4], _ =>
    obtain ⟨u0, e0, g0⟩ := hc 0 c0 rfl
    obtain ⟨u1, e1, g1⟩ := hc 1 c1 rfl
    obtain ⟨u2, e2, g2⟩ := hc 2 c2 rfl
    obtain ⟨u3, e3, g3⟩ := hc 3 c3 rfl
    obtain ⟨u4, e4, g4⟩ := hc 4 c4 rfl
    obtain rfl : 3 = u0 := Option.some.inj e0
    obtain rfl : 2 = u1 := Option.some.inj e1
    obtain rfl : 22 = u2 := Option.some.inj e2
    obtain rfl : 9 = u3 := Option.some.inj e3
    obtain rfl : 23 = u4 := Option.some.inj e4
    have v0 : Value.okWide Tryz.prog W .any base 3 c0 := value_of_cell Tryz.underlying3 (by simp) (by simp) g0
    have v1 : Value.okWide Tryz.prog W .any base 2 c1 := value_of_cell Tryz.underlying2 (by simp) (by simp) g1
    have v2 : Value.okWide Tryz.prog W .any base 22 c2 := value_of_cell Tryz.underlying22 (by simp) (by simp) g2
    have v3 : Value.okWide Tryz.prog W .any base 9 c3 := value_of_cell Tryz.underlying9 (by simp) (by simp) g3
    have v4 : Value.okWide Tryz.prog W .any base 23 c4 := value_of_cell Tryz.underlying23 (by simp) (by simp) g4
    obtain ⟨x0, rfl⟩ := okWide_int Tryz.underlying3 v0
    obtain ⟨x1, rfl⟩ := okWide_int Tryz.underlying2 v1
    obtain ⟨x2, rfl⟩ := okWide_float Tryz.underlying22 v2
    obtain ⟨x3, rfl⟩ := okWide_string Tryz.underlying9 v3
    obtain ⟨a, l, c, rfl⟩ := okWide_slice Tryz.underlying23 v4
    exact ⟨x0, x1, x2, x3, a, l, c, rfl⟩

theorem sig_form {W : World} {base : Nat} {v : Value} (h : Value.okWide Tryz.prog W .any base 27 v) :
    ∃ (x0 x1 k x3 x4 : Int) (lk : Bool) (nm : ByteArray) (tk tn : Int) (tf : Nat) (ts : ByteArray) (a : Option Addr) (l c : Nat), v = .agg #[.int .i64 x0, .int .i64 x1, .int .i64 k, .int .i64 x3, .int .i64 x4, .bool lk, .string nm, .int .i64 tk, .int .i64 tn, .float .f64 tf, .string ts, .slice a l c] := by
  simp only [Value.okWide, Tryz.underlying27] at h
  obtain ⟨cs, rfl, hsz, ts, hts, _, hc⟩ := h
  obtain rfl := Option.some.inj (sigCells.symm.trans hts)
  rw [sigSize] at hsz
  obtain ⟨l⟩ := cs
  match l, hsz with
  | [c0, c1, c2, c3, c4, c5, c6, c7, c8, c9, c10, c11], _ =>
    obtain ⟨u0, e0, g0⟩ := hc 0 c0 rfl
    obtain ⟨u1, e1, g1⟩ := hc 1 c1 rfl
    obtain ⟨u2, e2, g2⟩ := hc 2 c2 rfl
    obtain ⟨u3, e3, g3⟩ := hc 3 c3 rfl
    obtain ⟨u4, e4, g4⟩ := hc 4 c4 rfl
    obtain ⟨u5, e5, g5⟩ := hc 5 c5 rfl
    obtain ⟨u6, e6, g6⟩ := hc 6 c6 rfl
    obtain ⟨u7, e7, g7⟩ := hc 7 c7 rfl
    obtain ⟨u8, e8, g8⟩ := hc 8 c8 rfl
    obtain ⟨u9, e9, g9⟩ := hc 9 c9 rfl
    obtain ⟨u10, e10, g10⟩ := hc 10 c10 rfl
    obtain ⟨u11, e11, g11⟩ := hc 11 c11 rfl
    obtain rfl : 3 = u0 := Option.some.inj e0
    obtain rfl : 3 = u1 := Option.some.inj e1
    obtain rfl : 3 = u2 := Option.some.inj e2
    obtain rfl : 3 = u3 := Option.some.inj e3
    obtain rfl : 3 = u4 := Option.some.inj e4
    obtain rfl : 4 = u5 := Option.some.inj e5
    obtain rfl : 9 = u6 := Option.some.inj e6
    obtain rfl : 3 = u7 := Option.some.inj e7
    obtain rfl : 2 = u8 := Option.some.inj e8
    obtain rfl : 22 = u9 := Option.some.inj e9
    obtain rfl : 9 = u10 := Option.some.inj e10
    obtain rfl : 23 = u11 := Option.some.inj e11
    have v0 : Value.okWide Tryz.prog W .any base 3 c0 := value_of_cell Tryz.underlying3 (by simp) (by simp) g0
    have v1 : Value.okWide Tryz.prog W .any base 3 c1 := value_of_cell Tryz.underlying3 (by simp) (by simp) g1
    have v2 : Value.okWide Tryz.prog W .any base 3 c2 := value_of_cell Tryz.underlying3 (by simp) (by simp) g2
    have v3 : Value.okWide Tryz.prog W .any base 3 c3 := value_of_cell Tryz.underlying3 (by simp) (by simp) g3
    have v4 : Value.okWide Tryz.prog W .any base 3 c4 := value_of_cell Tryz.underlying3 (by simp) (by simp) g4
    have v5 : Value.okWide Tryz.prog W .any base 4 c5 := value_of_cell Tryz.underlying4 (by simp) (by simp) g5
    have v6 : Value.okWide Tryz.prog W .any base 9 c6 := value_of_cell Tryz.underlying9 (by simp) (by simp) g6
    have v7 : Value.okWide Tryz.prog W .any base 3 c7 := value_of_cell Tryz.underlying3 (by simp) (by simp) g7
    have v8 : Value.okWide Tryz.prog W .any base 2 c8 := value_of_cell Tryz.underlying2 (by simp) (by simp) g8
    have v9 : Value.okWide Tryz.prog W .any base 22 c9 := value_of_cell Tryz.underlying22 (by simp) (by simp) g9
    have v10 : Value.okWide Tryz.prog W .any base 9 c10 := value_of_cell Tryz.underlying9 (by simp) (by simp) g10
    have v11 : Value.okWide Tryz.prog W .any base 23 c11 := value_of_cell Tryz.underlying23 (by simp) (by simp) g11
    obtain ⟨x0, rfl⟩ := okWide_int Tryz.underlying3 v0
    obtain ⟨x1, rfl⟩ := okWide_int Tryz.underlying3 v1
    obtain ⟨x2, rfl⟩ := okWide_int Tryz.underlying3 v2
    obtain ⟨x3, rfl⟩ := okWide_int Tryz.underlying3 v3
    obtain ⟨x4, rfl⟩ := okWide_int Tryz.underlying3 v4
    obtain ⟨x5, rfl⟩ := okWide_bool Tryz.underlying4 v5
    obtain ⟨x6, rfl⟩ := okWide_string Tryz.underlying9 v6
    obtain ⟨x7, rfl⟩ := okWide_int Tryz.underlying3 v7
    obtain ⟨x8, rfl⟩ := okWide_int Tryz.underlying2 v8
    obtain ⟨x9, rfl⟩ := okWide_float Tryz.underlying22 v9
    obtain ⟨x10, rfl⟩ := okWide_string Tryz.underlying9 v10
    obtain ⟨a, l, c, rfl⟩ := okWide_slice Tryz.underlying23 v11
    exact ⟨x0, x1, x2, x3, x4, x5, x6, x7, x8, x9, x10, a, l, c, rfl⟩

theorem open_term0 {H : Type} {enc : TypeId × Value → H} {W : World} {base : Nat} {v : Value} {d : DataW H} {ps : List MemPlace} (hv : Value.okWide Tryz.prog W .any base 25 v) (h : DataW.Trod enc Tryz.prog W 0 (fun _ => true) true 25 v d ps) :
    ∃ (tk tn : Int) (tf : Nat) (ts : ByteArray) (ta : Option Addr) (tc : Nat) (kids : List Tr), v = .agg #[.int .i64 tk, .int .i64 tn, .float .f64 tf, .string ts, .slice ta kids.length tc] ∧ (Tr.mk tk tn tf ts ta tc kids).In W 0 := by
  obtain ⟨k, n, f, s, a, l, c, rfl⟩ := term_form hv
  obtain ⟨fuel, hf⟩ := h
  obtain ⟨⟨tk, tn, tf, ts, ta, tc, kids⟩, h1, h2⟩ := open_term termType fuel _ _ hf
  simp [Value.cells, Tr.cells] at h1
  obtain ⟨rfl, rfl, rfl, rfl, rfl, rfl, rfl⟩ := h1
  exact ⟨_, _, _, _, _, _, _, rfl, h2⟩

theorem open_sig {H : Type} {enc : TypeId × Value → H} {W : World} {base : Nat} {v : Value} {d : DataW H} {ps : List MemPlace} (hv : Value.okWide Tryz.prog W .any base 27 v) (h : DataW.Trod enc Tryz.prog W 0 (fun _ => true) true 27 v d ps) :
    ∃ (x0 x1 k x3 x4 : Int) (lk : Bool) (nm : ByteArray) (tk tn : Int) (tf : Nat) (ts : ByteArray) (ta : Option Addr) (tc : Nat) (kids : List Tr), v = .agg #[.int .i64 x0, .int .i64 x1, .int .i64 k, .int .i64 x3, .int .i64 x4, .bool lk, .string nm, .int .i64 tk, .int .i64 tn, .float .f64 tf, .string ts, .slice ta kids.length tc] ∧ (Tr.mk tk tn tf ts ta tc kids).In W 0 := by
  obtain ⟨x0, x1, k, x3, x4, lk, nm, tk, tn, tf, ts, a, l, c, rfl⟩ := sig_form hv
  obtain ⟨fuel, hf⟩ := h
  obtain ⟨xs, n, hn, hx, hlen, hxl, hff⟩ := DataW.trod_struct Tryz.underlying27 hf
  match xs, hxl with
  | [y0, y1, y2, y3, y4, y5, y6, y7], _ =>
    have g := hff 7 _ rfl
    simp [termSize, Value.cells] at g
    obtain ⟨⟨tk', tn', tf', ts', ta, tc, kids⟩, h1, h2⟩ := open_term termType n _ _ g
    simp [Tr.cells] at h1
    obtain ⟨rfl, rfl, rfl, rfl, rfl, rfl, rfl⟩ := h1
    exact ⟨x0, x1, k, x3, x4, lk, nm, _, _, _, _, _, _, _, rfl, h2⟩
end Go.Proofs.YtliebilpddmhkaaGreat


/- Halves of links and monitors that are handed in, opened. -/
namespace Go.Proofs.YtliebilpddmhkaaGreat
open Go.ChangeShapes Go.WideShapes Go.ChangeAt Go.WideMaps Go.WideElems Go.RowKit

set_option maxRecDepth 100000
theorem halfCells : Tryz.prog.cellTypes Tryz.prog.depth 46 = some [3, 3, 3] := by kernel_rfl
theorem halfSize : Tryz.prog.cellsOf 46 = 3 := by kernel_rfl
theorem monCells : Tryz.prog.cellTypes Tryz.prog.depth 41 = some [3, 3, 9] := by kernel_rfl
theorem monSize : Tryz.prog.cellsOf 41 = 3 := by kernel_rfl
theorem half_form {W : World} {base : Nat} {v : Value} (h : Value.okWide Tryz.prog W .any base 46 v) : ∃ x0 x1 x2 : Int, v = .agg #[.int .i64 x0, .int .i64 x1, .int .i64 x2] := by
  simp only [Value.okWide, Tryz.underlying46] at h
  obtain ⟨cs, rfl, hsz, ts, hts, _, hc⟩ := h
  obtain rfl := Option.some.inj (halfCells.symm.trans hts)
  rw [halfSize] at hsz
  obtain ⟨l⟩ := cs
  match l, hsz with
  | [c0, c1, c2], _ =>
    obtain ⟨u0, e0, g0⟩ := hc 0 c0 rfl
    obtain ⟨u1, e1, g1⟩ := hc 1 c1 rfl
    obtain ⟨u2, e2, g2⟩ := hc 2 c2 rfl
    obtain rfl : 3 = u0 := Option.some.inj e0
    obtain rfl : 3 = u1 := Option.some.inj e1
    obtain rfl : 3 = u2 := Option.some.inj e2
    obtain ⟨x0, rfl⟩ := okWide_int Tryz.underlying3 (value_of_cell Tryz.underlying3 (by simp) (by simp) g0)
    obtain ⟨x1, rfl⟩ := okWide_int Tryz.underlying3 (value_of_cell Tryz.underlying3 (by simp) (by simp) g1)
    obtain ⟨x2, rfl⟩ := okWide_int Tryz.underlying3 (value_of_cell Tryz.underlying3 (by simp) (by simp) g2)
    exact ⟨x0, x1, x2, rfl⟩
theorem mon_form {W : World} {base : Nat} {v : Value} (h : Value.okWide Tryz.prog W .any base 41 v) : ∃ (x0 x1 : Int) (x2 : ByteArray), v = .agg #[.int .i64 x0, .int .i64 x1, .string x2] := by
  simp only [Value.okWide, Tryz.underlying41] at h
  obtain ⟨cs, rfl, hsz, ts, hts, _, hc⟩ := h
  obtain rfl := Option.some.inj (monCells.symm.trans hts)
  rw [monSize] at hsz
  obtain ⟨l⟩ := cs
  match l, hsz with
  | [c0, c1, c2], _ =>
    obtain ⟨u0, e0, g0⟩ := hc 0 c0 rfl
    obtain ⟨u1, e1, g1⟩ := hc 1 c1 rfl
    obtain ⟨u2, e2, g2⟩ := hc 2 c2 rfl
    obtain rfl : 3 = u0 := Option.some.inj e0
    obtain rfl : 3 = u1 := Option.some.inj e1
    obtain rfl : 9 = u2 := Option.some.inj e2
    obtain ⟨x0, rfl⟩ := okWide_int Tryz.underlying3 (value_of_cell Tryz.underlying3 (by simp) (by simp) g0)
    obtain ⟨x1, rfl⟩ := okWide_int Tryz.underlying3 (value_of_cell Tryz.underlying3 (by simp) (by simp) g1)
    obtain ⟨x2, rfl⟩ := okWide_string Tryz.underlying9 (value_of_cell Tryz.underlying9 (by simp) (by simp) g2)
    exact ⟨x0, x1, x2, rfl⟩
section
variable {H : Type} {enc : TypeId × Value → H} {P : Program} {w : World} {base : Nat} {spare : Nat → Bool} {held : Bool}
theorem trodAll_five {t0 t1 t2 t3 t4 : TypeId} {args : Array Value} {ds : List (DataW H)} {ps : List MemPlace} (h : DataW.TrodAll enc P w base spare held [t0, t1, t2, t3, t4] args.toList ds ps) :
    ∃ v0 v1 v2 v3 v4 d0 d1 d2 d3 d4 p0 p1 p2 p3 p4, args = #[v0, v1, v2, v3, v4] ∧ ds = [d0, d1, d2, d3, d4] ∧ ps = p0 ++ p1 ++ p2 ++ p3 ++ p4 ∧ DataW.Trod enc P w base spare held t0 v0 d0 p0 ∧ DataW.Trod enc P w base spare held t1 v1 d1 p1 ∧ DataW.Trod enc P w base spare held t2 v2 d2 p2 ∧ DataW.Trod enc P w base spare held t3 v3 d3 p3 ∧ DataW.Trod enc P w base spare held t4 v4 d4 p4 := by
  obtain ⟨v0, vs0, d0, ds0, p0, q0, hargs, rfl, rfl, h0, r0⟩ := trodAll_cons h
  obtain ⟨v1, vs1, d1, ds1, p1, q1, rfl, rfl, rfl, h1, r1⟩ := trodAll_cons r0
  obtain ⟨v2, vs2, d2, ds2, p2, q2, rfl, rfl, rfl, h2, r2⟩ := trodAll_cons r1
  obtain ⟨v3, vs3, d3, ds3, p3, q3, rfl, rfl, rfl, h3, r3⟩ := trodAll_cons r2
  obtain ⟨v4, vs4, d4, ds4, p4, q4, rfl, rfl, rfl, h4, r4⟩ := trodAll_cons r3
  obtain ⟨rfl, rfl, rfl⟩ := trodAll_nil r4
  exact ⟨v0, v1, v2, v3, v4, d0, d1, d2, d3, d4, p0, p1, p2, p3, p4, by cases args; simp_all, rfl, by simp, h0, h1, h2, h3, h4⟩
theorem trodAll_mk5 {t0 t1 t2 t3 t4 : TypeId} {v0 v1 v2 v3 v4 : Value} {d0 d1 d2 d3 d4 : DataW H} {p0 p1 p2 p3 p4 : List MemPlace} (h0 : DataW.Trod enc P w base spare held t0 v0 d0 p0) (h1 : DataW.Trod enc P w base spare held t1 v1 d1 p1) (h2 : DataW.Trod enc P w base spare held t2 v2 d2 p2) (h3 : DataW.Trod enc P w base spare held t3 v3 d3 p3) (h4 : DataW.Trod enc P w base spare held t4 v4 d4 p4) : DataW.TrodAll enc P w base spare held [t0, t1, t2, t3, t4] [v0, v1, v2, v3, v4] [d0, d1, d2, d3, d4] (p0 ++ (p1 ++ (p2 ++ (p3 ++ p4)))) := ⟨p0, p1 ++ (p2 ++ (p3 ++ p4)), h0, trodAll_mk4 h1 h2 h3 h4, rfl⟩
end
end Go.Proofs.YtliebilpddmhkaaGreat


