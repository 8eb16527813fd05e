import Derived.Test.YtmijabhnbmmmfaaGreatG51
import Derived.ProofKit
import Derived.OpenShut
/- Whatever term and number it is given, HeapShares (promise P407) returns true, and its arguments read as before; no condition. -/
namespace Go.Proofs.YtmijabhnbmmmfaaGreat
open Go.ChangeShapes Go.WideShapes Go.ChangeAt Go.WideMaps Go.WideElems Go.RowKit

theorem termCells4 : Tryz.prog.cellTypes Tryz.prog.depth 44 = some [3, 2, 41, 9, 42] := by kernel_rfl
theorem termSize4 : Tryz.prog.cellsOf 44 = 5 := by kernel_rfl

theorem value_of_cell {P : Program} {W : World} {r : Reach} {base : Nat} {t : TypeId} {d : TypeDesc} {v : Value} (hd : P.underlying t = some d) (h1 : ∀ fs, d ≠ .struct fs) (h2 : ∀ n e, d ≠ .array n e) (h : Cell.okWide P W r base t v) : Value.okWide P W r base t v := by
  unfold Value.okWide
  rw [hd]
  cases d <;> first | exact h | exact absurd rfl (h1 _) | exact absurd rfl (h2 _ _)

theorem float_lt {P : Program} {W : World} {r : Reach} {base : Nat} {t : TypeId} {f : Nat} (ht : P.underlying t = some (.float .f64)) (h : Value.okWide P W r base t (.float .f64 f)) : f < 2 ^ 64 := by
  simp only [Value.okWide, ht, Cell.okWide, Cell.ok] at h
  simpa [FloatKind.has] using h

set_option maxRecDepth 100000 in
theorem term_form {W : World} {base : Nat} {v : Value} (h : Value.okWide Tryz.prog W .any base 44 v) :
    ∃ (k n : Int) (f : Nat) (s : ByteArray) (a : Option Addr) (l c : Nat), v = .agg #[.int .i64 k, .int .i64 n, .float .f64 f, .string s, .slice a l c] ∧ f < 18446744073709551616 := by
  simp only [Value.okWide, Tryz.underlying44] at h
  obtain ⟨cs, rfl, hsz, ts, hts, _, hc⟩ := h
  obtain rfl := Option.some.inj (termCells4.symm.trans hts)
  rw [termSize4] at hsz
  obtain ⟨l⟩ := cs
  match l, hsz with
  | [c0, c1, c2, c3, c4], _ =>
    obtain ⟨u0, e0, g0⟩ := hc 0 c0 rfl
    obtain ⟨u1, e1, g1⟩ := hc 1 c1 rfl
    obtain ⟨u2, e2, g2⟩ := hc 2 c2 rfl
    obtain ⟨u3, e3, g3⟩ := hc 3 c3 rfl
    obtain ⟨u4, e4, g4⟩ := hc 4 c4 rfl
    obtain rfl : 3 = u0 := Option.some.inj e0
    obtain rfl : 2 = u1 := Option.some.inj e1
    obtain rfl : 41 = u2 := Option.some.inj e2
    obtain rfl : 9 = u3 := Option.some.inj e3
    obtain rfl : 42 = u4 := Option.some.inj e4
    have v0 : Value.okWide Tryz.prog W .any base 3 c0 := value_of_cell Tryz.underlying3 (by simp) (by simp) g0
    have v1 : Value.okWide Tryz.prog W .any base 2 c1 := value_of_cell Tryz.underlying2 (by simp) (by simp) g1
    have v2 : Value.okWide Tryz.prog W .any base 41 c2 := value_of_cell Tryz.underlying41 (by simp) (by simp) g2
    have v3 : Value.okWide Tryz.prog W .any base 9 c3 := value_of_cell Tryz.underlying9 (by simp) (by simp) g3
    have v4 : Value.okWide Tryz.prog W .any base 42 c4 := value_of_cell Tryz.underlying42 (by simp) (by simp) g4
    obtain ⟨k, rfl⟩ := okWide_int Tryz.underlying3 v0
    obtain ⟨n, rfl⟩ := okWide_int Tryz.underlying2 v1
    obtain ⟨f, rfl⟩ := okWide_float Tryz.underlying41 v2
    obtain ⟨s, rfl⟩ := okWide_string Tryz.underlying9 v3
    obtain ⟨a, l, c, rfl⟩ := okWide_slice Tryz.underlying42 v4
    exact ⟨k, n, f, s, a, l, c, rfl, float_lt Tryz.underlying41 v2⟩

theorem heapShares_own : ownKnob Tryz.prog.godebug = none := by kernel_rfl
theorem heapShares_laidOut : laidOutB Tryz.prog = true := by kernel_rfl

set_option maxRecDepth 100000 in
theorem heapShares_lifted (os : Os) (started : os.Started) (H : Type) (enc : TypeId × Value → H) :
    ReturnsInHanded {} Tryz.checked os 5 .any (Rows.heapSharesSpec.pre6 enc Tryz.prog Tryz.f5 Rows.heapSharesRow.domain false) (Rows.heapSharesSpec.post enc Tryz.prog Tryz.f5 false true false false) := by
  refine returnsInHanded_of_change (C := Tryz.checked) heapShares_own started (by kernel_rfl) Tryz.func5
    (ChangeSpec.witness6 (enc := enc) (C := Tryz.checked) false ⟨#[], #[.agg #[.int .i64 (0), .int .i64 (0), .float .f64 (0), .string ⟨#[]⟩, .slice none 0 0], .int .i64 0], []⟩ 8 (by kernel_rfl) (by kernel_rfl) (by kernel_rfl) (by kernel_rfl)) ?_
  intro W base args ds gs before hval0 hW _ _
  have hval : ∀ (j : Nat) t v, Tryz.f5.params[j]? = some t → args[j]? = some v → Value.okWide Tryz.prog W .any base t v := hval0
  have hW' := hW
  obtain ⟨p, q, hA0, hV, rfl, _, _⟩ := hW
  have hA : DataW.TrodAll enc Tryz.prog W 0 (fun _ => true) true Tryz.f5.params.toList args.toList ds p := hA0
  rw [Tryz.params5] at hA hval
  obtain ⟨v0, v1, d0, d1, p0, p1, rfl, rfl, rfl, h0, h1⟩ := trodAll_two hA
  obtain ⟨rfl, rfl⟩ := trodVars_none hV
  obtain ⟨k0, n0, f0, s0, a0, l0, c0, rfl, -⟩ := term_form (hval 0 44 v0 rfl rfl)
  obtain ⟨n1, rfl⟩ := okWide_int Tryz.underlying3 (hval 1 3 v1 rfl rfl)
  have h0k := h0
  obtain ⟨fuel, hf⟩ := h0
  clear hA0 hval0
  simp only [List.append_nil] at hW'
  have hlt0 : ∀ x ∈ p0, x.block < W.heap.size := fun x hx => by simpa using hW'.lt x (by simp [hx])
  have hlt1 : ∀ x ∈ p1, x.block < W.heap.size := fun x hx => by simpa using hW'.lt x (by simp [hx])
  have e1 : Rows.heapSharesSpec.fn H ([d0, d1] ++ []) = { results := [.lit (.bool true)], args := [d0, d1] } := by simp [Rows.heapSharesSpec]
  have fin : ∀ e W', (e = Ending.returned (.bool true) ∧ Below W.heap.size W W') →
      ∃ v, e = Ending.returned v ∧ Rows.heapSharesSpec.post enc Tryz.checked.prog Tryz.f5 false true false false W #[.agg #[.int .i64 k0, .int .i64 n0, .float .f64 f0, .string s0, .slice a0 l0 c0], .int .i64 n1] v W' := by
    rintro e W' ⟨rfl, hb⟩
    refine ⟨_, rfl, _, _, _, [], p0 ++ p1, [], hW', ?_, ?_, ?_, hb.frame _, fun h => by cases h⟩
    · rw [e1]; exact trodAll_mk1 (shut_bool Tryz.underlying4 true)
    · rw [e1]; exact trodAll_mk2 (Below.trod heapShares_laidOut (by kernel_rfl) (of_decide_eq_true (by kernel_rfl)) h0k hb hlt0) (Below.trod heapShares_laidOut (by kernel_rfl) (of_decide_eq_true (by kernel_rfl)) h1 hb hlt1)
    · rw [e1]; rfl
  obtain ⟨⟨k, n, f, s, a, c, kids⟩, hcs, hin⟩ := open_term termType fuel _ _ hf
  simp [Value.cells, Tr.cells] at hcs
  obtain ⟨rfl, rfl, rfl, rfl, rfl, rfl, rfl⟩ := hcs
  exact (heapShares_any (.mk k0 n0 f0 s0 a0 c0 kids) n1 W hin).mono fin

theorem heapShares_holds : Rows.HeapSharesSaid :=
  OpenClaim.holds_of_wide 5 Tryz.f5 rfl rfl rfl rfl rfl rfl rfl ⟨rfl, rfl, rfl, rfl, rfl⟩ rfl rfl rfl rfl rfl (by kernel_rfl) Tryz.func5 (by kernel_rfl)
    (of_decide_eq_true (by kernel_rfl)) (by unfold Func.isWrapper; rw [if_neg (of_decide_eq_false (by kernel_rfl))]; exact ⟨rfl, rfl⟩)
    (fun os started H enc _ => heapShares_lifted os started H enc)
#print axioms heapShares_holds
end Go.Proofs.YtmijabhnbmmmfaaGreat


