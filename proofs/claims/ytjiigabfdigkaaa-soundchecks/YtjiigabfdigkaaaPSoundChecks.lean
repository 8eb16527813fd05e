import Derived.Test.YtjiigabfdigkaaaG32
import Derived.ProofKit
/- Whatever state it is given, SoundChecks (promises P2001, P2002: the rules that a state breaks, whether it is calmed, how much there is) returns true, and its argument reads as before; no condition. -/
namespace Go.Proofs.Ytjiigabfdigkaaa
open Go.ChangeShapes Go.WideShapes Go.ChangeAt Go.WideMaps Go.WideElems Go.RowKit

theorem soundChecks_own : ownKnob Try.prog.godebug = none := by kernel_rfl
theorem laidOut : laidOutB Try.prog = true := by kernel_rfl
theorem state_form {W : World} {base : Nat} {v : Value} (h : Value.okWide Try.prog W .any base 26 v) : ∃ cs : Array Value, v = .agg cs := by
  simp only [Value.okWide, Try.underlying26] at h
  obtain ⟨cs, rfl, _⟩ := h
  exact ⟨cs, rfl⟩

set_option maxRecDepth 100000 in
theorem soundChecks_lifted (os : Os) (started : os.Started) (H : Type) (enc : TypeId × Value → H) :
    ReturnsInHanded {} Try.checked os 3 .any (Rows.soundChecksSpec.pre6 enc Try.prog Try.f3 Rows.soundChecksRow.domain false) (Rows.soundChecksSpec.post enc Try.prog Try.f3 false true false false) := by
  have hpre : Rows.soundChecksSpec.pre6 enc Try.prog Try.f3 Rows.soundChecksRow.domain false = fun w args => (Rows.soundChecksSpec.pre enc Try.prog Try.f3 Rows.soundChecksRow.domain false w args ∧ True) ∧ sizedMet enc Try.prog Try.f3 (OpenSpec.ofChange Rows.soundChecksSpec) false w args := by
    funext w args
    simp only [ChangeSpec.pre6, and_true]
  rw [hpre]
  obtain ⟨w0, t0, i0, q1, q2, q3, q4, q5, q6⟩ := ChangeSpec.witness6 (enc := enc) (C := Try.checked) (s := Rows.soundChecksSpec) (os := os) (f := 3) (fn := Try.f3) (conds := Rows.soundChecksRow.domain) (apart := false) false ⟨#[], #[.agg #[.slice none 0 0, .slice none 0 0, .slice none 0 0]], []⟩ 8 (by kernel_rfl) (by kernel_rfl) (by kernel_rfl) (by kernel_rfl)
  refine returnsInHanded_of_change_and (C := Try.checked) (X := fun _ _ => True) (fun _ _ _ _ _ => trivial) soundChecks_own started (by kernel_rfl) Try.func3
    ⟨w0, t0, i0, q1, q2, q3, q4, ⟨⟨q5.1, trivial⟩, q5.2⟩, q6⟩ ?_
  intro W base args ds gs before hval0 hW _ hwt _ _
  have hval : ∀ (j : Nat) t v, Try.f3.params[j]? = some t → args[j]? = some v → Value.okWide Try.prog W .any base t v := hval0
  have hW' := hW
  obtain ⟨p, q, hA0, hV, rfl, _, _⟩ := hW
  have hA : DataW.TrodAll enc Try.prog W 0 (fun _ => true) true Try.f3.params.toList args.toList ds p := hA0
  have hwt1 : (DataW.weightsEach Try.prog (Try.f3.params.toList ++ Rows.soundChecksSpec.plain.varTypes Try.prog) (ds ++ gs)).all (· ≤ reachBytes) = true := hwt
  rw [Try.params3] at hA hval hwt1
  obtain ⟨v0, d0, rfl, rfl, h0⟩ := trodAll_one hA
  obtain ⟨rfl, rfl⟩ := trodVars_none hV
  have hw0 : Within Try.prog 26 d0 := by
    intro q hq
    have := List.all_eq_true.1 hwt1 q (by
      show q ∈ DataW.weightsEach Try.prog (26 :: _) (d0 :: _)
      unfold DataW.weightsEach
      exact List.mem_append_left _ hq)
    simpa using this
  obtain ⟨cs, rfl⟩ := state_form (hval 0 26 v0 rfl rfl)
  have h0k := h0
  obtain ⟨fuel, hf⟩ := h0
  clear hA0 hval0 hwt hwt1
  simp only [List.append_nil] at hW'
  have hlt0 : ∀ x ∈ p, x.block < W.heap.size := fun x hx => by simpa using hW'.lt x (by simp [hx])
  have e1 : Rows.soundChecksSpec.fn H ([d0] ++ []) = { results := [.lit (.bool true)], args := [d0] } := by simp [Rows.soundChecksSpec]
  obtain ⟨pa, la, oa, cp, cl, no, co, ps, ls, hcs, hst, hwf, hr⟩ := open_state fuel _ _ hf
  have hcs2 : cs = #[.slice pa ps.length cp, .slice la ls.length cl, .slice oa no co] := by
    simp [Value.cells] at hcs
    exact Array.ext' (by simpa using hcs)
  subst hcs2
  refine (soundChecks_of W pa la cp cl ps.length ls.length ps ls oa no co hst rfl rfl hwf (hr hw0)).mono ?_
  rintro e W' ⟨rfl, hb⟩
  refine ⟨_, rfl, _, _, _, [], p, [], hW', ?_, ?_, ?_, hb.frame _, fun h => by cases h⟩
  · rw [e1]; exact trodAll_mk1 (shut_bool Try.underlying4 true)
  · rw [e1]; exact trodAll_mk1 (Below.trod laidOut (by kernel_rfl) (of_decide_eq_true (by kernel_rfl)) h0k hb hlt0)
  · rw [e1]; rfl

theorem soundChecks_holds : Rows.SoundChecksSaid :=
  OpenClaim.holds_of_wide 3 Try.f3 rfl rfl rfl rfl rfl rfl rfl ⟨rfl, rfl, rfl, rfl, rfl⟩ rfl rfl rfl rfl rfl (by kernel_rfl) Try.func3 (by kernel_rfl)
    (of_decide_eq_true (by kernel_rfl)) (by unfold Func.isWrapper; rw [if_neg (of_decide_eq_false (by kernel_rfl))]; exact ⟨rfl, rfl⟩)
    (fun os started H enc _ => soundChecks_lifted os started H enc)
#print axioms soundChecks_holds
end Go.Proofs.Ytjiigabfdigkaaa


