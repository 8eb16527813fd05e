import Derived.Test.YtggpbfmdhenjdaaG36
import Derived.Test.YtggpbfmdhenjdaaOpY
import Derived.Test.YtggpbfmdhenjdaaRows
import Derived.ChangeSlices
import Derived.OpenShut
import Derived.ProofKit
/- Whatever row of terms and whole number it is given, InboxOwn (promises P2, P7) returns true, and its arguments read as before; no condition. -/
namespace Go.Proofs.Ytggpbfmdhenjdaa
open Go.ChangeShapes Go.WideShapes Go.ChangeAt Go.WideMaps Go.WideElems Go.RowKit

theorem inboxOwn_own : ownKnob Try.prog.godebug = none := by kernel_rfl
theorem inboxOwn_laidOut : laidOutB Try.prog = true := by kernel_rfl

set_option maxRecDepth 100000 in
theorem inboxOwn_lifted (os : Os) (started : os.Started) (H : Type) (enc : TypeId × Value → H) :
    ReturnsInHanded {} Try.checked os 4 .any (Rows.inboxOwnSpec.pre6 enc Try.prog Try.f4 Rows.inboxOwnRow.domain false) (Rows.inboxOwnSpec.post enc Try.prog Try.f4 false true false false) := by
  have hpre : Rows.inboxOwnSpec.pre6 enc Try.prog Try.f4 Rows.inboxOwnRow.domain false = fun w args => (Rows.inboxOwnSpec.pre enc Try.prog Try.f4 Rows.inboxOwnRow.domain false w args ∧ True) ∧ sizedMet enc Try.prog Try.f4 (OpenSpec.ofChange Rows.inboxOwnSpec) false w args := by
    funext w args
    simp only [ChangeSpec.pre6, and_true]
  rw [hpre]
  obtain ⟨w0, t0, i0, q1, q2, q3, q4, q5, q6⟩ := ChangeSpec.witness6 (enc := enc) (C := Try.checked) (s := Rows.inboxOwnSpec) (os := os) (f := 4) (fn := Try.f4) (conds := Rows.inboxOwnRow.domain) (apart := false) false ⟨#[], #[.slice none 0 0, .int .i64 0], []⟩ 8 (by kernel_rfl) (by kernel_rfl) (by kernel_rfl) (by kernel_rfl)
  refine returnsInHanded_of_change_and (C := Try.checked) (X := fun _ _ => True) (fun _ _ _ _ _ => trivial) inboxOwn_own started (by kernel_rfl) Try.func4
    ⟨w0, t0, i0, q1, q2, q3, q4, ⟨⟨q5.1, trivial⟩, q5.2⟩, q6⟩ ?_
  intro W base args ds gs before hval0 hW _ hwt _ _
  have hval : ∀ (j : Nat) t v, Try.f4.params[j]? = some t → args[j]? = some v → Value.okWide Try.prog W .any base t v := hval0
  have hW' := hW
  obtain ⟨p, q, hA0, hV, rfl, _, _⟩ := hW
  have hA : DataW.TrodAll enc Try.prog W 0 (fun _ => true) true Try.f4.params.toList args.toList ds p := hA0
  have hwt1 : (DataW.weightsEach Try.prog (Try.f4.params.toList ++ Rows.inboxOwnSpec.plain.varTypes Try.prog) (ds ++ gs)).all (· ≤ reachBytes) = true := hwt
  rw [Try.params4] at hA hval hwt1
  obtain ⟨v0, v1, d0, d1, p0, p1, rfl, rfl, rfl, h0, h1⟩ := trodAll_two hA
  obtain ⟨rfl, rfl⟩ := trodVars_none hV
  have hw0 : ∀ q, q ∈ d0.weights Try.prog 22 → q ≤ reachBytes := by
    intro q hq
    have := List.all_eq_true.1 hwt1 q (by
      show q ∈ DataW.weightsEach Try.prog (22 :: _) (d0 :: _)
      unfold DataW.weightsEach
      exact List.mem_append_left _ hq)
    simpa using this
  obtain ⟨a0, len, cap, rfl⟩ := okWide_slice Try.underlying22 (hval 0 22 v0 rfl rfl)
  have h1k := h1
  obtain ⟨n1, rfl, rfl, rfl, w1⟩ := open_int Try.underlying3 (hval 1 3 v1 rfl rfl) h1
  have h0k := h0
  obtain ⟨fuel, hf⟩ := h0
  clear hA0 hval0 hwt hwt1
  simp only [List.append_nil] at hW'
  have hlt0 : ∀ x ∈ p0, x.block < W.heap.size := fun x hx => by simpa using hW'.lt x (by simp [hx])
  have e1 : Rows.inboxOwnSpec.fn H ([d0, .lit (.int .i64 n1)] ++ []) = { results := [.lit (.bool true)], args := [d0, .lit (.int .i64 n1)] } := by simp [Rows.inboxOwnSpec]
  obtain ⟨a, c, kids, hcs, hin, hsw⟩ := open_row_sizedB termType (of_decide_eq_true (by kernel_rfl)) Try.underlying22 hf
  simp [Value.cells] at hcs
  obtain ⟨rfl, rfl, rfl⟩ := hcs
  obtain ⟨hs1, hs2⟩ := hsw hw0
  simp only [SmallW] at hs1
  refine (inboxOwn_of _ _ kids n1 W hin (fun t ht => smallWAll_get hs1.2 ht) (by omega)).mono ?_
  rintro e W' ⟨rfl, hb⟩
  refine ⟨_, rfl, _, _, _, [], p0, [], hW', ?_, ?_, ?_, hb.frame _, fun h => by cases h⟩
  · show DataW.TrodAll _ _ _ _ _ _ _ _ (Rows.inboxOwnSpec.fn H ([d0, .lit (.int .i64 n1)] ++ [])).results _
    rw [e1]; exact trodAll_mk1 (shut_bool Try.underlying4 true)
  · show DataW.TrodAll _ _ _ _ _ _ _ _ (Rows.inboxOwnSpec.fn H ([d0, .lit (.int .i64 n1)] ++ [])).args _
    rw [e1]
    have := trodAll_mk2 (Below.trod inboxOwn_laidOut (by kernel_rfl) (of_decide_eq_true (by kernel_rfl)) h0k hb hlt0) (Below.trod inboxOwn_laidOut (by kernel_rfl) (of_decide_eq_true (by kernel_rfl)) h1k hb (fun x hx => by simp at hx))
    rw [List.append_nil] at this
    exact this
  · show DataW.TrodVars enc Try.prog W' _ _ (Rows.inboxOwnSpec.fn H ([d0, .lit (.int .i64 n1)] ++ [])).vars []
    rw [e1]; rfl

theorem inboxOwn_holds : Rows.InboxOwnSaid :=
  OpenClaim.holds_of_wide 4 Try.f4 rfl rfl rfl rfl rfl rfl rfl ⟨rfl, rfl, rfl, rfl, rfl⟩ rfl rfl rfl rfl rfl (by kernel_rfl) Try.func4 (by kernel_rfl)
    (of_decide_eq_true (by kernel_rfl)) (by unfold Func.isWrapper; rw [if_neg (of_decide_eq_false (by kernel_rfl))]; exact ⟨rfl, rfl⟩)
    (fun os started H enc _ => inboxOwn_lifted os started H enc)
#print axioms inboxOwn_holds
end Go.Proofs.Ytggpbfmdhenjdaa


