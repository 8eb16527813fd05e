import Derived.Test.YtkebkobdkdbliaaG36
import Derived.JoinedCond
import Derived.ProofKit
import Derived.OpenShut
/- Whatever row of terms and whole number it is given, InboxOwn (promises P2, P7) returns true, and its arguments read as before; what they hold together is of bulk at most 1048576. -/
namespace Go.Proofs.Ytkebkobdkdbliaa
open Go.ChangeShapes Go.WideShapes Go.ChangeAt Go.WideMaps Go.WideElems Go.RowKit

theorem inboxOwn_own : ownKnob Try.prog.godebug = none := by kernel_rfl
theorem inboxOwn_laidOut : laidOutB Try.prog = true := by kernel_rfl

set_option maxRecDepth 100000 in
theorem inboxOwn_lifted (os : Os) (started : os.Started) (H : Type) (enc : TypeId × Value → H) (F : Stop.Interp) :
    ReturnsInHanded {} Try.checked os 5 .any ((Rows.OpenSpec.upto Rows.inboxOwnSpec).pre6 enc Try.prog Try.f5 Rows.inboxOwnUptoRow.domain false) (((Rows.OpenSpec.upto Rows.inboxOwnSpec).at F).post enc Try.prog Try.f5 false true false false) := by
  refine returnsInHanded_of_cond (C := Try.checked) (s := Rows.OpenSpec.upto Rows.inboxOwnSpec) (k := Rows.uptoSmall) rfl inboxOwn_own started (by kernel_rfl) Try.func5
    (OpenSpec.witness (enc := enc) (C := Try.checked) (s := Rows.OpenSpec.upto Rows.inboxOwnSpec) (k := Rows.uptoSmall) rfl false ⟨#[], #[.slice none 0 0, .int .i64 0], []⟩ 8 (by kernel_rfl) (by kernel_rfl) (by kernel_rfl)
      (x := ([.nil, .lit (.int .i64 0)], [], [])) (by kernel_rfl) rfl (by kernel_rfl)) ?_
  intro W base args ds gs before hval0 hW _ hk _
  have hval : ∀ (j : Nat) t v, Try.f5.params[j]? = some t → args[j]? = some v → Value.okWide Try.prog W .any base t v := hval0
  have hW' := hW
  obtain ⟨p, q, hA0, hV, rfl, _, _⟩ := hW
  have hA : DataW.TrodAll enc Try.prog W 0 (fun _ => true) true Try.f5.params.toList args.toList ds p := hA0
  rw [Try.params5] at hA hval
  obtain ⟨v0, v1, d0, d1, p0, p1, rfl, rfl, rfl, h0, h1⟩ := trodAll_two hA
  obtain ⟨rfl, rfl⟩ := trodVars_none hV
  obtain ⟨a0, len, cap, rfl⟩ := okWide_slice Try.underlying34 (hval 0 34 v0 rfl rfl)
  have h1k := h1
  obtain ⟨n1, rfl, rfl, rfl, w1⟩ := open_int Try.underlying3 (hval 1 3 v1 rfl rfl) h1
  have h0k := h0
  obtain ⟨fuel, hf⟩ := h0
  clear hA0 hval0
  simp only [List.append_nil] at hW' hk
  have hbulk : Rows.uptoBulkAll [d0, .lit (.int .i64 n1)] ≤ 1048576 := of_decide_eq_true hk
  simp only [Rows.uptoBulkAll, Rows.uptoBulk] at hbulk
  have hlt0 : ∀ x ∈ p0, x.block < W.heap.size := fun x hx => by simpa using hW'.lt x (by simp [hx])
  have e1 : Rows.inboxOwnSpec.fn H ([d0, .lit (.int .i64 n1)] ++ []) = { results := [.lit (.bool true)], args := [d0, .lit (.int .i64 n1)] } := by simp [Rows.inboxOwnSpec]
  obtain ⟨a, c, kids, hcs, hin, hlen, hsw⟩ := open_row_bulk termType Try.underlying34 hf
  simp [Value.cells] at hcs
  obtain ⟨rfl, rfl, rfl⟩ := hcs
  have hlen' : kids.length ≤ Rows.uptoBulk d0 := hlen
  have hsw' : Rows.uptoBulk d0 ≤ 140737488355328 → ∀ t, t ∈ kids → SmallW t := hsw
  refine (inboxOwn_of _ _ kids n1 W hin (hsw' (by omega)) (by omega)).mono ?_
  rintro e W' ⟨rfl, hb⟩
  refine ⟨_, rfl, _, _, _, [], p0, [], hW', ?_, ?_, ?_, hb.frame _, fun h => by cases h⟩
  · show DataW.TrodAll _ _ _ _ _ _ _ _ (Rows.inboxOwnSpec.fn H ([d0, .lit (.int .i64 n1)] ++ [])).results _
    rw [e1]; exact trodAll_mk1 (shut_bool Try.underlying4 true)
  · show DataW.TrodAll _ _ _ _ _ _ _ _ (Rows.inboxOwnSpec.fn H ([d0, .lit (.int .i64 n1)] ++ [])).args _
    rw [e1]
    have := trodAll_mk2 (Below.trod inboxOwn_laidOut (by kernel_rfl) (of_decide_eq_true (by kernel_rfl)) h0k hb hlt0) (Below.trod inboxOwn_laidOut (by kernel_rfl) (of_decide_eq_true (by kernel_rfl)) h1k hb (fun x hx => by simp at hx))
    rw [List.append_nil] at this
    exact this
  · show DataW.TrodVars enc Try.prog W' _ _ (Rows.inboxOwnSpec.fn H ([d0, .lit (.int .i64 n1)] ++ [])).vars []
    rw [e1]; rfl

theorem inboxOwn_upto : Rows.InboxOwnUptoSaid :=
  OpenClaim.holds_of_cond 5 Try.f5 rfl rfl rfl rfl rfl rfl rfl ⟨rfl, rfl, rfl, rfl, rfl⟩ rfl rfl rfl rfl rfl (by kernel_rfl) Try.func5 (by kernel_rfl)
    (of_decide_eq_true (by kernel_rfl)) (by unfold Func.isWrapper; rw [if_neg (of_decide_eq_false (by kernel_rfl))]; exact ⟨rfl, rfl⟩)
    (fun os started H enc _ F => inboxOwn_lifted os started H enc F)
#print axioms inboxOwn_upto
end Go.Proofs.Ytkebkobdkdbliaa


