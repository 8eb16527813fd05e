/- Whatever row of acts it is given, MonsPlays (promises P1501 to P1503) returns true, and its argument reads as before; what it holds is of bulk at most 1048576. -/
import Derived.Test.YtmnglaeaicicnaaLMP
import Derived.Test.YtmnglaeaicicnaaOpN
import Derived.JoinedCond
import Derived.ProofKit
import Derived.OpenShut
namespace Go.Proofs.Ytmnglaeaicicnaa
open Go.ChangeShapes Go.WideShapes Go.ChangeAt Go.WideMaps Go.WideElems Go.RowKit

theorem monsPlays_own : ownKnob Try.prog.godebug = none := by kernel_rfl
theorem monsPlays_laidOut : laidOutB Try.prog = true := by kernel_rfl

set_option maxRecDepth 100000 in
theorem monsPlays_lifted (os : Os) (started : os.Started) (H : Type) (enc : TypeId × Value → H) (F : Stop.Interp) :
    ReturnsInHanded {} Try.checked os 3 .any ((Rows.OpenSpec.upto Rows.monsPlaysSpec).pre6 enc Try.prog Try.f3 Rows.monsPlaysUptoRow.domain false) (((Rows.OpenSpec.upto Rows.monsPlaysSpec).at F).post enc Try.prog Try.f3 false true false false) := by
  refine returnsInHanded_of_cond (C := Try.checked) (s := Rows.OpenSpec.upto Rows.monsPlaysSpec) (k := Rows.uptoSmall) rfl monsPlays_own started (by kernel_rfl) Try.func3
    (OpenSpec.witness (enc := enc) (C := Try.checked) (s := Rows.OpenSpec.upto Rows.monsPlaysSpec) (k := Rows.uptoSmall) rfl false ⟨#[], #[.slice none 0 0], []⟩ 8 (by kernel_rfl) (by kernel_rfl) (by kernel_rfl)
      (x := ([.nil], [], [])) (by kernel_rfl) rfl (by kernel_rfl)) ?_
  intro W base args ds gs before hval0 hW _ hk _
  have hval : ∀ (j : Nat) t v, Try.f3.params[j]? = some t → args[j]? = some v → Value.okWide Try.prog W .any base t v := hval0
  have hW' := hW
  obtain ⟨p, q, hA0, hV, rfl, _, _⟩ := hW
  have hA : DataW.TrodAll enc Try.prog W 0 (fun _ => true) true Try.f3.params.toList args.toList ds p := hA0
  rw [Try.params3] at hA hval
  obtain ⟨v0, d0, rfl, rfl, h0⟩ := trodAll_one hA
  obtain ⟨rfl, rfl⟩ := trodVars_none hV
  obtain ⟨a0, len, cap, rfl⟩ := okWide_slice Try.underlying22 (hval 0 22 v0 rfl rfl)
  have h0k := h0
  obtain ⟨fuel, hf⟩ := h0
  clear hA0 hval0
  simp only [List.append_nil] at hW' hk
  have hbulk : Rows.uptoBulkAll [d0] ≤ 1048576 := of_decide_eq_true hk
  simp only [Rows.uptoBulkAll] at hbulk
  have hlt0 : ∀ x ∈ p, x.block < W.heap.size := fun x hx => by simpa using hW'.lt x (by simp [hx])
  have e1 : Rows.monsPlaysSpec.fn H ([d0] ++ []) = { results := [.lit (.bool true)], args := [d0] } := by simp [Rows.monsPlaysSpec]
  obtain ⟨a, c, l, hcs, hin, hsw⟩ := open_arow hf
  simp [Value.cells] at hcs
  obtain ⟨rfl, rfl, rfl⟩ := hcs
  have hsw' : ∀ t ∈ l, t.nm.size ≤ Rows.uptoBulk d0 := hsw
  refine (monsPlays_walk _ l W hin (fun t ht => by have := hsw' t ht; omega)).mono ?_
  rintro e W' ⟨rfl, hb⟩
  refine ⟨_, rfl, _, _, _, [], p, [], hW', ?_, ?_, ?_, hb.frame _, fun h => by cases h⟩
  · show DataW.TrodAll _ _ _ _ _ _ _ _ (Rows.monsPlaysSpec.fn H ([d0] ++ [])).results _
    rw [e1]; exact trodAll_mk1 (shut_bool Try.underlying4 true)
  · show DataW.TrodAll _ _ _ _ _ _ _ _ (Rows.monsPlaysSpec.fn H ([d0] ++ [])).args _
    rw [e1]
    exact trodAll_mk1 (Below.trod monsPlays_laidOut (by kernel_rfl) (of_decide_eq_true (by kernel_rfl)) h0k hb hlt0)
  · show DataW.TrodVars enc Try.prog W' _ _ (Rows.monsPlaysSpec.fn H ([d0] ++ [])).vars []
    rw [e1]; rfl

theorem monsPlays_upto : Rows.MonsPlaysUptoSaid :=
  OpenClaim.holds_of_cond 3 Try.f3 rfl rfl rfl rfl rfl rfl rfl ⟨rfl, rfl, rfl, rfl, rfl⟩ rfl rfl rfl rfl rfl (by kernel_rfl) Try.func3 (by kernel_rfl)
    (of_decide_eq_true (by kernel_rfl)) (by unfold Func.isWrapper; rw [if_neg (of_decide_eq_false (by kernel_rfl))]; exact ⟨rfl, rfl⟩)
    (fun os started H enc _ F => monsPlays_lifted os started H enc F)
#print axioms monsPlays_upto
end Go.Proofs.Ytmnglaeaicicnaa
