import Derived.Test.YtogahhbckfnllaaG46
import Derived.Test.YtogahhbckfnllaaIqF
import Derived.ChangeSlices
import Derived.ProofKit
import Derived.OpenShut
/- Whatever whole number and row of acts it is given, InboxPlays (stage 12) returns true, and its arguments read as before; no condition. -/
namespace Go.Proofs.Ytogahhbckfnllaa
open Go.ChangeShapes Go.WideShapes Go.ChangeAt Go.WideMaps Go.WideElems Go.RowKit

theorem inboxPlays_own : ownKnob Try.prog.godebug = none := by kernel_rfl
theorem inboxPlays_laidOut : laidOutB Try.prog = true := by kernel_rfl

set_option maxRecDepth 100000 in
theorem inboxPlays_lifted (os : Os) (started : os.Started) (H : Type) (enc : TypeId × Value → H) :
    ReturnsInHanded {} Try.checked os 3 .any (Rows.inboxPlaysSpec.pre6 enc Try.prog Try.f3 Rows.inboxPlaysRow.domain false) (Rows.inboxPlaysSpec.post enc Try.prog Try.f3 false true false false) := by
  refine returnsInHanded_of_change (C := Try.checked) inboxPlays_own started (by kernel_rfl) Try.func3
    (ChangeSpec.witness6 (enc := enc) (C := Try.checked) false ⟨#[], #[.int .i64 0, .slice none 0 0], []⟩ 8 (by kernel_rfl) (by kernel_rfl) (by kernel_rfl) (by kernel_rfl)) ?_
  intro W base args ds gs before hval0 hW _ _
  have hval : ∀ (j : Nat) t v, Try.f3.params[j]? = some t → args[j]? = some v → Value.okWide Try.prog W .any base t v := hval0
  have hW' := hW
  obtain ⟨p, q, hA0, hV, rfl, _, _⟩ := hW
  have hA : DataW.TrodAll enc Try.prog W 0 (fun _ => true) true Try.f3.params.toList args.toList ds p := hA0
  rw [Try.params3] at hA hval
  obtain ⟨v0, v1, d0, d1, p0, p1, rfl, rfl, rfl, h0, h1⟩ := trodAll_two hA
  obtain ⟨rfl, rfl⟩ := trodVars_none hV
  obtain ⟨a1, len, cap, rfl⟩ := okWide_slice Try.underlying22 (hval 1 22 v1 rfl rfl)
  have h0k := h0
  obtain ⟨n0, rfl, rfl, rfl, w0⟩ := open_int Try.underlying3 (hval 0 3 v0 rfl rfl) h0
  have h1k := h1
  obtain ⟨fuel, hf⟩ := h1
  clear hA0 hval0
  simp only [List.append_nil] at hW'
  have hlt1 : ∀ x ∈ p1, x.block < W.heap.size := fun x hx => by simpa using hW'.lt x (by simp [hx])
  have e1 : Rows.inboxPlaysSpec.fn H ([.lit (.int .i64 n0), d1] ++ []) = { results := [.lit (.bool true)], args := [.lit (.int .i64 n0), d1] } := by simp [Rows.inboxPlaysSpec]
  obtain ⟨q, c, l, hcs, har, hlen⟩ := open_tarow hf
  simp [Value.cells] at hcs
  obtain ⟨rfl, rfl, rfl⟩ := hcs
  refine (inboxPlays_of _ _ l n0 W har (by simpa [maxLen] using hlen)).mono ?_
  rintro e W' ⟨rfl, hb⟩
  refine ⟨_, rfl, _, _, _, [], [] ++ p1, [], hW', ?_, ?_, ?_, hb.frame _, fun h => by cases h⟩
  · show DataW.TrodAll _ _ _ _ _ _ _ _ (Rows.inboxPlaysSpec.fn H ([.lit (.int .i64 n0), d1] ++ [])).results _
    rw [e1]; exact trodAll_mk1 (shut_bool Try.underlying4 true)
  · show DataW.TrodAll _ _ _ _ _ _ _ _ (Rows.inboxPlaysSpec.fn H ([.lit (.int .i64 n0), d1] ++ [])).args _
    rw [e1]
    have := trodAll_mk2 (Below.trod inboxPlays_laidOut (by kernel_rfl) (of_decide_eq_true (by kernel_rfl)) h0k hb (fun x hx => by simp at hx)) (Below.trod inboxPlays_laidOut (by kernel_rfl) (of_decide_eq_true (by kernel_rfl)) h1k hb hlt1)
    exact this
  · show DataW.TrodVars enc Try.prog W' _ _ (Rows.inboxPlaysSpec.fn H ([.lit (.int .i64 n0), d1] ++ [])).vars []
    rw [e1]; rfl

theorem inboxPlays_holds : Rows.InboxPlaysSaid :=
  OpenClaim.holds_of_wide 3 Try.f3 rfl rfl rfl rfl rfl rfl rfl ⟨rfl, rfl, rfl, rfl, rfl⟩ rfl rfl rfl rfl rfl (by kernel_rfl) Try.func3 (by kernel_rfl)
    (of_decide_eq_true (by kernel_rfl)) (by unfold Func.isWrapper; rw [if_neg (of_decide_eq_false (by kernel_rfl))]; exact ⟨rfl, rfl⟩)
    (fun os started H enc _ => inboxPlays_lifted os started H enc)
#print axioms inboxPlays_holds
end Go.Proofs.Ytogahhbckfnllaa


