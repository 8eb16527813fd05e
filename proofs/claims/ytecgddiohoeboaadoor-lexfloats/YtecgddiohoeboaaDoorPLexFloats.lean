/- Whatever numbers it is given, LexFloats (promise P501) returns true: the sign # and the sixteen digits of a float's bits are told as that float, if it is finite, and else refused at 0; digits with a point are told as the one division of the whole number that they make by the power of ten; its arguments read as before; under the row's own condition: the six listed tables hold what the text of the program and of Go's library lays in them (the card ties that to the text). -/
import Derived.Test.YtecgddiohoeboaaDoorLzC
import Derived.Test.YtecgddiohoeboaaDoorLxL
import Derived.Test.YtecgddiohoeboaaDoorTie
import Derived.Test.YtecgddiohoeboaaDoorCards
import Derived.SevenTiedAt
import Derived.ChangeMaps5
namespace Go.Proofs.YtecgddiohoeboaaDoor
open Go.ChangeShapes Go.WideShapes Go.ChangeAt Go.WideMaps Go.WideElems Go.RowKit Go.ChangeMaps

set_option maxRecDepth 1000000 in
theorem lexFloats_lifted (os : Os) (started : os.Started) (H : Type) (enc : TypeId × Value → H) :
    ReturnsInHanded {} Tryd.checked os 7 .any (fun w args => (Rows.lexFloatsSpec.pre enc Tryd.prog Tryd.f7 [] false w args ∧ laidMetH Tryd.prog laid6 w) ∧ sizedMet enc Tryd.prog Tryd.f7 (OpenSpec.ofChange Rows.lexFloatsSpec) false w args)
      (Rows.lexFloatsSpec.post enc Tryd.prog Tryd.f7 false true false false) := by
  refine returnsInHanded_of_change_and (C := Tryd.checked) (X := fun w _ => laidMetH Tryd.prog laid6 w) (fun _ _ _ hh h => h.of_heap hh) own started (by kernel_rfl) Tryd.func7
    (ChangeSpec.witness_shaped (enc := enc) (C := Tryd.checked) (os := os) (X := fun w _ => laidMetH Tryd.prog laid6 w) false (doorW os) #[.int .u64 0, .int .u64 0, .int .i64 0] 8 rfl (World.shaped_of_RefB (by kernel_rfl) (by kernel_rfl)) (by kernel_rfl) (by kernel_rfl) (by kernel_rfl) (door_met os _)) ?_
  intro W base args ds gs before hval0 hW _ _ hL _
  have hval : ∀ (j : Nat) t v, Tryd.f7.params[j]? = some t → args[j]? = some v → Value.okWide Tryd.prog W .any base t v := hval0
  have hW' := hW
  obtain ⟨p, q, hA0, hV, rfl, hfz, hnd⟩ := hW
  have hA : DataW.TrodAll enc Tryd.prog W 0 (fun _ => true) true Tryd.f7.params.toList args.toList ds p := hA0
  rw [Tryd.params7] at hA hval
  obtain ⟨v0, v1, v2, d0, d1, d2, p0, p1, p2, rfl, rfl, rfl, h0, h1, h2⟩ := trodAll_three hA
  obtain ⟨rfl, rfl⟩ := trodVars_none hV
  obtain ⟨x0, rfl, rfl, rfl, wf0⟩ := open_int Tryd.underlying37 (hval 0 37 v0 rfl rfl) h0
  have bd0 : 0 ≤ x0 ∧ x0 ≤ 18446744073709551615 := bounds_u64 wf0
  obtain ⟨x1, rfl, rfl, rfl, wf1⟩ := open_int Tryd.underlying37 (hval 1 37 v1 rfl rfl) h1
  have bd1 : 0 ≤ x1 ∧ x1 ≤ 18446744073709551615 := bounds_u64 wf1
  obtain ⟨x2, rfl, rfl, rfl, wf2⟩ := open_int Tryd.underlying3 (hval 2 3 v2 rfl rfl) h2
  have bd2 := bounds_i64 wf2
  have ht := lexTab hL
  clear hA0 hval0
  have e1 : Rows.lexFloatsSpec.fn H ([.lit (.int .u64 x0), .lit (.int .u64 x1), .lit (.int .i64 x2)] ++ []) = { results := [.lit (.bool true)], args := [.lit (.int .u64 x0), .lit (.int .u64 x1), .lit (.int .i64 x2)] } := by simp [Rows.lexFloatsSpec]
  refine (LexFloats_walk x0 x1 x2 x0.toNat (hidb (by omega)) (by omega) (by omega) W ht).mono fun e W' ⟨he, hb⟩ => ?_
  subst he
  refine ⟨_, rfl, _, _, _, [], [], [], hW', ?_, ?_, ?_, hb.frame _, fun h => by cases h⟩
  · rw [e1]; exact trodAll_mk1 (shut_bool Tryd.underlying4 true)
  · rw [e1]; exact trodAll_mk3 (shut_int Tryd.underlying37 wf0) (shut_int Tryd.underlying37 wf1) (shut_int Tryd.underlying3 wf2)
  · rw [e1]; rfl

theorem lexFloats_holds : Rows.LexFloatsSaid :=
  OpenClaim.holds_of_wide 7 Tryd.f7 rfl rfl rfl rfl rfl rfl rfl ⟨rfl, rfl, rfl, rfl, rfl⟩ rfl rfl rfl rfl rfl (by kernel_rfl) Tryd.func7 (by kernel_rfl)
    (of_decide_eq_true (by kernel_rfl)) (by unfold Func.isWrapper; rw [if_neg (of_decide_eq_false (by kernel_rfl))]; exact ⟨rfl, rfl⟩)
    (fun os started H enc _ => lexFloats_lifted os started H enc)

theorem lexFloats_card : Rows.LexFloatsCardSaid :=
  Claim7.holds_tied_plain_at .later [] [.data, .data, .data, .data, .data, .pinned] true (true, "f163c50bf504f3a4215a70944773d79dc79769d051773f70525d0651fa133124") false
    lexFloats_holds (fun _ h => by cases h) (by kernel_rfl) (fun _ h => by cases h) lexFloats_row_tie rfl ⟨rfl, rfl⟩ (by kernel_rfl) rfl
    (fun f fn hf hfn => by
      obtain rfl : f = 7 := Option.some.inj ((show Tryd.prog.funcNamed "exitwave/exitwavelaw5.LexFloats" = some 7 by kernel_rfl).symm.trans hf) |>.symm
      obtain rfl : fn = Tryd.f7 := (Option.some.inj (Tryd.func7.symm.trans hfn)).symm
      exact ⟨by kernel_rfl, fun j t ht => by
        rw [Tryd.params7] at ht
        have hm : t ∈ [37, 37, 3] := by simpa using Array.mem_of_getElem? ht
        have hall : ([37, 37, 3].all fun u => !Tryd.prog.wantsStandIn u) = true := by kernel_rfl
        exact (show Tryd.prog.wantsStandIn t = false by simpa using List.all_eq_true.1 hall t hm)⟩)
    (by kernel_rfl)
#print axioms lexFloats_card
end Go.Proofs.YtecgddiohoeboaaDoor
