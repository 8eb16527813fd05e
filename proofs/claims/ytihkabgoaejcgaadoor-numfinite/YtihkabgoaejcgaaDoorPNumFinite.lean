/- Whatever two times 64 bits and two int64s it is given, NumFinite (promise P108) returns true, and its arguments read as before; under the row's own conditions: the three listed tables of Go's library hold what the program's text lays in them (the card ties that to the text of the pruned copy of the project). -/
import Derived.Test.YtihkabgoaejcgaaDoorLNumFinite
import Derived.Test.YtihkabgoaejcgaaDoorLaid
import Derived.Test.YtihkabgoaejcgaaDoorTie
import Derived.Test.YtihkabgoaejcgaaDoorCards
import Derived.SevenTiedAt
namespace Go.Proofs.YtihkabgoaejcgaaDoor
open Go.ChangeShapes Go.WideShapes Go.ChangeAt Go.WideMaps Go.WideElems Go.RowKit

set_option maxRecDepth 100000 in
theorem numFinite_lifted (os : Os) (started : os.Started) (H : Type) (enc : TypeId × Value → H) :
    ReturnsInHanded {} Tryd.checked os 8 .any (fun w args => (Rows.numFiniteSpec.pre enc Tryd.prog Tryd.f8 [] false w args ∧ laidMetH Tryd.prog laid3 w) ∧ sizedMet enc Tryd.prog Tryd.f8 (OpenSpec.ofChange Rows.numFiniteSpec) false w args)
      (Rows.numFiniteSpec.post enc Tryd.prog Tryd.f8 false true false false) := by
  refine returnsInHanded_of_change_and (C := Tryd.checked) (X := fun w _ => laidMetH Tryd.prog laid3 w) (fun _ _ _ hh h => h.of_heap hh) own started (by kernel_rfl) Tryd.func8
    (ChangeSpec.witness_shaped (enc := enc) (C := Tryd.checked) (os := os) (X := fun w _ => laidMetH Tryd.prog laid3 w) false (World.doorLaid Tryd.prog 400 os) #[.int .u64 0, .int .u64 0, .int .i64 0, .int .i64 0] 8 rfl (World.shaped_of_RefB (by kernel_rfl) (by kernel_rfl)) (by kernel_rfl) (by kernel_rfl) (by kernel_rfl) (door_met os _)) ?_
  intro W base args ds gs before hval0 hW _ _ hL _
  have hval : ∀ (j : Nat) t v, Tryd.f8.params[j]? = some t → args[j]? = some v → Value.okWide Tryd.prog W .any base t v := hval0
  have hW' := hW
  obtain ⟨p, q, hA0, hV, rfl, hfz, hnd⟩ := hW
  have hA : DataW.TrodAll enc Tryd.prog W 0 (fun _ => true) true Tryd.f8.params.toList args.toList ds p := hA0
  rw [Tryd.params8] at hA hval
  obtain ⟨v0, v1, v2, v3, d0, d1, d2, d3, p0, p1, p2, p3, rfl, rfl, rfl, h0, h1, h2, h3⟩ := trodAll_four hA
  obtain ⟨rfl, rfl⟩ := trodVars_none hV
  obtain ⟨x0, rfl, rfl, rfl, wf0⟩ := open_int Tryd.underlying22 (hval 0 22 v0 rfl rfl) h0
  obtain ⟨x1, rfl, rfl, rfl, wf1⟩ := open_int Tryd.underlying22 (hval 1 22 v1 rfl rfl) h1
  obtain ⟨x2, rfl, rfl, rfl, wf2⟩ := open_int Tryd.underlying2 (hval 2 2 v2 rfl rfl) h2
  obtain ⟨x3, rfl, rfl, rfl, wf3⟩ := open_int Tryd.underlying2 (hval 3 2 v3 rfl rfl) h3
  have ht := cell64 hL
  clear hA0 hval0
  have bd0 : 0 ≤ x0 ∧ x0 ≤ 18446744073709551615 := bounds_u64 wf0
  obtain ⟨n0, rfl⟩ := Int.eq_ofNat_of_zero_le bd0.1
  have bd1 : 0 ≤ x1 ∧ x1 ≤ 18446744073709551615 := bounds_u64 wf1
  obtain ⟨n1, rfl⟩ := Int.eq_ofNat_of_zero_le bd1.1
  have bd2 := bounds_i64 wf2
  have bd3 := bounds_i64 wf3
  have e1 : Rows.numFiniteSpec.fn H ([.lit (.int .u64 n0), .lit (.int .u64 n1), .lit (.int .i64 x2), .lit (.int .i64 x3)] ++ []) = { results := [.lit (.bool true)], args := [.lit (.int .u64 n0), .lit (.int .u64 n1), .lit (.int .i64 x2), .lit (.int .i64 x3)] } := by simp [Rows.numFiniteSpec]
  refine (numFinite_any n0 n1 (by omega) (by omega) x2 x3 W ht).mono fun e W' ⟨he, hb⟩ => ?_
  subst he
  refine ⟨_, rfl, _, _, _, [], [], [], hW', ?_, ?_, ?_, hb.frame _, fun h => by cases h⟩
  · rw [e1]; exact trodAll_mk1 (shut_bool Tryd.underlying4 true)
  · rw [e1]; exact trodAll_mk4 (shut_int Tryd.underlying22 wf0) (shut_int Tryd.underlying22 wf1) (shut_int Tryd.underlying2 wf2) (shut_int Tryd.underlying2 wf3)
  · rw [e1]; rfl

theorem numFinite_holds : Rows.NumFiniteSaid :=
  OpenClaim.holds_of_wide 8 Tryd.f8 rfl rfl rfl rfl rfl rfl rfl ⟨rfl, rfl, rfl, rfl, rfl⟩ rfl rfl rfl rfl rfl (by kernel_rfl) Tryd.func8 (by kernel_rfl)
    (of_decide_eq_true (by kernel_rfl)) (by unfold Func.isWrapper; rw [if_neg (of_decide_eq_false (by kernel_rfl))]; exact ⟨rfl, rfl⟩)
    (fun os started H enc _ => numFinite_lifted os started H enc)

theorem numFinite_card : Rows.NumFiniteCardSaid :=
  Claim7.holds_tied_plain_at .later [] [.data, .data, .data] true (true, "8275f0a80bae1f37d5d65b8fb6abcc0444f3f60bc8aec6da65ed8adf8e9b74a7") false
    numFinite_holds (fun _ h => by cases h) (by kernel_rfl) (fun _ h => by cases h) numFinite_row_tie rfl ⟨rfl, rfl⟩ (by kernel_rfl) rfl
    (fun f fn hf hfn => by
      obtain rfl : f = 8 := Option.some.inj ((show Tryd.prog.funcNamed "exitwave/exitwavelaw1.NumFinite" = some 8 by kernel_rfl).symm.trans hf) |>.symm
      obtain rfl : fn = Tryd.f8 := (Option.some.inj (Tryd.func8.symm.trans hfn)).symm
      exact ⟨by kernel_rfl, fun j t ht => by
        rw [Tryd.params8] at ht
        have hm : t ∈ [22, 22, 2, 2] := by simpa using Array.mem_of_getElem? ht
        have hall : ([22, 22, 2, 2].all fun u => !Tryd.prog.wantsStandIn u) = true := by kernel_rfl
        exact (show Tryd.prog.wantsStandIn t = false by simpa using List.all_eq_true.1 hall t hm)⟩)
    (by kernel_rfl)
#print axioms numFinite_card
end Go.Proofs.YtihkabgoaejcgaaDoor
