import Derived.Test.YtajadhkpadkikaaGreatDoorG44
import Derived.Test.YtajadhkpadkikaaGreatDoorLb9
import Derived.Test.YtajadhkpadkikaaGreatDoorTie
import Derived.Test.YtajadhkpadkikaaGreatDoorCards
import Derived.SevenTiedAt
import Derived.ChangeMaps5
import Derived.Carry
/- Whatever two terms it is given, BifOrders (promises P904, P903: of two right terms just one of below, equal, above is true; identical ones are equal; min and max are the two) returns true, and its arguments read as before; under the row's own condition: the seven listed variables hold what the text of Go's library lays in them (the card ties that to the text). -/
namespace Go.Proofs.YtajadhkpadkikaaGreatDoor
open Go.ChangeShapes Go.WideShapes Go.ChangeAt Go.WideMaps Go.WideElems Go.RowKit Go.ChangeMaps

set_option maxRecDepth 1000000 in
theorem bifOrders_lifted (os : Os) (started : os.Started) (H : Type) (enc : TypeId × Value → H) :
    ReturnsInHanded {} Tryz.checked os 4 .any (fun w args => (Rows.bifOrdersSpec.pre enc Tryz.prog Tryz.f4 [] false w args ∧ laidMetH Tryz.prog laid7 w) ∧ sizedMet enc Tryz.prog Tryz.f4 (OpenSpec.ofChange Rows.bifOrdersSpec) false w args)
      (Rows.bifOrdersSpec.post enc Tryz.prog Tryz.f4 false true false false) := by
  refine returnsInHanded_of_change_and (C := Tryz.checked) (X := fun w _ => laidMetH Tryz.prog laid7 w) (fun _ _ _ hh h => h.of_heap hh) own9 started (by kernel_rfl) Tryz.func4
    (ChangeSpec.witness_shaped (enc := enc) (C := Tryz.checked) (os := os) (X := fun w _ => laidMetH Tryz.prog laid7 w) false (doorW os) #[.agg #[.int .i64 (0), .int .i64 (0), .float .f64 (0), .string ⟨#[]⟩, .slice none 0 0], .agg #[.int .i64 (0), .int .i64 (0), .float .f64 (0), .string ⟨#[]⟩, .slice none 0 0]] 8 rfl (World.shaped_of_RefB (by kernel_rfl) (by kernel_rfl)) (by kernel_rfl) (by kernel_rfl) (by kernel_rfl) (door_met os _)) ?_
  intro W base args ds gs before hval0 hW _ hwt _ _
  have hval : ∀ (j : Nat) t v, Tryz.f4.params[j]? = some t → args[j]? = some v → Value.okWide Tryz.prog W .any base t v := hval0
  have hW' := hW
  obtain ⟨p, q, hA0, hV, rfl, hfz, hnd⟩ := hW
  have hA : DataW.TrodAll enc Tryz.prog W 0 (fun _ => true) true Tryz.f4.params.toList args.toList ds p := hA0
  have hwt1 : (DataW.weightsEach Tryz.prog (Tryz.f4.params.toList ++ Rows.bifOrdersSpec.plain.varTypes Tryz.prog) (ds ++ gs)).all (· ≤ reachBytes) = true := hwt
  rw [Tryz.params4] at hA hval hwt1
  obtain ⟨v0, v1, d0, d1, p0, p1, rfl, rfl, rfl, h0, h1⟩ := trodAll_two hA
  obtain ⟨rfl, rfl⟩ := trodVars_none hV
  have hw0 : ∀ q, q ∈ d0.weights Tryz.prog 25 → q ≤ reachBytes := by
    intro q hq
    have := List.all_eq_true.1 hwt1 q (by
      show q ∈ DataW.weightsEach Tryz.prog (25 :: 25 :: _) (d0 :: d1 :: _)
      unfold DataW.weightsEach
      exact List.mem_append_left _ hq)
    simpa using this
  have hw1 : ∀ q, q ∈ d1.weights Tryz.prog 25 → q ≤ reachBytes := by
    intro q hq
    have := List.all_eq_true.1 hwt1 q (by
      show q ∈ DataW.weightsEach Tryz.prog (25 :: 25 :: _) (d0 :: d1 :: _)
      unfold DataW.weightsEach
      refine List.mem_append_right _ ?_
      unfold DataW.weightsEach
      exact List.mem_append_left _ hq)
    simpa using this
  obtain ⟨t, hvt, hin, hsm⟩ := open_val (hval 0 25 v0 rfl rfl) h0
  obtain ⟨t', hvt', hin', hsm'⟩ := open_val (hval 1 25 v1 rfl rfl) h1
  clear hA0 hval0 hwt hwt1
  simp only [List.append_nil] at hW'
  have hlt0 : ∀ x ∈ p0, x.block < W.heap.size := fun x hx => by simpa using hW'.lt x (List.mem_append_left _ hx)
  have hlt1 : ∀ x ∈ p1, x.block < W.heap.size := fun x hx => by simpa using hW'.lt x (List.mem_append_right _ hx)
  have e1 : Rows.bifOrdersSpec.fn H ([d0, d1] ++ []) = { results := [.lit (.bool true)], args := [d0, d1] } := by simp [Rows.bifOrdersSpec]
  have hcall := BifOrders_walk t t' W hin hin' (hsm hw0) (hsm' hw1)
  rw [← hvt, ← hvt'] at hcall
  refine hcall.mono fun e W' ⟨he, hb⟩ => ?_
  subst he
  refine ⟨_, rfl, _, _, _, [], p0 ++ p1, [], hW', ?_, ?_, ?_, hb.frame _, fun h => by cases h⟩
  · rw [e1]; exact trodAll_mk1 (shut_bool Tryz.underlying4 true)
  · rw [e1]; exact trodAll_mk2 (Below.trod laidOut (by kernel_rfl) (of_decide_eq_true (by kernel_rfl)) h0 hb hlt0) (Below.trod laidOut (by kernel_rfl) (of_decide_eq_true (by kernel_rfl)) h1 hb hlt1)
  · rw [e1]; rfl

theorem bifOrders_holds : Rows.BifOrdersSaid :=
  OpenClaim.holds_of_wide 4 Tryz.f4 rfl rfl rfl rfl rfl rfl rfl ⟨rfl, rfl, rfl, rfl, rfl⟩ rfl rfl rfl rfl rfl (by kernel_rfl) Tryz.func4 (by kernel_rfl)
    (of_decide_eq_true (by kernel_rfl)) (by unfold Func.isWrapper; rw [if_neg (of_decide_eq_false (by kernel_rfl))]; exact ⟨rfl, rfl⟩)
    (fun os started H enc _ => bifOrders_lifted os started H enc)

theorem bifOrders_card : Rows.BifOrdersCardSaid :=
  Claim7.holds_tied_plain_at .later [] [.data, .data, .data, .data, .sentinel, .sentinel, .pinned] true (true, "4b8f7294637ab60476fa45ec9e8feb7ce5781e61803f8ed5c3d7a2a149a05cfa") true
    bifOrders_holds (fun _ h => by cases h) (by kernel_rfl) (fun _ h => by cases h) bifOrders_row_tie rfl ⟨rfl, rfl⟩ (by kernel_rfl) rfl
    (fun f fn hf hfn => by
      obtain rfl : f = 4 := Option.some.inj ((show Tryz.prog.funcNamed "exitwave/exitwavelaw9.BifOrders" = some 4 by kernel_rfl).symm.trans hf) |>.symm
      obtain rfl : fn = Tryz.f4 := (Option.some.inj (Tryz.func4.symm.trans hfn)).symm
      exact ⟨by kernel_rfl, fun j t ht => by
        rw [Tryz.params4] at ht
        have hm : t ∈ [25, 25] := by simpa using Array.mem_of_getElem? ht
        have hall : ([25, 25].all fun u => !Tryz.prog.wantsStandIn u) = true := by kernel_rfl
        exact (show Tryz.prog.wantsStandIn t = false by simpa using List.all_eq_true.1 hall t hm)⟩)
    (by kernel_rfl)
#print axioms bifOrders_card
end Go.Proofs.YtajadhkpadkikaaGreatDoor


