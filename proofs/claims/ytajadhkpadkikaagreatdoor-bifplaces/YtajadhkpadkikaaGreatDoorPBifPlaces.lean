import Derived.Test.YtajadhkpadkikaaGreatDoorG43
import Derived.Test.YtajadhkpadkikaaGreatDoorG44
import Derived.Test.YtajadhkpadkikaaGreatDoorLb9
import Derived.Test.YtajadhkpadkikaaGreatDoorTie
import Derived.Test.YtajadhkpadkikaaGreatDoorCards
import Derived.SevenTiedAt
import Derived.ChangeMaps5
import Derived.Carry
/- Whatever row of terms, place and term it is given, BifPlaces (promises P902, P903: what setelement sets in a place is there and all others are as they were; places are from 1 to how many there are) returns true, and its arguments read as before; under the row's own condition: the seven listed variables hold what the text of Go's library lays in them (the card ties that to the text). -/
namespace Go.Proofs.YtajadhkpadkikaaGreatDoor
open Go.ChangeShapes Go.WideShapes Go.ChangeAt Go.WideMaps Go.WideElems Go.RowKit Go.ChangeMaps

set_option maxRecDepth 1000000 in
theorem bifPlaces_lifted (os : Os) (started : os.Started) (H : Type) (enc : TypeId × Value → H) :
    ReturnsInHanded {} Tryz.checked os 6 .any (fun w args => (Rows.bifPlacesSpec.pre enc Tryz.prog Tryz.f6 [] false w args ∧ laidMetH Tryz.prog laid7 w) ∧ sizedMet enc Tryz.prog Tryz.f6 (OpenSpec.ofChange Rows.bifPlacesSpec) false w args)
      (Rows.bifPlacesSpec.post enc Tryz.prog Tryz.f6 false true false false) := by
  refine returnsInHanded_of_change_and (C := Tryz.checked) (X := fun w _ => laidMetH Tryz.prog laid7 w) (fun _ _ _ hh h => h.of_heap hh) own9 started (by kernel_rfl) Tryz.func6
    (ChangeSpec.witness_shaped (enc := enc) (C := Tryz.checked) (os := os) (X := fun w _ => laidMetH Tryz.prog laid7 w) false (doorW os) #[.slice none 0 0, .int .i64 0, .agg #[.int .i64 (0), .int .i64 (0), .float .f64 (0), .string ⟨#[]⟩, .slice none 0 0]] 8 rfl (World.shaped_of_RefB (by kernel_rfl) (by kernel_rfl)) (by kernel_rfl) (by kernel_rfl) (by kernel_rfl) (door_met os _)) ?_
  intro W base args ds gs before hval0 hW _ hwt _ _
  have hval : ∀ (j : Nat) t v, Tryz.f6.params[j]? = some t → args[j]? = some v → Value.okWide Tryz.prog W .any base t v := hval0
  have hW' := hW
  obtain ⟨p, q, hA0, hV, rfl, hfz, hnd⟩ := hW
  have hA : DataW.TrodAll enc Tryz.prog W 0 (fun _ => true) true Tryz.f6.params.toList args.toList ds p := hA0
  have hwt1 : (DataW.weightsEach Tryz.prog (Tryz.f6.params.toList ++ Rows.bifPlacesSpec.plain.varTypes Tryz.prog) (ds ++ gs)).all (· ≤ reachBytes) = true := hwt
  rw [Tryz.params6] at hA hval hwt1
  obtain ⟨v0, v1, v2, d0, d1, d2, p0, p1, p2, rfl, rfl, rfl, h0, h1, h2⟩ := trodAll_three hA
  obtain ⟨rfl, rfl⟩ := trodVars_none hV
  obtain ⟨a0, len, cap, rfl⟩ := okWide_slice Tryz.underlying23 (hval 0 23 v0 rfl rfl)
  have hw0 : ∀ q, q ∈ d0.weights Tryz.prog 23 → q ≤ reachBytes := by
    intro q hq
    have := List.all_eq_true.1 hwt1 q (by
      show q ∈ DataW.weightsEach Tryz.prog (23 :: 3 :: 25 :: _) (d0 :: d1 :: d2 :: _)
      unfold DataW.weightsEach
      exact List.mem_append_left _ hq)
    simpa using this
  have hw2 : ∀ q, q ∈ d2.weights Tryz.prog 25 → q ≤ reachBytes := by
    intro q hq
    have := List.all_eq_true.1 hwt1 q (by
      show q ∈ DataW.weightsEach Tryz.prog (23 :: 3 :: 25 :: _) (d0 :: d1 :: d2 :: _)
      unfold DataW.weightsEach
      refine List.mem_append_right _ ?_
      unfold DataW.weightsEach
      refine List.mem_append_right _ ?_
      unfold DataW.weightsEach
      exact List.mem_append_left _ hq)
    simpa using this
  have h1k := h1
  obtain ⟨n, rfl, rfl, rfl, wn⟩ := open_int Tryz.underlying3 (hval 1 3 v1 rfl rfl) h1
  obtain ⟨⟨k', n', f', s', a', c', ks'⟩, hvt, hin', hsm'⟩ := open_val (hval 2 25 v2 rfl rfl) h2
  have h0k := h0
  obtain ⟨fuel, hf⟩ := h0
  clear hA0 hval0 hwt hwt1
  simp only [List.append_nil] at hW'
  have hlt0 : ∀ x ∈ p0, x.block < W.heap.size := fun x hx => by simpa using hW'.lt x (by simp [hx])
  have hlt2 : ∀ x ∈ p2, x.block < W.heap.size := fun x hx => by simpa using hW'.lt x (by simp [hx])
  have e1 : Rows.bifPlacesSpec.fn H ([d0, .lit (.int .i64 n), d2] ++ []) = { results := [.lit (.bool true)], args := [d0, .lit (.int .i64 n), d2] } := by simp [Rows.bifPlacesSpec]
  obtain ⟨a, c, ks, hcs, hin, hsm⟩ := open_row_sized termType (of_decide_eq_true (by kernel_rfl)) Tryz.underlying23 hf
  simp [Value.cells] at hcs
  obtain ⟨rfl, rfl, rfl⟩ := hcs
  have hcall : Calls Tryz.prog 6 #[.slice a0 ks.length cap, .int .i64 n, v2] W fun e w' => e = .returned (.bool true) ∧ Below W.heap.size W w' := by
    rw [hvt]
    exact BifPlaces_of a0 cap ks n k' n' f' s' a' c' ks' W hin hin' wn (hsm hw0) (hsm' hw2)
  refine hcall.mono fun e W' ⟨he, hb⟩ => ?_
  subst he
  refine ⟨_, rfl, _, _, _, [], p0 ++ ([] ++ p2), [], hW', ?_, ?_, ?_, ?_, fun h => by cases h⟩
  · show DataW.TrodAll _ _ _ _ _ _ _ _ (Rows.bifPlacesSpec.fn H ([d0, .lit (.int .i64 n), d2] ++ [])).results _
    rw [e1]; exact trodAll_mk1 (shut_bool Tryz.underlying4 true)
  · show DataW.TrodAll _ _ _ _ _ _ _ _ (Rows.bifPlacesSpec.fn H ([d0, .lit (.int .i64 n), d2] ++ [])).args _
    rw [e1]
    exact trodAll_mk3 (Below.trod laidOut (by kernel_rfl) (of_decide_eq_true (by kernel_rfl)) h0k hb hlt0) (Below.trod laidOut (by kernel_rfl) (of_decide_eq_true (by kernel_rfl)) h1k hb (fun x hx => by simp at hx)) (Below.trod laidOut (by kernel_rfl) (of_decide_eq_true (by kernel_rfl)) h2 hb hlt2)
  · show DataW.TrodVars enc Tryz.prog W' _ _ (Rows.bifPlacesSpec.fn H ([d0, .lit (.int .i64 n), d2] ++ [])).vars []
    rw [e1]; rfl
  · exact hb.frame _

theorem bifPlaces_holds : Rows.BifPlacesSaid :=
  OpenClaim.holds_of_wide 6 Tryz.f6 rfl rfl rfl rfl rfl rfl rfl ⟨rfl, rfl, rfl, rfl, rfl⟩ rfl rfl rfl rfl rfl (by kernel_rfl) Tryz.func6 (by kernel_rfl)
    (of_decide_eq_true (by kernel_rfl)) (by unfold Func.isWrapper; rw [if_neg (of_decide_eq_false (by kernel_rfl))]; exact ⟨rfl, rfl⟩)
    (fun os started H enc _ => bifPlaces_lifted os started H enc)

theorem bifPlaces_card : Rows.BifPlacesCardSaid :=
  Claim7.holds_tied_plain_at .later [] [.data, .data, .data, .data, .sentinel, .sentinel, .pinned] true (true, "4b8f7294637ab60476fa45ec9e8feb7ce5781e61803f8ed5c3d7a2a149a05cfa") true
    bifPlaces_holds (fun _ h => by cases h) (by kernel_rfl) (fun _ h => by cases h) bifPlaces_row_tie rfl ⟨rfl, rfl⟩ (by kernel_rfl) rfl
    (fun f fn hf hfn => by
      obtain rfl : f = 6 := Option.some.inj ((show Tryz.prog.funcNamed "exitwave/exitwavelaw9.BifPlaces" = some 6 by kernel_rfl).symm.trans hf) |>.symm
      obtain rfl : fn = Tryz.f6 := (Option.some.inj (Tryz.func6.symm.trans hfn)).symm
      exact ⟨by kernel_rfl, fun j t ht => by
        rw [Tryz.params6] at ht
        have hm : t ∈ [23, 3, 25] := by simpa using Array.mem_of_getElem? ht
        have hall : ([23, 3, 25].all fun u => !Tryz.prog.wantsStandIn u) = true := by kernel_rfl
        exact (show Tryz.prog.wantsStandIn t = false by simpa using List.all_eq_true.1 hall t hm)⟩)
    (by kernel_rfl)
#print axioms bifPlaces_card
end Go.Proofs.YtajadhkpadkikaaGreatDoor


