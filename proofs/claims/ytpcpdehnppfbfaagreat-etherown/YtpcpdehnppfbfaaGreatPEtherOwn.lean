import Derived.Test.YtpcpdehnppfbfaaGreatOpW
import Derived.Test.YtpcpdehnppfbfaaGreatG08
import Derived.ProofKit
/- Whatever row of signals it is given, EtherOwn (promises P2, P7: what is handed in is not kept, what is told is the caller's own) returns true, and its argument reads as before; no condition. -/
namespace Go.Proofs.YtpcpdehnppfbfaaGreat
open Go.ChangeShapes Go.WideShapes Go.ChangeAt Go.WideMaps Go.WideElems Go.RowKit

theorem etherOwn_own : ownKnob Tryz.prog.godebug = none := by kernel_rfl
theorem etherOwn_laidOut : laidOutB Tryz.prog = true := by kernel_rfl
theorem known11_any (w : World) : Calls Tryz.prog 4 #[] w fun e w' => e = .returned (.bool true) ∧ Below w.heap.size w w' := known11_of popOk w

set_option maxRecDepth 100000 in
theorem etherOwn_lifted (os : Os) (started : os.Started) (H : Type) (enc : TypeId × Value → H) :
    ReturnsInHanded {} Tryz.checked os 3 .any (Rows.etherOwnSpec.pre6 enc Tryz.prog Tryz.f3 Rows.etherOwnRow.domain false) (Rows.etherOwnSpec.post enc Tryz.prog Tryz.f3 false true false false) := by
  have hpre : Rows.etherOwnSpec.pre6 enc Tryz.prog Tryz.f3 Rows.etherOwnRow.domain false = fun w args => (Rows.etherOwnSpec.pre enc Tryz.prog Tryz.f3 Rows.etherOwnRow.domain false w args ∧ True) ∧ sizedMet enc Tryz.prog Tryz.f3 (OpenSpec.ofChange Rows.etherOwnSpec) false w args := by
    funext w args
    simp only [ChangeSpec.pre6, and_true]
  rw [hpre]
  obtain ⟨w0, t0, i0, q1, q2, q3, q4, q5, q6⟩ := ChangeSpec.witness6 (enc := enc) (C := Tryz.checked) (s := Rows.etherOwnSpec) (os := os) (f := 3) (fn := Tryz.f3) (conds := Rows.etherOwnRow.domain) (apart := false) false ⟨#[], #[.slice none 0 0], []⟩ 8 (by kernel_rfl) (by kernel_rfl) (by kernel_rfl) (by kernel_rfl)
  refine returnsInHanded_of_change_and (C := Tryz.checked) (X := fun _ _ => True) (fun _ _ _ _ _ => trivial) etherOwn_own started (by kernel_rfl) Tryz.func3
    ⟨w0, t0, i0, q1, q2, q3, q4, ⟨⟨q5.1, trivial⟩, q5.2⟩, q6⟩ ?_
  intro W base args ds gs before hval0 hW _ hwt _ _
  have hval : ∀ (j : Nat) t v, Tryz.f3.params[j]? = some t → args[j]? = some v → Value.okWide Tryz.prog W .any base t v := hval0
  have hW' := hW
  obtain ⟨p, q, hA0, hV, rfl, _, _⟩ := hW
  have hA : DataW.TrodAll enc Tryz.prog W 0 (fun _ => true) true Tryz.f3.params.toList args.toList ds p := hA0
  have hwt1 : (DataW.weightsEach Tryz.prog (Tryz.f3.params.toList ++ Rows.etherOwnSpec.plain.varTypes Tryz.prog) (ds ++ gs)).all (· ≤ reachBytes) = true := hwt
  rw [Tryz.params3] at hA hval hwt1
  obtain ⟨v0, d0, rfl, rfl, h0⟩ := trodAll_one hA
  obtain ⟨rfl, rfl⟩ := trodVars_none hV
  have hw0 : Within Tryz.prog 22 d0 := by
    intro q hq
    have := List.all_eq_true.1 hwt1 q (by
      show q ∈ DataW.weightsEach Tryz.prog (22 :: _) (d0 :: _)
      unfold DataW.weightsEach
      exact List.mem_append_left _ hq)
    simpa using this
  obtain ⟨a0, len, cap, rfl⟩ := okWide_slice Tryz.underlying22 (hval 0 22 v0 rfl rfl)
  have h0k := h0
  obtain ⟨fuel, hf⟩ := h0
  clear hA0 hval0 hwt hwt1
  simp only [List.append_nil] at hW'
  have hlt0 : ∀ x ∈ p, x.block < W.heap.size := fun x hx => by simpa using hW'.lt x (by simp [hx])
  have e1 : Rows.etherOwnSpec.fn H ([d0] ++ []) = { results := [.lit (.bool true)], args := [d0] } := by simp [Rows.etherOwnSpec]
  obtain ⟨qa, qc, l, hcs, hrow, hgood, hfit⟩ := open_srow hf
  simp [Value.cells] at hcs
  obtain ⟨rfl, rfl, rfl⟩ := hcs
  refine (etherOwn_of known11_any _ _ l W hrow hgood (hfit hw0)).mono ?_
  rintro e W' ⟨rfl, hb⟩
  refine ⟨_, rfl, _, _, _, [], p, [], hW', ?_, ?_, ?_, hb.frame _, fun h => by cases h⟩
  · rw [e1]; exact trodAll_mk1 (shut_bool Tryz.underlying4 true)
  · rw [e1]; exact trodAll_mk1 (Below.trod etherOwn_laidOut (by kernel_rfl) (of_decide_eq_true (by kernel_rfl)) h0k hb hlt0)
  · rw [e1]; rfl

theorem etherOwn_holds : Rows.EtherOwnSaid :=
  OpenClaim.holds_of_wide 3 Tryz.f3 rfl rfl rfl rfl rfl rfl rfl ⟨rfl, rfl, rfl, rfl, rfl⟩ rfl rfl rfl rfl rfl (by kernel_rfl) Tryz.func3 (by kernel_rfl)
    (of_decide_eq_true (by kernel_rfl)) (by unfold Func.isWrapper; rw [if_neg (of_decide_eq_false (by kernel_rfl))]; exact ⟨rfl, rfl⟩)
    (fun os started H enc _ => etherOwn_lifted os started H enc)
#print axioms etherOwn_holds
end Go.Proofs.YtpcpdehnppfbfaaGreat


