/- Sequences of keys: From, All. -/
import Derived.Test.YtodelafnboimnaaGreatHvA
namespace Go.Proofs.YtodelafnboimnaaGreat
open Go.RowKit Go.Shelf
namespace HV
attribute [local go_sem] Oper.semAt_some

theorem wpAny_round {F : Fence} {n : Nat} {P : Program} {md : Region.Mode} {ops : Array Oper} {Q : Exit → Act → World → Prop} (l : Nat) (hops : ∀ (i : Nat) (o : Oper), ops[i]? = some o → ∀ c, o.op ≠ .defer c) :
    ∀ (fuel : Nat) (listed : Array Bool) (a : Act) (w : World), wpAnyIn F n P md ops Q fuel listed a w → wpAnyIn (F.inRound l) n P md ops Q fuel listed a w := by
  intro fuel
  induction fuel with
  | zero => intro listed a w h; exact h
  | succ fuel ih =>
    intro listed a w h
    refine ⟨h.1, fun i hi => ?_⟩
    have h2 := wpOpIn_mono (fun a w => ih (listed.setIfInBounds i true) a w) (h.2 i hi)
    unfold wpOpIn at h2 ⊢
    cases ho : ops[i]? with
    | none => simpa only [ho] using h2
    | some o =>
      simp only [ho] at h2 ⊢
      by_cases hw : Region.wanted o (yielded ops a.tmps) = true
      · simp only [hw, if_true] at h2 ⊢
        unfold Oper.wpIn at h2 ⊢
        refine ⟨h2.1, ?_⟩
        have h3 := h2.2
        rw [Oper.semAt_plain F _ _ (hops i o ho)] at h3
        rw [Oper.semAt_plain (F.inRound l) _ _ (hops i o ho)]
        exact h3
      · simp only [hw] at h2 ⊢
        exact h2

theorem region_round {n : Nat} {P : Program} {id : Nat} {ops : Array Oper} {Q : Exit → Act → World → Prop} {a : Act} {w : World} (l : Nat) (hm : P.follows .mixedOrders = true) (hops : ops.all (fun o => match o.op with | .defer _ => false | _ => true) = true)
    (h : wpAnyIn Fence.wide n P .any ops Q ops.size (Array.replicate ops.size false) a w.drew) : (Code.region id ops true).wpIn (Fence.wide.inRound l) n P Q a w :=
  wpIn_region_any hm (wpAny_round l (fun i o ho c e => by
    have := (Array.all_eq_true_iff_forall_mem.1 hops) o (Array.mem_of_getElem? ho)
    rw [e] at this; cases this) _ _ _ _ h)

abbrev kenc (x : KV) : Array Value := #[.int .i64 x.1, .agg #[.int .i64 x.2.a, .int .i64 x.2.b, .int .i64 x.2.c]]

theorem OwnFrom.up {β : Type} {B B' : Nat} {I : β → World → Prop} (h : OwnFrom B I) (hb : B ≤ B') : OwnFrom B' I := fun s A C row hs hg hr => h s A C row hs hg (fun r e => ⟨Nat.le_trans hb (hr r e).1, (hr r e).2⟩)
theorem OwnFrom.map {α β : Type} {B : Nat} {I : β → World → Prop} (h : OwnFrom B I) (f : α → β) : OwnFrom B (fun s W => I (f s) W) := fun s A C row hs hg hr => h (f s) A C row hs hg hr

/-- What a deferred block that is taken leaves. -/
theorem OwnFrom.taken {β : Type} {B : Nat} {I : β → World → Prop} (h : OwnFrom B I) {s : β} {W W' : World} {D : Nat} (hs : I s W) (hb : But (fun k => k ∈ [D]) W W') (hD : B ≤ D) (hK : W.heap[D]? = some (.deferred (some []))) : I s W' :=
  h s W W' (some D) hs ⟨hb.os, hb.tape, hb.output, hb.size, fun k hk hn => hb.block k hk (fun e => hn (by simpa using e))⟩ (fun r e => by cases e; exact ⟨hD, _, hK, rfl⟩)

end HV
end Go.Proofs.YtodelafnboimnaaGreat
