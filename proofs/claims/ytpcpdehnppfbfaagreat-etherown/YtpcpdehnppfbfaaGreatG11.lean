import Derived.Test.YtpcpdehnppfbfaaGreatG06
import Derived.Test.YtpcpdehnppfbfaaGreatG10
import Derived.RangeFuncBox
import Derived.RangeFuncWrites
import Derived.RangeFuncLeaves
import Derived.RangeFuncSeq
import Derived.Sort.MapsRangeIn
import Derived.Shelf.Abstract
import Derived.WalkKit
import Derived.OwnWalkIn
import Derived.TacticsInMore
import Derived.LoopNIn
import Derived.LoopIn
import Derived.Maps.AppendAt
/- The keys of the lanes' map. -/
namespace Go.Proofs.YtpcpdehnppfbfaaGreat
open Go.RowKit Go.Lib Go.Maps
attribute [local go_sem] store_float f64bits
attribute [local go_sem ↓] Go.wp_at_zero Go.wp_at_succ

variable {w0 w : World} {eb all N : Nat} {mv : Value} {f : Int → Int → Option Lane}

set_option maxRecDepth 100000 in
theorem keyLits_int (m : Nat) (c : Value) (ls : List Lit) (h : Tryz.prog.keyLits (m + 1) 3 [c] = some ls) : ∃ a, c = .int .i64 a ∧ wfi a := by
  unfold Program.keyLits at h
  rw [Tryz.underlying3] at h
  cases c <;> simp at h
  obtain ⟨⟨rfl, hw⟩, _⟩ := h
  exact ⟨_, rfl, hw⟩

set_option maxRecDepth 100000 in
theorem keyK_inv0 {key : Value} {k : Lit} (h : keyOf Tryz.prog KT key = some k) : ∃ a b : Int, key = kv a b ∧ wfi a ∧ wfi b := by
  have hc : Tryz.prog.cellsOf KT = 2 := by kernel_rfl
  have hi : Tryz.prog.cellsOf IT = 1 := by kernel_rfl
  obtain ⟨m, hs⟩ : ∃ m, Tryz.prog.types.size + 1 = m + 1 + 1 := ⟨Tryz.prog.types.size - 1, by have := rowKT; omega⟩
  unfold keyOf at h
  rw [Tryz.underlying59] at h
  simp only at h
  split at h
  · rename_i hf
    have hfm : Value.formed Tryz.prog KT key = true := by
      cases hq : Value.formed Tryz.prog KT key
      · rw [hq] at hf; simp at hf
      · rfl
    rw [hs] at h
    unfold Program.keyLits at h
    rw [Tryz.underlying59] at h
    unfold Value.formed at hfm
    rw [Tryz.underlying59] at hfm
    cases key with
    | agg cs =>
      have hsz : cs.size = 2 := by simpa [hc] using hfm
      obtain ⟨c0, c1, rfl⟩ : ∃ c0 c1, cs = #[c0, c1] := by
        match cs, hsz with
        | ⟨[c0, c1]⟩, _ => exact ⟨c0, c1, rfl⟩
      simp [Value.cells, hc, hi, List.mapM_cons, List.mapM_nil] at h
      obtain ⟨l0, e0⟩ : ∃ l0, Tryz.prog.keyLits (m + 1) 3 [c0] = some l0 := by
        cases hq : Tryz.prog.keyLits (m + 1) 3 [c0] with
        | none => rw [hq] at h; simp at h
        | some l0 => exact ⟨l0, rfl⟩
      obtain ⟨l1, e1⟩ : ∃ l1, Tryz.prog.keyLits (m + 1) 3 [c1] = some l1 := by
        cases hq : Tryz.prog.keyLits (m + 1) 3 [c1] with
        | none => rw [e0, hq] at h; simp at h
        | some l1 => exact ⟨l1, rfl⟩
      obtain ⟨a, rfl, ha⟩ := keyLits_int _ _ _ e0
      obtain ⟨b, rfl, hb⟩ := keyLits_int _ _ _ e1
      exact ⟨a, b, rfl, ha, hb⟩
    | _ => simp [Value.cells, hc] at h
  · cases h

theorem keyK_inv (key : Value) (k : Lit) (h : keyOf Tryz.prog KT key = some k) : ∃ x : Int × Int, key = kv x.1 x.2 := by
  obtain ⟨a, b, e, _⟩ := keyK_inv0 h
  exact ⟨(a, b), e⟩
theorem keyK_wf {a b : Int} {k : Lit} (h : keyOf Tryz.prog KT (kv a b) = some k) : wfi a ∧ wfi b ∧ k = kl a b := by
  obtain ⟨a', b', e, ha, hb⟩ := keyK_inv0 h
  have e' : a = a' ∧ b = b' := by simpa using e
  obtain ⟨rfl, rfl⟩ := e'
  refine ⟨ha, hb, ?_⟩
  rw [keyK ha hb] at h
  simpa using h.symm

theorem kl_same (a b : Int) : (kl a b).sameKey (kl a b) = true := by simp [kl, Lit.sameKey]
end Go.Proofs.YtpcpdehnppfbfaaGreat


/- maps.Keys, slices.Collect over the lanes. -/
namespace Go.Proofs.YtpcpdehnppfbfaaGreat
open Go.RowKit Go.Maps Go.Sort Go.Shelf
attribute [local go_sem] Oper.semAt_some

/-- What keys have come, of those that the map has. -/
structure CameK (D : DataW Unit) (left : Lit → Bool) (ks : List (Int × Int)) : Prop where
  nd : ks.Nodup
  has : ∀ x, x ∈ ks → wfi x.1 ∧ wfi x.2 ∧ Maps.has D (kl x.1 x.2) = true ∧ left (kl x.1 x.2) = false
  rest : ∀ a b, wfi a → wfi b → Maps.has D (kl a b) = true → (a, b) ∈ ks ∨ left (kl a b) = true
  sub : ∀ a b, wfi a → wfi b → left (kl a b) = true → Maps.has D (kl a b) = true

theorem CameK.start (D : DataW Unit) : CameK D (Maps.has D) [] := ⟨List.nodup_nil, fun _ h => absurd h (List.not_mem_nil), fun _ _ _ _ h => .inr h, fun _ _ _ _ h => h⟩
theorem CameK.step {D : DataW Unit} {left : Lit → Bool} {ks : List (Int × Int)} (h : CameK D left ks) {x : Int × Int} (h1 : wfi x.1) (h2 : wfi x.2) (hl : left (kl x.1 x.2) = true) : CameK D (fun z => left z && !z.sameKey (kl x.1 x.2)) (ks ++ [x]) := by
  refine ⟨?_, fun y hy => ?_, fun a b ha hb hq => ?_, fun a b ha hb hq => h.sub a b ha hb (by simp at hq; exact hq.1)⟩
  · rw [List.nodup_append]
    refine ⟨h.nd, by simp, fun y hy z hz e => ?_⟩
    simp at hz
    subst hz
    subst e
    rw [(h.has _ hy).2.2.2] at hl
    cases hl
  · rcases List.mem_append.1 hy with hy | hy
    · obtain ⟨a1, a2, a3, a4⟩ := h.has y hy
      exact ⟨a1, a2, a3, by simp [a4]⟩
    · simp at hy
      subst hy
      exact ⟨h1, h2, h.sub _ _ h1 h2 hl, by simp [kl_same]⟩
  · rcases h.rest a b ha hb hq with hm | hm
    · exact .inl (List.mem_append_left _ hm)
    · by_cases e : (a, b) = x
      · subst e; exact .inl (by simp)
      · refine .inr ?_
        have : (kl a b).sameKey (kl x.1 x.2) = false := sameKey_ne (fun q => e (by obtain ⟨q1, q2⟩ := kl_inj ha hb h1 h2 q; subst q1; subst q2; rfl))
        simp [hm, this]

/-- The keys of a map of lanes. -/
def KeysOf (D : DataW Unit) (ks : List (Int × Int)) : Prop := ks.Nodup ∧ (∀ a b, wfi a → wfi b → ((a, b) ∈ ks ↔ Maps.has D (kl a b) = true)) ∧ ∀ x, x ∈ ks → wfi x.1 ∧ wfi x.2
theorem CameK.done {D : DataW Unit} {left : Lit → Bool} {ks : List (Int × Int)} (h : CameK D left ks) (hl : ∀ k, left k = false) : KeysOf D ks :=
  ⟨h.nd, fun a b ha hb => ⟨fun hm => (h.has _ hm).2.2.1, fun hh => (h.rest a b ha hb hh).elim id (fun e => by rw [hl] at e; cases e)⟩, fun x hx => ⟨(h.has x hx).1, (h.has x hx).2.1⟩⟩

abbrev encK (x : Int × Int) : Value := kv x.1 x.2

set_option maxRecDepth 100000 in
set_option maxHeartbeats 1000000 in
theorem keys1_in (F : Fence) (n : Nat) (h10 : F.fn 39) (hro : F.round = none) (hn : 1 ≤ n) (l Bm b nn : Nat) (D0 : DataW Unit) (J Jx : List (Int × Int) → World → Prop)
    (hY : ∀ pre x W, J pre W → pre.length < Maps.size D0 → YieldAt F (n - 1) Tryz.prog l #[encK x] W fun e W' => (e = .returned (.bool true) ∧ J (pre ++ [x]) W' ∧ KeepsWalks W W') ∨ (e = .returned (.bool false) ∧ Jx (pre ++ [x]) W'))
    (W : World) (hJ : AbidesFrom W.heap.size J) (hm : W.cell? ⟨Bm, 0, none⟩ = some (.map (some b))) (hown : W.ownsMap Tryz.prog KT ptrElem b nn D0) (h0 : J [] W) :
    CallsIn F n Tryz.prog 39 #[.func (.yield l) #[] #[], .pointer (some ⟨Bm, 0, none⟩)] W fun e W' => (∃ v, e = .returned v) ∧ ((∃ ss, KeysOf D0 ss ∧ J ss W') ∨ (∃ pre, True ∧ Jx pre W')) := by
  refine callsIn_of_wp Tryz.func39 rfl h10 ?_ hro
  simp only [Tryz.ntmps39, List.size_toArray, List.length_cons, List.length_nil, Nat.reduceAdd, Nat.reduceSub, Array.replicate_succ, Array.replicate_zero, List.push_toArray, List.append_toArray, List.nil_append, List.cons_append]
  gi_wp2_with (first
    | (gi_at_range; refine wpListIn_range_own _ rfl _ MT rfl KT RP lawK undMT _ b nn _ rfl hown ?_; intro w0 hrg0 hg0 hs0)
    | gi_in)
  go_frame
  gi_loopw [3] (fun _ wr => ∃ (left : Lit → Bool) (cnt : Nat) (ss : List (Int × Int)), wr.ranges Tryz.prog KT ptrElem b W.heap.size nn D0 left cnt ∧ ss.length + cnt ≤ Maps.size D0 ∧ CameK D0 left ss ∧ J ss wr)
    (fun _ wr => wr.rangeLeft b W.heap.size)
  case atStart =>
    exact ⟨_, _, [], hrg0, by simp, CameK.start D0, hJ [] W w0 none h0 hg0 (fun r e => by cases e)⟩
  case round =>
    obtain ⟨left, cnt, ss, hrg, hcs, hC, hJs⟩ := hrel
    gi_wp2_with (first
      | (gi_at_next; refine wpListIn_next_ranges _ rfl _ rfl KT lawK ptrElem (fun x : Int × Int => kv x.1 x.2) (fun v : Value => v) keyK_inv (fun v _ _ => ⟨v, rfl⟩) b W.heap.size nn _ _ _ rfl hrg ?_ ?_)
      | gi_in)
    · intro hc0 hl0
      gi_wp2
      go_end0
      exact ⟨⟨_, rfl⟩, .inl ⟨ss, hC.done hl0, hJs⟩⟩
    · intro xa xb c kl yd yp w2 cnt2 hkey hlk hv hat hrg2 hlt hg2 hs2 hen
      obtain ⟨ha, hb, rfl⟩ := keyK_wf hkey
      have hJ2 : J ss w2 := hJ ss wr w2 (some W.heap.size) hJs hg2 (fun r e => by cases e; exact ⟨Nat.le_refl _, hrg.iter_walk⟩)
      have hJ3 : J ss (w2.alloc (.cells #[.int .i64 xa, .int .i64 xb] KT)) := hJ ss w2 _ none hJ2 (World.grownBy_alloc _ _ none) (fun r e => by cases e)
      obtain ⟨fn, tmps, assign, body, hy, hR⟩ := hY ss (xa, xb) _ hJ3 (by omega)
      have hrga := hrg2.of_walks (KeepsWalks.alloc w2 (.cells #[.int .i64 xa, .int .i64 xb] KT))
      simp only [encK, kv] at hy
      clear hs2
      gi_wp2
      refine hR.mono ?_
      rintro e W3 (⟨rfl, hJ4, hk3⟩ | ⟨rfl, hJx3⟩)
      · gi_wp2
        have hrg3 := hrga.of_walks hk3
        go_roundw
        case rel => exact ⟨_, cnt2, ss ++ [(xa, xb)], hrg3, by simp; omega, hC.step (x := (xa, xb)) ha hb hlk, hJ4⟩
        case measure => rw [hrg3.left_eq, hrg.left_eq]; exact hlt
      · gi_wp2
        refine bodyPost_ret (results_none rfl _ _ _) rfl ?_
        exact ⟨⟨_, rfl⟩, .inr ⟨_, trivial, hJx3⟩⟩
end Go.Proofs.YtpcpdehnppfbfaaGreat


