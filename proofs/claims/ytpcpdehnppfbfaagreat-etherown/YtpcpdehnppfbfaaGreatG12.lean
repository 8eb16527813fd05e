import Derived.Test.YtpcpdehnppfbfaaGreatG11
import Derived.RangeFuncFrom
import Derived.RangeFuncKeeps
import Derived.RangeFuncBound
import Derived.Test.YtpcpdehnppfbfaaGreatG09
import Derived.Sort.Grow
import Derived.Deep.Draws
/- slices.Collect, slices.SortedFunc over the lanes. -/
namespace Go.Proofs.YtpcpdehnppfbfaaGreat
open Go.RowKit Go.Maps Go.Sort Go.Shelf
attribute [local go_sem] Oper.semAt_some

abbrev KF : Nat := 24
abbrev K1 : Nat := 39
abbrev AS : Nat := 50
abbrev CO : Nat := 37
abbrev SF : Nat := 23
abbrev EnT : Nat := 63

set_option maxHeartbeats 1000000 in
theorem keys_in (F : Fence) (n : Nat) (h5 : F.fn KF) (hro : F.round = none) (mb : Option Nat) (w : World) :
    CallsIn F n Tryz.prog KF #[.map mb] w fun e w' => e = .returned (.func (.func K1) #[] #[.pointer (some ⟨w.heap.size, 0, none⟩)]) ∧ w' = w.alloc (.cells #[.map mb] MT) := by
  refine callsIn_of_wp Tryz.func24 rfl h5 ?_ hro
  simp only [Tryz.ntmps24, List.size_toArray, List.length_cons, List.length_nil, Nat.reduceAdd, Nat.reduceSub, Array.replicate_succ, Array.replicate_zero, List.push_toArray, List.append_toArray, List.nil_append, List.cons_append]
  gi_wp2
  go_ret
  exact ⟨rfl, rfl⟩

/-- The keys of the lanes. -/
def LKeys (f : Int → Int → Option Lane) (ks : List (Int × Int)) : Prop := ks.Nodup ∧ (∀ a b, wfi a → wfi b → ((a, b) ∈ ks ↔ (f a b).isSome = true)) ∧ ∀ x, x ∈ ks → wfi x.1 ∧ wfi x.2

set_option maxRecDepth 100000 in
set_option maxHeartbeats 1000000 in
theorem keys1_nil (F : Fence) (n : Nat) (h10 : F.fn K1) (hro : F.round = none) (l Bm : Nat) (J : List (Int × Int) → World → Prop) (W : World) (hJ : AbidesFrom W.heap.size J)
    (hm : W.cell? ⟨Bm, 0, none⟩ = some (.map none)) (h0 : J [] W) :
    CallsIn F n Tryz.prog K1 #[.func (.yield l) #[] #[], .pointer (some ⟨Bm, 0, none⟩)] W fun e W' => (∃ v, e = .returned v) ∧ J [] W' := by
  refine callsIn_of_wp Tryz.func39 rfl h10 ?_ hro
  simp only [Tryz.ntmps39, List.size_toArray, List.length_cons, List.length_nil, Nat.reduceAdd, Nat.reduceSub, Array.replicate_succ, Array.replicate_zero, List.push_toArray, List.append_toArray, List.nil_append, List.cons_append]
  have hrg := run_range_nilMap (P := Tryz.prog) W MT KT RP undMT
  have hnx : ∀ ty, (Instr.next (.pointer (some ⟨W.heap.size, 0, none⟩)) false ty).run Tryz.prog (W.alloc (.mapIter none 0 #[] 0)) = _ := fun ty => run_next_nilMap _ ty 0 0 #[]
  gi_wp2
  refine wpIn_loop_rounds 1 ?_
  rw [roundsIn_succ]
  gi_wp2
  go_end0
  exact ⟨⟨_, rfl⟩, hJ [] W _ none h0 (World.grownBy_alloc W _ none) (fun r e => by cases e)⟩

theorem infoK : ∃ i0, Tryz.prog.info? KT = some i0 ∧ i0.zero = some (.agg #[.int .i64 0, .int .i64 0]) ∧ i0.size = 2 ∧ i0.bytes = 16 := info_parts (show (Tryz.prog.info? KT).map (fun i => (i.zero, i.size, i.bytes)) = some (some (.agg #[.int .i64 0, .int .i64 0]), 2, 16) by kernel_rfl)

theorem row_lift {w : World} {B B' e size n : Nat} {V : Value} {xs : List Value} (h : w.ownsRow B' e size V n xs) (hB : ∀ g, V.ownBlock = some g → B ≤ g) : w.ownsRow B e size V n xs := by
  refine ⟨h.1, ?_⟩
  rcases h.2 with h0 | ⟨g, cap, cur, rfl, _, r⟩
  · exact .inl h0
  · exact .inr ⟨g, cap, cur, rfl, hB g rfl, r⟩

/-- A loop over what an iterator gives, whose variable lies in memory: the assignment lays it (H), the body goes on from there. -/
theorem range_laid {α : Type} {F : Fence} {n : Nat} {P : Program} {g : Operand} {ps : Array Tmp} {assign body : Code} {Q : Exit → Act → World → Prop} {a : Act} {w : World}
    (hro : F.round = none) (h1 : 1 ≤ n) {gf : Nat} {lb : Array Value} (hg : a.eval g = .func (.func gf) #[] lb) (hFg : F.fn gf) (eg : ∀ args w, (callFunc gf args).run P w = .ok (.enter gf args) w)
    {enc : α → Value} {S : List α → Prop} {N : Nat} {w0 : World} (hseq : SeqGives F (n - 1) P gf lb enc S N w0) (hb0 : Below w0.heap.size w0 w) (hps : ps.size = 1)
    (I : List α → World → Prop) (H : List α × α × Act → World → Prop) (hI : OwnFrom w.heap.size I) (hH : OwnFrom w.heap.size H) (h0 : I [] w)
    (hassign : ∀ (l : Nat) (pre : List α) (x : α) (W : World), I pre W → assign.wpIn (F.inRound l) (n - 1 - 1) P (Exit.then (fun a₁ W₁ => KeepsOthers W W₁ ∧ H (pre, x, a₁) W₁) (fun _ _ _ => False)) { tmps := (ps.zip #[enc x]).foldl (fun t (p, v) => t.setIfInBounds p v) a.tmps, defers := [] } W)
    (hbody : ∀ (l : Nat) (pre : List α) (x : α) (a₁ : Act) (W : World), H (pre, x, a₁) W → pre.length < N → body.wpIn (F.inRound l) (n - 1 - 1) P (fun e _ W' => e = .normal ∧ KeepsOthers W W' ∧ I (pre ++ [x]) W') a₁ W)
    (hdone : ∀ (D : Nat) (xs : List α) (W : World), w.heap.size ≤ D → S xs → I xs W → W.heap[D]? = some (.deferred (some [])) → Q .normal { a with defers := { target := .collected D, args := #[] } :: a.defers } W) :
    (Code.rangeFunc g ps assign body).wpIn F n P Q a w := by
  refine wpIn_rangeFunc fun fn hfn => ?_
  rw [hro]
  generalize hR : (fun (st : LoopState) => ({ state := st, pending := none, fn := fn, tmps := a.tmps, params := ps, assign := assign, body := body, defers := w.heap.size } : Loop)) = R
  have hp : ∀ st, (R st).params = ps ∧ (R st).fn = fn ∧ (R st).tmps = a.tmps ∧ (R st).assign = assign ∧ (R st).body = body ∧ (R st).state = st ∧ (R st).pending = none ∧ ∀ st', { R st with state := st' } = R st' := fun st => by subst hR; exact ⟨rfl, rfl, rfl, rfl, rfl, rfl, rfl, fun _ => rfl⟩
  have hent : ((w.alloc (.deferred (some []))).alloc (.loop (R .ready))) = ((w.alloc (.deferred (some []))).alloc (.loop { state := .ready, pending := none, fn := fn, tmps := a.tmps, params := ps, assign := assign, body := body, defers := w.heap.size })) := by subst hR; rfl
  have hlk : ((w.alloc (.deferred (some []))).alloc (.loop (R .ready))).heap[w.heap.size + 1]? = some (.loop (R .ready)) := by
    have := World.alloc_heap_new (w.alloc (.deferred (some []))) (.loop (R .ready)); rwa [World.size_alloc] at this
  have hdk : ((w.alloc (.deferred (some []))).alloc (.loop (R .ready))).heap[w.heap.size]? = some (.deferred (some [])) := (Below.heap_alloc _ _ _ (by simp)).trans (World.alloc_heap_new w _)
  have hbw : Below w0.heap.size w0 ((w.alloc (.deferred (some []))).alloc (.loop (R .ready))) := (hb0.alloc hb0.size _).alloc (by have := hb0.size; simp; omega) _
  have hi0 : I [] ((w.alloc (.deferred (some []))).alloc (.loop (R .ready))) := hI.alloc _ (hI.alloc _ h0)
  generalize hW1 : (w.alloc (.deferred (some []))).alloc (.loop (R .ready)) = W1 at *
  refine ⟨w.heap.size + 1, [{ target := .collected w.heap.size, args := #[] }], W1, { target := .fn (.func gf) lb, args := #[.func (.yield (w.heap.size + 1)) #[] #[]] }, W1, gf, #[.func (.yield (w.heap.size + 1)) #[] #[]] ++ lb, W1, ?_, ?_, ?_, ?_, fun _ => h1, ?_⟩
  · rw [hent]; exact run_enterLoop_outer _ _ _ _ _
  · simp only [resolve, hg]
    simp [go_sem]
  · intro f' hf'; simp [Target.leads] at hf'; subst hf'; exact hFg
  · simp [invoke, go_sem, eg]
  refine (hseq (w.heap.size + 1) (fun pre W => I pre W ∧ W.heap[w.heap.size + 1]? = some (.loop (R .ready)) ∧ W.heap[w.heap.size]? = some (.deferred (some []))) W1 hbw ?_ ?_ ⟨hi0, hlk, hdk⟩).mono ?_
  · rintro pre A B row ⟨q1, q2, q3⟩ hgr hr
    have hw := fun r e => (hr r e).2
    exact ⟨hI pre A B row q1 hgr (fun r e => by obtain ⟨o, ho, hq⟩ := hw r e; exact ⟨by have := (hr r e).1; rw [← hW1] at this; simp at this; omega, o, ho, Obj.not_cells_of_walk hq⟩), (grownBy_keeps hgr hw q2 rfl).trans q2, (grownBy_keeps hgr hw q3 rfl).trans q3⟩
  · rintro pre x W ⟨q1, q2, q3⟩ hlen
    obtain ⟨p1, p2, p3, p4, p5, p6, p7, p8⟩ := hp .ready
    have hy := run_yield (P := P) (args := #[enc x]) q2 (by rw [p1, hps]; rfl)
    rw [p1, p2, p3, p4, p5] at hy
    refine ⟨fn, _, assign, body, hy, roundIn_of_wpIn hfn (wpIn_mono (hassign _ pre x W q1) ?_)⟩
    rintro e a₁ W₁ hx
    cases e with
    | normal =>
      obtain ⟨k1, hh⟩ := hx
      have l1 := k1.same _ _ q2 rfl
      refine ⟨_, run_beginRound l1 p6, ?_⟩
      rw [p8]
      have hlt := (Array.getElem?_eq_some_iff.1 l1).1
      refine wpIn_mono (hbody _ pre x a₁ _ (hH.putObj _ hh (Nat.le_succ _) l1 rfl) hlen) ?_
      rintro e a₂ W₂ ⟨rfl, k2, hi2⟩
      have l2 := k2.same _ _ (World.putObj_heap_same hlt) rfl
      have d2 := k2.same _ _ ((World.putObj_heap_other (by omega)).trans (k1.same _ _ q3 rfl)) rfl
      have hend := run_endRound (P := P) none l2
      have e2 : ({ R .busy with state := if (none : Option Code).isNone then .ready else .done, pending := none } : Loop) = R .ready := by subst hR; rfl
      rw [e2] at hend
      exact ⟨_, _, hend, rfl, ⟨hI.putObj _ hi2 (Nat.le_succ _) l2 rfl, World.putObj_heap_same (Array.getElem?_eq_some_iff.1 l2).1, (World.putObj_heap_other (by omega)).trans d2⟩, ((k1.walks.trans (KeepsWalks.putObj _ l1 rfl)).trans k2.walks).trans (KeepsWalks.putObj _ l2 rfl)⟩
    | ret => exact hx.elim
    | exit id => exact hx.elim
    | goto t => exact hx.elim
    | panic _ => exact hx.elim
    | outgrown => exact hx.elim
  · rintro e W2 ⟨⟨v0, rfl⟩, xs, hS, q1, q2, q3⟩
    have hend := run_endLoop (P := P) q2 (by rw [(hp .ready).2.2.2.2.2.1]; simp)
    rw [(hp .ready).2.2.2.2.2.2.1] at hend
    exact ⟨none, _, hend, hdone _ xs _ (Nat.le_refl _) hS (hI.putObj _ q1 (Nat.le_succ _) q2 rfl) ((World.putObj_heap_other (by omega)).trans q3)⟩

set_option maxRecDepth 100000 in
set_option maxHeartbeats 2000000 in
theorem appendSeq_in (F : Fence) (n : Nat) (h11 : F.fn AS) (hro : F.round = none) (hn : 2 ≤ n) (g : Nat) (lb : Array Value) (hFg : F.fn g) (eg : ∀ args w, (callFunc g args).run Tryz.prog w = .ok (.enter g args) w)
    (S : List (Int × Int) → Prop) (N : Nat) (hN : N ≤ 1000000) (w : World) (hseq : SeqGives F (n - 1) Tryz.prog g lb encK S N w) :
    CallsIn F n Tryz.prog AS #[.slice none 0 0, .func (.func g) #[] lb] w fun e w' => ∃ (v : Value) (ks : List (Int × Int)), e = .returned v ∧ S ks ∧ w'.ownsRow w.heap.size KT 2 v ks.length (kvs ks) ∧ Below w.heap.size w w' := by
  have h1 : 1 ≤ n := by omega
  refine callsIn_of_wp_marks Tryz.func50 rfl h11 ?_ hro
  simp only [Tryz.ntmps50, List.size_toArray, List.length_cons, List.length_nil, Nat.reduceAdd, Nat.reduceSub, Array.replicate_succ, Array.replicate_zero, List.push_toArray, List.append_toArray, List.nil_append, List.cons_append]
  gi_wp2
  obtain ⟨i0, hi, hz0, hz1, hz2⟩ := infoK
  have bS := Boxed.new w EnT (.slice none 0 0)
  have hB0 : Below w.heap.size w (w.alloc (.cells #[.slice none 0 0] EnT)) := (Below.refl _ w).alloc (Nat.le_refl _) _
  refine range_laid hro h1 (gf := g) (lb := lb) rfl hFg eg hseq hB0 rfl
    (fun pre W => (∃ v, Boxed W w.heap.size EnT v ∧ W.ownsRow w.heap.size KT 2 v pre.length (kvs pre) ∧ True) ∧ Below w.heap.size w W)
    (fun s W => ((∃ v, Boxed W w.heap.size EnT v ∧ W.ownsRow w.heap.size KT 2 v s.1.length (kvs s.1) ∧ True) ∧ Below w.heap.size w W) ∧ ∃ kb, s.2.2 = { tmps := #[.slice none 0 0, .func (.func g) #[] lb, .pointer (some ⟨w.heap.size, 0, none⟩), undef, .slice none 0 0, .pointer (some ⟨kb, 0, none⟩), .func (.func g) #[] lb, encK s.2.1, undef, undef, undef, undef, undef], defers := [] } ∧ W.cell? ⟨kb, 0, none⟩ = some (.int .i64 s.2.1.1) ∧ W.cell? ⟨kb, 1, none⟩ = some (.int .i64 s.2.1.2))
    ?hI ?hH ⟨⟨_, bS, World.ownsRow_nil _ _ _ _, trivial⟩, hB0⟩ ?assign ?body ?done
  case hI => exact OwnFrom.and (Own.from (holdsRow_own w.heap.size w.heap.size EnT KT 2 (fun pre : List (Int × Int) => pre.length) kvs (fun _ _ => True)) _) (ownFrom_below (Nat.le_refl _) (by simp))
  case hH =>
    intro s A B row hs hgr hr
    obtain ⟨hI, kb, e, k0, k1⟩ := hs
    have hr' := fun r e => (hr r e).2
    exact ⟨OwnFrom.and (Own.from (holdsRow_own w.heap.size w.heap.size EnT KT 2 (fun pre : List (Int × Int) => pre.length) kvs (fun _ _ => True)) (w.alloc (.cells #[.slice none 0 0] EnT)).heap.size) (ownFrom_below (Nat.le_refl _) (by simp)) s.1 A B row hI hgr hr, kb, e, cell_kept k0 hgr hr', cell_kept k1 hgr hr'⟩
  case assign =>
    rintro l pre ⟨xa, xb⟩ W hI
    simp only [encK, kv]
    gi_wp2
    obtain ⟨⟨v, hv, hrow, -⟩, hB⟩ := hI
    exact ⟨KeepsOthers.alloc _ _, ⟨⟨v, hv.alloc _, hrow.alloc _, trivial⟩, hB.alloc hB.size _⟩, W.heap.size, rfl, by simp [go_sem], by simp [go_sem]⟩
  case body =>
    rintro l pre ⟨xa, xb⟩ a₁ W hH hlt
    dsimp only at hH
    obtain ⟨⟨⟨v, hv, hrow, -⟩, hB⟩, kb, rfl, k0, k1⟩ := hH
    have hc := hv.cell
    gi_wp2_with (gi_at_builtin; refine wpListIn_append_own _ rfl _ _ EnT rfl w.heap.size KT i0 (.agg #[.int .i64 0, .int .i64 0]) 2 16 Tryz.underlying63 hi hz0 hz1 hz2 rfl (by decide) _ _ _ rfl (hrow.alloc _) ⟨W.heap.size, 0, none⟩ 1 1 [.int .i64 xa, .int .i64 xb] rfl rfl (cell_two_new _ _ _ _) (by simp [Value.oneCell']) (by unfold maxLen; omega) (by omega) (by have := hB.size; simp; omega) ?_; intro v' w1 hown' hgrow _; obtain ⟨g', cap', rfl⟩ := ownsRow_succ hown'; obtain ⟨hv1, hv2, hr2, hk2, hb2⟩ := hv.appended (by decide) hrow hB.size (Nat.le_refl _) hown' hgrow; have hc1 := hv1.cell; have hf1 := hv1.frozen)
    exact ⟨⟨_, hv2, by rw [kvs_append]; simpa [kvs] using hr2⟩, hB.trans hb2⟩
  case done =>
    rintro D ys W hD hS ⟨⟨v, hv, hrow, -⟩, hB⟩ hK
    have hc := hv.cell
    gi_wp2
    refine ⟨by simp, .inl ⟨_, _, rfl, run_takeDeferred hK, ?_⟩⟩
    exact ⟨_, results_tmp rfl _ _ _, v, ys, rfl, hS, ownsRow_putObj hrow _ hK rfl, hB.trans (belowK_b (w := w) (Nat.le_refl _) W D _ _ (by simp at hD; omega) hK rfl rfl)⟩

theorem keys_give {w : World} {Bm : Nat} {mv : Value} {f : Int → Int → Option Lane} (hBm : Bm < w.heap.size) (hc : w.cell? ⟨Bm, 0, none⟩ = some mv) {N : Nat}
    (hm : (mv = .map none ∧ ∀ a b, f a b = none) ∨ ∃ mb n, mv = .map (some mb) ∧ EM w mb n (fun a b => (f a b).map Lane.rb) ∧ n ≤ N) : SeqGives Fence.wide 1 Tryz.prog K1 #[.pointer (some ⟨Bm, 0, none⟩)] encK (LKeys f) N w := by
  intro l J W hW hJ hY h0
  rcases hm with ⟨rfl, hf⟩ | ⟨mb, n, rfl, ⟨D, hown, h1, -⟩, hn⟩
  · refine (keys1_nil Fence.wide 1 trivial rfl l Bm J W hJ ((hW.cell (p := ⟨Bm, 0, none⟩) hBm).trans hc) h0).mono ?_
    rintro e W' ⟨hv, hj⟩
    exact ⟨hv, [], ⟨List.nodup_nil, fun a b _ _ => by simp [hf], fun _ h => absurd h (List.not_mem_nil)⟩, hj⟩
  · have hown' : W.ownsMap Tryz.prog KT ptrElem mb n D := by
      have hbl := hown.lt
      obtain ⟨es, clock, hb, r⟩ := hown
      exact ⟨es, clock, (hW.block mb hbl).trans hb, r⟩
    refine (keys1_in Fence.wide 1 trivial rfl (Nat.le_refl _) l Bm mb n D J (fun _ _ => False) (fun pre x W1 hj hl => YieldAt.mono (hY pre x W1 hj (by have := hown.size_le; omega)) (fun _ _ h => .inl h)) W hJ ((hW.cell (p := ⟨Bm, 0, none⟩) hBm).trans hc) hown' h0).mono ?_
    rintro e W' ⟨hv, ⟨ss, ⟨k1, k2, k3⟩, hj⟩ | ⟨_, _, hf⟩⟩
    · exact ⟨hv, ss, ⟨k1, fun a b ha hb => by rw [k2 a b ha hb, h1 a b ha hb]; simp, k3⟩, hj⟩
    · exact hf.elim

set_option maxHeartbeats 1000000 in
theorem collect_any {w : World} {Bm : Nat} {mv : Value} {f : Int → Int → Option Lane} (hBm : Bm < w.heap.size) (hc : w.cell? ⟨Bm, 0, none⟩ = some mv) {N : Nat} (hN : N ≤ 1000000)
    (hm : (mv = .map none ∧ ∀ a b, f a b = none) ∨ ∃ mb n, mv = .map (some mb) ∧ EM w mb n (fun a b => (f a b).map Lane.rb) ∧ n ≤ N) :
    Calls Tryz.prog CO #[.func (.func K1) #[] #[.pointer (some ⟨Bm, 0, none⟩)]] w fun e w' => ∃ (v : Value) (ks : List (Int × Int)), e = .returned v ∧ LKeys f ks ∧ w'.ownsRow w.heap.size KT 2 v ks.length (kvs ks) ∧ Below w.heap.size w w' := by
  have AP := hidb (callsIn_wide.1 (appendSeq_in Fence.wide 2 trivial rfl (Nat.le_refl _) K1 #[.pointer (some ⟨Bm, 0, none⟩)] trivial (enters_of Tryz.func39 (by kernel_rfl) rfl) (LKeys f) N hN w (keys_give hBm hc hm)))
  clear hBm hc hm
  go_enter Tryz.func37, Tryz.ntmps37
  go_wp2_with (go_at_call 50; refine AP.out.mono ?_; rintro e w1 ⟨v, ks, rfl, hk, ho, hb⟩; obtain ⟨q, c, rfl⟩ := own_sl ho; have HK := hidb hk; have HO := hidb ho; have HB := hidb hb; clear hk ho hb)
  go_ret
  exact ⟨_, ks, rfl, HK.out, HO.out, HB.out⟩

set_option maxHeartbeats 1000000 in
theorem sorted_any {w : World} {Bm : Nat} {mv : Value} {f : Int → Int → Option Lane} (hBm : Bm < w.heap.size) (hc : w.cell? ⟨Bm, 0, none⟩ = some mv) {N : Nat} (hN : N ≤ 1000000) (h12 : ∀ ks, LKeys f ks → ks.length ≤ 12)
    (hm : (mv = .map none ∧ ∀ a b, f a b = none) ∨ ∃ mb n, mv = .map (some mb) ∧ EM w mb n (fun a b => (f a b).map Lane.rb) ∧ n ≤ N) :
    Calls Tryz.prog SF #[.func (.func K1) #[] #[.pointer (some ⟨Bm, 0, none⟩)], .func (.func 25) #[] #[]] w fun e w' => ∃ (q : Option Addr) (c : Nat) (ks : List (Int × Int)), e = .returned (.slice q ks.length c) ∧ LKeys f ks ∧ w'.ownsRow w.heap.size KT 2 (.slice q ks.length c) ks.length (kvs ks) ∧ Below w.heap.size w w' := by
  have CA := hidb (collect_any hBm hc hN hm)
  have H12 := hidb h12
  clear hBm hc hm h12
  go_enter Tryz.func23, Tryz.ntmps23
  go_wp2_with (first
    | (go_at_call 37; refine CA.out.mono ?_; rintro e w1 ⟨v, ks, rfl, hk, ho, hb⟩; obtain ⟨q, c, rfl⟩ := own_sl ho; have HK := hidb hk; have HO := hidb ho; have HB := hidb hb; have SO := hidb (sortC ks q ks.length c w1 ⟨row_base ho (Nat.zero_le _), rfl⟩ (H12.out ks hk)); clear hk ho hb CA; generalize hL : ks.length = L at *; have HL := hidb hL; clear hL)
    | (go_at_call 38; refine SO.out.mono ?_; rintro e w2 ⟨rfl, ⟨l', hp, hs⟩, hb2⟩; have HP := hidb hp; have HS := hidb hs; have HB2 := hidb hb2; clear hp hs hb2))
  go_ret
  have hlen : l'.length = L := HP.out.length_eq.trans HL.out
  subst hlen
  refine ⟨q, c, l', rfl, ?_, ?_, ?_⟩
  · obtain ⟨k1, k2, k3⟩ := HK.out
    exact ⟨HP.out.nodup_iff.2 k1, fun a b ha hb => by rw [HP.out.mem_iff]; exact k2 a b ha hb, fun x hx => k3 x (HP.out.mem_iff.1 hx)⟩
  · exact row_lift HS.out.1 (fun g hg => (row_lt HO.out g hg).2)
  · exact HB.out.trans (HB2.out.below HB.out.size (fun k e => (row_lt HO.out k e).2))
end Go.Proofs.YtpcpdehnppfbfaaGreat


/- compareEnds, to the number and the world. -/
namespace Go.Proofs.YtpcpdehnppfbfaaGreat
open Go.RowKit Go.Lib Go.Maps
attribute [local go_sem] store_float f64bits
attribute [local go_sem ↓] Go.wp_at_zero Go.wp_at_succ

def orI (x y : Int) : Int := if x = 0 then y else x
/-- The order of ends. -/
def cmpK (x y : Int × Int) : Int := orI (cmpI x.1 y.1) (cmpI x.2 y.2)

set_option maxHeartbeats 1000000 in
theorem or_two_ex (g c : Nat) (x y : Int) (w : World) (h0 : w.cell? ⟨g, 0, none⟩ = some (.int .i64 x)) (h1 : w.cell? ⟨g, 1, none⟩ = some (.int .i64 y)) : Calls Tryz.prog 40 #[.slice (some ⟨g, 0, none⟩) 2 c] w fun e w' => e = .returned (.int .i64 (orI x y)) ∧ w' = w := by
  go_enter Tryz.func40, Tryz.ntmps40
  go_wp2_with fail
  go_loopw [8] (fun iv wr => ∃ m : Nat, m ≤ 2 ∧ iv = .int .i64 m ∧ wr = w ∧ (1 ≤ m → x = 0) ∧ (2 ≤ m → y = 0)) (fun iv _ => 2 - (RowKit.intOf iv).toNat)
  case atStart => exact ⟨0, by omega, rfl, rfl, by omega, by omega⟩
  case round =>
  obtain ⟨m, hm, rfl, rfl, e0, e1⟩ := hrel
  obtain rfl | rfl | rfl : m = 0 ∨ m = 1 ∨ m = 2 := by omega
  · clear e0 e1
    by_cases hz : x = 0
    · have hz1 : (x == 0) = true := by simp [hz]
      subst hz
      go_wp2_with fail
      go_roundw
      case rel => exact ⟨1, by omega, by go_num, by simp⟩
      case measure => simp [RowKit.intOf]
    · have hz1 : (x == 0) = false := by simp [hz]
      go_wp2_with fail
      go_ret
      exact ⟨by simp [orI, hz], rfl⟩
  · have hx := e0 (by omega)
    clear e0 e1
    subst hx
    by_cases hz : y = 0
    · subst hz
      go_wp2_with fail
      go_roundw
      case rel => exact ⟨2, by omega, by go_num, by simp⟩
      case measure => simp [RowKit.intOf]
    · have hz1 : (y == 0) = false := by simp [hz]
      go_wp2_with fail
      go_ret
      exact ⟨by simp [orI], rfl⟩
  · have hx := e0 (by omega)
    have hy := e1 (by omega)
    clear e0 e1
    subst hx hy
    go_wp2_with fail
    go_ret
    exact ⟨by simp [orI], rfl⟩

set_option maxHeartbeats 1000000 in
theorem compareEnds_ex (a b c d : Int) (w : World) : Calls Tryz.prog 25 #[kv a b, kv c d] w fun e w' => e = .returned (.int .i64 (cmpK (a, b) (c, d))) ∧ w' = (((w.alloc (.cells #[.int .i64 a, .int .i64 b] 59)).alloc (.cells #[.int .i64 c, .int .i64 d] 59)).alloc (.cells #[.int .i64 (cmpI a c), .int .i64 (cmpI b d)] 3)).drew := by
  have CC := hidb compare_any
  have OO := hidb or_two_ex
  unfold kv
  go_enter Tryz.func25, Tryz.ntmps25
  go_wp2_with fail
  have p0 : (((w.alloc (.cells #[.int .i64 a, .int .i64 b] 59)).alloc (.cells #[.int .i64 c, .int .i64 d] 59)).alloc (.cells #[.int .i64 (cmpI a c), .int .i64 (cmpI b d)] 3)).drew.cell? ⟨w.heap.size + 1 + 1, 0, none⟩ = some (.int .i64 (cmpI a c)) := by rw [cell_drew]; simp [go_sem]
  have p1 : (((w.alloc (.cells #[.int .i64 a, .int .i64 b] 59)).alloc (.cells #[.int .i64 c, .int .i64 d] 59)).alloc (.cells #[.int .i64 (cmpI a c), .int .i64 (cmpI b d)] 3)).drew.cell? ⟨w.heap.size + 1 + 1, 1, none⟩ = some (.int .i64 (cmpI b d)) := by rw [cell_drew]; simp [go_sem]
  have m2 : (((w.alloc (.cells #[.int .i64 a, .int .i64 b] 59)).alloc (.cells #[.int .i64 c, .int .i64 d] 59)).alloc (.cells #[.int .i64 (cmpI a c), .int .i64 (cmpI b d)] 3)).drew.cell? ⟨w.heap.size, 0, none⟩ = some (.int .i64 (a)) := by rw [cell_drew]; simp [go_sem]
  have m3 : (((w.alloc (.cells #[.int .i64 a, .int .i64 b] 59)).alloc (.cells #[.int .i64 c, .int .i64 d] 59)).alloc (.cells #[.int .i64 (cmpI a c), .int .i64 (cmpI b d)] 3)).drew.cell? ⟨w.heap.size, 1, none⟩ = some (.int .i64 (b)) := by rw [cell_drew]; simp [go_sem]
  have m4 : (((w.alloc (.cells #[.int .i64 a, .int .i64 b] 59)).alloc (.cells #[.int .i64 c, .int .i64 d] 59)).alloc (.cells #[.int .i64 (cmpI a c), .int .i64 (cmpI b d)] 3)).drew.cell? ⟨w.heap.size + 1, 0, none⟩ = some (.int .i64 (c)) := by rw [cell_drew]; simp [go_sem]
  have m5 : (((w.alloc (.cells #[.int .i64 a, .int .i64 b] 59)).alloc (.cells #[.int .i64 c, .int .i64 d] 59)).alloc (.cells #[.int .i64 (cmpI a c), .int .i64 (cmpI b d)] 3)).drew.cell? ⟨w.heap.size + 1, 1, none⟩ = some (.int .i64 (d)) := by rw [cell_drew]; simp [go_sem]
  go_region_held3 (fun w' => w'.cell? ⟨w.heap.size, 0, none⟩ = some (.int .i64 a) ∧ w'.cell? ⟨w.heap.size, 1, none⟩ = some (.int .i64 b) ∧ w'.cell? ⟨w.heap.size + 1, 0, none⟩ = some (.int .i64 c) ∧ w'.cell? ⟨w.heap.size + 1, 1, none⟩ = some (.int .i64 d)) (first | with_reducible exact ⟨m2, m3, m4, m5⟩ | go_keep) (first
    | (go_at_call 41; refine (CC.out _ _ _).mono ?_; rintro e w1 ⟨rfl, rfl⟩)
    | (go_at_call 40; refine (OO.out _ _ _ _ _ p0 p1).mono ?_; rintro e w3 ⟨rfl, rfl⟩))
  all_goals go_wp2_with fail
  all_goals go_ret
  all_goals exact ⟨rfl, rfl⟩
end Go.Proofs.YtpcpdehnppfbfaaGreat


