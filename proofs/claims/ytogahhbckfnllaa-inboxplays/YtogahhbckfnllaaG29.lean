import Derived.Test.YtogahhbckfnllaaG28
import Derived.Test.YtogahhbckfnllaaG01
import Derived.RangeFuncNested
import Derived.RangeFuncBound
import Derived.RangeFuncCalls
import Derived.RangeFuncLeaves
import Derived.Shelf.Abstract
import Derived.WalkKit
import Derived.OwnWalkIn
import Derived.TacticsInMore
import Derived.LoopNIn
import Derived.LoopIn
/- The document's Take and Put. -/
namespace Go.Proofs.Ytogahhbckfnllaa
open Go.RowKit Go.Lib Go.Deep
attribute [local go_sem] store_float f64bits
attribute [local go_sem ↓] Go.wp_at_zero Go.wp_at_succ
variable {w w' : World} {rb place words most : Nat} {lv : Value} {ds : List Tr} {T : Nat → Prop}

theorem five_but (W : World) (z : Nat) (u0 u1 u2 u3 u4 : Value) : But (fun q => q = z) W (((((W.setCell ⟨z, 0, none⟩ u0).setCell ⟨z, 1, none⟩ u1).setCell ⟨z, 2, none⟩ u2).setCell ⟨z, 3, none⟩ u3).setCell ⟨z, 4, none⟩ u4) :=
  (((((But.refl (fun q => q = z) W).setCell (p := ⟨z, 0, none⟩) (fun _ => rfl) _).setCell (p := ⟨z, 1, none⟩) (fun _ => rfl) _).setCell (p := ⟨z, 2, none⟩) (fun _ => rfl) _).setCell (p := ⟨z, 3, none⟩) (fun _ => rfl) _).setCell (p := ⟨z, 4, none⟩) (fun _ => rfl) _
theorem at_five {W : World} {z : Nat} {v0 v1 v2 v3 v4 : Value} (h : At W z [v0, v1, v2, v3, v4]) (u0 u1 u2 u3 u4 : Value) : At (((((W.setCell ⟨z, 0, none⟩ u0).setCell ⟨z, 1, none⟩ u1).setCell ⟨z, 2, none⟩ u2).setCell ⟨z, 3, none⟩ u3).setCell ⟨z, 4, none⟩ u4) z [u0, u1, u2, u3, u4] :=
  ((((h.set (i := 0) (by simp) u0).set (i := 1) (by simp) u1).set (i := 2) (by simp) u2).set (i := 3) (by simp) u3).set (i := 4) (by simp) u4
/-- A function's result that lies in memory of its own. -/
theorem at_results {W : World} {z : Nat} {v0 v1 v2 v3 v4 : Value} (h : At W z [v0, v1, v2, v3, v4]) : W.cell? ⟨z, 0, none⟩ = some v0 ∧ W.cell? ⟨z, 1, none⟩ = some v1 ∧ W.cell? ⟨z, 2, none⟩ = some v2 ∧ W.cell? ⟨z, 3, none⟩ = some v3 ∧ W.cell? ⟨z, 4, none⟩ = some v4 :=
  ⟨(h.1 0 _ rfl).1, (h.1 1 _ rfl).1, (h.1 2 _ rfl).1, (h.1 3 _ rfl).1, (h.1 4 _ rfl).1⟩
/-- What is written into new blocks alone is nothing. -/
theorem But.new {S S' : Nat → Prop} {w W W' : World} (h : But S w W) (hb : But S' W W') (hs : ∀ q, S' q → S q ∨ w.heap.size ≤ q) : But S w W' :=
  ⟨hb.os.trans h.os, hb.tape.trans h.tape, hb.output.trans h.output, Nat.le_trans h.size hb.size, fun q hq hS => (hb.block q (Nat.lt_of_lt_of_le hq h.size) (fun e => (hs q e).elim hS (fun e => by omega))).trans (h.block q hq hS)⟩

set_option maxHeartbeats 400000 in
set_option maxRecDepth 100000 in
theorem ry_take_none (h : RY w rb lv ds 0 words most T) : Calls Try.prog 20 #[.pointer (some ⟨rb, 0, none⟩)] w fun e w' => e = .returned (.tuple #[zV, .int .i64 5]) ∧ Below w.heap.size w w' := by
  obtain ⟨c1, -⟩ := (h.keep (below_new w zT)).box.1 1 _ rfl
  have hbl := h.box.2
  have HBN := hidb (below_new w zT)
  obtain ⟨r0, r1, r2, r3, r4, g0, g1, g2, g3, g4, -⟩ := Box.new w 36 (.int .i64 0) (.int .i64 0) (.float .f64 0) (.string ⟨#[]⟩) (.slice none 0 0)
  clear h
  go_enter Try.func20, Try.ntmps20
  go_wp2_with fail
  exact bodyPost_ret (v := .tuple #[zV, .int .i64 5]) (by simp [results, Try.results20, go_sem, r0, r1, r2, r3, r4]) rfl ⟨rfl, by (repeat (first | exact HBN.out | exact HBN.out.drew | refine Below.setCell ?_ (by simp) _ | refine Below.drew ?_))⟩

set_option maxHeartbeats 1000000 in
set_option maxRecDepth 100000 in
theorem ry_take {i wd : Nat} (h : RY w rb lv ds (i + 1) words most T) {k n : Int} {f : Nat} {s : ByteArray} {a : Option Addr} {c : Nat} {kids : List Tr} (hi : ds[i]? = some (.mk k n f s a c kids)) (hsw : SmallW (.mk k n f s a c kids)) (hwt : wordsT (.mk k n f s a c kids) + 2 = (wd : Int)) (hwd : wd ≤ words) (hmost : words ≤ 1000000000) (hl : ds.length ≤ 1000000) :
    Calls Try.prog 20 #[.pointer (some ⟨rb, 0, none⟩)] w fun e w' => e = .returned (.tuple #[.agg #[.int .i64 k, .int .i64 n, .float .f64 f, .string s, .slice a kids.length c], .int .i64 0]) ∧ ∃ lv', RY w' rb lv' (ds.eraseIdx i) 0 (words - wd) most T ∧ (∀ q, lv'.ownBlock = some q → w.heap.size ≤ q) ∧ But (fun q => q = rb) w w' := by
  obtain ⟨c1, -⟩ := (h.keep (below_new w zT)).box.1 1 _ rfl
  have hbl := h.box.2
  have hpl := (List.getElem?_eq_some_iff.1 hi).1
  have hz : (((i + 1 : Nat) : Int) == 0) = false := by simp; omega
  have hw1 : IntKind.i64.wrap (((i + 1 : Nat) : Int) - 1) = (i : Int) := by rw [IntKind.wrap_i64]; omega
  have HO := hidb (fun W hb => ry_out (w := W) (h.keep hb) hi hsw hwt hwd hmost hl)
  have HH := hidb h
  have HAZ := hidb (At.new w [.int .i64 0, .int .i64 0, .float .f64 0, .string ⟨#[]⟩, .slice none 0 0] 36)
  clear h hi hsw hwt
  generalize hI1 : ((i + 1 : Nat) : Int) = I1 at *
  go_enter Try.func20, Try.ntmps20
  go_wp2_with fail
  refine (HO.out _ (below_new w zT)).mono ?_
  rintro e w2 ⟨rfl, lv', hr2, hf2, hb2⟩
  obtain ⟨d1, j1⟩ := hr2.box.1 1 _ rfl
  have HR2 := hidb hr2
  have HF2 := hidb hf2
  have HB2 := hidb hb2
  have AZ2 := HAZ.out.but hb2 (by show ¬ w.heap.size = rb; omega)
  have HAZ2 := hidb AZ2
  obtain ⟨r0, g0⟩ := AZ2.1 0 _ rfl
  obtain ⟨r1, g1⟩ := AZ2.1 1 _ rfl
  obtain ⟨r2, g2⟩ := AZ2.1 2 _ rfl
  obtain ⟨r3, g3⟩ := AZ2.1 3 _ rfl
  obtain ⟨r4, g4⟩ := AZ2.1 4 _ rfl
  have hlt2 := AZ2.2
  have hbl2 := hr2.box.2
  have hwr : ¬ w.heap.size = rb := by omega
  clear hr2 hf2 hb2 AZ2 HO HAZ
  go_wp2_with fail
  have hP := HR2.out.placed 0
  have hwz : ∀ q, (RS rb lv' q ∨ T q) → q ≠ w.heap.size := fun q hq e => by
    subst e
    rcases hq with (e | e) | e
    · omega
    · have := HF2.out _ e
      simp at this
      omega
    · have := (HH.out.far _ e).1; omega
  have AF := (at_five (HAZ2.out.other (p := ⟨rb, 1, none⟩) (fun e => hwr e.symm) (.int .i64 0)) (.int .i64 k) (.int .i64 n) (.float .f64 f) (.string s) (.slice a kids.length c)).keep (below_new _ (.cells #[.int .i64 k, .int .i64 n, .float .f64 f, .string s, .slice a kids.length c] 36))
  have HFIN : RY _ rb lv' (ds.eraseIdx i) 0 (words - wd) most T ∧ But (fun q => q = rb) w _ := ⟨(hP.but (five_but _ w.heap.size (.int .i64 k) (.int .i64 n) (.float .f64 f) (.string s) (.slice a kids.length c)) (fun q hq => hwz q (.inl hq)) (fun q hq => hwz q (.inr hq))).keep (below_new _ (.cells #[.int .i64 k, .int .i64 n, .float .f64 f, .string s, .slice a kids.length c] 36)),
    ((((But.of_below (S := fun q => q = rb) (below_new w zT)).trans HB2.out).setCell (p := ⟨rb, 1, none⟩) (fun _ => rfl) (.int .i64 0)).new (five_but _ w.heap.size (.int .i64 k) (.int .i64 n) (.float .f64 f) (.string s) (.slice a kids.length c)) (fun q e => .inr (by omega))).alloc (.cells #[.int .i64 k, .int .i64 n, .float .f64 f, .string s, .slice a kids.length c] 36)⟩
  rw [show (((0 : Nat) : Int)) = 0 from rfl] at HFIN
  generalize ((((((w2.setCell ⟨rb, 1, none⟩ (.int .i64 0)).setCell ⟨w.heap.size, 0, none⟩ (.int .i64 k)).setCell ⟨w.heap.size, 1, none⟩ (.int .i64 n)).setCell ⟨w.heap.size, 2, none⟩ (.float .f64 f)).setCell ⟨w.heap.size, 3, none⟩ (.string s)).setCell ⟨w.heap.size, 4, none⟩ (.slice a kids.length c)).alloc (.cells #[.int .i64 k, .int .i64 n, .float .f64 f, .string s, .slice a kids.length c] 36) = WF at AF HFIN ⊢
  obtain ⟨t0, t1, t2, t3, t4⟩ := at_results AF
  exact bodyPost_ret (v := .tuple #[.agg #[.int .i64 k, .int .i64 n, .float .f64 f, .string s, .slice a kids.length c], .int .i64 0]) (by simp [results, Try.results20, go_sem, t0, t1, t2, t3, t4]) rfl ⟨rfl, lv', HFIN.1, fun q hq => by have := HF2.out q hq; simp at this; omega, HFIN.2⟩
end Go.Proofs.Ytogahhbckfnllaa


/- A loop over an iterator that may itself go over another one: what a round keeps, and the law. -/
namespace Go.Proofs.Ytogahhbckfnllaa
open Go.RowKit Go.Shelf

theorem RoundIn.wide {m m' : Nat} {P : Program} {l : Nat} {f : FuncId} {tmps : Array Value} {assign body : Code} {w : World} {R : Ending → World → Prop}
    (h : RoundIn Fence.wide m P l f tmps assign body w R) : RoundIn Fence.wide m' P l f tmps assign body w R := ⟨h.1, fun c cs _ => h.2 c cs (room_wide _)⟩
theorem yieldAt_wide {m : Nat} (m' : Nat) {P : Program} {l : Nat} {args : Array Value} {W : World} {R : Ending → World → Prop} (h : YieldAt Fence.wide m P l args W R) : YieldAt Fence.wide m' P l args W R := by
  obtain ⟨fn, tmps, assign, body, hy, hR⟩ := h
  exact ⟨fn, tmps, assign, body, hy, RoundIn.wide hR⟩

theorem But.putObj {S : Nat → Prop} (W : World) (l : Nat) (o : Obj) (hl : l < W.heap.size → S l) : But S W (W.putObj l o) :=
  ⟨rfl, rfl, rfl, (grownBy_putObj' W l o).size, fun k hk hs => (grownBy_putObj' W l o).block k hk (fun e => hs (by cases e; exact hl hk))⟩

/-- An iterator: whatever body keeps all but blocks of M, and the c blocks that the iterator lays at its beginning, may be handed to it. -/
def SeqO {α : Type} (P : Program) (g : Nat) (lb : Array Value) (encs : α → Array Value) (Ok : α → Prop) (M : Nat → Prop) (c : Nat) (S Sp : List α → Prop) (N : Nat) (w : World) : Prop :=
  ∀ (l : Nat) (J Jx : List α → World → Prop) (W : World), Below w.heap.size w W → OwnFrom W.heap.size J → OwnFrom W.heap.size Jx →
    (∀ pre x W1, Ok x → J pre W1 → pre.length < N → W.heap.size + c ≤ W1.heap.size → YieldAt Fence.wide 0 P l (encs x) W1 fun e W' => But (fun k => M k ∧ (k < W.heap.size ∨ W.heap.size + c ≤ k)) W1 W' ∧
      ((e = .returned (.bool true) ∧ J (pre ++ [x]) W') ∨ (e = .returned (.bool false) ∧ Jx (pre ++ [x]) W'))) →
    J [] W →
    CallsIn Fence.wide 0 P g (#[.func (.yield l) #[] #[]] ++ lb) W fun e W' => (∃ v, e = .returned v) ∧ ((∃ xs, S xs ∧ J xs W') ∨ (∃ pre, Sp pre ∧ Jx pre W'))

/-- How the body of a round may be left. -/
def postO {α : Type} (M : Nat → Prop) (c B : Nat) (I : List α → World → Prop) (Ix : Code → List α → World → Prop) (xs : List α) (W : World) : Exit → Act → World → Prop
  | .normal, _, W' => But (fun k => M k ∧ (k < B ∨ B + 2 + c ≤ k)) W W' ∧ I xs W'
  | .ret, _, W' => But (fun k => M k ∧ (k < B ∨ B + 2 + c ≤ k)) W W' ∧ Ix .ret xs W'
  | .exit id, _, W' => But (fun k => M k ∧ (k < B ∨ B + 2 + c ≤ k)) W W' ∧ Ix (.exit id) xs W'
  | .goto t, _, W' => But (fun k => M k ∧ (k < B ∨ B + 2 + c ≤ k)) W W' ∧ Ix (.goto t) xs W'
  | .panic _, _, _ => False
  | .outgrown, _, _ => False

set_option maxHeartbeats 1000000 in
theorem range_o {α : Type} {P : Program} {g : Operand} {ps : Array Tmp} {assign body : Code} {Q : Exit → Act → World → Prop} {a : Act} {w : World}
    {gf : Nat} {lb : Array Value} (hg : a.eval g = .func (.func gf) #[] lb) (eg : ∀ args w, (callFunc gf args).run P w = .ok (.enter gf args) w)
    {encs : α → Array Value} {Ok : α → Prop} {M : Nat → Prop} {c : Nat} {S Sp : List α → Prop} {N : Nat} {w0 : World} (hseq : SeqO P gf lb encs Ok M c S Sp N w0) (hM : ∀ k, w.heap.size ≤ k → M k) (hb0 : Below w0.heap.size w0 w) (hps : ∀ x, (encs x).size = ps.size)
    (I : List α → World → Prop) (Ix : Code → List α → World → Prop) (hI : OwnFrom w.heap.size I) (hIx : ∀ c, OwnFrom w.heap.size (Ix c)) (h0 : I [] w) (a₁ : α → Act)
    (hassign : ∀ (l : Nat) (x : α) (W : World) (K : Act → World → Prop), K (a₁ x) W →
      assign.wpIn (Fence.wide.inRound l) 0 P (Exit.then K (fun _ _ _ => False)) { tmps := (ps.zip (encs x)).foldl (fun t (p, v) => t.setIfInBounds p v) a.tmps, defers := [] } W)
    (hbody : ∀ (l : Nat) (pre : List α) (x : α) (W : World), Ok x → I pre W → pre.length < N → w.heap.size + 2 + c ≤ W.heap.size → body.wpIn (Fence.wide.inRound l) 0 P (postO M c w.heap.size I Ix (pre ++ [x]) W) (a₁ x) W)
    (hdone : ∀ (D : Nat) (xs : List α) (W : World), w.heap.size ≤ D → S xs → I xs W → W.heap[D]? = some (.deferred (some [])) → Q .normal { a with defers := { target := .collected D, args := #[] } :: a.defers } W)
    (hstop : ∀ (D : Nat) (c : Code) (pre : List α) (W : World), w.heap.size ≤ D → Sp pre → Ix c pre W → W.heap[D]? = some (.deferred (some [])) → c.wp P Q { a with defers := { target := .collected D, args := #[] } :: a.defers } W) :
    (Code.rangeFunc g ps assign body).wp P Q a w := by
  refine (wpIn_wide (n := 0)).1 (wpIn_rangeFunc ?_)
  intro fn hfn
  rw [Fence.wide_round]
  obtain ⟨rec, hrec⟩ : ∃ rec : LoopState → Option Code → Loop, rec = fun st pe => { state := st, pending := pe, fn, tmps := a.tmps, params := ps, assign, body, defers := w.heap.size } := ⟨_, rfl⟩
  obtain ⟨W1, hW1⟩ : ∃ W1, (w.alloc (.deferred (some []))).alloc (.loop (rec .ready none)) = W1 := ⟨_, rfl⟩
  have hsz : W1.heap.size = w.heap.size + 2 := by rw [← hW1]; simp
  have hL1 : W1.heap[w.heap.size + 1]? = some (.loop (rec .ready none)) := by
    rw [← hW1]; have := World.alloc_heap_new (w.alloc (.deferred (some []))) (.loop (rec .ready none)); rwa [World.size_alloc] at this
  have hK1 : W1.heap[w.heap.size]? = some (.deferred (some [])) := by
    rw [← hW1]; exact (Below.heap_alloc _ _ _ (by simp)).trans (World.alloc_heap_new w _)
  have hI1 : I [] W1 := by rw [← hW1]; exact hI.alloc _ (hI.alloc _ h0)
  have hb1 : Below w0.heap.size w0 W1 := by
    rw [← hW1]; exact hb0.trans ((((Below.refl _ w).alloc (Nat.le_refl _) _).alloc (by simp) _).mono hb0.size)
  refine ⟨w.heap.size + 1, [{ target := .collected w.heap.size, args := #[] }], W1, { target := .fn (.func gf) lb, args := #[.func (.yield (w.heap.size + 1)) #[] #[]] }, W1, gf,
    #[.func (.yield (w.heap.size + 1)) #[] #[]] ++ lb, W1, ?_, ?_, ?_, ?_, (fun h => by cases h), ?_⟩
  · rw [← hW1, hrec]; exact run_enterLoop_outer _ _ _ _ _
  · simp only [resolve, hg]
    simp [go_sem]
  · intro f' hf'; trivial
  · simp [invoke, go_sem, eg]
  · have keep : ∀ {A B : World} {row : Option Nat} {k : Nat} {o : Obj}, A.grownBy B row → (∀ r, row = some r → W1.heap.size ≤ r ∧ ∃ o : Obj, A.heap[r]? = some o ∧ o.isCells = false) → k < w.heap.size + 2 → A.heap[k]? = some o → B.heap[k]? = some o := fun hg' hr hk h =>
      (hg'.block _ (Array.getElem?_eq_some_iff.1 h).1 (fun e => by have := (hr _ e.symm).1; omega)).trans h
    have hnw : ∀ {A : World} {row : Option Nat}, (∀ r, row = some r → W1.heap.size ≤ r ∧ ∃ o : Obj, A.heap[r]? = some o ∧ o.isCells = false) → (∀ r, row = some r → w.heap.size ≤ r ∧ ∃ o : Obj, A.heap[r]? = some o ∧ o.isCells = false) :=
      fun hr r e => ⟨by have := (hr r e).1; omega, (hr r e).2⟩
    refine (hseq (w.heap.size + 1)
      (fun pre W => I pre W ∧ W.heap[w.heap.size + 1]? = some (.loop (rec .ready none)) ∧ W.heap[w.heap.size]? = some (.deferred (some [])))
      (fun pre W => ∃ c, Ix c pre W ∧ W.heap[w.heap.size + 1]? = some (.loop (rec .done (some c))) ∧ W.heap[w.heap.size]? = some (.deferred (some [])))
      W1 hb1
      (fun s A B row hs hg' hr => ⟨hI s A B row hs.1 hg' (hnw hr), keep hg' hr (by omega) hs.2.1, keep hg' hr (by omega) hs.2.2⟩)
      (fun s A B row hs hg' hr => by
        obtain ⟨c, hc, hl, hk⟩ := hs
        exact ⟨c, hIx c s A B row hc hg' (hnw hr), keep hg' hr (by omega) hl, keep hg' hr (by omega) hk⟩)
      ?_ ⟨hI1, hL1, hK1⟩).mono ?_
    · -- one round
      rintro pre x W hok ⟨hi, hl, hk⟩ hlen hszW
      have hlt : w.heap.size + 1 < W.heap.size := (Array.getElem?_eq_some_iff.1 hl).1
      have hy := run_yield (P := P) (args := encs x) hl (by rw [hrec]; exact hps x)
      rw [hrec] at hy
      refine ⟨fn, _, assign, body, hy, roundIn_of_wpIn hfn (hassign _ x W _ ⟨_, run_beginRound hl (by rw [hrec]), ?_⟩)⟩
      have hl2 : (W.putObj (w.heap.size + 1) (.loop { rec .ready none with state := .busy })).heap[w.heap.size + 1]? = some (.loop { rec .ready none with state := .busy }) := World.putObj_heap_same hlt
      have hk2 : (W.putObj (w.heap.size + 1) (.loop { rec .ready none with state := .busy })).heap[w.heap.size]? = some (.deferred (some [])) := (World.putObj_heap_other (by omega)).trans hk
      have hw2 : But (fun k => M k ∧ (k < W1.heap.size ∨ W1.heap.size + c ≤ k)) W (W.putObj (w.heap.size + 1) (.loop { rec .ready none with state := .busy })) := But.putObj _ _ _ (fun _ => ⟨hM _ (by omega), by omega⟩)
      refine wpIn_mono (hbody _ pre x _ hok (hI.putObj _ hi (by omega) hl rfl) hlen (Nat.le_trans (by omega) (grownBy_putObj' W _ _).size)) ?_
      have fin : ∀ (jump : Option Code) (W3 : World), But (fun k => M k ∧ (k < w.heap.size ∨ w.heap.size + 2 + c ≤ k)) (W.putObj (w.heap.size + 1) (.loop { rec .ready none with state := .busy })) W3 →
          (Instr.endRound (w.heap.size + 1) jump).run P W3 = .ok (.bool jump.isNone) (W3.putObj (w.heap.size + 1) (.loop (rec (if jump.isNone then .ready else .done) jump))) ∧
          W3.heap[w.heap.size + 1]? = some (.loop { rec .ready none with state := .busy }) ∧
          (W3.putObj (w.heap.size + 1) (.loop (rec (if jump.isNone then .ready else .done) jump))).heap[w.heap.size + 1]? = some (.loop (rec (if jump.isNone then .ready else .done) jump)) ∧
          (W3.putObj (w.heap.size + 1) (.loop (rec (if jump.isNone then .ready else .done) jump))).heap[w.heap.size]? = some (.deferred (some [])) ∧
          But (fun k => M k ∧ (k < W1.heap.size ∨ W1.heap.size + c ≤ k)) W (W3.putObj (w.heap.size + 1) (.loop (rec (if jump.isNone then .ready else .done) jump))) := fun jump W3 hk3 => by
        have hl3 := (hk3.block _ (Array.getElem?_eq_some_iff.1 hl2).1 (by omega)).trans hl2
        have hd3 := (hk3.block _ (Array.getElem?_eq_some_iff.1 hk2).1 (by omega)).trans hk2
        have := run_endRound (P := P) jump hl3
        rw [hrec] at this ⊢
        exact ⟨this, by rw [hrec] at hl3; exact hl3, World.putObj_heap_same (Array.getElem?_eq_some_iff.1 hl3).1, (World.putObj_heap_other (by omega)).trans hd3, by rw [hrec] at hw2 hk3; exact (hw2.trans (hk3.mono (fun k _ h => ⟨h.1, by have := h.2; omega⟩))).trans (But.putObj _ _ _ (fun _ => ⟨hM _ (by omega), by omega⟩))⟩
      rintro e a3 W3 hp
      cases e with
      | normal =>
        obtain ⟨hk3, hi3⟩ := hp
        obtain ⟨hr, hl3, hl4, hk4, hb4⟩ := fin none W3 hk3
        exact ⟨_, _, hr, hb4, .inl ⟨rfl, hI.putObj _ hi3 (by omega) hl3 rfl, hl4, hk4⟩⟩
      | ret =>
        obtain ⟨hk3, hi3⟩ := hp
        obtain ⟨hr, hl3, hl4, hk4, hb4⟩ := fin (some .ret) W3 hk3
        exact ⟨_, _, hr, hb4, .inr ⟨rfl, .ret, (hIx _).putObj _ hi3 (by omega) hl3 rfl, hl4, hk4⟩⟩
      | exit id =>
        obtain ⟨hk3, hi3⟩ := hp
        obtain ⟨hr, hl3, hl4, hk4, hb4⟩ := fin (some (.exit id)) W3 hk3
        exact ⟨_, _, hr, hb4, .inr ⟨rfl, .exit id, (hIx _).putObj _ hi3 (by omega) hl3 rfl, hl4, hk4⟩⟩
      | goto t =>
        obtain ⟨hk3, hi3⟩ := hp
        obtain ⟨hr, hl3, hl4, hk4, hb4⟩ := fin (some (.goto t)) W3 hk3
        exact ⟨_, _, hr, hb4, .inr ⟨rfl, .goto t, (hIx _).putObj _ hi3 (by omega) hl3 rfl, hl4, hk4⟩⟩
      | panic ch => exact hp.elim
      | outgrown => exact hp.elim
    · -- behind the iterator
      rintro e W2 ⟨⟨v, rfl⟩, (⟨xs, hS, hi, hl, hk⟩ | ⟨pre, hSp, c, hi, hl, hk⟩)⟩
      · exact ⟨none, _, by have := run_endLoop (P := P) hl (by rw [hrec]; simp); rw [hrec] at this; exact this, hdone _ xs _ (Nat.le_refl _) hS (hI.putObj _ hi (by omega) hl rfl) ((World.putObj_heap_other (by omega)).trans hk)⟩
      · exact ⟨some c, _, by have := run_endLoop (P := P) hl (by rw [hrec]; simp); rw [hrec] at this; exact this, wpIn_wide.2 (hstop _ c pre _ (Nat.le_refl _) hSp ((hIx c).putObj _ hi (by omega) hl rfl) ((World.putObj_heap_other (by omega)).trans hk))⟩

set_option maxHeartbeats 1000000 in
theorem range_p {α : Type} {P : Program} {g : Operand} {ps : Array Tmp} {assign body : Code} {Q : Exit → Act → World → Prop} {a : Act} {w : World}
    {gf : Nat} {lb : Array Value} (hg : a.eval g = .func (.func gf) #[] lb) (eg : ∀ args w, (callFunc gf args).run P w = .ok (.enter gf args) w)
    {encs : α → Array Value} {Ok : α → Prop} {M : Nat → Prop} {c : Nat} {S Sp : List α → Prop} {N : Nat} {w0 : World} (hseq : SeqO P gf lb encs Ok M c S Sp N w0) (hM : ∀ k, w.heap.size ≤ k → M k) (hb0 : Below w0.heap.size w0 w) (hps : ∀ x, (encs x).size = ps.size)
    (I : List α → World → Prop) (Ix : Code → List α → World → Prop) (hI : OwnFrom w.heap.size I) (hIx : ∀ c, OwnFrom w.heap.size (Ix c)) (h0 : I [] w)
    (hround : ∀ (l : Nat) (pre : List α) (x : α) (W : World), Ok x → pre.length < N →
      assign.wpIn (Fence.wide.inRound l) 0 P (Exit.then (fun a' W' => W' = W ∧ ∀ W1, I pre W1 → w.heap.size + 2 + c ≤ W1.heap.size → body.wpIn (Fence.wide.inRound l) 0 P (postO M c w.heap.size I Ix (pre ++ [x]) W1) a' W1) (fun _ _ _ => False)) { tmps := (ps.zip (encs x)).foldl (fun t (p, v) => t.setIfInBounds p v) a.tmps, defers := [] } W)
    (hdone : ∀ (D : Nat) (xs : List α) (W : World), w.heap.size ≤ D → S xs → I xs W → W.heap[D]? = some (.deferred (some [])) → Q .normal { a with defers := { target := .collected D, args := #[] } :: a.defers } W)
    (hstop : ∀ (D : Nat) (c : Code) (pre : List α) (W : World), w.heap.size ≤ D → Sp pre → Ix c pre W → W.heap[D]? = some (.deferred (some [])) → c.wp P Q { a with defers := { target := .collected D, args := #[] } :: a.defers } W) :
    (Code.rangeFunc g ps assign body).wp P Q a w := by
  refine (wpIn_wide (n := 0)).1 (wpIn_rangeFunc ?_)
  intro fn hfn
  rw [Fence.wide_round]
  obtain ⟨rec, hrec⟩ : ∃ rec : LoopState → Option Code → Loop, rec = fun st pe => { state := st, pending := pe, fn, tmps := a.tmps, params := ps, assign, body, defers := w.heap.size } := ⟨_, rfl⟩
  obtain ⟨W1, hW1⟩ : ∃ W1, (w.alloc (.deferred (some []))).alloc (.loop (rec .ready none)) = W1 := ⟨_, rfl⟩
  have hsz : W1.heap.size = w.heap.size + 2 := by rw [← hW1]; simp
  have hL1 : W1.heap[w.heap.size + 1]? = some (.loop (rec .ready none)) := by
    rw [← hW1]; have := World.alloc_heap_new (w.alloc (.deferred (some []))) (.loop (rec .ready none)); rwa [World.size_alloc] at this
  have hK1 : W1.heap[w.heap.size]? = some (.deferred (some [])) := by
    rw [← hW1]; exact (Below.heap_alloc _ _ _ (by simp)).trans (World.alloc_heap_new w _)
  have hI1 : I [] W1 := by rw [← hW1]; exact hI.alloc _ (hI.alloc _ h0)
  have hb1 : Below w0.heap.size w0 W1 := by
    rw [← hW1]; exact hb0.trans ((((Below.refl _ w).alloc (Nat.le_refl _) _).alloc (by simp) _).mono hb0.size)
  refine ⟨w.heap.size + 1, [{ target := .collected w.heap.size, args := #[] }], W1, { target := .fn (.func gf) lb, args := #[.func (.yield (w.heap.size + 1)) #[] #[]] }, W1, gf,
    #[.func (.yield (w.heap.size + 1)) #[] #[]] ++ lb, W1, ?_, ?_, ?_, ?_, (fun h => by cases h), ?_⟩
  · rw [← hW1, hrec]; exact run_enterLoop_outer _ _ _ _ _
  · simp only [resolve, hg]
    simp [go_sem]
  · intro f' hf'; trivial
  · simp [invoke, go_sem, eg]
  · have keep : ∀ {A B : World} {row : Option Nat} {k : Nat} {o : Obj}, A.grownBy B row → (∀ r, row = some r → W1.heap.size ≤ r ∧ ∃ o : Obj, A.heap[r]? = some o ∧ o.isCells = false) → k < w.heap.size + 2 → A.heap[k]? = some o → B.heap[k]? = some o := fun hg' hr hk h =>
      (hg'.block _ (Array.getElem?_eq_some_iff.1 h).1 (fun e => by have := (hr _ e.symm).1; omega)).trans h
    have hnw : ∀ {A : World} {row : Option Nat}, (∀ r, row = some r → W1.heap.size ≤ r ∧ ∃ o : Obj, A.heap[r]? = some o ∧ o.isCells = false) → (∀ r, row = some r → w.heap.size ≤ r ∧ ∃ o : Obj, A.heap[r]? = some o ∧ o.isCells = false) :=
      fun hr r e => ⟨by have := (hr r e).1; omega, (hr r e).2⟩
    refine (hseq (w.heap.size + 1)
      (fun pre W => I pre W ∧ W.heap[w.heap.size + 1]? = some (.loop (rec .ready none)) ∧ W.heap[w.heap.size]? = some (.deferred (some [])))
      (fun pre W => ∃ c, Ix c pre W ∧ W.heap[w.heap.size + 1]? = some (.loop (rec .done (some c))) ∧ W.heap[w.heap.size]? = some (.deferred (some [])))
      W1 hb1
      (fun s A B row hs hg' hr => ⟨hI s A B row hs.1 hg' (hnw hr), keep hg' hr (by omega) hs.2.1, keep hg' hr (by omega) hs.2.2⟩)
      (fun s A B row hs hg' hr => by
        obtain ⟨c, hc, hl, hk⟩ := hs
        exact ⟨c, hIx c s A B row hc hg' (hnw hr), keep hg' hr (by omega) hl, keep hg' hr (by omega) hk⟩)
      ?_ ⟨hI1, hL1, hK1⟩).mono ?_
    · -- one round
      rintro pre x W hok ⟨hi, hl, hk⟩ hlen hszW
      have hlt : w.heap.size + 1 < W.heap.size := (Array.getElem?_eq_some_iff.1 hl).1
      have hy := run_yield (P := P) (args := encs x) hl (by rw [hrec]; exact hps x)
      rw [hrec] at hy
      refine ⟨fn, _, assign, body, hy, roundIn_of_wpIn hfn (wpIn_mono (hround _ pre x W hok hlen) ?_)⟩
      rintro e0 a₁ W₀ hx0
      cases e0 with
      | ret => exact hx0.elim
      | exit id => exact hx0.elim
      | goto t => exact hx0.elim
      | panic _ => exact hx0.elim
      | outgrown => exact hx0.elim
      | normal =>
      have hbody := hx0.2
      rw [show W₀ = W from hx0.1]
      refine ⟨_, run_beginRound hl (by rw [hrec]), ?_⟩
      have hl2 : (W.putObj (w.heap.size + 1) (.loop { rec .ready none with state := .busy })).heap[w.heap.size + 1]? = some (.loop { rec .ready none with state := .busy }) := World.putObj_heap_same hlt
      have hk2 : (W.putObj (w.heap.size + 1) (.loop { rec .ready none with state := .busy })).heap[w.heap.size]? = some (.deferred (some [])) := (World.putObj_heap_other (by omega)).trans hk
      have hw2 : But (fun k => M k ∧ (k < W1.heap.size ∨ W1.heap.size + c ≤ k)) W (W.putObj (w.heap.size + 1) (.loop { rec .ready none with state := .busy })) := But.putObj _ _ _ (fun _ => ⟨hM _ (by omega), by omega⟩)
      refine wpIn_mono (hbody _ (hI.putObj _ hi (by omega) hl rfl) (Nat.le_trans (by omega) (grownBy_putObj' W _ _).size)) ?_
      have fin : ∀ (jump : Option Code) (W3 : World), But (fun k => M k ∧ (k < w.heap.size ∨ w.heap.size + 2 + c ≤ k)) (W.putObj (w.heap.size + 1) (.loop { rec .ready none with state := .busy })) W3 →
          (Instr.endRound (w.heap.size + 1) jump).run P W3 = .ok (.bool jump.isNone) (W3.putObj (w.heap.size + 1) (.loop (rec (if jump.isNone then .ready else .done) jump))) ∧
          W3.heap[w.heap.size + 1]? = some (.loop { rec .ready none with state := .busy }) ∧
          (W3.putObj (w.heap.size + 1) (.loop (rec (if jump.isNone then .ready else .done) jump))).heap[w.heap.size + 1]? = some (.loop (rec (if jump.isNone then .ready else .done) jump)) ∧
          (W3.putObj (w.heap.size + 1) (.loop (rec (if jump.isNone then .ready else .done) jump))).heap[w.heap.size]? = some (.deferred (some [])) ∧
          But (fun k => M k ∧ (k < W1.heap.size ∨ W1.heap.size + c ≤ k)) W (W3.putObj (w.heap.size + 1) (.loop (rec (if jump.isNone then .ready else .done) jump))) := fun jump W3 hk3 => by
        have hl3 := (hk3.block _ (Array.getElem?_eq_some_iff.1 hl2).1 (by omega)).trans hl2
        have hd3 := (hk3.block _ (Array.getElem?_eq_some_iff.1 hk2).1 (by omega)).trans hk2
        have := run_endRound (P := P) jump hl3
        rw [hrec] at this ⊢
        exact ⟨this, by rw [hrec] at hl3; exact hl3, World.putObj_heap_same (Array.getElem?_eq_some_iff.1 hl3).1, (World.putObj_heap_other (by omega)).trans hd3, by rw [hrec] at hw2 hk3; exact (hw2.trans (hk3.mono (fun k _ h => ⟨h.1, by have := h.2; omega⟩))).trans (But.putObj _ _ _ (fun _ => ⟨hM _ (by omega), by omega⟩))⟩
      rintro e a3 W3 hp
      cases e with
      | normal =>
        obtain ⟨hk3, hi3⟩ := hp
        obtain ⟨hr, hl3, hl4, hk4, hb4⟩ := fin none W3 hk3
        exact ⟨_, _, hr, hb4, .inl ⟨rfl, hI.putObj _ hi3 (by omega) hl3 rfl, hl4, hk4⟩⟩
      | ret =>
        obtain ⟨hk3, hi3⟩ := hp
        obtain ⟨hr, hl3, hl4, hk4, hb4⟩ := fin (some .ret) W3 hk3
        exact ⟨_, _, hr, hb4, .inr ⟨rfl, .ret, (hIx _).putObj _ hi3 (by omega) hl3 rfl, hl4, hk4⟩⟩
      | exit id =>
        obtain ⟨hk3, hi3⟩ := hp
        obtain ⟨hr, hl3, hl4, hk4, hb4⟩ := fin (some (.exit id)) W3 hk3
        exact ⟨_, _, hr, hb4, .inr ⟨rfl, .exit id, (hIx _).putObj _ hi3 (by omega) hl3 rfl, hl4, hk4⟩⟩
      | goto t =>
        obtain ⟨hk3, hi3⟩ := hp
        obtain ⟨hr, hl3, hl4, hk4, hb4⟩ := fin (some (.goto t)) W3 hk3
        exact ⟨_, _, hr, hb4, .inr ⟨rfl, .goto t, (hIx _).putObj _ hi3 (by omega) hl3 rfl, hl4, hk4⟩⟩
      | panic ch => exact hp.elim
      | outgrown => exact hp.elim
    · -- behind the iterator
      rintro e W2 ⟨⟨v, rfl⟩, (⟨xs, hS, hi, hl, hk⟩ | ⟨pre, hSp, c, hi, hl, hk⟩)⟩
      · exact ⟨none, _, by have := run_endLoop (P := P) hl (by rw [hrec]; simp); rw [hrec] at this; exact this, hdone _ xs _ (Nat.le_refl _) hS (hI.putObj _ hi (by omega) hl rfl) ((World.putObj_heap_other (by omega)).trans hk)⟩
      · exact ⟨some c, _, by have := run_endLoop (P := P) hl (by rw [hrec]; simp); rw [hrec] at this; exact this, wpIn_wide.2 (hstop _ c pre _ (Nat.le_refl _) hSp ((hIx c).putObj _ hi (by omega) hl rfl) ((World.putObj_heap_other (by omega)).trans hk))⟩

end Go.Proofs.Ytogahhbckfnllaa


