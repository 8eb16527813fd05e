import Derived.Test.YtceigdeoefhcfaaGreatG04
import Derived.Test.YtceigdeoefhcfaaGreatG11
import Derived.Test.YtceigdeoefhcfaaGreatG07
import Derived.OwnWalkIn
import Derived.Laws.MakeOwn
/- A loop over an iterator whose variable lies in memory: the law (range_p, where the assignment lays memory). -/
namespace Go.Proofs.YtceigdeoefhcfaaGreat
open Go.RowKit Go.Shelf

set_option maxHeartbeats 1000000 in
theorem range_q {α : Type} {P : Program} {g : Operand} {ps : Array Tmp} {assign body : Code} {Q : Exit → Act → World → Prop} {a : Act} {w : World}
    {gf : Nat} {lb : Array Value} (hg : a.eval g = .func (.func gf) #[] lb) (eg : ∀ args w, (callFunc gf args).run P w = .ok (.enter gf args) w)
    {encs : α → Array Value} {Ok : α → Prop} {M : Nat → Prop} {c : Nat} {S Sp : List α → Prop} {N : Nat} {w0 : World} (hseq : SeqO P gf lb encs Ok M c S Sp N w0) (hM : ∀ k, w.heap.size ≤ k → M k) (hb0 : Below w0.heap.size w0 w) (hps : ∀ x, (encs x).size = ps.size)
    (I : List α → World → Prop) (Ix : Code → List α → World → Prop) (hI : OwnFrom w.heap.size I) (hIx : ∀ c, OwnFrom w.heap.size (Ix c)) (h0 : I [] w) (H : List α × α × Act → World → Prop) (hH : OwnFrom w.heap.size H)
    (hround : ∀ (l : Nat) (pre : List α) (x : α) (W : World), Ok x → pre.length < N → I pre W → w.heap.size + 2 + c ≤ W.heap.size →
      assign.wpIn (Fence.wide.inRound l) 0 P (Exit.then (fun a' W' => Below W.heap.size W W' ∧ H (pre, x, a') W' ∧ ∀ W1, H (pre, x, a') W1 → w.heap.size + 2 + c ≤ W1.heap.size → body.wpIn (Fence.wide.inRound l) 0 P (postO M c w.heap.size I Ix (pre ++ [x]) W1) a' W1) (fun _ _ _ => False)) { tmps := (ps.zip (encs x)).foldl (fun t (p, v) => t.setIfInBounds p v) a.tmps, defers := [] } W)
    (hdone : ∀ (D : Nat) (xs : List α) (W : World), w.heap.size ≤ D → S xs → I xs W → W.heap[D]? = some (.deferred (some [])) → Q .normal { a with defers := { target := .collected D, args := #[] } :: a.defers } W)
    (hstop : ∀ (D : Nat) (c : Code) (pre : List α) (W : World), w.heap.size ≤ D → Sp pre → Ix c pre W → W.heap[D]? = some (.deferred (some [])) → c.wp P Q { a with defers := { target := .collected D, args := #[] } :: a.defers } W) :
    (Code.rangeFunc g ps assign body).wp P Q a w := by
  refine (wpIn_wide (n := 0)).1 (wpIn_rangeFunc ?_)
  intro fn hfn
  rw [Fence.wide_round]
  obtain ⟨rec, hrec⟩ : ∃ rec : LoopState → Option Code → Loop, rec = fun st pe => { state := st, pending := pe, fn, tmps := a.tmps, params := ps, assign, body, defers := w.heap.size } := ⟨_, rfl⟩
  obtain ⟨W1, hW1⟩ : ∃ W1, (w.alloc (.deferred (some []))).alloc (.loop (rec .ready none)) = W1 := ⟨_, rfl⟩
  have hsz : W1.heap.size = w.heap.size + 2 := by rw [← hW1]; simp
  have hL1 : W1.heap[w.heap.size + 1]? = some (.loop (rec .ready none)) := by
    rw [← hW1]; have := World.alloc_heap_new (w.alloc (.deferred (some []))) (.loop (rec .ready none)); rwa [World.size_alloc] at this
  have hK1 : W1.heap[w.heap.size]? = some (.deferred (some [])) := by
    rw [← hW1]; exact (Below.heap_alloc _ _ _ (by simp)).trans (World.alloc_heap_new w _)
  have hI1 : I [] W1 := by rw [← hW1]; exact hI.alloc _ (hI.alloc _ h0)
  have hb1 : Below w0.heap.size w0 W1 := by
    rw [← hW1]; exact hb0.trans ((((Below.refl _ w).alloc (Nat.le_refl _) _).alloc (by simp) _).mono hb0.size)
  refine ⟨w.heap.size + 1, [{ target := .collected w.heap.size, args := #[] }], W1, { target := .fn (.func gf) lb, args := #[.func (.yield (w.heap.size + 1)) #[] #[]] }, W1, gf,
    #[.func (.yield (w.heap.size + 1)) #[] #[]] ++ lb, W1, ?_, ?_, ?_, ?_, (fun h => by cases h), ?_⟩
  · rw [← hW1, hrec]; exact run_enterLoop_outer _ _ _ _ _
  · simp only [resolve, hg]
    simp [go_sem]
  · intro f' hf'; trivial
  · simp [invoke, go_sem, eg]
  · have keep : ∀ {A B : World} {row : Option Nat} {k : Nat} {o : Obj}, A.grownBy B row → (∀ r, row = some r → W1.heap.size ≤ r ∧ ∃ o : Obj, A.heap[r]? = some o ∧ o.isCells = false) → k < w.heap.size + 2 → A.heap[k]? = some o → B.heap[k]? = some o := fun hg' hr hk h =>
      (hg'.block _ (Array.getElem?_eq_some_iff.1 h).1 (fun e => by have := (hr _ e.symm).1; omega)).trans h
    have hnw : ∀ {A : World} {row : Option Nat}, (∀ r, row = some r → W1.heap.size ≤ r ∧ ∃ o : Obj, A.heap[r]? = some o ∧ o.isCells = false) → (∀ r, row = some r → w.heap.size ≤ r ∧ ∃ o : Obj, A.heap[r]? = some o ∧ o.isCells = false) :=
      fun hr r e => ⟨by have := (hr r e).1; omega, (hr r e).2⟩
    refine (hseq (w.heap.size + 1)
      (fun pre W => I pre W ∧ W.heap[w.heap.size + 1]? = some (.loop (rec .ready none)) ∧ W.heap[w.heap.size]? = some (.deferred (some [])))
      (fun pre W => ∃ c, Ix c pre W ∧ W.heap[w.heap.size + 1]? = some (.loop (rec .done (some c))) ∧ W.heap[w.heap.size]? = some (.deferred (some [])))
      W1 hb1
      (fun s A B row hs hg' hr => ⟨hI s A B row hs.1 hg' (hnw hr), keep hg' hr (by omega) hs.2.1, keep hg' hr (by omega) hs.2.2⟩)
      (fun s A B row hs hg' hr => by
        obtain ⟨c, hc, hl, hk⟩ := hs
        exact ⟨c, hIx c s A B row hc hg' (hnw hr), keep hg' hr (by omega) hl, keep hg' hr (by omega) hk⟩)
      ?_ ⟨hI1, hL1, hK1⟩).mono ?_
    · -- one round
      rintro pre x W hok ⟨hi, hl, hk⟩ hlen hszW
      have hlt : w.heap.size + 1 < W.heap.size := (Array.getElem?_eq_some_iff.1 hl).1
      have hy := run_yield (P := P) (args := encs x) hl (by rw [hrec]; exact hps x)
      rw [hrec] at hy
      refine ⟨fn, _, assign, body, hy, roundIn_of_wpIn hfn (wpIn_mono (hround _ pre x W hok hlen hi (by omega)) ?_)⟩
      rintro e0 a₁ W₀ hx0
      cases e0 with
      | ret => exact hx0.elim
      | exit id => exact hx0.elim
      | goto t => exact hx0.elim
      | panic _ => exact hx0.elim
      | outgrown => exact hx0.elim
      | normal =>
      obtain ⟨hb0', hh, hbody⟩ := hx0
      have hlA : W₀.heap[w.heap.size + 1]? = some (.loop (rec .ready none)) := ((But.of_below (S := fun _ => False) hb0').block _ hlt id).trans hl
      have hkA : W₀.heap[w.heap.size]? = some (.deferred (some [])) := ((But.of_below (S := fun _ => False) hb0').block _ (by omega) id).trans hk
      have hltA : w.heap.size + 1 < W₀.heap.size := (Array.getElem?_eq_some_iff.1 hlA).1
      refine ⟨_, run_beginRound hlA (by rw [hrec]), ?_⟩
      have hl2 : (W₀.putObj (w.heap.size + 1) (.loop { rec .ready none with state := .busy })).heap[w.heap.size + 1]? = some (.loop { rec .ready none with state := .busy }) := World.putObj_heap_same hltA
      have hk2 : (W₀.putObj (w.heap.size + 1) (.loop { rec .ready none with state := .busy })).heap[w.heap.size]? = some (.deferred (some [])) := (World.putObj_heap_other (by omega)).trans hkA
      have hw2 : But (fun k => M k ∧ (k < W1.heap.size ∨ W1.heap.size + c ≤ k)) W (W₀.putObj (w.heap.size + 1) (.loop { rec .ready none with state := .busy })) := (But.of_below hb0').trans (But.putObj _ _ _ (fun _ => ⟨hM _ (by omega), by omega⟩))
      have hszA := hb0'.size
      refine wpIn_mono (hbody _ (hH.putObj _ hh (by omega) hlA rfl) (Nat.le_trans (by omega) (grownBy_putObj' W₀ _ _).size)) ?_
      have fin : ∀ (jump : Option Code) (W3 : World), But (fun k => M k ∧ (k < w.heap.size ∨ w.heap.size + 2 + c ≤ k)) (W₀.putObj (w.heap.size + 1) (.loop { rec .ready none with state := .busy })) W3 →
          (Instr.endRound (w.heap.size + 1) jump).run P W3 = .ok (.bool jump.isNone) (W3.putObj (w.heap.size + 1) (.loop (rec (if jump.isNone then .ready else .done) jump))) ∧
          W3.heap[w.heap.size + 1]? = some (.loop { rec .ready none with state := .busy }) ∧
          (W3.putObj (w.heap.size + 1) (.loop (rec (if jump.isNone then .ready else .done) jump))).heap[w.heap.size + 1]? = some (.loop (rec (if jump.isNone then .ready else .done) jump)) ∧
          (W3.putObj (w.heap.size + 1) (.loop (rec (if jump.isNone then .ready else .done) jump))).heap[w.heap.size]? = some (.deferred (some [])) ∧
          But (fun k => M k ∧ (k < W1.heap.size ∨ W1.heap.size + c ≤ k)) W (W3.putObj (w.heap.size + 1) (.loop (rec (if jump.isNone then .ready else .done) jump))) := fun jump W3 hk3 => by
        have hl3 := (hk3.block _ (Array.getElem?_eq_some_iff.1 hl2).1 (by omega)).trans hl2
        have hd3 := (hk3.block _ (Array.getElem?_eq_some_iff.1 hk2).1 (by omega)).trans hk2
        have := run_endRound (P := P) jump hl3
        rw [hrec] at this ⊢
        exact ⟨this, by rw [hrec] at hl3; exact hl3, World.putObj_heap_same (Array.getElem?_eq_some_iff.1 hl3).1, (World.putObj_heap_other (by omega)).trans hd3, by rw [hrec] at hw2 hk3; exact (hw2.trans (hk3.mono (fun k _ h => ⟨h.1, by have := h.2; omega⟩))).trans (But.putObj _ _ _ (fun _ => ⟨hM _ (by omega), by omega⟩))⟩
      rintro e a3 W3 hp
      cases e with
      | normal =>
        obtain ⟨hk3, hi3⟩ := hp
        obtain ⟨hr, hl3, hl4, hk4, hb4⟩ := fin none W3 hk3
        exact ⟨_, _, hr, hb4, .inl ⟨rfl, hI.putObj _ hi3 (by omega) hl3 rfl, hl4, hk4⟩⟩
      | ret =>
        obtain ⟨hk3, hi3⟩ := hp
        obtain ⟨hr, hl3, hl4, hk4, hb4⟩ := fin (some .ret) W3 hk3
        exact ⟨_, _, hr, hb4, .inr ⟨rfl, .ret, (hIx _).putObj _ hi3 (by omega) hl3 rfl, hl4, hk4⟩⟩
      | exit id =>
        obtain ⟨hk3, hi3⟩ := hp
        obtain ⟨hr, hl3, hl4, hk4, hb4⟩ := fin (some (.exit id)) W3 hk3
        exact ⟨_, _, hr, hb4, .inr ⟨rfl, .exit id, (hIx _).putObj _ hi3 (by omega) hl3 rfl, hl4, hk4⟩⟩
      | goto t =>
        obtain ⟨hk3, hi3⟩ := hp
        obtain ⟨hr, hl3, hl4, hk4, hb4⟩ := fin (some (.goto t)) W3 hk3
        exact ⟨_, _, hr, hb4, .inr ⟨rfl, .goto t, (hIx _).putObj _ hi3 (by omega) hl3 rfl, hl4, hk4⟩⟩
      | panic ch => exact hp.elim
      | outgrown => exact hp.elim
    · -- behind the iterator
      rintro e W2 ⟨⟨v, rfl⟩, (⟨xs, hS, hi, hl, hk⟩ | ⟨pre, hSp, c, hi, hl, hk⟩)⟩
      · exact ⟨none, _, by have := run_endLoop (P := P) hl (by rw [hrec]; simp); rw [hrec] at this; exact this, hdone _ xs _ (Nat.le_refl _) hS (hI.putObj _ hi (by omega) hl rfl) ((World.putObj_heap_other (by omega)).trans hk)⟩
      · exact ⟨some c, _, by have := run_endLoop (P := P) hl (by rw [hrec]; simp); rw [hrec] at this; exact this, wpIn_wide.2 (hstop _ c pre _ (Nat.le_refl _) hSp ((hIx c).putObj _ hi (by omega) hl rfl) ((World.putObj_heap_other (by omega)).trans hk))⟩


end Go.Proofs.YtceigdeoefhcfaaGreat


/- Halves of monitors: all, Origins, Targets. -/
namespace Go.Proofs.YtceigdeoefhcfaaGreat
open Go.RowKit Go.Shelf
namespace MV
attribute [local go_sem] Oper.semAt_some

theorem OwnFrom.row {β : Type} {B C e size : Nat} (n : β → Nat) (v : β → Value) (f : β → List Value) : OwnFrom B (fun s W => W.ownsRow C e size (v s) (n s) (f s)) := by
  intro s A X row hs hg hr
  refine hs.kept hg ?_
  rcases hs.2 with ⟨hv, _⟩ | ⟨g, cap, cur, hv, _, hgg, _⟩
  · left; rw [hv]; rfl
  · right
    intro e
    rw [hv] at e
    obtain ⟨_, o, ho, hc⟩ := hr g (by rw [← e]; rfl)
    rw [hgg] at ho; cases ho; cases hc

theorem infoM0 : ∃ i0, Tryz.prog.info? MnT = some i0 ∧ i0.zero = some (.agg #[.int .i64 0, .int .i64 0, .string ⟨#[]⟩]) ∧ i0.size = 3 ∧ i0.bytes = 32 := info_parts (show (Tryz.prog.info? MnT).map (fun i => (i.zero, i.size, i.bytes)) = some (some (.agg #[.int .i64 0, .int .i64 0, .string ⟨#[]⟩]), 3, 32) by kernel_rfl)

set_option maxRecDepth 100000 in
set_option maxHeartbeats 8000000 in
theorem hall_any {w : World} {tb o : Nat} {D : Nat → Prop} {L : List KV} (h : TB w tb o D L) (hN : L.length ≤ 90000) :
    Calls Tryz.prog 20 #[.pointer (some ⟨tb, o, none⟩)] w fun e w' => ∃ V, e = .returned V ∧ Below w.heap.size w w' ∧ w'.ownsRow w.heap.size MnT 3 V L.length (mvs L) := by
  have HL := hidb (hmany_any h)
  have HT0 := hidb h.cut
  have HN := hidb hN
  obtain ⟨i0, hi0, hz0, hz1, hz2⟩ := infoM0
  have hb32 : i0.bytes * L.length ≤ 281474976710656 := by rw [hz2]; omega
  clear h hN
  refine calls_marks Tryz.func20 rfl ?_
  simp only [Tryz.ntmps20, List.size_toArray, List.length_cons, List.length_nil, Nat.reduceAdd, Nat.reduceSub, Array.replicate_succ, Array.replicate_zero, List.push_toArray, List.append_toArray, List.nil_append, List.cons_append]
  go_wp2_with (first
    | (go_at_call 23; refine HL.out.mono ?_; clear HL; rintro e w' ⟨rfl, hww⟩; (have hw2 := hww.symm); clear hww; subst hw2)
    | (at_make; refine wpList_make_own _ rfl _ _ 37 rfl w.heap.size MnT i0 (.agg #[.int .i64 0, .int .i64 0, .string ⟨#[]⟩]) 3 Tryz.underlying37 hi0 hz0 hz1 _ _ _ L.length rfl rfl rfl hb32 (by have := HN.out; unfold maxLen; omega) (Nat.le_refl _) ?_; intro w2 hrow2 hgrow2; have HR2 := hidb hrow2; have HB2 : Hid (Below w.heap.size w w2 ∧ w.heap.size < w2.heap.size) := hidb ⟨(Below.refl _ _).grown hgrow2 (Nat.le_refl _) (fun k e => by cases e), (hrow2.lt w.heap.size rfl).2⟩; clear hrow2 hgrow2; have HTA := hidb (HT0.out.keep (HB2.out.1.alloc HB2.out.1.size (.cells #[.slice (some ⟨w.heap.size, 0, none⟩) 0 L.length] 37))))
    | (go_at_call 31; refine (All_any HTA.out).mono ?_; rintro e w7 ⟨f, rfl, hb7, hq7⟩; have HB7 := hidb hb7; have HQ7 := hidb hq7; clear hb7 hq7))
  obtain ⟨hb2, hs2⟩ := HB2.out
  have hb7 := HB7.out
  have hs7 := hb7.size
  simp only [World.size_alloc] at hs7
  have hbw7 : Below w.heap.size w w7 := (hb2.alloc hb2.size _).trans (hb7.mono (by simp; omega))
  have hsq : SQ w7 (fun k => ¬ (k = w.heap.size ∨ k = w2.heap.size ∨ w7.heap.size ≤ k)) f (-9223372036854775808) L := by
    refine HQ7.out.mono (fun k hk => ?_)
    rcases hk with ⟨h1, h2⟩ | ⟨h1, h2⟩
    · omega
    · simp only [World.size_alloc] at h1; omega
  obtain ⟨lb, rfl, hseq⟩ := seq_o hsq (fun k hk => .inr (.inr hk))
  have g0 : w7.cell? ⟨w2.heap.size, 0, none⟩ = some (.slice (some ⟨w.heap.size, 0, none⟩) 0 L.length) := (hb7.cell (p := ⟨w2.heap.size, 0, none⟩) (by simp)).trans (by simp [go_sem])
  have g2 : w7.frozen? ⟨w2.heap.size, 0, none⟩ = false := (hb7.frozen (p := ⟨w2.heap.size, 0, none⟩) (by simp)).trans (by simp [go_sem])
  have hrow7 : w7.ownsRow w.heap.size MnT 3 (.slice (some ⟨w.heap.size, 0, none⟩) 0 L.length) 0 [] := row_but (row_but HR2.out (But.of_below (S := fun _ => False) (below_new w2 _)) (fun _ _ h => h)) (But.of_below (S := fun _ => False) hb7) (fun _ _ h => h)
  have hflt : L.filter (fun x => decide ((-9223372036854775808 : Int) ≤ x.1)) = L := filter_all (fun x hx => by have := HT0.out.wf x hx; simpa using this)
  have hnl := HN.out
  clear HB7 HQ7 HTA hsq HR2 HB2
  refine range_q (w := w7) (gf := 57) (lb := lb) rfl (enters_of Tryz.func57 (by kernel_rfl) rfl) hseq (fun k hk => .inr (.inr hk)) (Below.refl _ _) (fun _ => rfl)
    (fun pre W => (W.cell? ⟨w2.heap.size, 0, none⟩ = some (.slice (some ⟨w.heap.size, 0, none⟩) pre.length L.length) ∧ W.frozen? ⟨w2.heap.size, 0, none⟩ = false) ∧ W.ownsRow w.heap.size MnT 3 (.slice (some ⟨w.heap.size, 0, none⟩) pre.length L.length) pre.length (mvs pre) ∧ But (fun k => k = w.heap.size ∨ k = w2.heap.size) w7 W)
    (fun _ _ _ => False)
    ?hI ?hIx ⟨⟨g0, g2⟩, hrow7, But.refl _ _⟩
    (fun s W => ∃ B, s.2.2.tmps[5]? = some (.pointer (some ⟨B, 0, none⟩)) ∧ (W.cell? ⟨w2.heap.size, 0, none⟩ = some (.slice (some ⟨w.heap.size, 0, none⟩) s.1.length L.length) ∧ W.frozen? ⟨w2.heap.size, 0, none⟩ = false) ∧ W.ownsRow w.heap.size MnT 3 (.slice (some ⟨w.heap.size, 0, none⟩) s.1.length L.length) s.1.length (mvs s.1) ∧ But (fun k => k = w.heap.size ∨ k = w2.heap.size) w7 W ∧ w7.heap.size + 7 ≤ B ∧ (W.cell? ⟨B, 0, none⟩ = some (.int .i64 s.2.1.2.a) ∧ W.frozen? ⟨B, 0, none⟩ = false) ∧ (W.cell? ⟨B, 1, none⟩ = some (.int .i64 s.2.1.2.b) ∧ W.frozen? ⟨B, 1, none⟩ = false) ∧ (W.cell? ⟨B, 2, none⟩ = some (.string s.2.1.2.c) ∧ W.frozen? ⟨B, 2, none⟩ = false))
    ?hH ?round ?done ?stop
  case hI =>
    rintro pre A B row ⟨h1, h2, h4⟩ hg hr
    exact ⟨OwnFrom.cells _ (fun _ : Unit => (.slice (some ⟨w.heap.size, 0, none⟩) pre.length L.length)) () A B row h1 hg hr, OwnFrom.row (fun _ : Unit => pre.length) (fun _ => (.slice (some ⟨w.heap.size, 0, none⟩) pre.length L.length)) (fun _ => mvs pre) () A B row h2 hg hr, OwnFrom.but (β := Unit) (Nat.le_refl _) () A B row h4 hg hr⟩
  case hIx => exact fun c => ownFrom_pure _ _
  case stop => rintro Dd c pre W hD hp hf hK; exact hf.elim
  case hH =>
    rintro s A B row ⟨bb, h0, h1, h2, h4, h5, h6, h7, h8⟩ hg hr
    exact ⟨bb, h0, OwnFrom.cells _ (fun _ : Unit => (.slice (some ⟨w.heap.size, 0, none⟩) s.1.length L.length)) () A B row h1 hg hr, OwnFrom.row (fun _ : Unit => s.1.length) (fun _ => (.slice (some ⟨w.heap.size, 0, none⟩) s.1.length L.length)) (fun _ => mvs s.1) () A B row h2 hg hr, OwnFrom.but (β := Unit) (Nat.le_refl _) () A B row h4 hg hr, h5, OwnFrom.cells _ (fun _ : Unit => .int .i64 s.2.1.2.a) () A B row h6 hg hr, OwnFrom.cells _ (fun _ : Unit => .int .i64 s.2.1.2.b) () A B row h7 hg hr, OwnFrom.cells _ (fun _ : Unit => .string s.2.1.2.c) () A B row h8 hg hr⟩
  case round =>
    rintro l2 pre ⟨xk, xv⟩ W _ hlen ⟨⟨c1, c2⟩, hrow, hB1⟩ hsz
    gi_wp2
    have hWs := hB1.size
    have hbn := below_new W (.cells #[.int .i64 xv.a, .int .i64 xv.b, .string xv.c] 40)
    have P9 := Tri.new W 40 (.int .i64 xv.a) (.int .i64 xv.b) (.string xv.c)
    refine ⟨hbn, ⟨W.heap.size, rfl, ⟨(hbn.cell (p := ⟨w2.heap.size, 0, none⟩) (show w2.heap.size < W.heap.size by omega)).trans c1, (hbn.frozen (p := ⟨w2.heap.size, 0, none⟩) (show w2.heap.size < W.heap.size by omega)).trans c2⟩, row_but hrow (But.of_below (S := fun _ => False) hbn) (fun _ _ h => h), hB1.trans (But.of_below hbn), by omega, ⟨P9.c0, P9.f0⟩, ⟨P9.c1, P9.f1⟩, ⟨P9.c2, P9.f2⟩⟩, ?_⟩
    clear c1 c2 hrow hB1 P9 hbn hWs
    rintro W1 ⟨B, hB5, ⟨c1, c2⟩, hrow, hB1, hBB, ⟨p0, q0⟩, ⟨p1, q1⟩, ⟨p2, q2⟩⟩ hsz1
    obtain rfl : W.heap.size = B := by simpa using hB5
    have hWs := hB1.size
    have hln : pre.length + 1 ≤ L.length := hlen
    gi_wp2_with (gi_at_builtin; refine wpListIn_append_fits _ rfl _ _ 37 rfl w.heap.size MnT i0 3 Tryz.underlying37 hi0 hz1 w.heap.size pre.length L.length (mvs pre) rfl (hrow.alloc _) ⟨W1.heap.size, 0, none⟩ 1 1 [.int .i64 xv.a, .int .i64 xv.b, .string xv.c] rfl rfl (cell3_new _ _ _ _ _) (by simp [Value.oneCell']) hln ?_; intro w8 hown' hgrow; have k1 := hgrow.cell (a := ⟨w2.heap.size, 0, none⟩) (((below_new W1 _).cell (p := ⟨w2.heap.size, 0, none⟩) (show w2.heap.size < W1.heap.size by omega)).trans c1) (by simp; omega); have k2 := (World.frozen?_of_block (w := W1) (w' := w8) (a := ⟨w2.heap.size, 0, none⟩) ((hgrow.block w2.heap.size (by simp only [World.size_alloc]; omega) (by simp; omega)).trans (Below.heap_alloc _ _ _ (show w2.heap.size < W1.heap.size by omega)))).trans c2)
    have hbg : But (fun k => k = w.heap.size) W1 w8 := ((But.refl (fun k => k = w.heap.size) W1).alloc _).trans (But.of_grown hgrow (fun g e => by simpa using e.symm))
    have hl1 : (pre ++ [(xk, xv)]).length = pre.length + 1 := by simp
    have hv1 : mvs pre ++ [Value.int .i64 xv.a, Value.int .i64 xv.b, Value.string xv.c] = mvs (pre ++ [(xk, xv)]) := by rw [mvs_append]; rfl
    rw [hv1] at hown'
    refine ⟨(hbg.mono (fun k _ e => ⟨.inl e, .inl (by omega)⟩)).setCell (p := ⟨w2.heap.size, 0, none⟩) (fun _ => ⟨.inr (.inl rfl), .inl (show w2.heap.size < w7.heap.size by omega)⟩) _, ⟨by rw [hl1]; exact World.cell?_setCell_same _ _ _ k1, by rw [World.frozen?_setCell]; exact k2⟩, ?_, (hB1.trans (hbg.mono (fun k _ e => .inl e))).setCell (p := ⟨w2.heap.size, 0, none⟩) (fun _ => .inr rfl) _⟩
    rw [hl1]
    exact row_but hown' ((But.refl (fun k => k = w2.heap.size) w8).setCell (p := ⟨w2.heap.size, 0, none⟩) (fun _ => rfl) _) (fun g e h => by have h2 : w.heap.size = g := (by simpa [Value.ownBlock] using e); omega)
  case done =>
    rintro Dd ys W hD hys ⟨⟨c1, c2⟩, hrow, hB1⟩ hK
    rw [hflt] at hys
    subst hys
    go_wp2_with fail
    have hWs := hB1.size
    refine retM [Dd] rfl (fun E hE => ?_) (by simp) (fun W' hb => ?_)
    · obtain rfl : E = Dd := by simpa using hE
      exact hK
    · refine ⟨.slice (some ⟨w.heap.size, 0, none⟩) ys.length ys.length, by simp [results, Tryz.results20, go_sem], _, rfl, hbw7.trans ((hB1.below (by omega) (fun k e => by omega)).trans (hb.below (by omega) (fun k e => by have : k = Dd := (by simpa using e); omega))), row_but hrow hb (fun g e e' => ?_)⟩
      have h1 : g = Dd := by simpa using e'
      have h2 : w.heap.size = g := by simpa [Value.ownBlock] using e
      omega

end MV

open MV (Hf hf0 getL insL delL Rise Wfk TB Nw Rst KV MnT mvs)
set_option maxHeartbeats 2000000 in
theorem morigins_any {w : World} {tb : Nat} {D : Nat → Prop} {O T : List KV} (h : MTab w tb D O T) (hN : O.length ≤ 90000) :
    Calls Tryz.prog 9 #[.pointer (some ⟨tb, 0, none⟩)] w fun e w' => ∃ V, e = .returned V ∧ Below w.heap.size w w' ∧ w'.ownsRow w.heap.size MnT 3 V O.length (mvs O) := by
  have HA := hidb (MV.hall_any h.og hN)
  clear h hN
  go_enter Tryz.func9, Tryz.ntmps9
  go_wp2_with (go_at_call 20; refine HA.out.mono ?_; clear HA; rintro e w1 ⟨V, rfl, hr⟩; have HR := hidb hr; clear hr)
  go_ret
  exact ⟨V, rfl, HR.out⟩
set_option maxHeartbeats 2000000 in
theorem mtargets_any {w : World} {tb : Nat} {D : Nat → Prop} {O T : List KV} (h : MTab w tb D O T) (hN : T.length ≤ 90000) :
    Calls Tryz.prog 10 #[.pointer (some ⟨tb, 0, none⟩)] w fun e w' => ∃ V, e = .returned V ∧ Below w.heap.size w w' ∧ w'.ownsRow w.heap.size MnT 3 V T.length (mvs T) := by
  have HA := hidb (MV.hall_any h.tg hN)
  clear h hN
  go_enter Tryz.func10, Tryz.ntmps10
  go_wp2_with (go_at_call 20; refine HA.out.mono ?_; clear HA; rintro e w1 ⟨V, rfl, hr⟩; have HR := hidb hr; clear hr)
  go_ret
  exact ⟨V, rfl, HR.out⟩
end Go.Proofs.YtceigdeoefhcfaaGreat


