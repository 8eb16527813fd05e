import Derived.Test.YtceigdeoefhcfaaGreatG04
/- Functions that hold loops over iterators: how they are entered and left. -/
namespace Go.Proofs.YtceigdeoefhcfaaGreat
open Go.RowKit Go.Shelf

theorem calls_marks {P : Program} {f : FuncId} {fn : Func} {c : Code} {args : Array Value} {w : World} {R : Ending → World → Prop} (hf : P.funcs[f]? = some fn) (hb : fn.body = some c)
    (h : c.wp P (bodyPostM Fence.wide 0 P fn R) { tmps := args ++ Array.replicate (fn.ntmps - args.size) undef, defers := [] } w) : Calls P f args w R :=
  (callsIn_wide (n := 0)).1 (callsIn_of_wp_marks hf hb trivial (wpIn_wide.2 h))

abbrev mark (D : Nat) : Deferred := { target := .collected D, args := #[] }

theorem leavesM {P : Program} {fn : Func} {tmps : Array Value} {R : Ending → World → Prop} : ∀ (Ds : List Nat) (W : World), (∀ D ∈ Ds, W.heap[D]? = some (.deferred (some []))) → Ds.Nodup →
    (∀ W', But (fun k => k ∈ Ds) W W' → ∃ v, (results fn tmps).run P W' = .ok v W' ∧ R (.returned v) W') → LeavesInM Fence.wide 0 P fn tmps R (Ds.map mark) .returning W
  | [], W, _, _, h => h W (But.refl _ _)
  | D :: Ds, W, hK, hn, h => by
    have hn' := List.nodup_cons.1 hn
    refine ⟨by simp, .inl ⟨D, _, rfl, run_takeDeferred (hK D (by simp)), ?_⟩⟩
    have hp : But (fun k => k ∈ D :: Ds) W (W.putObj D (.deferred none)) := But.putObj _ _ _ (fun _ => by simp)
    exact leavesM Ds _ (fun E hE => (World.putObj_heap_other (show E ≠ D from fun e => hn'.1 (e ▸ hE))).trans (hK E (by simp [hE]))) hn'.2 (fun W' hb => h W' (hp.trans (hb.mono (fun k _ hk => by simp [hk]))))

theorem retM {P : Program} {fn : Func} {R : Ending → World → Prop} {a : Act} {W : World} (Ds : List Nat) (hd : a.defers = Ds.map mark) (hK : ∀ D ∈ Ds, W.heap[D]? = some (.deferred (some []))) (hn : Ds.Nodup)
    (h : ∀ W', But (fun k => k ∈ Ds) W W' → ∃ v, (results fn a.tmps).run P W' = .ok v W' ∧ R (.returned v) W') : bodyPostM Fence.wide 0 P fn R .ret a W := by
  show LeavesInM Fence.wide 0 P fn a.tmps R a.defers .returning W
  rw [hd]; exact leavesM Ds W hK hn h

theorem endM {P : Program} {fn : Func} {R : Ending → World → Prop} {a : Act} {W : World} (Ds : List Nat) (hd : a.defers = Ds.map mark) (hK : ∀ D ∈ Ds, W.heap[D]? = some (.deferred (some []))) (hn : Ds.Nodup)
    (h : ∀ W', But (fun k => k ∈ Ds) W W' → ∃ v, (results fn a.tmps).run P W' = .ok v W' ∧ R (.returned v) W') : bodyPostM Fence.wide 0 P fn R .normal a W := by
  show LeavesInM Fence.wide 0 P fn a.tmps R a.defers .returning W
  rw [hd]; exact leavesM Ds W hK hn h

/-- A block of one cell: what it holds is told by its cell. -/
theorem OwnFrom.but {β : Type} {S : Nat → Prop} {B : Nat} {w : World} (hB : w.heap.size ≤ B) : OwnFrom B (fun (_ : β) W => But S w W) := fun _ A C row hs hg hr =>
  ⟨hg.os.trans hs.os, hg.tape.trans hs.tape, hg.output.trans hs.output, Nat.le_trans hs.size hg.size, fun k hk hn => (hg.block k (Nat.lt_of_lt_of_le hk hs.size) (fun e => by have := (hr k e.symm).1; omega)).trans (hs.block k hk hn)⟩

theorem OwnFrom.cells {β : Type} {B : Nat} (p : Addr) (f : β → Value) : OwnFrom B (fun s W => W.cell? p = some (f s) ∧ W.frozen? p = false) := fun _ _ _ _ hs hg hr =>
  ⟨cell_kept hs.1 hg (fun r e => (hr r e).2), (frozen_kept hs.1 hg (fun r e => (hr r e).2)).trans hs.2⟩

end Go.Proofs.YtceigdeoefhcfaaGreat


/- The nodes from a key on, as a sequence; the first one. -/
namespace Go.Proofs.YtceigdeoefhcfaaGreat
open Go.RowKit Go.Shelf
namespace MV
attribute [local go_sem] Oper.semAt_some

set_option maxHeartbeats 1000000 in
theorem from_any (p : Option Addr) (key : Int) (w : World) : Calls Tryz.prog 58 #[.pointer p, .int .i64 key] w fun e w' =>
    e = .returned (.func (.func 64) #[] #[.pointer (some ⟨w.heap.size, 0, none⟩), .pointer (some ⟨w.heap.size + 1, 0, none⟩)]) ∧ w' = (w.alloc (.cells #[.pointer p] 48)).alloc (.cells #[.int .i64 key] 3) := by
  go_enter Tryz.func58, Tryz.ntmps58
  go_wp2_with fail
  go_ret
  exact ⟨rfl, rfl⟩

theorem IsT.within {w : World} {D : Nat → Prop} : ∀ {p : Option Addr} {t : Avt}, IsT w D p t → IsT w (fun k => k < w.heap.size) p t
  | _, .leaf, h => h
  | _, .node _ _ _ _ _ _, ⟨pl, pr, hp, _, hx, h1, h2⟩ => ⟨pl, pr, hp, hx.lt, hx, IsT.within h1, IsT.within h2⟩

set_option maxHeartbeats 1000000 in
theorem from1_seq {w : World} {Bn Bk : Nat} {M : Nat → Prop} {p : Option Addr} {key : Int} {t : Avt} (hBn : Bn < w.heap.size) (hBk : Bk < w.heap.size) (hc : w.cell? ⟨Bn, 0, none⟩ = some (.pointer p)) (hc2 : w.cell? ⟨Bk, 0, none⟩ = some (.int .i64 key))
    (hT : IsT w (fun k => ¬ M k) p t) : SeqO Tryz.prog 64 #[.pointer (some ⟨Bn, 0, none⟩), .pointer (some ⟨Bk, 0, none⟩)] nenc (fun x => x ∈ t.nod) M 0 (fun ys => ys = t.tell key) (fun pre => pre <+: t.tell key) (t.tell key).length w := by
  intro l J Jx W hW _ _ hY h0
  have hT' : IsT W (fun k => ¬ M k) p t := hT.keep hW
  have hp := tell_in Fence.wide rfl trivial rfl l (t.tell key).length (W.heap.size + 0) (fun k => M k ∧ (k < W.heap.size ∨ W.heap.size + 0 ≤ k)) (fun k => ¬ M k) (fun k h hh => h hh.1) key (fun x => x ∈ t.nod) J Jx (fun m pre x W1 ho hj hl hb => yieldAt_wide m (hY pre x W1 ho hj hl hb)) t 0 p [] W hT' (fun _ h => h) h0 (by simp) (Nat.le_refl _)
  have c1 := (hW.cell (p := ⟨Bn, 0, none⟩) hBn).trans hc
  have c2 := (hW.cell (p := ⟨Bk, 0, none⟩) hBk).trans hc2
  refine callsIn_of_wp Tryz.func64 rfl trivial ?_ rfl
  simp only [Tryz.ntmps64, List.size_toArray, List.length_cons, List.length_nil, Nat.reduceAdd, Nat.reduceSub, Array.replicate_succ, Array.replicate_zero, List.push_toArray, List.append_toArray, List.nil_append, List.cons_append]
  gi_wp2_with ((try refine ⟨trivial, rfl, ?_⟩); gi_at_call 65; refine hp.mono ?_; clear hp; rintro e W1 ⟨-, (⟨rfl, hJ1⟩ | ⟨rfl, q, hq, hx⟩)⟩)
  · go_end0
    exact ⟨⟨_, rfl⟩, .inl ⟨_, rfl, by simpa using hJ1⟩⟩
  · go_end0
    exact ⟨⟨_, rfl⟩, .inr ⟨q, hq, by simpa using hx⟩⟩

set_option maxRecDepth 100000 in
set_option maxHeartbeats 2000000 in
/-- The first node. -/
theorem first_any {w : World} {D : Nat → Prop} {p : Option Addr} {t : Avt} (hT : IsT w D p t) :
    Calls Tryz.prog 56 #[.pointer p] w fun e w' => Below w.heap.size w w' ∧ ((e = .returned (.pointer none) ∧ t.tell (-9223372036854775808) = []) ∨ ∃ x xs, e = .returned (.pointer (some ⟨x.1, 0, none⟩)) ∧ t.tell (-9223372036854775808) = x :: xs) := by
  have hT0 : IsT w (fun k => k < w.heap.size) p t := hT.within
  refine calls_marks Tryz.func56 rfl ?_
  simp only [Tryz.ntmps56, List.size_toArray, List.length_cons, List.length_nil, Nat.reduceAdd, Nat.reduceSub, Array.replicate_succ, Array.replicate_zero, List.push_toArray, List.append_toArray, List.nil_append, List.cons_append]
  go_wp2_with (go_at_call 58; refine (from_any _ _ _).mono ?_; rintro e w' ⟨rfl, rfl⟩)
  have hsz : (((w.alloc (.cells #[.pointer none] 48)).alloc (.cells #[.pointer p] 48)).alloc (.cells #[.int .i64 (-9223372036854775808)] 3)).heap.size = w.heap.size + 3 := by simp
  have hb3 : Below w.heap.size w (((w.alloc (.cells #[.pointer none] 48)).alloc (.cells #[.pointer p] 48)).alloc (.cells #[.int .i64 (-9223372036854775808)] 3)) := ((below_new w _).alloc (by simp) _).alloc (by simp; omega) _
  have g0 : (((w.alloc (.cells #[.pointer none] 48)).alloc (.cells #[.pointer p] 48)).alloc (.cells #[.int .i64 (-9223372036854775808)] 3)).cell? ⟨w.heap.size, 0, none⟩ = some (.pointer none) := by simp [go_sem]
  have g1 : (((w.alloc (.cells #[.pointer none] 48)).alloc (.cells #[.pointer p] 48)).alloc (.cells #[.int .i64 (-9223372036854775808)] 3)).cell? ⟨w.heap.size + 1, 0, none⟩ = some (.pointer p) := by simp [go_sem]
  have g2 : (((w.alloc (.cells #[.pointer none] 48)).alloc (.cells #[.pointer p] 48)).alloc (.cells #[.int .i64 (-9223372036854775808)] 3)).cell? ⟨w.heap.size + 1 + 1, 0, none⟩ = some (.int .i64 (-9223372036854775808)) := by simp [go_sem]
  have g3 : (((w.alloc (.cells #[.pointer none] 48)).alloc (.cells #[.pointer p] 48)).alloc (.cells #[.int .i64 (-9223372036854775808)] 3)).frozen? ⟨w.heap.size, 0, none⟩ = false := by simp [go_sem]
  generalize (((w.alloc (.cells #[.pointer none] 48)).alloc (.cells #[.pointer p] 48)).alloc (.cells #[.int .i64 (-9223372036854775808)] 3)) = W3 at *
  have hT3 : IsT W3 (fun k => ¬ w.heap.size ≤ k) p t := (hT0.keep hb3).mono (fun k hk => by omega)
  refine range_o (gf := 64) (lb := #[.pointer (some ⟨w.heap.size + 1, 0, none⟩), .pointer (some ⟨w.heap.size + 1 + 1, 0, none⟩)]) rfl (enters_of Tryz.func64 (by kernel_rfl) rfl)
    (from1_seq (w := W3) (M := fun k => w.heap.size ≤ k) (by omega) (by omega) g1 g2 hT3) (fun k hk => by omega) (Below.refl _ _) (fun _ => rfl)
    (fun pre W => (pre = [] ∧ But (fun k => k = w.heap.size) W3 W) ∧ W.cell? ⟨w.heap.size, 0, none⟩ = some (.pointer none) ∧ W.frozen? ⟨w.heap.size, 0, none⟩ = false)
    (fun c pre W => ∃ x, (c = .ret ∧ pre = [x]) ∧ But (fun k => k = w.heap.size) W3 W ∧ W.cell? ⟨w.heap.size, 0, none⟩ = some (.pointer (some ⟨x.1, 0, none⟩)) ∧ W.frozen? ⟨w.heap.size, 0, none⟩ = false)
    ?hI ?hIx ⟨⟨rfl, But.refl _ _⟩, g0, g3⟩
    (fun x => { tmps := #[.pointer p, undef, .pointer (some ⟨w.heap.size, 0, none⟩), .pointer (some ⟨x.1, 0, none⟩), .pointer p, .func (.func 64) #[] #[.pointer (some ⟨w.heap.size + 1, 0, none⟩), .pointer (some ⟨w.heap.size + 1 + 1, 0, none⟩)], .pointer (some ⟨x.1, 0, none⟩), undef], defers := [] }) ?assign ?body ?done ?stop
  case hI => exact OwnFrom.and (OwnFrom.and (ownFrom_pure _ _) (OwnFrom.but (Nat.le_refl _))) (OwnFrom.cells _ (fun _ => .pointer none))
  case hIx =>
    rintro c pre A B row ⟨x, h1, h2⟩ hg hr
    exact ⟨x, h1, OwnFrom.and (OwnFrom.but (Nat.le_refl _)) (OwnFrom.cells _ (fun _ : Unit => .pointer (some ⟨x.1, 0, none⟩))) () A B row h2 hg hr⟩
  case assign =>
    intro l x W K hK
    gi_wp2
    exact hK
  case body =>
    rintro l pre x W _ ⟨⟨rfl, hB⟩, hc, hf⟩ _ _
    gi_wp2
    exact ⟨(But.refl _ _).setCell (fun _ => by simp; omega) _, x, ⟨rfl, rfl⟩, hB.setCell (fun _ => rfl) _, World.cell?_setCell_same' _ _ _ (by rw [hc]; rfl), by rw [World.frozen?_setCell]; exact hf⟩
  case done =>
    rintro Dd ys W hD rfl ⟨⟨hy, hB⟩, hc, hf⟩ hK
    go_wp2_with fail
    have hB2 : But (fun k => k = w.heap.size) W3 (W.setCell ⟨w.heap.size, 0, none⟩ (.pointer none)) := hB.setCell (fun _ => rfl) _
    have hc2 : (W.setCell ⟨w.heap.size, 0, none⟩ (.pointer none)).cell? ⟨w.heap.size, 0, none⟩ = some (.pointer none) := World.cell?_setCell_same' _ _ _ (by rw [hc]; rfl)
    refine retM [Dd] rfl (fun E hE => ?_) (by simp) (fun W' hb => ?_)
    · obtain rfl : E = Dd := by simpa using hE
      exact (Below.heap_setCell W _ _ E (by simp; omega)).trans hK
    · have c5 := (hb.cell (p := ⟨w.heap.size, 0, none⟩) (World.block_lt_of_cell? _ _ hc2) (by simp; omega)).trans hc2
      exact ⟨.pointer none, by simp [results, Tryz.results56, go_sem, c5], hb3.trans ((hB2.below (by omega) (fun k e => by omega)).trans (hb.below (by have := hB2.size; omega) (fun k e => by have : k = Dd := (by simpa using e); omega))), .inl ⟨rfl, hy⟩⟩
  case stop =>
    rintro Dd c pre W hD hp ⟨x, ⟨rfl, rfl⟩, hB, hc, hf⟩ hK
    go_wp2_with fail
    refine retM [Dd] rfl (fun E hE => ?_) (by simp) (fun W' hb => ?_)
    · obtain rfl : E = Dd := by simpa using hE
      exact hK
    · have c5 := (hb.cell (p := ⟨w.heap.size, 0, none⟩) (World.block_lt_of_cell? _ _ hc) (by simp; omega)).trans hc
      obtain ⟨ys, hys⟩ := hp
      exact ⟨.pointer (some ⟨x.1, 0, none⟩), by simp [results, Tryz.results56, go_sem, c5], hb3.trans ((hB.below (by omega) (fun k e => by omega)).trans (hb.below (by have := hB.size; omega) (fun k e => by have : k = Dd := (by simpa using e); omega))), .inr ⟨x, ys, rfl, hys.symm⟩⟩

end MV
end Go.Proofs.YtceigdeoefhcfaaGreat


