/- Functions that hold loops over iterators: how they are entered and left. -/
import Derived.Test.YtmnglaeaicicnaaAv4
namespace Go.Proofs.Ytmnglaeaicicnaa
open Go.RowKit Go.Shelf

theorem calls_marks {P : Program} {f : FuncId} {fn : Func} {c : Code} {args : Array Value} {w : World} {R : Ending → World → Prop} (hf : P.funcs[f]? = some fn) (hb : fn.body = some c)
    (h : c.wp P (bodyPostM Fence.wide 0 P fn R) { tmps := args ++ Array.replicate (fn.ntmps - args.size) undef, defers := [] } w) : Calls P f args w R :=
  (callsIn_wide (n := 0)).1 (callsIn_of_wp_marks hf hb trivial (wpIn_wide.2 h))

abbrev mark (D : Nat) : Deferred := { target := .collected D, args := #[] }

theorem leavesM {P : Program} {fn : Func} {tmps : Array Value} {R : Ending → World → Prop} : ∀ (Ds : List Nat) (W : World), (∀ D ∈ Ds, W.heap[D]? = some (.deferred (some []))) → Ds.Nodup →
    (∀ W', But (fun k => k ∈ Ds) W W' → ∃ v, (results fn tmps).run P W' = .ok v W' ∧ R (.returned v) W') → LeavesInM Fence.wide 0 P fn tmps R (Ds.map mark) .returning W
  | [], W, _, _, h => h W (But.refl _ _)
  | D :: Ds, W, hK, hn, h => by
    have hn' := List.nodup_cons.1 hn
    refine ⟨by simp, .inl ⟨D, _, rfl, run_takeDeferred (hK D (by simp)), ?_⟩⟩
    have hp : But (fun k => k ∈ D :: Ds) W (W.putObj D (.deferred none)) := But.putObj _ _ _ (fun _ => by simp)
    exact leavesM Ds _ (fun E hE => (World.putObj_heap_other (show E ≠ D from fun e => hn'.1 (e ▸ hE))).trans (hK E (by simp [hE]))) hn'.2 (fun W' hb => h W' (hp.trans (hb.mono (fun k _ hk => by simp [hk]))))

theorem retM {P : Program} {fn : Func} {R : Ending → World → Prop} {a : Act} {W : World} (Ds : List Nat) (hd : a.defers = Ds.map mark) (hK : ∀ D ∈ Ds, W.heap[D]? = some (.deferred (some []))) (hn : Ds.Nodup)
    (h : ∀ W', But (fun k => k ∈ Ds) W W' → ∃ v, (results fn a.tmps).run P W' = .ok v W' ∧ R (.returned v) W') : bodyPostM Fence.wide 0 P fn R .ret a W := by
  show LeavesInM Fence.wide 0 P fn a.tmps R a.defers .returning W
  rw [hd]; exact leavesM Ds W hK hn h

theorem endM {P : Program} {fn : Func} {R : Ending → World → Prop} {a : Act} {W : World} (Ds : List Nat) (hd : a.defers = Ds.map mark) (hK : ∀ D ∈ Ds, W.heap[D]? = some (.deferred (some []))) (hn : Ds.Nodup)
    (h : ∀ W', But (fun k => k ∈ Ds) W W' → ∃ v, (results fn a.tmps).run P W' = .ok v W' ∧ R (.returned v) W') : bodyPostM Fence.wide 0 P fn R .normal a W := by
  show LeavesInM Fence.wide 0 P fn a.tmps R a.defers .returning W
  rw [hd]; exact leavesM Ds W hK hn h

/-- A block of one cell: what it holds is told by its cell. -/
theorem OwnFrom.but {β : Type} {S : Nat → Prop} {B : Nat} {w : World} (hB : w.heap.size ≤ B) : OwnFrom B (fun (_ : β) W => But S w W) := fun _ A C row hs hg hr =>
  ⟨hg.os.trans hs.os, hg.tape.trans hs.tape, hg.output.trans hs.output, Nat.le_trans hs.size hg.size, fun k hk hn => (hg.block k (Nat.lt_of_lt_of_le hk hs.size) (fun e => by have := (hr k e.symm).1; omega)).trans (hs.block k hk hn)⟩

theorem OwnFrom.cells {β : Type} {B : Nat} (p : Addr) (f : β → Value) : OwnFrom B (fun s W => W.cell? p = some (f s) ∧ W.frozen? p = false) := fun _ _ _ _ hs hg hr =>
  ⟨cell_kept hs.1 hg (fun r e => (hr r e).2), (frozen_kept hs.1 hg (fun r e => (hr r e).2)).trans hs.2⟩

end Go.Proofs.Ytmnglaeaicicnaa
