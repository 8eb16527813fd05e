import Derived.Test.YtogahhbckfnllaaG29
import Derived.Test.YtogahhbckfnllaaG21
import Derived.Sort.LoopGhostIn
import Derived.Sort.QuietIn
/- Functions that hold loops over iterators: how they are entered and left. -/
namespace Go.Proofs.Ytogahhbckfnllaa
open Go.RowKit Go.Shelf

theorem calls_marks {P : Program} {f : FuncId} {fn : Func} {c : Code} {args : Array Value} {w : World} {R : Ending → World → Prop} (hf : P.funcs[f]? = some fn) (hb : fn.body = some c)
    (h : c.wp P (bodyPostM Fence.wide 0 P fn R) { tmps := args ++ Array.replicate (fn.ntmps - args.size) undef, defers := [] } w) : Calls P f args w R :=
  (callsIn_wide (n := 0)).1 (callsIn_of_wp_marks hf hb trivial (wpIn_wide.2 h))

abbrev mark (D : Nat) : Deferred := { target := .collected D, args := #[] }

theorem leavesM {P : Program} {fn : Func} {tmps : Array Value} {R : Ending → World → Prop} : ∀ (Ds : List Nat) (W : World), (∀ D ∈ Ds, W.heap[D]? = some (.deferred (some []))) → Ds.Nodup →
    (∀ W', But (fun k => k ∈ Ds) W W' → ∃ v, (results fn tmps).run P W' = .ok v W' ∧ R (.returned v) W') → LeavesInM Fence.wide 0 P fn tmps R (Ds.map mark) .returning W
  | [], W, _, _, h => h W (But.refl _ _)
  | D :: Ds, W, hK, hn, h => by
    have hn' := List.nodup_cons.1 hn
    refine ⟨by simp, .inl ⟨D, _, rfl, run_takeDeferred (hK D (by simp)), ?_⟩⟩
    have hp : But (fun k => k ∈ D :: Ds) W (W.putObj D (.deferred none)) := But.putObj _ _ _ (fun _ => by simp)
    exact leavesM Ds _ (fun E hE => (World.putObj_heap_other (show E ≠ D from fun e => hn'.1 (e ▸ hE))).trans (hK E (by simp [hE]))) hn'.2 (fun W' hb => h W' (hp.trans (hb.mono (fun k _ hk => by simp [hk]))))

theorem retM {P : Program} {fn : Func} {R : Ending → World → Prop} {a : Act} {W : World} (Ds : List Nat) (hd : a.defers = Ds.map mark) (hK : ∀ D ∈ Ds, W.heap[D]? = some (.deferred (some []))) (hn : Ds.Nodup)
    (h : ∀ W', But (fun k => k ∈ Ds) W W' → ∃ v, (results fn a.tmps).run P W' = .ok v W' ∧ R (.returned v) W') : bodyPostM Fence.wide 0 P fn R .ret a W := by
  show LeavesInM Fence.wide 0 P fn a.tmps R a.defers .returning W
  rw [hd]; exact leavesM Ds W hK hn h

theorem endM {P : Program} {fn : Func} {R : Ending → World → Prop} {a : Act} {W : World} (Ds : List Nat) (hd : a.defers = Ds.map mark) (hK : ∀ D ∈ Ds, W.heap[D]? = some (.deferred (some []))) (hn : Ds.Nodup)
    (h : ∀ W', But (fun k => k ∈ Ds) W W' → ∃ v, (results fn a.tmps).run P W' = .ok v W' ∧ R (.returned v) W') : bodyPostM Fence.wide 0 P fn R .normal a W := by
  show LeavesInM Fence.wide 0 P fn a.tmps R a.defers .returning W
  rw [hd]; exact leavesM Ds W hK hn h

/-- A block of one cell: what it holds is told by its cell. -/
theorem OwnFrom.but {β : Type} {S : Nat → Prop} {B : Nat} {w : World} (hB : w.heap.size ≤ B) : OwnFrom B (fun (_ : β) W => But S w W) := fun _ A C row hs hg hr =>
  ⟨hg.os.trans hs.os, hg.tape.trans hs.tape, hg.output.trans hs.output, Nat.le_trans hs.size hg.size, fun k hk hn => (hg.block k (Nat.lt_of_lt_of_le hk hs.size) (fun e => by have := (hr k e.symm).1; omega)).trans (hs.block k hk hn)⟩

theorem OwnFrom.cells {β : Type} {B : Nat} (p : Addr) (f : β → Value) : OwnFrom B (fun s W => W.cell? p = some (f s) ∧ W.frozen? p = false) := fun _ _ _ _ hs hg hr =>
  ⟨cell_kept hs.1 hg (fun r e => (hr r e).2), (frozen_kept hs.1 hg (fun r e => (hr r e).2)).trans hs.2⟩

end Go.Proofs.Ytogahhbckfnllaa


/- The messages of a box, one by one. -/
namespace Go.Proofs.Ytogahhbckfnllaa
open Go.RowKit Go.Shelf Go.Sort

theorem ptr_neq0 (b : Nat) (w : World) : (binOp .neq 54 (.pointer (some ⟨b, 0, none⟩)) (.pointer none)).run Try.prog w = .ok (.bool true) w := by kernel_rfl
theorem ptr_neq1 (w : World) : (binOp .neq 54 (.pointer none) (.pointer none)).run Try.prog w = .ok (.bool false) w := by kernel_rfl

abbrev mpt (m : Msg) : Array Value := #[.pointer (some ⟨m.b, 0, none⟩)]
theorem At.c {w : World} {b : Nat} {vs : List Value} (h : At w b vs) {i : Nat} {v : Value} (hv : vs[i]? = some v) : w.cell? ⟨b, i, none⟩ = some v := (h.1 i v hv).1

set_option maxRecDepth 100000 in
set_option maxHeartbeats 4000000 in
theorem msgs_o {w : World} {bb place most puts : Nat} {N : Int} {ms : List Msg} {R : Nat → Prop} (h : BX w bb ms place most puts R) {p q : Nat} (hp : w.cell? ⟨p, 0, none⟩ = some (.pointer (some ⟨bb, 0, none⟩))) (hq : w.cell? ⟨q, 0, none⟩ = some (.int .i64 N)) (hnum : ∀ m : Msg, m ∈ ms → (m.num : Int) ≤ N)
    {M : Nat → Prop} (hMB : ∀ k, BS bb ms k → ¬ M k) (hMp : ¬ M p) (hMq : ¬ M q) :
    SeqO Try.prog 39 #[.pointer (some ⟨p, 0, none⟩), .pointer (some ⟨q, 0, none⟩)] mpt (fun m => m ∈ ms) M 0 (fun xs => xs = ms) (fun pre => pre <+: ms) ms.length w := by
  intro l J Jx W hW hJ hJx hY h0
  have hB := h.keep hW
  have zp := World.block_lt_of_cell? _ _ hp
  have zq := World.block_lt_of_cell? _ _ hq
  replace hp := (hW.cell zp).trans hp
  replace hq := (hW.cell zq).trans hq
  replace zp := World.block_lt_of_cell? _ _ hp
  replace zq := World.block_lt_of_cell? _ _ hq
  have b0 := hB.box.c (i := 0) rfl
  have HB := hidb hB
  have HMS := hidb (And.intro hMB (And.intro hMp (And.intro hMq (And.intro zp zq))))
  have HP := hidb hp
  have HQ := hidb hq
  have HNM := hidb hnum
  have HJ := hidb hJ
  have HY := hidb hY
  have H0 := hidb h0
  clear hB h hW hnum hMB hMp hMq zp zq hJ hY h0
  refine callsIn_of_wp Try.func39 rfl trivial ?_ rfl
  simp only [Try.ntmps39, List.size_toArray, List.length_cons, List.length_nil, Nat.reduceAdd, Nat.reduceSub, Array.replicate_succ, Array.replicate_zero, List.push_toArray, List.append_toArray, List.nil_append, List.cons_append]
  gi_wp2
  gi_loopg [4] (ms.length) (fun gk mv wr => ∃ i, i ≤ ms.length ∧ ms.length - i ≤ gk ∧ mv = pt ((ms[i]?).map Msg.b) ∧ But M W wr ∧ J (ms.take i) wr)
  case atStart => exact ⟨0, by omega, by omega, rfl, But.refl _ _, by simpa using H0.out⟩
  case round =>
  obtain ⟨i, hi, hgk, rfl, hbt, hj⟩ := hrel
  have HBT := hidb hbt
  have HJI := hidb hj
  have HG := hidb (And.intro hi hgk)
  clear hbt hj hi hgk
  have kq := (HBT.out.cell (p := ⟨q, 0, none⟩) HMS.out.2.2.2.2 HMS.out.2.2.1).trans HQ.out
  by_cases hil : i < ms.length
  · obtain ⟨m, hm⟩ : ∃ m, ms[i]? = some m := ⟨_, List.getElem?_eq_getElem hil⟩
    have hmem := List.mem_of_getElem? hm
    have hpt : pt ((ms[i]?).map Msg.b) = .pointer (some ⟨m.b, 0, none⟩) := by rw [hm]; rfl
    rw [hpt]
    have HAT : Hid (At wr m.b (m.cells (prv ms i) (nxt ms i) false)) := hidb ((HB.out.msg i m hm).but HBT.out (HMS.out.1 _ (.inr ⟨m, hmem, rfl⟩)))
    have k8 := HAT.out.c (i := 8) (v := .int .i64 (m.num : Int)) rfl
    have k9 := HAT.out.c (i := 9) (v := .bool false) rfl
    have hle := HNM.out m hmem
    have hne := ptr_neq0 m.b
    have HM := hidb (And.intro hm hmem)
    clear hpt hm hmem hil
    gi_wp2_with fail
    have d1 : decide ((m.num : Int) ≤ N) = true := by simpa using hle
    gi_big_quiet (fail)
    obtain ⟨W2, hW2⟩ : ∃ W2, wr.drewN nq = W2 := ⟨_, rfl⟩
    have hbw : Below wr.heap.size wr W2 := hW2 ▸ below_drewN (Below.refl _ _) _
    rw [hW2]
    have kk9 := (hbw.cell (p := ⟨m.b, 9, none⟩) HAT.out.2).trans k9
    have hj2 : J (ms.take i) W2 := HJ.out _ _ _ none HJI.out (by rw [← hW2]; exact ⟨rfl, rfl, rfl, Nat.le_refl _, fun _ _ _ => rfl⟩) (fun r e => by cases e)
    obtain ⟨fn, tmps, assign, body, hy, hR⟩ := HY.out (ms.take i) m W2 HM.out.2 hj2 (by rw [List.length_take]; have := (List.getElem?_eq_some_iff.1 HM.out.1).1; omega) (by have := HBT.out.size; have := hbw.size; omega)
    have HR := hidb hR
    have HBW := hidb hbw
    clear hW2 hj2 hR hbw
    gi_wp2
    refine ⟨rfl, HR.out.mono ?_⟩
    rintro e W3 ⟨hb3, ⟨rfl, hj3⟩ | ⟨rfl, hjx3⟩⟩
    · have hbm : But M wr W3 := (But.of_below HBW.out).trans (hb3.mono (fun k _ hk => hk.1))
      have HAT3 := HAT.out.but hbm (HMS.out.1 _ (.inr ⟨m, HM.out.2, rfl⟩))
      have k1 := HAT3.c (i := 1) (v := pt (nxt ms i)) rfl
      have HJ3 := hidb hj3
      have HB3 := hidb (HBT.out.trans hbm)
      clear HAT3 hbm hj3 hb3
      gi_wp2
      go_roundg (ms.length - (i + 1))
      case measure => have := HG.out; have := (List.getElem?_eq_some_iff.1 HM.out.1).1; omega
      case rel =>
        have hl := (List.getElem?_eq_some_iff.1 HM.out.1).1
        refine ⟨i + 1, by omega, by omega, rfl, HB3.out, ?_⟩
        rw [List.take_add_one, HM.out.1]
        exact HJ3.out
    · gi_wp2
      refine bodyPost_ret (results_none rfl _ _ _) rfl ?_
      refine ⟨⟨_, rfl⟩, .inr ⟨_, ?_, hjx3⟩⟩
      have : ms.take i ++ [m] = ms.take (i + 1) := by rw [List.take_add_one, HM.out.1]; rfl
      rw [this]
      exact List.take_prefix _ _
  · have hpt : pt ((ms[i]?).map Msg.b) = .pointer none := by rw [List.getElem?_eq_none (by omega)]; rfl
    rw [hpt]
    have hne := ptr_neq1
    have HIL := hidb hil
    clear hpt hil
    gi_wp2_with fail
    gi_big_quiet (fail)
    gi_wp2
    go_end0
    refine ⟨⟨_, rfl⟩, .inl ⟨ms, rfl, ?_⟩⟩
    have e : ms.take i = ms := List.take_of_length_le (by have := HIL.out; omega)
    have hj := HJI.out
    rw [e] at hj
    exact HJ.out _ _ _ none hj ⟨rfl, rfl, rfl, Nat.le_refl _, fun _ _ _ => rfl⟩ (fun r e => by cases e)
end Go.Proofs.Ytogahhbckfnllaa


