import Derived.Test.YtjiigabfdigkaaaG05
import Derived.Test.YtjiigabfdigkaaaG06
import Derived.Sort.LoopGhostIn
import Derived.Sort.QuietIn
/- Functions that hold loops over iterators: how they are entered and left. -/
namespace Go.Proofs.Ytjiigabfdigkaaa
open Go.RowKit Go.Shelf

theorem calls_marks {P : Program} {f : FuncId} {fn : Func} {c : Code} {args : Array Value} {w : World} {R : Ending → World → Prop} (hf : P.funcs[f]? = some fn) (hb : fn.body = some c)
    (h : c.wp P (bodyPostM Fence.wide 0 P fn R) { tmps := args ++ Array.replicate (fn.ntmps - args.size) undef, defers := [] } w) : Calls P f args w R :=
  (callsIn_wide (n := 0)).1 (callsIn_of_wp_marks hf hb trivial (wpIn_wide.2 h))

abbrev mark (D : Nat) : Deferred := { target := .collected D, args := #[] }

theorem leavesM {P : Program} {fn : Func} {tmps : Array Value} {R : Ending → World → Prop} : ∀ (Ds : List Nat) (W : World), (∀ D ∈ Ds, W.heap[D]? = some (.deferred (some []))) → Ds.Nodup →
    (∀ W', But (fun k => k ∈ Ds) W W' → ∃ v, (results fn tmps).run P W' = .ok v W' ∧ R (.returned v) W') → LeavesInM Fence.wide 0 P fn tmps R (Ds.map mark) .returning W
  | [], W, _, _, h => h W (But.refl _ _)
  | D :: Ds, W, hK, hn, h => by
    have hn' := List.nodup_cons.1 hn
    refine ⟨by simp, .inl ⟨D, _, rfl, run_takeDeferred (hK D (by simp)), ?_⟩⟩
    have hp : But (fun k => k ∈ D :: Ds) W (W.putObj D (.deferred none)) := But.putObj _ _ _ (fun _ => by simp)
    exact leavesM Ds _ (fun E hE => (World.putObj_heap_other (show E ≠ D from fun e => hn'.1 (e ▸ hE))).trans (hK E (by simp [hE]))) hn'.2 (fun W' hb => h W' (hp.trans (hb.mono (fun k _ hk => by simp [hk]))))

theorem retM {P : Program} {fn : Func} {R : Ending → World → Prop} {a : Act} {W : World} (Ds : List Nat) (hd : a.defers = Ds.map mark) (hK : ∀ D ∈ Ds, W.heap[D]? = some (.deferred (some []))) (hn : Ds.Nodup)
    (h : ∀ W', But (fun k => k ∈ Ds) W W' → ∃ v, (results fn a.tmps).run P W' = .ok v W' ∧ R (.returned v) W') : bodyPostM Fence.wide 0 P fn R .ret a W := by
  show LeavesInM Fence.wide 0 P fn a.tmps R a.defers .returning W
  rw [hd]; exact leavesM Ds W hK hn h

theorem endM {P : Program} {fn : Func} {R : Ending → World → Prop} {a : Act} {W : World} (Ds : List Nat) (hd : a.defers = Ds.map mark) (hK : ∀ D ∈ Ds, W.heap[D]? = some (.deferred (some []))) (hn : Ds.Nodup)
    (h : ∀ W', But (fun k => k ∈ Ds) W W' → ∃ v, (results fn a.tmps).run P W' = .ok v W' ∧ R (.returned v) W') : bodyPostM Fence.wide 0 P fn R .normal a W := by
  show LeavesInM Fence.wide 0 P fn a.tmps R a.defers .returning W
  rw [hd]; exact leavesM Ds W hK hn h

/-- A block of one cell: what it holds is told by its cell. -/
theorem OwnFrom.but {β : Type} {S : Nat → Prop} {B : Nat} {w : World} (hB : w.heap.size ≤ B) : OwnFrom B (fun (_ : β) W => But S w W) := fun _ A C row hs hg hr =>
  ⟨hg.os.trans hs.os, hg.tape.trans hs.tape, hg.output.trans hs.output, Nat.le_trans hs.size hg.size, fun k hk hn => (hg.block k (Nat.lt_of_lt_of_le hk hs.size) (fun e => by have := (hr k e.symm).1; omega)).trans (hs.block k hk hn)⟩

theorem OwnFrom.cells {β : Type} {B : Nat} (p : Addr) (f : β → Value) : OwnFrom B (fun s W => W.cell? p = some (f s) ∧ W.frozen? p = false) := fun _ _ _ _ hs hg hr =>
  ⟨cell_kept hs.1 hg (fun r e => (hr r e).2), (frozen_kept hs.1 hg (fun r e => (hr r e).2)).trans hs.2⟩

end Go.Proofs.Ytjiigabfdigkaaa


/- All signals under way, as a sequence. -/
namespace Go.Proofs.Ytjiigabfdigkaaa
open Go.RowKit Go.Shelf Go.Sort

/-- Lanes in memory. -/
structure LnIn (w : World) (la : Option Addr) (ls : List Ln) : Prop where
  lanes : RowC 3 Ln.cells w la ls
  sigs : ∀ l ∈ ls, RowC 12 Sg.cells w l.a l.sigs ∧ l.sigs.length = l.n ∧ LenOk l.n
  ll : LenOk ls.length
theorem LnIn.keep {w w' : World} {la : Option Addr} {ls : List Ln} (h : LnIn w la ls) (hb : Below w.heap.size w w') : LnIn w' la ls :=
  ⟨h.lanes.keep hb, fun l hl => ⟨(h.sigs l hl).1.keep hb, (h.sigs l hl).2⟩, h.ll⟩
theorem StIn.lns {w : World} {pa : Option Addr} {ps : List Pc} {la : Option Addr} {ls : List Ln} (h : StIn w pa ps la ls) : LnIn w la ls := ⟨h.lanes, h.sigs, h.ll⟩

structure Spt where
  i : Nat
  k : Nat
  s : Sg
/-- The signals of a lane, with where they are. -/
def sgs (i : Nat) (l : Ln) : List Spt := l.sigs.zipIdx.map (fun x => ⟨i, x.2, x.1⟩)
def allS (ls : List Ln) : List Spt := ls.zipIdx.flatMap (fun x => sgs x.2 x.1)
theorem sgs_at {i k : Nat} {l : Ln} {s : Sg} (h : l.sigs[k]? = some s) : (sgs i l)[k]? = some ⟨i, k, s⟩ := by
  unfold sgs
  rw [List.getElem?_map, List.getElem?_zipIdx, h]
  simp
theorem sgs_len (i : Nat) (l : Ln) : (sgs i l).length = l.sigs.length := by simp [sgs]
theorem allS_step {ls : List Ln} {i : Nat} {l : Ln} (h : ls[i]? = some l) : allS (ls.take (i + 1)) = allS (ls.take i) ++ sgs i l := by
  have hl := (List.getElem?_eq_some_iff.1 h).1
  unfold allS
  rw [List.take_add_one, h]
  simp only [Option.toList_some, List.zipIdx_append, List.flatMap_append, List.zipIdx_cons, List.zipIdx_nil, List.flatMap_cons, List.flatMap_nil, List.append_nil, List.length_take, Nat.min_eq_left (Nat.le_of_lt hl), Nat.zero_add]
theorem allS_app (a b : List Ln) : ∃ r, allS (a ++ b) = allS a ++ r := ⟨_, by unfold allS; rw [List.zipIdx_append, List.flatMap_append]⟩
theorem allS_pre {ls : List Ln} (i : Nat) : allS (ls.take i) <+: allS ls := by
  obtain ⟨r, hr⟩ := allS_app (ls.take i) (ls.drop i)
  rw [List.take_append_drop] at hr
  exact ⟨r, hr.symm⟩
theorem allS_mid {ls : List Ln} {i : Nat} {l : Ln} (h : ls[i]? = some l) (k : Nat) : allS (ls.take i) ++ (sgs i l).take k <+: allS ls := by
  refine List.IsPrefix.trans ?_ (allS_pre (i + 1))
  rw [allS_step h, List.prefix_append_right_inj]
  exact List.take_prefix _ _
theorem allS_next {ls : List Ln} {i k : Nat} {l : Ln} {s : Sg} (hs : l.sigs[k]? = some s) : (allS (ls.take i) ++ (sgs i l).take k) ++ [⟨i, k, s⟩] = allS (ls.take i) ++ (sgs i l).take (k + 1) := by
  rw [List.take_add_one, sgs_at hs, List.append_assoc]
  rfl
theorem allS_mem {ls : List Ln} {x : Spt} (h : x ∈ allS ls) : ∃ l, ls[x.i]? = some l ∧ l.sigs[x.k]? = some x.s := by
  unfold allS at h
  rw [List.mem_flatMap] at h
  obtain ⟨⟨l, i⟩, h1, h2⟩ := h
  unfold sgs at h2
  rw [List.mem_map] at h2
  obtain ⟨⟨s, k⟩, h3, rfl⟩ := h2
  refine ⟨l, ?_, ?_⟩
  · have := List.mem_zipIdx_iff_getElem?.1 h1
    simpa using this
  · have := List.mem_zipIdx_iff_getElem?.1 h3
    simpa using this
abbrev sgV (s : Sg) : Value := .agg #[.int .i64 s.frm, .int .i64 s.to, .int .i64 s.k, .int .i64 s.id, .int .i64 s.ref, .bool s.link, .string s.name, .int .i64 s.tk, .int .i64 s.tn, .float .f64 s.tf, .string s.ts, .slice s.ta s.tl s.tc]
abbrev sptV (x : Spt) : Array Value := #[.agg #[.int .i64 (x.i : Int), .int .i64 (x.k : Int)], sgV x.s]

attribute [local go_sem] store_float
set_option maxRecDepth 100000 in
set_option maxHeartbeats 4000000 in
theorem under_o {w w9 : World} {la : Option Addr} {cl : Nat} {ls : List Ln} (h : LnIn w la ls) (hb9 : RowKit.Below w.heap.size w w9) {u : Nat} (hu : w9.cell? ⟨u, 0, none⟩ = some (.slice la ls.length cl)) :
    SeqO Try.prog 26 #[.pointer (some ⟨u, 0, none⟩)] sptV (fun x => x ∈ allS ls) (fun k => w.heap.size ≤ k) 0 (fun xs => xs = allS ls) (fun pre => pre <+: allS ls) (allS ls).length w9 := by
  intro l J Jx W hW hJ hJx hY h0
  have zu := World.block_lt_of_cell? _ _ hu
  replace hu := (hW.cell zu).trans hu
  replace hW := hb9.trans (hW.mono hb9.size)
  have HL := hidb h
  have HW := hidb hW
  have HJ := hidb hJ
  have HY := hidb hY
  have H0 := hidb h0
  have h62 : ls.length ≤ 9223372036854775807 := h.ll
  clear h hW hb9 zu hJ hY h0
  refine callsIn_of_wp Try.func26 rfl trivial ?_ rfl
  simp only [Try.ntmps26, List.size_toArray, List.length_cons, List.length_nil, Nat.reduceAdd, Nat.reduceSub, Array.replicate_succ, Array.replicate_zero, List.push_toArray, List.append_toArray, List.nil_append, List.cons_append]
  gi_wp2
  gi_loopg [9] (ls.length) (fun gk iv wr => ∃ i : Nat, i ≤ ls.length ∧ ls.length - i ≤ gk ∧ iv = .int .i64 i ∧ RowKit.Below w.heap.size w wr ∧ W.heap.size ≤ wr.heap.size ∧ J (allS (ls.take i)) wr)
  case atStart => exact ⟨0, by omega, by omega, rfl, HW.out, Nat.le_refl _, by simpa [allS] using H0.out⟩
  case round =>
  obtain ⟨i, hi, hgk, rfl, hb, hsz, hj⟩ := hrel
  have HB := hidb hb
  have HJI := hidb hj
  have HG := hidb (And.intro hi (And.intro hgk hsz))
  clear hb hj hi hgk hsz
  by_cases hil : i < ls.length
  · have hmb : (i : Int) < (ls.length : Int) := by omega
    have hmz : (0 : Int) ≤ (i : Int) := by omega
    have hmw : IntKind.i64.wrap ((i : Int) + 1) = (i : Int) + 1 := by rw [IntKind.wrap_i64]; omega
    obtain ⟨l9, b, o, hl, rfl, hlt, hc⟩ := (HL.out.keep HB.out).lanes.at i hil
    obtain ⟨f9, t9, a9, n9, k9, s9⟩ := l9
    have c0 : wr.cell? ⟨b, o + i * 3, none⟩ = some (.int .i64 f9) := hc 0 (by omega)
    have c1 : wr.cell? ⟨b, o + i * 3 + 1, none⟩ = some (.int .i64 t9) := hc 1 (by omega)
    have c2 : wr.cell? ⟨b, o + i * 3 + 2, none⟩ = some (.slice a9 n9 k9) := hc 2 (by omega)
    have HLL := hidb hl
    have HSG : Hid (RowC 12 Sg.cells w a9 s9 ∧ s9.length = n9 ∧ LenOk n9) := hidb (HL.out.sigs _ (List.mem_of_getElem? hl))
    have h63 : n9 ≤ 9223372036854775807 := HSG.out.2.2
    clear hl hc hil
    gi_wp2_with fail
    have HBW : Hid (RowKit.Below w.heap.size w (wr.alloc (.cells #[.int .i64 f9, .int .i64 t9, .slice a9 n9 k9] 49))) := hidb (HB.out.trans ((below_new wr _).mono HB.out.size))
    have HJW : Hid (J (allS (ls.take i)) (wr.alloc (.cells #[.int .i64 f9, .int .i64 t9, .slice a9 n9 k9] 49))) := hidb (HJ.out _ _ _ none HJI.out (World.grownBy_alloc wr _ none) (fun r e => by cases e))
    have HSZ : Hid (W.heap.size ≤ (wr.alloc (.cells #[.int .i64 f9, .int .i64 t9, .slice a9 n9 k9] 49)).heap.size) := hidb (by have := HG.out.2.2; simp; omega)
    clear c0 c1 c2 hu
    obtain ⟨wo, hwo⟩ : ∃ wo, wo = wr := ⟨_, rfl⟩
    subst hwo
    gi_loopg [17] (n9) (fun gk iv wr => ∃ k : Nat, k ≤ n9 ∧ n9 - k ≤ gk ∧ iv = .int .i64 k ∧ RowKit.Below w.heap.size w wr ∧ W.heap.size ≤ wr.heap.size ∧ J (allS (ls.take i) ++ (sgs i ⟨f9, t9, a9, n9, k9, s9⟩).take k) wr)
    case atStart => exact ⟨0, by omega, by omega, rfl, HBW.out, HSZ.out, by simpa using HJW.out⟩
    case round =>
    obtain ⟨w2, hw2⟩ : ∃ w2, w2 = wr := ⟨_, rfl⟩
    subst hw2
    obtain ⟨k, hk, hgk, rfl, hb, hsz, hj⟩ := hrel
    have HB2 := hidb hb
    have HJ2 := hidb hj
    have HG2 := hidb (And.intro hk (And.intro hgk hsz))
    clear hb hj hk hgk hsz HBW HJW HSZ
    by_cases hkl : k < n9
    · have hkb : (k : Int) < (n9 : Int) := by omega
      have hkz : (0 : Int) ≤ (k : Int) := by omega
      have hkw : IntKind.i64.wrap ((k : Int) + 1) = (k : Int) + 1 := by rw [IntKind.wrap_i64]; omega
      obtain ⟨x9, b2, o2, hx, rfl, hlt2, hc2⟩ := (HSG.out.1.keep HB2.out).at k (by have := HSG.out.2.1; omega)
      have d0 : w2.cell? ⟨b2, o2 + k * 12, none⟩ = some (.int .i64 x9.frm) := hc2 0 (by omega)
      have d1 : w2.cell? ⟨b2, o2 + k * 12 + 1, none⟩ = some (.int .i64 x9.to) := hc2 1 (by omega)
      have d2 : w2.cell? ⟨b2, o2 + k * 12 + 2, none⟩ = some (.int .i64 x9.k) := hc2 2 (by omega)
      have d3 : w2.cell? ⟨b2, o2 + k * 12 + 3, none⟩ = some (.int .i64 x9.id) := hc2 3 (by omega)
      have d4 : w2.cell? ⟨b2, o2 + k * 12 + 4, none⟩ = some (.int .i64 x9.ref) := hc2 4 (by omega)
      have d5 : w2.cell? ⟨b2, o2 + k * 12 + 5, none⟩ = some (.bool x9.link) := hc2 5 (by omega)
      have d6 : w2.cell? ⟨b2, o2 + k * 12 + 6, none⟩ = some (.string x9.name) := hc2 6 (by omega)
      have d7 : w2.cell? ⟨b2, o2 + k * 12 + 7, none⟩ = some (.int .i64 x9.tk) := hc2 7 (by omega)
      have d8 : w2.cell? ⟨b2, o2 + k * 12 + 8, none⟩ = some (.int .i64 x9.tn) := hc2 8 (by omega)
      have d9 : w2.cell? ⟨b2, o2 + k * 12 + 9, none⟩ = some (.float .f64 x9.tf) := hc2 9 (by omega)
      have d10 : w2.cell? ⟨b2, o2 + k * 12 + 10, none⟩ = some (.string x9.ts) := hc2 10 (by omega)
      have d11 : w2.cell? ⟨b2, o2 + k * 12 + 11, none⟩ = some (.slice x9.ta x9.tl x9.tc) := hc2 11 (by omega)
      have HXX := hidb hx
      have HX0 := hidb (At.new w2 [.int .i64 x9.frm, .int .i64 x9.to, .int .i64 x9.k, .int .i64 x9.id, .int .i64 x9.ref, .bool x9.link, .string x9.name, .int .i64 x9.tk, .int .i64 x9.tn, .float .f64 x9.tf, .string x9.ts, .slice x9.ta x9.tl x9.tc] 64)
      clear hx hc2 hkl
      have hpre : (allS (ls.take i) ++ (sgs i ⟨f9, t9, some ⟨b2, o2, none⟩, n9, k9, s9⟩).take k) ++ [⟨i, k, x9⟩] <+: allS ls := by
        rw [allS_next HXX.out]
        exact allS_mid HLL.out (k + 1)
      have HPRE := hidb hpre
      obtain ⟨fn, tmps, assign, body, hy, hR⟩ := HY.out (allS (ls.take i) ++ (sgs i ⟨f9, t9, some ⟨b2, o2, none⟩, n9, k9, s9⟩).take k) ⟨i, k, x9⟩ (w2.alloc (.cells #[.int .i64 x9.frm, .int .i64 x9.to, .int .i64 x9.k, .int .i64 x9.id, .int .i64 x9.ref, .bool x9.link, .string x9.name, .int .i64 x9.tk, .int .i64 x9.tn, .float .f64 x9.tf, .string x9.ts, .slice x9.ta x9.tl x9.tc] 64)) (hpre.subset (by simp)) (HJ.out _ _ _ none HJ2.out (World.grownBy_alloc w2 _ none) (fun r e => by cases e)) (by have := hpre.length_le; rw [List.length_append, List.length_singleton] at this; omega) (by have := HG2.out.2.2; simp; omega)
      have HR := hidb hR
      have HBX : Hid (RowKit.Below w.heap.size w (w2.alloc (.cells #[.int .i64 x9.frm, .int .i64 x9.to, .int .i64 x9.k, .int .i64 x9.id, .int .i64 x9.ref, .bool x9.link, .string x9.name, .int .i64 x9.tk, .int .i64 x9.tn, .float .f64 x9.tf, .string x9.ts, .slice x9.ta x9.tl x9.tc] 64))) := hidb (HB2.out.trans ((below_new w2 _).mono HB2.out.size))
      dsimp only [sptV, sgV] at hy
      clear hR hpre HX0
      gi_wp2_with fail
      refine ⟨rfl, HR.out.mono ?_⟩
      rintro e W3 ⟨hb3, ⟨rfl, hj3⟩ | ⟨rfl, hjx3⟩⟩
      · have HB3 := hidb (HBX.out.trans (hb3.below HBX.out.size (fun _ h => h.1)))
        have HJ3 := hidb hj3
        have HS3 : Hid (W.heap.size ≤ W3.heap.size) := hidb (Nat.le_trans (by have := HG2.out.2.2; simp; omega) hb3.size)
        clear hy hj3 hb3 d0 d1 d2 d3 d4 d5 d6 d7 d8 d9 d10 d11
        gi_wp2_with fail
        go_roundg (n9 - (k + 1))
        case measure => have := HG2.out; omega
        case rel =>
          refine ⟨k + 1, by omega, by omega, by go_num, HB3.out, HS3.out, ?_⟩
          rw [← allS_next HXX.out]
          exact HJ3.out
      · clear hy d0 d1 d2 d3 d4 d5 d6 d7 d8 d9 d10 d11
        gi_wp2_with fail
        refine bodyPost_ret (results_none rfl _ _ _) rfl ?_
        exact ⟨⟨_, rfl⟩, .inr ⟨_, HPRE.out, hjx3⟩⟩
    · have hkn : ¬ (k : Int) < (n9 : Int) := by omega
      have HJE : Hid (J (allS (ls.take (i + 1))) w2) := hidb (by
        have h := HJ2.out
        rw [show (sgs i ⟨f9, t9, a9, n9, k9, s9⟩).take k = sgs i ⟨f9, t9, a9, n9, k9, s9⟩ from List.take_of_length_le (by rw [sgs_len]; have := HSG.out.2.1; dsimp only; omega), ← allS_step HLL.out] at h
        exact h)
      have HSE : Hid (W.heap.size ≤ w2.heap.size) := hidb HG2.out.2.2
      clear HJ2 HG2 hkl
      gi_wp2_with fail
      go_roundg (ls.length - (i + 1))
      case measure => have := HG.out; omega
      case rel => exact ⟨i + 1, by omega, by omega, by go_num, HB2.out, HSE.out, HJE.out⟩
  · have hmn : ¬ (i : Int) < (ls.length : Int) := by omega
    have HJE : Hid (J (allS ls) wr) := hidb (by
      have h := HJI.out
      rw [List.take_of_length_le (by omega)] at h
      exact h)
    clear HJI hil
    gi_wp2_with fail
    go_end0
    exact ⟨⟨_, rfl⟩, .inl HJE.out⟩
end Go.Proofs.Ytjiigabfdigkaaa


