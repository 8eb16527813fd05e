import Derived.Test.YtggpbfmdhenjdaaG32
import Derived.Test.YtggpbfmdhenjdaaG28
import Derived.Test.YtggpbfmdhenjdaaG19
/- All's iterator: copies of the noted terms, one by one. -/
namespace Go.Proofs.Ytggpbfmdhenjdaa
open Go.RowKit Go.Shelf Go.Sort
attribute [local go_sem] store_float f64bits Oper.semAt_some

abbrev alle (x : Nat × Tr) : Array Value := #[.int .i64 (x.1 : Int), x.2.val]
set_option maxRecDepth 100000 in
set_option maxHeartbeats 4000000 in
theorem alls_o {w : World} {nv gr cap : Nat} {ts : List Tr} (hnv : w.cell? ⟨nv, 0, none⟩ = some (.slice (some ⟨gr, 0, none⟩) ts.length cap)) (hrow : ∀ (j : Nat) (u : Value), (ts.flatMap Tr.cells)[j]? = some u → w.cell? ⟨gr, j, none⟩ = some u) (hl : ts.length ≤ 100000)
    {M : Nat → Prop} (hMn : ¬ M nv) (hMg : ¬ M gr) (hT : ∀ W', But M w W' → ∀ t ∈ ts, t.In W' 0) (hS : ∀ t ∈ ts, Small t ∧ cnT t ≤ 1000000000) :
    SeqW Try.prog 28 #[.pointer (some ⟨nv, 0, none⟩)] alle (fun pre x W => x.1 = pre.length ∧ ∃ t, ts[x.1]? = some t ∧ Sm t x.2 ∧ x.2.In W 0) M 0 (fun xs => xs.length = ts.length) (fun _ => True) ts.length w := by
  intro l J Jx W hW hJ hJx hY h0
  have HJ := hidb hJ
  have HY := hidb hY
  have H0 := hidb h0
  have HW := hidb (But.of_below (S := M) hW)
  have HR := hidb (And.intro hrow (And.intro hMg hMn))
  have HT := hidb (And.intro hT hS)
  have HL := hidb hl
  have kn := (hW.cell (World.block_lt_of_cell? _ _ hnv)).trans hnv
  clear hJ hY h0 hW hrow hMg hMn hT hS hnv hl
  refine callsIn_of_wp Try.func28 rfl trivial ?_ rfl
  simp only [Try.ntmps28, List.size_toArray, List.length_cons, List.length_nil, Nat.reduceAdd, Nat.reduceSub, Array.replicate_succ, Array.replicate_zero, List.push_toArray, List.append_toArray, List.nil_append, List.cons_append]
  gi_wp2
  gi_loopg [7] (ts.length) (fun gk iv wr => ∃ i, i ≤ ts.length ∧ ts.length - i ≤ gk ∧ iv = .int .i64 (i : Int) ∧ But M W wr ∧ ∃ pre, pre.length = i ∧ J pre wr)
  case atStart => exact ⟨0, by omega, by omega, rfl, But.refl _ _, [], rfl, H0.out⟩
  case round =>
  obtain ⟨i, hi, hgk, rfl, hbt, pre, hpl, hj⟩ := hrel
  have HBT := hidb hbt
  have HJI := hidb hj
  have HG := hidb (And.intro hi (And.intro hgk hpl))
  clear hbt hj hi hgk hpl kn
  by_cases hil : i < ts.length
  · obtain ⟨t, ht⟩ : ∃ t, ts[i]? = some t := ⟨_, List.getElem?_eq_getElem hil⟩
    have hmem := List.mem_of_getElem? ht
    obtain ⟨k, n, f, s, a, c, kids⟩ := t
    have hc : ∀ j, j < 5 → wr.cell? ⟨gr, i * 5 + j, none⟩ = (Tr.cells (.mk k n f s a c kids))[j]? := fun j hj5 => by
      have e := flat_get ts i _ ht j hj5
      obtain ⟨u, hu⟩ : ∃ u, (Tr.cells (.mk k n f s a c kids))[j]? = some u := ⟨_, List.getElem?_eq_getElem (by simpa [Tr.cells] using hj5)⟩
      rw [hu] at e ⊢
      have e2 := HR.out.1 _ _ e
      exact ((HW.out.trans HBT.out).cell (p := ⟨gr, i * 5 + j, none⟩) (World.block_lt_of_cell? _ _ e2) HR.out.2.1).trans e2
    have x0 : wr.cell? ⟨gr, i * 5, none⟩ = some (.int .i64 k) := hc 0 (by omega)
    have x1 : wr.cell? ⟨gr, i * 5 + 1, none⟩ = some (.int .i64 n) := hc 1 (by omega)
    have x2 : wr.cell? ⟨gr, i * 5 + 2, none⟩ = some (.float .f64 f) := hc 2 (by omega)
    have x3 : wr.cell? ⟨gr, i * 5 + 3, none⟩ = some (.string s) := hc 3 (by omega)
    have x4 : wr.cell? ⟨gr, i * 5 + 4, none⟩ = some (.slice a kids.length c) := hc 4 (by omega)
    have s1 : (0 : Int) ≤ (i : Int) := by omega
    have s2 : (i : Int) < (ts.length : Int) := by omega
    have d1 : decide ((i : Int) < (ts.length : Int)) = true := by simpa using hil
    have HM := hidb (And.intro ht hmem)
    have hln := HL.out
    clear hc ht hmem
    have HC : Hid (∀ W', But M wr W' → Tr.In W' 0 (.mk k n f s a c kids)) := hidb (fun W' hb => HT.out.1 W' ((HW.out.trans HBT.out).trans hb) _ HM.out.2)
    gi_wp2_with ((try refine ⟨trivial, rfl, ?_⟩); gi_at_call 23; refine (callsIn_wide.2 (copy_any (.mk k n f s a c kids) _ (HC.out _ ((But.refl _ _).alloc _)) (HT.out.2 _ HM.out.2).1 (HT.out.2 _ HM.out.2).2)).mono ?_
                 rintro e W2 ⟨t', rfl, hsm, hin2, hbe⟩
                 have hbw : Below wr.heap.size wr W2 := (below_new wr _).trans (hbe.mono (by simp))
                 have hj2 : J pre W2 := HJ.out _ _ _ none HJI.out ⟨hbw.os, hbw.tape, hbw.output, hbw.size, fun k hk _ => hbw.block k hk⟩ (fun r e => by cases e)
                 obtain ⟨fn, tmps, assign, body, hy, hRR⟩ := HY.out pre (i, t') W2 ⟨HG.out.2.2.symm, _, HM.out.1, hsm, in_mono (Nat.zero_le _) _ hin2⟩ hj2 (by have := HG.out.2.2; omega) (by have := HBT.out.size; have := hbw.size; omega)
                 have HRR := hidb hRR
                 have HBW := hidb hbw
                 clear hsm hin2 hbe hbw hj2 hRR)
    refine ⟨rfl, HRR.out.mono ?_⟩
    rintro e W3 ⟨hb3, ⟨rfl, hj3⟩ | ⟨rfl, hjx3⟩⟩
    · have HB3 := hidb (HBT.out.trans ((But.of_below HBW.out).trans (hb3.mono (fun k _ hk => hk.1))))
      have HJ3 := hidb hj3
      have s5 : -9223372036854775808 ≤ (i : Int) + 1 ∧ (i : Int) + 1 ≤ 9223372036854775807 := by omega
      clear hj3 hb3
      gi_wp2
      go_roundg (ts.length - (i + 1))
      case measure => have := HG.out; omega
      case rel =>
        refine ⟨i + 1, by omega, by omega, ?_, HB3.out, _, ?_, HJ3.out⟩
        · rw [Int.natCast_add]; rfl
        · simp [HG.out.2.2]
    · gi_wp2
      refine bodyPost_ret (results_none rfl _ _ _) rfl ?_
      exact ⟨⟨_, rfl⟩, .inr ⟨_, trivial, hjx3⟩⟩
  · have d1 : decide ((i : Int) < (ts.length : Int)) = false := by simpa using hil
    have HIL := hidb hil
    clear hil
    gi_wp2
    go_end0
    refine ⟨⟨_, rfl⟩, .inl ⟨pre, ?_, HJI.out⟩⟩
    have := HIL.out; have := HG.out; omega
end Go.Proofs.Ytggpbfmdhenjdaa


/- Next: the term that is told may be written over. -/
namespace Go.Proofs.Ytggpbfmdhenjdaa
open Go.RowKit Go.Deep
attribute [local go_sem] store_float f64bits
attribute [local go_sem ↓] Go.wp_at_zero Go.wp_at_succ
variable {w : World} {bb place most puts : Nat} {ms : List Msg} {R : Nat → Prop}

theorem SpH.sub {S S' : Nat → Prop} {w : World} (hs : ∀ k, S k → S' k) : ∀ {h : Nat} {v : Value}, SpH S w h v → SpH S' w h v
  | 0, _, H => H
  | _ + 1, _, ⟨a, n, c, e, hn, H⟩ => ⟨a, n, c, e, hn, H.imp id (fun ⟨g, e, hg, hr⟩ => ⟨g, e, hs g hg, fun i hi => by
      obtain ⟨v0, v1, v2, v3, u, f, q⟩ := hr i hi
      exact ⟨v0, v1, v2, v3, u, f, SpH.sub hs q⟩⟩)⟩
theorem copy_out_sp {k n : Int} {f : Nat} {s : ByteArray} {a : Option Addr} {c : Nat} {kids : List Tr} {W : World} (hin : (Tr.mk k n f s a c kids).In W 0) (hs : Small (.mk k n f s a c kids)) (hcn : cnT (.mk k n f s a c kids) ≤ 1000000000) :
    Calls Try.prog 23 #[.agg #[.int .i64 k, .int .i64 n, .float .f64 f, .string s, .slice a kids.length c]] W fun e w' => ∃ (k' n' : Int) (f' : Nat) (s' : ByteArray) (a' : Option Addr) (c' : Nat) (kids' : List Tr), e = .returned (.agg #[.int .i64 k', .int .i64 n', .float .f64 f', .string s', .slice a' kids'.length c']) ∧ Sm (.mk k n f s a c kids) (.mk k' n' f' s' a' c' kids') ∧ (Tr.mk k' n' f' s' a' c' kids').In w' W.heap.size ∧ Below W.heap.size W w' ∧ ∃ H, SpH (NewS W w') w' H (.slice a' kids'.length c') :=
  (copy_sp _ W hin hs hcn).mono (by rintro e w' ⟨⟨k', n', f', s', a', c', kids'⟩, rfl, h⟩; exact ⟨k', n', f', s', a', c', kids', rfl, h⟩)
theorem next_sp {w W w4 : World} {u0 u1 u2 u3 u4 v : Value} {H : Nat} (h : SpH (NewS W w4) w4 H v) (hz : w.heap.size < W.heap.size) :
    SpH (NewS w (((((w4.setCell ⟨w.heap.size, 0, none⟩ u0).setCell ⟨w.heap.size, 1, none⟩ u1).setCell ⟨w.heap.size, 2, none⟩ u2).setCell ⟨w.heap.size, 3, none⟩ u3).setCell ⟨w.heap.size, 4, none⟩ u4)) (((((w4.setCell ⟨w.heap.size, 0, none⟩ u0).setCell ⟨w.heap.size, 1, none⟩ u1).setCell ⟨w.heap.size, 2, none⟩ u2).setCell ⟨w.heap.size, 3, none⟩ u3).setCell ⟨w.heap.size, 4, none⟩ u4) H v := by
  have hb2 : But (fun q => q = w.heap.size) w4 (((((w4.setCell ⟨w.heap.size, 0, none⟩ u0).setCell ⟨w.heap.size, 1, none⟩ u1).setCell ⟨w.heap.size, 2, none⟩ u2).setCell ⟨w.heap.size, 3, none⟩ u3).setCell ⟨w.heap.size, 4, none⟩ u4) := (((((But.refl (fun q => q = w.heap.size) w4).setCell (p := ⟨w.heap.size, 0, none⟩) (fun _ => rfl) _).setCell (p := ⟨w.heap.size, 1, none⟩) (fun _ => rfl) _).setCell (p := ⟨w.heap.size, 2, none⟩) (fun _ => rfl) _).setCell (p := ⟨w.heap.size, 3, none⟩) (fun _ => rfl) _).setCell (p := ⟨w.heap.size, 4, none⟩) (fun _ => rfl) _
  have hs := hb2.size
  exact SpH.sub (fun k hk => ⟨by have := hk.1; omega, Nat.lt_of_lt_of_le hk.2 hs⟩) (SpH.but hb2 (fun k hk e => by have := hk.1; omega) h)

set_option maxHeartbeats 1000000 in
set_option maxRecDepth 100000 in
theorem nextB_sp (h : BX w bb ms place most puts R) {m : Msg} (hm : ms[place]? = some m) (hs : Small m.t) (hcn : cnT m.t ≤ 1000000000) : Calls Try.prog 10 #[.pointer (some ⟨bb, 0, none⟩)] w fun e w' => ∃ (k' n' : Int) (f' : Nat) (s' : ByteArray) (a' : Option Addr) (c' : Nat) (kids' : List Tr), e = .returned (.tuple #[.agg #[.int .i64 k', .int .i64 n', .float .f64 f', .string s', .slice a' kids'.length c'], .bool true]) ∧ Sm m.t (.mk k' n' f' s' a' c' kids') ∧ (Tr.mk k' n' f' s' a' c' kids').In w' w.heap.size ∧ BX w' bb ms (place + 1) most puts R ∧ But (BS bb ms) w w' ∧ ∃ H, SpH (NewS w w') w' H (.slice a' kids'.length c') := by
  have hbl := h.box.2
  have hml := (h.msg _ m hm).2
  have hmb := h.nb m (List.mem_of_getElem? hm)
  have hX := h.keep (below_new w zT)
  have hW := h.look hm
  have hsz : (w.setCell ⟨bb, 2, none⟩ (.pointer (some ⟨m.b, 0, none⟩))).heap.size = w.heap.size := by simp [World.setCell]
  have HL := hidb (hW.keep (below_new _ zT))
  have HT := HL.out.tr m (List.mem_of_getElem? hm)
  have CP := hidb (fun W hb => copy_out_sp (W := W) (in_below hb HT.1) hs hcn)
  have BZ := Box.new (w.setCell ⟨bb, 2, none⟩ (.pointer (some ⟨m.b, 0, none⟩))) 27 (.int .i64 0) (.int .i64 0) (.float .f64 0) (.string ⟨#[]⟩) (.slice none 0 0)
  rw [hsz] at BZ
  have HBZ := hidb BZ
  obtain ⟨c2, f2⟩ := hX.box.1 2 _ rfl
  have m2 := ((HL.out.msg _ m hm).1 2 _ rfl).1
  have m3 := ((HL.out.msg _ m hm).1 3 _ rfl).1
  have m4 := ((HL.out.msg _ m hm).1 4 _ rfl).1
  have m5 := ((HL.out.msg _ m hm).1 5 _ rfl).1
  have m6 := ((HL.out.msg _ m hm).1 6 _ rfl).1
  have hwb : ¬ w.heap.size = bb := by omega
  have hwm : ¬ w.heap.size = m.b := by omega
  have HBT : Hid (But (BS bb ms) w ((w.setCell ⟨bb, 2, none⟩ (.pointer (some ⟨m.b, 0, none⟩))).alloc zT)) := hidb (((But.refl (BS bb ms) w).setCell (p := ⟨bb, 2, none⟩) (fun _ => .inl rfl) _).trans (But.of_below (below_new _ zT)))
  have HFR : Hid (∀ q, R q → q ≠ w.heap.size) := hidb (fun q hq => by have := (h.far q hq).1; omega)
  have HBS : Hid (∀ q, BS bb ms q → q ≠ w.heap.size) := hidb (by
    rintro q (e | ⟨x, hx, e⟩)
    · omega
    · obtain ⟨i, hi⟩ := List.getElem?_of_mem hx
      have := (h.msg i x hi).2
      omega)
  have HSZ : Hid (w.heap.size < ((w.setCell ⟨bb, 2, none⟩ (.pointer (some ⟨m.b, 0, none⟩))).alloc zT).heap.size) := hidb (by simp [World.setCell])
  clear BZ hW
  by_cases h0 : place = 0
  · subst h0
    have c0 := (hX.box.1 0 _ rfl).1
    have hh : hd ms = some m.b := by unfold hd; rw [hm]; rfl
    rw [hh] at c0
    simp only [prv, pt, if_true, Option.map_some, Option.map_none] at c0 c2
    clear h hX hh hm hs hcn HT
    go_enter Try.func10, Try.ntmps10
    go_wp2_with (first
      | (go_at_call 23; refine (CP.out _ (Below.refl _ _)).mono ?_; rintro e w4 ⟨k', n', f', s', a', c', kids', rfl, hst, hti, hb4, H4, hsp⟩; obtain ⟨r0, r1, r2, r3, r4, g0, g1, g2, g3, g4, -⟩ := HBZ.out.keep hb4; have HK4 := hidb (HL.out.keep hb4); have HTI := hidb hti; have HST := hidb hst; have HB4 := hidb (HBT.out.trans (But.of_below (S := BS bb ms) hb4)); have HSP := hidb hsp; clear hti hst hb4 hsp))
    have HF := hidb (next_fin (u0 := .int .i64 k') (u1 := .int .i64 n') (u2 := .float .f64 f') (u3 := .string s') (u4 := .slice a' kids'.length c') HK4.out HTI.out HB4.out HFR.out HBS.out HSZ.out)
    exact bodyPost_ret (v := .tuple #[.agg #[.int .i64 k', .int .i64 n', .float .f64 f', .string s', .slice a' kids'.length c'], .bool true]) (by simp [results, Try.results10, go_sem, r0, r1, r2, r3, r4]) rfl ⟨k', n', f', s', a', c', kids', rfl, HST.out, HF.out.1, HF.out.2.1, HF.out.2.2, H4, next_sp HSP.out HSZ.out⟩
  · obtain ⟨x, hx⟩ : ∃ x, ms[place - 1]? = some x := ⟨_, List.getElem?_eq_getElem (by have := (List.getElem?_eq_some_iff.1 hm).1; omega)⟩
    have c0 := (hX.box.1 0 _ rfl).1
    generalize pt (hd ms) = P0 at c0
    have c1 := ((hX.msg _ x hx).1 1 _ rfl).1
    have hp : prv ms place = some x.b := by unfold prv; rw [if_neg h0, hx]; rfl
    have hn : nxt ms (place - 1) = some m.b := by unfold nxt; rw [show place - 1 + 1 = place by omega, hm]; rfl
    rw [hp] at c2
    rw [hn] at c1
    simp only [pt, Option.map_some] at c1 c2
    clear h h0 hX hp hn hx hm hs hcn HT
    go_enter Try.func10, Try.ntmps10
    go_wp2_with (first
      | (go_at_call 23; refine (CP.out _ (Below.refl _ _)).mono ?_; rintro e w4 ⟨k', n', f', s', a', c', kids', rfl, hst, hti, hb4, H4, hsp⟩; obtain ⟨r0, r1, r2, r3, r4, g0, g1, g2, g3, g4, -⟩ := HBZ.out.keep hb4; have HK4 := hidb (HL.out.keep hb4); have HTI := hidb hti; have HST := hidb hst; have HB4 := hidb (HBT.out.trans (But.of_below (S := BS bb ms) hb4)); have HSP := hidb hsp; clear hti hst hb4 hsp))
    have HF := hidb (next_fin (u0 := .int .i64 k') (u1 := .int .i64 n') (u2 := .float .f64 f') (u3 := .string s') (u4 := .slice a' kids'.length c') HK4.out HTI.out HB4.out HFR.out HBS.out HSZ.out)
    exact bodyPost_ret (v := .tuple #[.agg #[.int .i64 k', .int .i64 n', .float .f64 f', .string s', .slice a' kids'.length c'], .bool true]) (by simp [results, Try.results10, go_sem, r0, r1, r2, r3, r4]) rfl ⟨k', n', f', s', a', c', kids', rfl, HST.out, HF.out.1, HF.out.2.1, HF.out.2.2, H4, next_sp HSP.out HSZ.out⟩
end Go.Proofs.Ytggpbfmdhenjdaa


