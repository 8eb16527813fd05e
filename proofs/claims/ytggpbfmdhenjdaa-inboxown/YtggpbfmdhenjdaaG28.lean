import Derived.Test.YtggpbfmdhenjdaaG27
import Derived.Test.YtggpbfmdhenjdaaG07
import Derived.Test.YtggpbfmdhenjdaaG26
/- term.Copy: a copy may be written. -/
namespace Go.Proofs.Ytggpbfmdhenjdaa
open Go.RowKit Go.Lib Go.Deep
attribute [local go_sem] store_float f64bits
attribute [local go_sem ↓] Go.wp_at_zero Go.wp_at_succ

theorem copyAll_one_sp (k n : Int) (f : Nat) (s : ByteArray) (a : Option Addr) (c : Nat) (kids : List Tr) (W : World) (b g : Nat) (hg : W.heap.size = g) (bx : Box W b (.int .i64 k) (.int .i64 n) (.float .f64 f) (.string s) (.slice a kids.length c)) (hin : (Tr.mk k n f s a c kids).In W 0) (hsm : Small (.mk k n f s a c kids)) (hcn : cnT (.mk k n f s a c kids) ≤ 1000000000) :
    Calls Try.prog 33 #[.slice (some ⟨b, 0, none⟩) 1 1] W fun e w1 => ∃ t2 : Tr, e = .returned (.slice (some ⟨g, 0, none⟩) 1 1) ∧ Sm (.mk k n f s a c kids) t2 ∧ t2.In w1 g ∧ (match t2 with | .mk k n f s a c kids => w1.cell? ⟨g, 0, none⟩ = some (.int .i64 k) ∧ w1.cell? ⟨g, 1, none⟩ = some (.int .i64 n) ∧ w1.cell? ⟨g, 2, none⟩ = some (.float .f64 f) ∧ w1.cell? ⟨g, 3, none⟩ = some (.string s) ∧ w1.cell? ⟨g, 4, none⟩ = some (.slice a kids.length c)) ∧ Below W.heap.size W w1 ∧ ∃ H, SpH (NewS W w1) w1 H t2.sl := by
  subst hg
  refine (copyAll_sp [.mk k n f s a c kids] ⟨b, 0, none⟩ 1 W (by simp) (by simp) (fun t ht => by
    obtain rfl : t = .mk k n f s a c kids := by simpa using ht
    exact ⟨hin, hsm⟩) (fun j v hj => by
    simp only [rowCells, Tr.cells, List.append_nil] at hj
    match j, hj with
    | 0, hj => simp at hj; subst hj; simpa [Addr.add] using bx.c0
    | 1, hj => simp at hj; subst hj; simpa [Addr.add] using bx.c1
    | 2, hj => simp at hj; subst hj; simpa [Addr.add] using bx.c2
    | 3, hj => simp at hj; subst hj; simpa [Addr.add] using bx.c3
    | 4, hj => simp at hj; subst hj; simpa [Addr.add] using bx.c4
    | j + 5, hj => simp at hj) (by simpa [cnA] using hcn)).mono ?_
  rintro e w1 ⟨ts', rfl, hsa, hia, hb, H, hsp⟩
  obtain ⟨t2, hs2, hi2, hq⟩ := copy_take hsa hia
  refine ⟨t2, rfl, hs2, hi2, hq, hb, H, ?_⟩
  obtain ⟨k2, n2, f2, s2, a2, c2, kids2⟩ := t2
  match H, hsp with
  | 0, ⟨_, _, e⟩ => simp at e
  | H + 1, ⟨a9, n9, c9, e, _, r⟩ =>
    injection e with i1 i2 i3
    subst i1 i2 i3
    obtain r | ⟨g, e1, _, r⟩ := r
    · simp at r
    · obtain ⟨v0, v1, v2, v3, u, F, hu⟩ := r 0 (by simp)
      injection e1 with e1
      injection e1 with e1 _ _
      subst e1
      have := F.c4
      simp only [Nat.zero_mul, Nat.zero_add] at this
      rw [hq.2.2.2.2] at this
      cases this
      exact hu.up

set_option maxHeartbeats 1000000 in
theorem copy_sp (t : Tr) (w : World) (hin : t.In w 0) (hsm : Small t) (hcn : cnT t ≤ 1000000000) : Calls Try.prog 23 #[t.val] w fun e w' => ∃ t', e = .returned t'.val ∧ Sm t t' ∧ t'.In w' w.heap.size ∧ Below w.heap.size w w' ∧ ∃ H, SpH (NewS w w') w' H t'.sl := by
  obtain ⟨k, n, f, s, a, c, kids⟩ := t
  simp only [Tr.val, Tr.cells]
  have bx : Box (((w.alloc (.cells #[.int .i64 k, .int .i64 n, .float .f64 f, .string s, .slice a kids.length c] TT)).alloc (.cells #[.int .i64 0, .int .i64 0, .float .f64 0, .string ⟨#[]⟩, .slice none 0 0] TT)).alloc (.cells #[.int .i64 k, .int .i64 n, .float .f64 f, .string s, .slice a kids.length c] TT)) (w.heap.size + 1 + 1) (.int .i64 k) (.int .i64 n) (.float .f64 f) (.string s) (.slice a kids.length c) := by
    have := Box.new ((w.alloc (.cells #[.int .i64 k, .int .i64 n, .float .f64 f, .string s, .slice a kids.length c] TT)).alloc (.cells #[.int .i64 0, .int .i64 0, .float .f64 0, .string ⟨#[]⟩, .slice none 0 0] TT)) TT (.int .i64 k) (.int .i64 n) (.float .f64 f) (.string s) (.slice a kids.length c)
    simpa using this
  have rx : Box (((w.alloc (.cells #[.int .i64 k, .int .i64 n, .float .f64 f, .string s, .slice a kids.length c] TT)).alloc (.cells #[.int .i64 0, .int .i64 0, .float .f64 0, .string ⟨#[]⟩, .slice none 0 0] TT)).alloc (.cells #[.int .i64 k, .int .i64 n, .float .f64 f, .string s, .slice a kids.length c] TT)) (w.heap.size + 1) (.int .i64 0) (.int .i64 0) (.float .f64 0) (.string ⟨#[]⟩) (.slice none 0 0) := by
    have := (Box.new (w.alloc (.cells #[.int .i64 k, .int .i64 n, .float .f64 f, .string s, .slice a kids.length c] TT)) TT (.int .i64 0) (.int .i64 0) (.float .f64 0) (.string ⟨#[]⟩) (.slice none 0 0)).alloc (.cells #[.int .i64 k, .int .i64 n, .float .f64 f, .string s, .slice a kids.length c] TT)
    simpa using this
  have bw : Below w.heap.size w (((w.alloc (.cells #[.int .i64 k, .int .i64 n, .float .f64 f, .string s, .slice a kids.length c] TT)).alloc (.cells #[.int .i64 0, .int .i64 0, .float .f64 0, .string ⟨#[]⟩, .slice none 0 0] TT)).alloc (.cells #[.int .i64 k, .int .i64 n, .float .f64 f, .string s, .slice a kids.length c] TT)) := ((below_new w _).alloc (by simp) _).alloc (by simp; omega) _
  have CA := hidb (copyAll_one_sp k n f s a c kids _ _ (w.heap.size + 1 + 1 + 1) (by simp) bx (in_below bw hin) hsm hcn)
  have RX := hidb rx
  have BW := hidb bw
  have HSZ : Hid (w.heap.size ≤ (((w.alloc (.cells #[.int .i64 k, .int .i64 n, .float .f64 f, .string s, .slice a kids.length c] TT)).alloc (.cells #[.int .i64 0, .int .i64 0, .float .f64 0, .string ⟨#[]⟩, .slice none 0 0] TT)).alloc (.cells #[.int .i64 k, .int .i64 n, .float .f64 f, .string s, .slice a kids.length c] TT)).heap.size) := hidb bw.size
  generalize kids.length = KL at *
  clear bx rx bw
  go_enter Try.func23, Try.ntmps23
  go_wp2_with (first | (go_at_call 33; refine CA.out.mono ?_; rintro e w1 ⟨⟨k2, n2, f2, s2, a2, c2, kids2⟩, rfl, hs2, hi2, ⟨q0, q1, q2, q3, q4⟩, hb, H, hsp⟩; have HSP := hidb hsp; have HLT := hidb hb.size; obtain ⟨r0, r1, r2, r3, r4, g0, g1, g2, g3, g4, -⟩ := RX.out.keep hb; have HS := hidb hs2; have HI := hidb hi2; have HB := hidb (BW.out.trans (hb.mono BW.out.size)); clear hb hs2 hi2 CA RX BW HSZ hsp))
  exact bodyPost_ret (v := .agg #[.int .i64 k2, .int .i64 n2, .float .f64 f2, .string s2, .slice a2 kids2.length c2]) (by simp [results, Try.results23, go_sem, r0, r1, r2, r3, r4]) rfl ⟨.mk k2 n2 f2 s2 a2 c2 kids2, rfl, HS.out, in_base (by omega) _ (in_set (in_set (in_set (in_set (in_set HI.out (by simp) _) (by simp) _) (by simp) _) (by simp) _) (by simp) _), ((((HB.out.setCell (by simp) _).setCell (by simp) _).setCell (by simp) _).setCell (by simp) _).setCell (by simp) _, H, SpH.more (fun q hq => ⟨by have := hq.1; simp at this; omega, by have := hq.2; simpa using this⟩) (SpH.but (X := fun q => q = w.heap.size + 1) (((((But.refl (fun q => q = w.heap.size + 1) w1).setCell (p := ⟨w.heap.size + 1, 0, none⟩) (fun _ => rfl) _).setCell (p := ⟨w.heap.size + 1, 1, none⟩) (fun _ => rfl) _).setCell (p := ⟨w.heap.size + 1, 2, none⟩) (fun _ => rfl) _).setCell (p := ⟨w.heap.size + 1, 3, none⟩) (fun _ => rfl) _ |>.setCell (p := ⟨w.heap.size + 1, 4, none⟩) (fun _ => rfl) _) (fun q hq e => by have := hq.1; simp at this; omega) HSP.out)⟩
end Go.Proofs.Ytggpbfmdhenjdaa


/- The document's Copy: a copy may be written. -/
namespace Go.Proofs.Ytggpbfmdhenjdaa
open Go.RowKit Go.Deep
attribute [local go_sem] store_float f64bits
attribute [local go_sem ↓] Go.wp_at_zero Go.wp_at_succ

abbrev Ap (w : World) (base : Nat) (v : Value) : Nat → Prop := fun k => base ≤ k ∧ k < w.heap.size ∧ v.ownBlock ≠ some k
/-- The terms of a row that is a call's own may be written. -/
def SpA (w : World) (base : Nat) (v : Value) (ds : List Tr) : Prop := ∀ d, d ∈ ds → ∃ H, SpH (Ap w base v) w H d.sl
theorem SpA.keep {w w' : World} {base : Nat} {v : Value} {ds : List Tr} (h : SpA w base v ds) (hb : Below w.heap.size w w') : SpA w' base v ds := fun d hd => by
  obtain ⟨H, hH⟩ := h d hd
  have := hb.size
  exact ⟨H, SpH.more (fun k hk => ⟨hk.1, by have := hk.2.1; omega, hk.2.2⟩) (SpH.but (But.of_below (S := fun _ => False) hb) (fun _ _ => id) hH)⟩
theorem SpA.append {w w' : World} {base : Nat} {v v' : Value} {ds : List Tr} {t : Tr} (h : SpA w base v ds) (ht : ∃ H, SpH (Ap w base v) w H t.sl) (hg : w.grownBy w' v.ownBlock) (hv : v'.ownBlock = v.ownBlock ∨ v'.ownBlock = some w.heap.size) : SpA w' base v' (ds ++ [t]) := fun d hd => by
  have hd' : ∃ H, SpH (Ap w base v) w H d.sl := by
    rcases List.mem_append.1 hd with hd | hd
    · exact h d hd
    · obtain rfl : d = t := by simpa using hd
      exact ht
  obtain ⟨H, hH⟩ := hd'
  have hs := hg.size
  refine ⟨H, SpH.more (fun k hk => ⟨hk.1, by have := hk.2.1; omega, ?_⟩) (SpH.but (grown_but hg) (fun k hk e => hk.2.2 e) hH)⟩
  rcases hv with e | e
  · rw [e]; exact hk.2.2
  · rw [e]; intro q; have := Option.some.inj q; have := hk.2.1; omega
theorem sp_rows {w : World} {base : Nat} {v : Value} {ds : List Tr} (h : TRows w base v ds) (hs : SpA w base v ds) (hl : ds.length ≤ 4000000000) : ∃ H, SpH (fun k => base ≤ k ∧ k < w.heap.size) w H v := by
  have all : ∀ j, j ≤ ds.length → ∃ H, ∀ m d, m < j → ds[m]? = some d → SpH (fun k => base ≤ k ∧ k < w.heap.size) w H d.sl := by
    intro j
    induction j with
    | zero => exact fun _ => ⟨0, fun m u hm => by omega⟩
    | succ j ih =>
      intro hj
      obtain ⟨H1, h1⟩ := ih (by omega)
      obtain ⟨H2, h2⟩ := hs (ds[j]'(by omega)) (List.getElem_mem _)
      refine ⟨max H1 H2, fun m u hm hu => ?_⟩
      by_cases e : m = j
      · subst e
        rw [List.getElem?_eq_getElem (by omega)] at hu
        cases hu
        exact (SpH.more (fun k hk => ⟨hk.1, hk.2.1⟩) h2).mono (by omega)
      · exact (h1 m u (by omega) hu).mono (by omega)
  obtain ⟨H, hH⟩ := all ds.length (Nat.le_refl _)
  have ho := h.1
  rcases ho.2 with ⟨rfl, e⟩ | ⟨g, cap, cur, rfl, hbs, hb, h1, h2, h3, h4⟩
  · exact ⟨0, none, 0, rfl⟩
  · have hgl : g < w.heap.size := (Array.getElem?_eq_some_iff.1 hb).1
    refine ⟨H + 1, _, _, _, rfl, hl, .inr ⟨g, rfl, ⟨hbs, hgl⟩, fun i hi => ?_⟩⟩
    have hd : ds[i]? = some (ds[i]'hi) := List.getElem?_eq_getElem hi
    have hc : ∀ j, j < 5 → w.cell? ⟨g, i * 5 + j, none⟩ = (ds[i]'hi).cells[j]? := fun j hj => by
      rw [ho.cellAt (i * 5 + j) (by omega)]
      exact flat_get ds i _ hd j hj
    have hq := hH i _ hi hd
    have fr := ho.frozenAt
    generalize ds[i]'hi = d at hc hq
    obtain ⟨k, n, f, s, a, c, kids⟩ := d
    have c0 := hc 0 (by omega); have c1 := hc 1 (by omega); have c2 := hc 2 (by omega); have c3 := hc 3 (by omega); have c4 := hc 4 (by omega)
    simp only [Tr.cells, List.getElem?_cons_zero, List.getElem?_cons_succ] at c0 c1 c2 c3 c4
    exact ⟨_, _, _, _, _, ⟨c0, c1, c2, c3, c4, fr _, fr _, fr _, fr _, fr _⟩, hq⟩

set_option maxHeartbeats 2000000 in
set_option maxRecDepth 100000 in
theorem rcopy_sp : ∀ (t : Tr) (w : World), t.In w 0 → Small t →
    Calls Try.prog 14 #[t.val] w fun e w' => ∃ t', e = .returned t'.val ∧ Sm t t' ∧ t'.In w' w.heap.size ∧ Below w.heap.size w w' ∧ ∃ H, SpH (NewS w w') w' H t'.sl := by
  refine Tr.ind fun k n f s a c kids hk => ?_
  intro w hin hsm
  show Calls Try.prog 14 #[.agg #[.int .i64 k, .int .i64 n, .float .f64 f, .string s, .slice a kids.length c]] w _
  have HK : Hid (∀ t, t ∈ kids → ∀ (w : World), t.In w 0 → Small t → Calls Try.prog 14 #[t.val] w fun e w' => ∃ t', e = .returned t'.val ∧ Sm t t' ∧ t'.In w' w.heap.size ∧ Below w.heap.size w w' ∧ ∃ H, SpH (NewS w w') w' H t'.sl) := hk
  have HIN := hidb hin
  have hwf := hidb (show Tr.fit (.mk k n f s a c kids) from by unfold Tr.In at hin; exact hin.1)
  unfold Small at hsm
  have hlen := hsm.1
  have HSM := hidb hsm.2
  obtain ⟨i0, hi, hz0, hz1, hz2⟩ := info_parts infoT5
  clear hk hin hsm
  go_enter Try.func14, Try.ntmps14
  go_wp2_with fail
  go_loopw [3, 4] (fun lv iv wr => ∃ (m : Nat) (ds : List Tr), m ≤ kids.length ∧ iv = .int .i64 m ∧ TRows wr (w.heap.size + 2) lv ds ∧ SmA (kids.take m) ds ∧ SpA wr (w.heap.size + 2) lv ds ∧ Below (w.heap.size + 2) ((w.alloc (.cells #[.int .i64 k, .int .i64 n, .float .f64 f, .string s, .slice a kids.length c] 27)).alloc (.cells #[.int .i64 0, .int .i64 0, .float .f64 0, .string ⟨#[]⟩, .slice none 0 0] 27)) wr) (fun _ iv _ => kids.length - (RowKit.intOf iv).toNat)
  case atStart => exact ⟨0, [], by omega, rfl, rows_nil _ _, by simp [SmA], (fun d hd => by simp at hd), Below.refl _ _⟩
  case round =>
  obtain ⟨m, ds, hm, rfl, hrows, hsma, hspa, hbel⟩ := hrel
  have HSA := hidb hspa
  clear hspa
  have HR := hidb hrows
  have HS := hidb hsma
  have HBB := hidb hbel
  have hb1 : Below (w.heap.size + 1) (w.alloc (.cells #[.int .i64 k, .int .i64 n, .float .f64 f, .string s, .slice a kids.length c] 27)) wr := by
    have h0 := below_new (w.alloc (.cells #[.int .i64 k, .int .i64 n, .float .f64 f, .string s, .slice a kids.length c] 27)) (.cells #[.int .i64 0, .int .i64 0, .float .f64 0, .string ⟨#[]⟩, .slice none 0 0] 27)
    rw [show (w.alloc (.cells #[.int .i64 k, .int .i64 n, .float .f64 f, .string s, .slice a kids.length c] 27)).heap.size = w.heap.size + 1 by simp] at h0
    exact h0.trans (hbel.mono (by omega))
  obtain ⟨b0, b1, b2, b3, b4⟩ := box_at hb1
  have HB : Hid (Below w.heap.size w wr) := hidb (box_below hb1)
  have bf4 := (hb1.frozen (p := ⟨w.heap.size, 4, none⟩) (Nat.lt_succ_self _)).trans (Box.new w 27 (.int .i64 k) (.int .i64 n) (.float .f64 f) (.string s) (.slice a kids.length c)).f4
  obtain ⟨ql, cl, rfl⟩ := own_sl hrows.1
  have HDL : Hid (ds.length = m) := hidb (by have := smA_len hsma; rw [List.length_take] at this; omega)
  clear hrows hsma hbel hb1
  by_cases hml : m < kids.length
  · have hmb : (m : Int) < (kids.length : Int) := by omega
    have hmz : (0 : Int) ≤ (m : Int) := by omega
    have hmw : IntKind.i64.wrap ((m : Int) + 1) = (m : Int) + 1 := by rw [IntKind.wrap_i64]; omega
    obtain ⟨b, o, rfl, hat⟩ := kid_at (in_below HB.out HIN.out) (by omega)
    obtain ⟨k', n', f', s', a', c', kids', hu, hin', c0, c1, c2, c3, c4⟩ := hat m hml
    have IH := hidb (HK.out _ (List.mem_of_getElem? hu) wr hin' (smallAll_get HSM.out (List.mem_of_getElem? hu)))
    simp only [Tr.val, Tr.cells] at IH
    have HU := hidb hu
    have hwl : w.heap.size + 2 ≤ wr.heap.size := by have := HBB.out.size; simpa using this
    clear hat hu hin'
    go_wp2_with (first
      | (go_at_call 14; refine IH.out.mono ?_; rintro e w2 ⟨⟨k2, n2, f2, s2, a2, c2', kids2⟩, rfl, hst, hti, hb2, H2, hsp2⟩; have HSA2 := hidb (HSA.out.keep hb2); have HSP2 : Hid (∃ H, SpH (Ap w2 (w.heap.size + 2) (.slice ql ds.length cl)) w2 H (Tr.mk k2 n2 f2 s2 a2 c2' kids2).sl) := hidb ⟨H2, SpH.more (fun k hk => ⟨Nat.le_trans hwl hk.1, hk.2, fun e => by have := (ownsRow_lt HR.out.1 k e).2; have := hk.1; omega⟩) hsp2⟩; clear hsp2; have HST := hidb hst; have HTO := hidb (told_off HR.out hwl hti); have HR2 := hidb (HR.out.keep hb2); have HB2 := hidb (HBB.out.trans (hb2.mono hwl)); have hw2 : w.heap.size + 2 ≤ w2.heap.size := Nat.le_trans hwl hb2.size; clear hst hti hb2 IH)
      | (at_builtin; refine wpList_append_own_at _ rfl _ _ 22 rfl (w.heap.size + 2) 27 i0 (.agg #[.int .i64 0, .int .i64 0, .float .f64 0, .string ⟨#[]⟩, .slice none 0 0]) 5 64 Try.underlying22 hi hz0 hz1 hz2 rfl (by decide) (.slice ql ds.length cl) ds.length (ds.flatMap Tr.cells) rfl ?e1 ⟨w2.heap.size, 0, none⟩ 1 1 [.int .i64 k2, .int .i64 n2, .float .f64 f2, .string s2, .slice a2 kids2.length c2'] rfl rfl ?e6 ?e2 ?e3 ?e4 ?e5 ?_))
    case e1 => exact HR2.out.1.alloc _
    case e6 => exact World.news_of_block ((MapKept.heap_alloc w2 _).1)
    case e2 => simp [Value.oneCell']
    case e3 => have := HDL.out; unfold maxLen; omega
    case e4 => have := HDL.out; omega
    case e5 => simp; omega
    intro v' w4 hown' hgrow hnil hat
    have HR4 := hidb (TRows.append (t := .mk k2 n2 f2 s2 a2 c2' kids2) (HR2.out.keep (below_new w2 _)) hown' hgrow (by simpa using hat) (in_over (fun p v _ hv => ((below_new w2 _).cell (World.block_lt_of_cell? _ _ hv)).trans hv) _ HTO.out.1) (on_mono (fun q hq => ⟨hq.1, Nat.lt_of_lt_of_le hq.2.1 (below_new w2 _).size, hq.2.2⟩) _ HTO.out.2))
    have HB4 := hidb (HB2.out.trans (((below_new w2 _).mono hw2).trans ((grown_but hgrow).below (Nat.le_trans hw2 (below_new w2 _).size) (fun q hq => (ownsRow_lt HR2.out.1 q hq).1))))
    have HSA4 := hidb (SpA.append (t := .mk k2 n2 f2 s2 a2 c2' kids2) (HSA2.out.keep (below_new w2 _)) (by obtain ⟨H, hH⟩ := HSP2.out; exact ⟨H, SpH.more (fun k hk => ⟨hk.1, by have := hk.2.1; simp; omega, hk.2.2⟩) (SpH.but (But.of_below (S := fun _ => False) (below_new w2 _)) (fun _ _ => id) hH)⟩) hgrow (by simpa using hat))
    obtain ⟨q4, c4', rfl⟩ := own_sl hown'
    clear hown' hgrow hnil hat
    go_wp2_with fail
    go_roundw
    case rel => exact ⟨m + 1, ds ++ [.mk k2 n2 f2 s2 a2 c2' kids2], by omega, by go_num, HR4.out, by rw [List.take_add_one, HU.out]; exact smA_snoc HST.out _ _ HS.out, HSA4.out, HB4.out⟩
    case measure => simp [RowKit.intOf]; omega
  · obtain rfl : m = kids.length := by omega
    have hmn : ¬ (kids.length : Int) < (kids.length : Int) := by omega
    rw [List.take_length] at HS
    obtain ⟨x1, x2, x3, x4, -⟩ := hwf.out
    obtain ⟨a2, c2, e2, ht⟩ := rows_tree HR.out k n f s x1 x2 x3 x4
    have BZ := Box.new (w.alloc (.cells #[.int .i64 k, .int .i64 n, .float .f64 f, .string s, .slice a kids.length c] 27)) 27 (.int .i64 0) (.int .i64 0) (.float .f64 0) (.string ⟨#[]⟩) (.slice none 0 0)
    rw [show (w.alloc (.cells #[.int .i64 k, .int .i64 n, .float .f64 f, .string s, .slice a kids.length c] 27)).heap.size = w.heap.size + 1 by simp] at BZ
    have hl2 : w.heap.size + 1 < w.heap.size + 2 := by omega
    have r0 := (HBB.out.cell (p := ⟨w.heap.size + 1, 0, none⟩) hl2).trans BZ.c0
    have r1 := (HBB.out.cell (p := ⟨w.heap.size + 1, 1, none⟩) hl2).trans BZ.c1
    have r2 := (HBB.out.cell (p := ⟨w.heap.size + 1, 2, none⟩) hl2).trans BZ.c2
    have r3 := (HBB.out.cell (p := ⟨w.heap.size + 1, 3, none⟩) hl2).trans BZ.c3
    have r4 := (HBB.out.cell (p := ⟨w.heap.size + 1, 4, none⟩) hl2).trans BZ.c4
    have g0 := (HBB.out.frozen (p := ⟨w.heap.size + 1, 0, none⟩) hl2).trans BZ.f0
    have g1 := (HBB.out.frozen (p := ⟨w.heap.size + 1, 1, none⟩) hl2).trans BZ.f1
    have g2 := (HBB.out.frozen (p := ⟨w.heap.size + 1, 2, none⟩) hl2).trans BZ.f2
    have g3 := (HBB.out.frozen (p := ⟨w.heap.size + 1, 3, none⟩) hl2).trans BZ.f3
    have g4 := (HBB.out.frozen (p := ⟨w.heap.size + 1, 4, none⟩) hl2).trans BZ.f4
    have HT := hidb ht
    have HE2 := hidb e2
    clear BZ hl2 ht e2 x1 x2 x3 x4
    go_wp2_with fail
    obtain ⟨rfl, -, rfl⟩ : ql = a2 ∧ True ∧ cl = c2 := by have := HE2.out; simp at this; exact ⟨this.1, trivial, this.2⟩
    have hA : w.heap.size < w.heap.size + 2 := by omega
    have hB : w.heap.size + 1 < w.heap.size + 2 := by omega
    exact bodyPost_ret (v := .agg #[.int .i64 k, .int .i64 n, .float .f64 f, .string s, .slice ql ds.length cl]) (by simp [results, Try.results14, go_sem, r0, r1, r2, r3, r4]) rfl ⟨.mk k n f s ql cl ds, rfl, by unfold Sm; exact ⟨rfl, rfl, rfl, rfl, HS.out⟩, in_base (by omega) _ (in_set (in_set (in_set (in_set (in_set (in_set HT.out (p := ⟨w.heap.size, 4, none⟩) hA _) (p := ⟨w.heap.size + 1, 0, none⟩) hB _) (p := ⟨w.heap.size + 1, 1, none⟩) hB _) (p := ⟨w.heap.size + 1, 2, none⟩) hB _) (p := ⟨w.heap.size + 1, 3, none⟩) hB _) (p := ⟨w.heap.size + 1, 4, none⟩) hB _), (((((HB.out.setCell (p := ⟨w.heap.size, 4, none⟩) (Nat.le_refl _) _).setCell (p := ⟨w.heap.size + 1, 0, none⟩) (Nat.le_succ _) _).setCell (p := ⟨w.heap.size + 1, 1, none⟩) (Nat.le_succ _) _).setCell (p := ⟨w.heap.size + 1, 2, none⟩) (Nat.le_succ _) _).setCell (p := ⟨w.heap.size + 1, 3, none⟩) (Nat.le_succ _) _).setCell (p := ⟨w.heap.size + 1, 4, none⟩) (Nat.le_succ _) _, (by obtain ⟨H, hH⟩ := sp_rows HR.out HSA.out (by have := HDL.out; omega); exact ⟨H, SpH.more (fun k hk => ⟨by have := hk.1; omega, by have := hk.2; simpa using this⟩) (SpH.but (((((((But.refl (fun q => q = w.heap.size ∨ q = w.heap.size + 1) wr).setCell (p := ⟨w.heap.size, 4, none⟩) (fun _ => .inl rfl) _).setCell (p := ⟨w.heap.size + 1, 0, none⟩) (fun _ => .inr rfl) _).setCell (p := ⟨w.heap.size + 1, 1, none⟩) (fun _ => .inr rfl) _).setCell (p := ⟨w.heap.size + 1, 2, none⟩) (fun _ => .inr rfl) _).setCell (p := ⟨w.heap.size + 1, 3, none⟩) (fun _ => .inr rfl) _).setCell (p := ⟨w.heap.size + 1, 4, none⟩) (fun _ => .inr rfl) _) (fun k hk e => by have := hk.1; omega) hH)⟩)⟩
end Go.Proofs.Ytggpbfmdhenjdaa


