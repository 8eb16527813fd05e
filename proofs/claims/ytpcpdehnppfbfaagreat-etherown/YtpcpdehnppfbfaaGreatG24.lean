import Derived.Test.YtpcpdehnppfbfaaGreatG23
import Derived.Test.YtpcpdehnppfbfaaGreatG18
/- Copies may be written: the rows of a copy are not frozen. -/
namespace Go.Proofs.YtpcpdehnppfbfaaGreat
open Go.RowKit Go.Lib Go.Deep
attribute [local go_sem] store_float f64bits

def Tr.sl : Tr → Value
  | .mk _ _ _ _ a c kids => .slice a kids.length c
abbrev NewS (w w' : World) : Nat → Prop := fun k => w.heap.size ≤ k ∧ k < w'.heap.size
theorem row_fv {w : World} {g m : Nat} {ts : List Tr} {ch : List Nat} (hb : w.heap[g]? = some (.cells (rowCells ts ch).toArray TT)) {u : Tr} {h : Nat} (hm : ts[m]? = some u) (hc : ch[m]? = some h) :
    ∃ v0 v1 v2 v3, Fv w g (m * 5) v0 v1 v2 v3 (cpV u h) := by
  have hcell : ∀ i, i < 5 → w.cell? ⟨g, m * 5 + i, none⟩ = (cpCells u h)[i]? := fun i hi => by
    rw [cell_of_row _ _ _ _ _ _ hb]
    have := rowCells_done ts ch m i _ u hm hc hi
    simpa using this
  have hfr : ∀ i, w.frozen? ⟨g, i, none⟩ = false := fun i => by simp [World.frozen?, hb]
  obtain ⟨k, n, f, s, a, c, kids⟩ := u
  have c0 := hcell 0 (by omega); have c1 := hcell 1 (by omega); have c2 := hcell 2 (by omega); have c3 := hcell 3 (by omega); have c4 := hcell 4 (by omega)
  simp only [cpCells, List.getElem?_cons_zero, List.getElem?_cons_succ] at c0 c1 c2 c3 c4
  exact ⟨_, _, _, _, c0, c1, c2, c3, c4, hfr _, hfr _, hfr _, hfr _, hfr _⟩

section
variable {w0 w : World} {R : RM}
theorem row_sp (blk : ∀ g ts ch, R g = some (ts, ch) → w.heap[g]? = some (.cells (rowCells ts ch).toArray TT) ∧ w0.heap.size ≤ g)
    (src : ∀ g ts ch, R g = some (ts, ch) → ch.length = ts.length ∧ ts.length ≤ 400000 ∧ ∀ t : Tr, t ∈ ts → t.In w0 0) {g : Nat} {ts : List Tr} {ch : List Nat} (hR : R g = some (ts, ch))
    (each : ∀ (m : Nat) (u : Tr) (h : Nat), ts[m]? = some u → ch[m]? = some h → ∃ H, SpH (NewS w0 w) w H (cpV u h)) : ∃ H, SpH (NewS w0 w) w H (.slice (some ⟨g, 0, none⟩) ts.length ts.length) := by
  obtain ⟨hb, hge⟩ := blk _ _ _ hR
  obtain ⟨hcl, hsm, hsrc⟩ := src _ _ _ hR
  have hgl : g < w.heap.size := (Array.getElem?_eq_some_iff.1 hb).1
  have all : ∀ j, j ≤ ts.length → ∃ H, ∀ m u h, m < j → ts[m]? = some u → ch[m]? = some h → SpH (NewS w0 w) w H (cpV u h) := by
    intro j
    induction j with
    | zero => exact fun _ => ⟨0, fun m u h hm => by omega⟩
    | succ j ih =>
      intro hj
      obtain ⟨H1, h1⟩ := ih (by omega)
      obtain ⟨H2, h2⟩ := each j (ts[j]'(by omega)) (ch[j]'(by omega)) (List.getElem?_eq_getElem _) (List.getElem?_eq_getElem _)
      refine ⟨max H1 H2, fun m u h hm hu hh => ?_⟩
      by_cases e : m = j
      · subst e
        rw [List.getElem?_eq_getElem (by omega)] at hu hh
        cases hu; cases hh
        exact h2.mono (by omega)
      · exact (h1 m u h (by omega) hu hh).mono (by omega)
  obtain ⟨H, hH⟩ := all ts.length (Nat.le_refl _)
  refine ⟨H + 1, _, _, _, rfl, by omega, .inr ⟨g, rfl, ⟨hge, hgl⟩, fun i hi => ?_⟩⟩
  have hu : ts[i]? = some (ts[i]'hi) := List.getElem?_eq_getElem hi
  have hh : ch[i]? = some (ch[i]'(by omega)) := List.getElem?_eq_getElem _
  obtain ⟨v0, v1, v2, v3, hf⟩ := row_fv hb hu hh
  exact ⟨v0, v1, v2, v3, _, hf, hH i _ _ hi hu hh⟩

theorem cp_sp (blk : ∀ g ts ch, R g = some (ts, ch) → w.heap[g]? = some (.cells (rowCells ts ch).toArray TT) ∧ w0.heap.size ≤ g)
    (src : ∀ g ts ch, R g = some (ts, ch) → ch.length = ts.length ∧ ts.length ≤ 400000 ∧ ∀ t : Tr, t ∈ ts → t.In w0 0)
    (link : ∀ g ts ch, R g = some (ts, ch) → ∀ (i h : Nat) (t : Tr), ch[i]? = some h → ts[i]? = some t → t.kids.length ≠ 0 → ∃ ch', R h = some (t.kids, ch')) :
    ∀ t : Tr, ∀ h, (t.kids.length ≠ 0 → ∃ ch', R h = some (t.kids, ch')) → ∃ H, SpH (NewS w0 w) w H (cpV t h) := by
  intro t
  induction t using Tr.ind with
  | h k n f s a c kids ih =>
  intro h hk
  by_cases h0 : kids.length = 0
  · exact ⟨0, by simp only [cpV, Tr.kids, h0, if_true]; exact ⟨none, 0, rfl⟩⟩
  · obtain ⟨ch', hR⟩ := hk (by simpa [Tr.kids] using h0)
    simp only [Tr.kids] at hR
    have : cpV (.mk k n f s a c kids) h = .slice (some ⟨h, 0, none⟩) kids.length kids.length := by simp [cpV, Tr.kids, h0]
    rw [this]
    exact row_sp blk src hR (fun m u q hu hq => ih u (List.mem_of_getElem? hu) q (fun hne => link _ _ _ hR m _ u hq hu hne))
end

attribute [local go_sem ↓] Go.wp_at_zero Go.wp_at_succ

set_option maxHeartbeats 4000000 in
set_option maxRecDepth 100000 in
theorem copyAll_sp (ts : List Tr) (a : Addr) (c : Nat) (w : World) (h0 : 0 < ts.length) (hl : ts.length ≤ 400000) (hsrc : ∀ t : Tr, t ∈ ts → t.In w 0 ∧ Small t) (hcells : ∀ j v, (rowCells ts [])[j]? = some v → w.cell? (a.add j) = some v) (hcn : cnA ts ≤ 1000000000) :
    Calls Tryz.prog 49 #[.slice (some a) ts.length c] w fun e w' => ∃ ts', e = .returned (.slice (some ⟨w.heap.size, 0, none⟩) ts.length ts.length) ∧ SmA ts ts' ∧ Tr.InAll w' w.heap.size ⟨w.heap.size, 0, none⟩ ts' ∧ Below w.heap.size w w' ∧ ∃ H, SpH (NewS w w') w' H (.slice (some ⟨w.heap.size, 0, none⟩) ts.length ts.length) := by
  have CL := hidb (copyList_any w a ts.length c (rowCells ts []) (rowCells_len _ _) h0 (by omega) hcells (rowCells_one _ _))
  have HST := hidb (cp_start h0 hl hsrc)
  have HSRC := hidb hsrc
  obtain ⟨i0, hi, hz0, hz1, hz2⟩ := info_parts (P := Tryz.prog) (e := TS) (z := .slice none 0 0) (size := 1) (bytes := 24) (by kernel_rfl)
  generalize hN : ts.length = N at *
  have HN := hidb hN
  have HCN := hidb hcn
  clear hcells hsrc hN hcn
  go_enter Tryz.func49, Tryz.ntmps49
  go_wp2_with (first
    | (go_at_call 66; refine CL.out.mono ?_; rintro e w1 ⟨rfl, rfl⟩; clear CL))
  go_loopg [4] (cnA ts) (fun gk wv wr => ∃ (R : RM) (wait : List (Nat × List Tr)), CP w wr R (fun _ => False) wait wv ∧ toDo wait ≤ gk ∧ toDo wait ≤ cnA ts ∧ ∃ ch, R w.heap.size = some (ts, ch))
  case atStart => exact ⟨_, _, HST.out, by simp [toDo], by simp [toDo], [], by simp⟩
  case round =>
  obtain ⟨R, wait, hcp, hdo, hdt, hroot⟩ := hrel
  obtain ⟨qw, cw, rfl⟩ := own_sl hcp.row
  have HCP := hidb hcp
  have HDO := hidb hdo
  have HDT := hidb hdt
  have HRT := hidb hroot
  clear hcp hdo hdt hroot HST
  rcases List.eq_nil_or_concat wait with hnil | ⟨wait', ⟨g, us⟩, hcon⟩
  · subst hnil
    go_wp2_with fail
    go_ret
    obtain ⟨ch, hch⟩ := HRT.out
    have hcp := HCP.out
    have hall : ∀ q vs d, R q = some (vs, d) → d.length = vs.length := fun q vs d hq => by
      rcases hcp.pend q vs d hq with e | e | ⟨_, e⟩
      · exact e
      · exact e.elim
      · simp at e
    have hfin := cp_row hcp.blk (fun q vs d hq => ⟨hall q vs d hq, (hcp.src q vs d hq).2.2.1, fun t ht => ((hcp.src q vs d hq).2.2.2 t ht).1⟩) hcp.link hch
    obtain ⟨ts', h1, h2⟩ := hfin
    have hsp := row_sp hcp.blk (fun q vs d hq => ⟨hall q vs d hq, (hcp.src q vs d hq).2.2.1, fun t ht => ((hcp.src q vs d hq).2.2.2 t ht).1⟩) hch (fun m u h hu hh => cp_sp hcp.blk (fun q vs d hq => ⟨hall q vs d hq, (hcp.src q vs d hq).2.2.1, fun t ht => ((hcp.src q vs d hq).2.2.2 t ht).1⟩) hcp.link u h (fun hne => hcp.link _ _ _ hch m _ u hh hu hne))
    rw [HN.out] at hsp
    exact ⟨ts', rfl, h1, h2, hcp.bel, hsp⟩
  · rw [List.concat_eq_append] at hcon
    subst hcon
    have hpop := CP.pop (by have := HCP.out; simpa using this)
    obtain ⟨hp1, hp2⟩ := hpop
    have hgw : ∃ gw, qw = some ⟨gw, 0, none⟩ := by
      rcases HCP.out.row.2 with ⟨e, _⟩ | ⟨gw, cap, cur, hv, _⟩
      · simp at e
      · have : qw = some ⟨gw, 0, none⟩ := by simp at hv; exact hv.1
        exact ⟨gw, this⟩
    obtain ⟨gw, rfl⟩ := hgw
    have hcell : wr.cell? ⟨gw, wait'.length, none⟩ = some (.slice (some ⟨g, 0, none⟩) us.length us.length) := by
      have := HCP.out.row.cellAt wait'.length (by simp)
      rw [this]
      simp
    have hlen : (wait' ++ [(g, us)]).length = wait'.length + 1 := by simp
    rw [hlen]
    have hcap : wait'.length + 1 ≤ cw := by
      rcases HCP.out.row.2 with ⟨e, _⟩ | ⟨gw, cap, cur, hv, _, _, hc, _⟩
      · simp at e
      · have : cw = cap := by simp at hv; exact hv.2
        rw [hlen] at hc
        omega
    have hwl : wait'.length + 1 ≤ 1000000000 := by have h1 := HCP.out.short; have h2 := HDT.out; have h3 := HCN.out; rw [hlen] at h1; omega
    have hlast : IntKind.i64.wrap (((wait'.length + 1 : Nat) : Int) - 1) = (wait'.length : Int) := by rw [IntKind.wrap_i64]; omega
    have hz1 : ¬ ((wait'.length : Int) + 1 ≤ 0) := by omega
    have hz2' : (0 : Int) < (wait'.length : Int) + 1 := by omega
    have hz3 : (wait'.length : Int) < (wait'.length : Int) + 1 := by omega
    have hz4 : (0 : Int) ≤ (wait'.length : Int) := by omega
    have hz5 : (wait'.length : Int) ≤ (cw : Int) := by omega
    have hlast2 : IntKind.i64.wrap ((wait'.length : Int) + 1 - 1) = (wait'.length : Int) := by rw [IntKind.wrap_i64]; omega
    have HP1 := hidb hp1
    have HP2 := hidb hp2
    clear hp1 hp2 hlen hlast
    go_wp2_with fail
    have HUS := hidb ((HP1.out.src g us [] HP2.out).2.2.1)
    have HD0 : Hid (toDo wait' + cnA us ≤ gk) := hidb (by have := HDO.out; rw [toDo_snoc] at this; exact this)
    have HD1 : Hid (toDo wait' + cnA us ≤ cnA ts) := hidb (by have := HDT.out; rw [toDo_snoc] at this; exact this)
    generalize hUL : us.length = U at *
    have HUL := hidb hUL
    clear hUL hcell hcap hwl hz1 hz2' hz3 hz4 hz5 hlast2 HCP HDO HDT
    go_loopw [4, 27] (fun wv iv wq => ∃ (m : Nat) (R : RM) (ch : List Nat) (wt : List (Nat × List Tr)), m ≤ U ∧ iv = .int .i64 m ∧ CP w wq R (fun k => k = g) wt wv ∧ R g = some (us, ch) ∧ ch.length = m ∧ toDo wt + cnA (us.drop m) + m ≤ toDo wait' + cnA us ∧ ∃ ch, R w.heap.size = some (ts, ch)) (fun _ iv _ => U - (intOf iv).toNat)
    case atStart => exact ⟨0, R, [], wait', by omega, rfl, HP1.out, HP2.out, rfl, by simp, HRT.out⟩
    case round =>
    obtain ⟨m, R1, ch, wt, hm, rfl, hcp, hRg, hchl, hdo, hroot⟩ := hrel
    obtain ⟨qw, cw, rfl⟩ := own_sl hcp.row
    have HC := hidb hcp
    have HRG := hidb hRg
    have HCH := hidb hchl
    have HDO := hidb hdo
    have HRT := hidb hroot
    have hmw : IntKind.i64.wrap ((m : Int) + 1) = (m : Int) + 1 := by rw [IntKind.wrap_i64]; have := HUS.out; omega
    clear hcp hRg hchl hdo hroot HP1 HP2
    by_cases hmU : m < U
    · have hmb : (m : Int) < (U : Int) := by omega
      have hmz : (0 : Int) ≤ (m : Int) := by omega
      have hul := HUL.out
      have hu : us[m]? = some us[m] := List.getElem?_eq_getElem (by omega)
      have hmem : us[m] ∈ us := List.getElem_mem (by omega)
      generalize us[m] = t at *
      obtain ⟨k', n', f', s', a', c', kids⟩ := t
      have hin := ((HC.out.src g us ch HRG.out).2.2.2 _ hmem)
      have hblk := (HC.out.blk g us ch HRG.out).1
      have hraw : ∀ j, j < 5 → wr.cell? ⟨g, m * 5 + j, none⟩ = (Tr.mk k' n' f' s' a' c' kids).cells[j]? := fun j hj => by
        rw [cell_of_row _ _ _ _ _ _ hblk]
        have := rowCells_raw us ch m j _ hu (by rw [HCH.out]; omega) hj
        simpa using this
      have k4 : wr.cell? ⟨g, m * 5 + 4, none⟩ = some (.slice a' kids.length c') := hraw 4 (by omega)
      have j4 : wr.frozen? ⟨g, m * 5 + 4, none⟩ = false := frozen_of_row _ _ _ _ _ hblk
      have HIN := hidb hin
      have HU := hidb hu
      have hglt := HC.out.lt HRG.out
      clear hin hblk hraw hmem hul hu
      by_cases hk0 : kids.length = 0
      · have hkz : (kids.length : Int) = 0 := by omega
        have CN := hidb (fun w' => copyList_none a' c' w')
        have HST := hidb (HC.out.set HRG.out (t := .mk k' n' f' s' a' c' kids) (by rw [HCH.out]; exact HU.out) 0 (X := wr) (Below.refl _ _) (fun h => absurd hk0 h) (cur := fun q => q = g) (fun q => ⟨fun h => .inl h, fun h => h.elim id (fun h => absurd hk0 h.1)⟩))
        rw [HCH.out] at HST
        simp only [Tr.kids, hk0, if_true, cpV] at HST
        rw [hk0] at k4
        go_wp2_with (first
          | (go_at_call 66; refine (CN.out _).mono ?_; rintro e w1 ⟨rfl, rfl⟩))
        obtain ⟨c0, hc0⟩ := HRT.out
        refine ⟨⟨m + 1, _, ch ++ [0], wt, by omega, by go_num, HST.out, updR_same _ _ _, by simp [HCH.out], ?_, ?_⟩, by simp [intOf]; omega⟩
        · have h1 := cnA_drop HU.out
          have h2 := cnT_kids (.mk k' n' f' s' a' c' kids)
          have := HDO.out
          omega
        · have := set_root (b := True) (k := 0) (kids := []) HRG.out hc0 (fun h => absurd trivial h)
          simpa using this
      · have hin := HIN.out.1
        obtain ⟨b, o, rfl, -⟩ := kid_at hin (by omega)
        have hkl : kids.length ≤ 400000 := by have := HIN.out.2; unfold Small at this; exact this.1
        have hkp : (0 : Int) < (kids.length : Int) := by omega
        have CK := hidb (copyList_any wr ⟨b, o, none⟩ kids.length c' (rowCells kids []) (rowCells_len _ _) (by omega) (by omega) (kids_src hin HC.out.bel) (rowCells_one _ _))
        have HST := hidb (HC.out.set HRG.out (t := .mk k' n' f' s' (some ⟨b, o, none⟩) c' kids) (by rw [HCH.out]; exact HU.out) wr.heap.size (X := wr.alloc (.cells (rowCells kids []).toArray TT)) (below_new wr _) (fun _ => ⟨(MapKept.heap_alloc wr _).1, Nat.le_refl _⟩) (cur := fun q => q = g ∨ q = wr.heap.size) (fun q => ⟨fun h => h.imp id (fun e => ⟨hk0, e⟩), fun h => h.imp id (fun e => e.2)⟩))
        rw [HCH.out] at HST
        simp only [Tr.kids, hk0, if_false, cpV] at HST
        rw [World.setCell_alloc_past _ _ _ _ hglt] at HST
        have hwt := HST.out.short
        have hdd := HDO.out
        have hd1 := HD1.out
        have hcn := HCN.out
        have hwt2 : wt.length ≤ 1000000000 := by have := HC.out.short; omega
        have HGS := hidb (show w.heap.size ≤ wr.heap.size from HC.out.bel.size)
        clear hin hwt hdd hd1 hcn
        go_wp2_with (first
          | (go_at_call 66; refine CK.out.mono ?_; rintro e w1 ⟨rfl, rfl⟩)
          | (at_builtin; refine wpList_append_own_at _ rfl _ _ 117 rfl w.heap.size TS i0 (.slice none 0 0) 1 24 Tryz.underlying117 hi hz0 hz1 hz2 rfl (by decide) (.slice qw wt.length cw) wt.length (wt.map fun p => .slice (some ⟨p.1, 0, none⟩) p.2.length p.2.length) rfl ?e1 ⟨wr.heap.size + 1, 0, none⟩ 1 1 [.slice (some ⟨wr.heap.size, 0, none⟩) kids.length kids.length] rfl rfl ?e2 ?e3 ?e4 ?e5 ?e6 ?_))
        case e1 => exact HST.out.row.alloc _
        case e2 => have := cell_one_new ((wr.setCell ⟨g, m * 5 + 4, none⟩ (.slice (some ⟨wr.heap.size, 0, none⟩) kids.length kids.length)).alloc (.cells (rowCells kids []).toArray TT)) (.slice (some ⟨wr.heap.size, 0, none⟩) kids.length kids.length) TS; simpa using this
        case e3 => intro u hu; simp at hu; subst hu; rfl
        case e4 => unfold maxLen; omega
        case e5 => omega
        case e6 => have := HGS.out; simp; omega
        intro v' w4 hown' hgrow hnil hat
        have HPU := hidb (HST.out.push (by omega) (updR_same _ _ _) (below_new _ _) hown' hgrow)
        obtain ⟨q4, c4, rfl⟩ := own_sl hown'
        clear hown' hgrow hnil hat
        go_wp2_with fail
        obtain ⟨c0, hc0⟩ := HRT.out
        refine ⟨⟨m + 1, _, ch ++ [wr.heap.size], wt ++ [(wr.heap.size, kids)], by omega, by go_num, HPU.out, ?_, by simp [HCH.out], ?_, ?_⟩, by simp [intOf]; omega⟩
        · rw [updR_other _ _ _ _ (by omega), updR_same]
        · have h1 := cnA_drop HU.out
          have h2 := cnT_kids (.mk k' n' f' s' (some ⟨b, o, none⟩) c' kids)
          simp only [Tr.kids] at h2
          have := HDO.out
          rw [toDo_snoc]
          omega
        · have := set_root (b := False) (k := wr.heap.size) (kids := kids) HRG.out hc0 (fun _ e => by have := HC.out.lt hc0; omega)
          simpa using this
    have hmn : ¬ (m : Int) < (U : Int) := by omega
    obtain rfl : m = U := by omega
    have hup : 0 < us.length := (HC.out.src g us ch HRG.out).2.1
    have hdd := HDO.out
    rw [List.drop_eq_nil_of_le (by have := HUL.out; omega)] at hdd
    have hfin : toDo wt < gk ∧ toDo wt ≤ cnA ts := by
      have := HD0.out; have := HD1.out; have := HUL.out
      simp only [cnA] at hdd
      omega
    have HFN := hidb hfin
    clear hdd hfin hup
    go_wp2_with fail
    go_roundg (toDo wt)
    case measure => exact HFN.out.1
    case rel => exact ⟨R1, wt, HC.out.done HRG.out (by rw [HCH.out, HUL.out]), Nat.le_refl _, HFN.out.2, HRT.out⟩
end Go.Proofs.YtpcpdehnppfbfaaGreat


/- term.Copy: a copy may be written. -/
namespace Go.Proofs.YtpcpdehnppfbfaaGreat
open Go.RowKit Go.Lib Go.Deep
attribute [local go_sem] store_float f64bits
attribute [local go_sem ↓] Go.wp_at_zero Go.wp_at_succ

theorem copyAll_one_sp (k n : Int) (f : Nat) (s : ByteArray) (a : Option Addr) (c : Nat) (kids : List Tr) (W : World) (b g : Nat) (hg : W.heap.size = g) (bx : Box W b (.int .i64 k) (.int .i64 n) (.float .f64 f) (.string s) (.slice a kids.length c)) (hin : (Tr.mk k n f s a c kids).In W 0) (hsm : Small (.mk k n f s a c kids)) (hcn : cnT (.mk k n f s a c kids) ≤ 1000000000) :
    Calls Tryz.prog 49 #[.slice (some ⟨b, 0, none⟩) 1 1] W fun e w1 => ∃ t2 : Tr, e = .returned (.slice (some ⟨g, 0, none⟩) 1 1) ∧ Sm (.mk k n f s a c kids) t2 ∧ t2.In w1 g ∧ (match t2 with | .mk k n f s a c kids => w1.cell? ⟨g, 0, none⟩ = some (.int .i64 k) ∧ w1.cell? ⟨g, 1, none⟩ = some (.int .i64 n) ∧ w1.cell? ⟨g, 2, none⟩ = some (.float .f64 f) ∧ w1.cell? ⟨g, 3, none⟩ = some (.string s) ∧ w1.cell? ⟨g, 4, none⟩ = some (.slice a kids.length c)) ∧ Below W.heap.size W w1 ∧ ∃ H, SpH (NewS W w1) w1 H t2.sl := by
  subst hg
  refine (copyAll_sp [.mk k n f s a c kids] ⟨b, 0, none⟩ 1 W (by simp) (by simp) (fun t ht => by
    obtain rfl : t = .mk k n f s a c kids := by simpa using ht
    exact ⟨hin, hsm⟩) (fun j v hj => by
    simp only [rowCells, Tr.cells, List.append_nil] at hj
    match j, hj with
    | 0, hj => simp at hj; subst hj; simpa [Addr.add] using bx.c0
    | 1, hj => simp at hj; subst hj; simpa [Addr.add] using bx.c1
    | 2, hj => simp at hj; subst hj; simpa [Addr.add] using bx.c2
    | 3, hj => simp at hj; subst hj; simpa [Addr.add] using bx.c3
    | 4, hj => simp at hj; subst hj; simpa [Addr.add] using bx.c4
    | j + 5, hj => simp at hj) (by simpa [cnA] using hcn)).mono ?_
  rintro e w1 ⟨ts', rfl, hsa, hia, hb, H, hsp⟩
  obtain ⟨t2, hs2, hi2, hq⟩ := copy_take hsa hia
  refine ⟨t2, rfl, hs2, hi2, hq, hb, H, ?_⟩
  obtain ⟨k2, n2, f2, s2, a2, c2, kids2⟩ := t2
  match H, hsp with
  | 0, ⟨_, _, e⟩ => simp at e
  | H + 1, ⟨a9, n9, c9, e, _, r⟩ =>
    injection e with i1 i2 i3
    subst i1 i2 i3
    obtain r | ⟨g, e1, _, r⟩ := r
    · simp at r
    · obtain ⟨v0, v1, v2, v3, u, F, hu⟩ := r 0 (by simp)
      injection e1 with e1
      injection e1 with e1 _ _
      subst e1
      have := F.c4
      simp only [Nat.zero_mul, Nat.zero_add] at this
      rw [hq.2.2.2.2] at this
      cases this
      exact hu.up

set_option maxHeartbeats 1000000 in
theorem copy_sp (t : Tr) (w : World) (hin : t.In w 0) (hsm : Small t) (hcn : cnT t ≤ 1000000000) : Calls Tryz.prog 36 #[t.val] w fun e w' => ∃ t', e = .returned t'.val ∧ Sm t t' ∧ t'.In w' w.heap.size ∧ Below w.heap.size w w' ∧ ∃ H, SpH (NewS w w') w' H t'.sl := by
  obtain ⟨k, n, f, s, a, c, kids⟩ := t
  simp only [Tr.val, Tr.cells]
  have bx : Box (((w.alloc (.cells #[.int .i64 k, .int .i64 n, .float .f64 f, .string s, .slice a kids.length c] TT)).alloc (.cells #[.int .i64 0, .int .i64 0, .float .f64 0, .string ⟨#[]⟩, .slice none 0 0] TT)).alloc (.cells #[.int .i64 k, .int .i64 n, .float .f64 f, .string s, .slice a kids.length c] TT)) (w.heap.size + 1 + 1) (.int .i64 k) (.int .i64 n) (.float .f64 f) (.string s) (.slice a kids.length c) := by
    have := Box.new ((w.alloc (.cells #[.int .i64 k, .int .i64 n, .float .f64 f, .string s, .slice a kids.length c] TT)).alloc (.cells #[.int .i64 0, .int .i64 0, .float .f64 0, .string ⟨#[]⟩, .slice none 0 0] TT)) TT (.int .i64 k) (.int .i64 n) (.float .f64 f) (.string s) (.slice a kids.length c)
    simpa using this
  have rx : Box (((w.alloc (.cells #[.int .i64 k, .int .i64 n, .float .f64 f, .string s, .slice a kids.length c] TT)).alloc (.cells #[.int .i64 0, .int .i64 0, .float .f64 0, .string ⟨#[]⟩, .slice none 0 0] TT)).alloc (.cells #[.int .i64 k, .int .i64 n, .float .f64 f, .string s, .slice a kids.length c] TT)) (w.heap.size + 1) (.int .i64 0) (.int .i64 0) (.float .f64 0) (.string ⟨#[]⟩) (.slice none 0 0) := by
    have := (Box.new (w.alloc (.cells #[.int .i64 k, .int .i64 n, .float .f64 f, .string s, .slice a kids.length c] TT)) TT (.int .i64 0) (.int .i64 0) (.float .f64 0) (.string ⟨#[]⟩) (.slice none 0 0)).alloc (.cells #[.int .i64 k, .int .i64 n, .float .f64 f, .string s, .slice a kids.length c] TT)
    simpa using this
  have bw : Below w.heap.size w (((w.alloc (.cells #[.int .i64 k, .int .i64 n, .float .f64 f, .string s, .slice a kids.length c] TT)).alloc (.cells #[.int .i64 0, .int .i64 0, .float .f64 0, .string ⟨#[]⟩, .slice none 0 0] TT)).alloc (.cells #[.int .i64 k, .int .i64 n, .float .f64 f, .string s, .slice a kids.length c] TT)) := ((below_new w _).alloc (by simp) _).alloc (by simp; omega) _
  have CA := hidb (copyAll_one_sp k n f s a c kids _ _ (w.heap.size + 1 + 1 + 1) (by simp) bx (in_below bw hin) hsm hcn)
  have RX := hidb rx
  have BW := hidb bw
  have HSZ : Hid (w.heap.size ≤ (((w.alloc (.cells #[.int .i64 k, .int .i64 n, .float .f64 f, .string s, .slice a kids.length c] TT)).alloc (.cells #[.int .i64 0, .int .i64 0, .float .f64 0, .string ⟨#[]⟩, .slice none 0 0] TT)).alloc (.cells #[.int .i64 k, .int .i64 n, .float .f64 f, .string s, .slice a kids.length c] TT)).heap.size) := hidb bw.size
  generalize kids.length = KL at *
  clear bx rx bw
  go_enter Tryz.func36, Tryz.ntmps36
  go_wp2_with (first | (go_at_call 49; refine CA.out.mono ?_; rintro e w1 ⟨⟨k2, n2, f2, s2, a2, c2, kids2⟩, rfl, hs2, hi2, ⟨q0, q1, q2, q3, q4⟩, hb, H, hsp⟩; have HSP := hidb hsp; have HLT := hidb hb.size; obtain ⟨r0, r1, r2, r3, r4, g0, g1, g2, g3, g4, -⟩ := RX.out.keep hb; have HS := hidb hs2; have HI := hidb hi2; have HB := hidb (BW.out.trans (hb.mono BW.out.size)); clear hb hs2 hi2 CA RX BW HSZ hsp))
  exact bodyPost_ret (v := .agg #[.int .i64 k2, .int .i64 n2, .float .f64 f2, .string s2, .slice a2 kids2.length c2]) (by simp [results, Tryz.results36, go_sem, r0, r1, r2, r3, r4]) rfl ⟨.mk k2 n2 f2 s2 a2 c2 kids2, rfl, HS.out, in_base (by omega) _ (in_set (in_set (in_set (in_set (in_set HI.out (by simp) _) (by simp) _) (by simp) _) (by simp) _) (by simp) _), ((((HB.out.setCell (by simp) _).setCell (by simp) _).setCell (by simp) _).setCell (by simp) _).setCell (by simp) _, H, SpH.more (fun q hq => ⟨by have := hq.1; simp at this; omega, by have := hq.2; simpa using this⟩) (SpH.but (X := fun q => q = w.heap.size + 1) (((((But.refl (fun q => q = w.heap.size + 1) w1).setCell (p := ⟨w.heap.size + 1, 0, none⟩) (fun _ => rfl) _).setCell (p := ⟨w.heap.size + 1, 1, none⟩) (fun _ => rfl) _).setCell (p := ⟨w.heap.size + 1, 2, none⟩) (fun _ => rfl) _).setCell (p := ⟨w.heap.size + 1, 3, none⟩) (fun _ => rfl) _ |>.setCell (p := ⟨w.heap.size + 1, 4, none⟩) (fun _ => rfl) _) (fun q hq e => by have := hq.1; simp at this; omega) HSP.out)⟩
end Go.Proofs.YtpcpdehnppfbfaaGreat


