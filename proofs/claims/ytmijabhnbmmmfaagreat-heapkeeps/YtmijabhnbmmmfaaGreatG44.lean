import Derived.Test.YtmijabhnbmmmfaaGreatG42
import Derived.Test.YtmijabhnbmmmfaaGreatG43
import Derived.Deep.LoopGhost
import Derived.Test.YtmijabhnbmmmfaaGreatG37
import Derived.RegionTactic
import Derived.Deep.Cut
/- scan, walked. -/
namespace Go.Proofs.YtmijabhnbmmmfaaGreat
open Go.RowKit Go.Deep
attribute [local go_sem] store_float f64bits f64frombits
attribute [local go_sem ↓] Go.wp_at_zero Go.wp_at_succ

theorem row_set {w : World} {base g n cap j : Nat} {xs : List Value} (h : w.ownsRow base 51 1 (.slice (some ⟨g, 0, none⟩) n cap) n xs) (v : Value) : (w.setCell ⟨g, j, none⟩ v).ownsRow base 51 1 (.slice (some ⟨g, 0, none⟩) n cap) n (xs.set j v) := by
  obtain ⟨hl, ⟨e, _⟩ | ⟨g', cap', cur, e, h1, h2, h3, h4, h5, h6⟩⟩ := h
  · cases e
  · obtain ⟨rfl, rfl⟩ : g = g' ∧ cap = cap' := by simpa using e
    refine ⟨by simpa using hl, Or.inr ⟨g, cap, cur.setIfInBounds j v, rfl, h1, ?_, h3, h4, by simpa using h5, ?_⟩⟩
    · simp [World.setCell, Array.getElem?_modify, h2]
    · rw [Array.toList_setIfInBounds, List.take_set, h6]

theorem row_cell1 {w : World} {base g n cap j : Nat} {l : List Int} {x : Int} (h : w.ownsRow base 51 1 (.slice (some ⟨g, 0, none⟩) n cap) n (ints l)) (hx : l[j]? = some x) : w.cell? ⟨g, j, none⟩ = some (.int .u64 x) ∧ w.frozen? ⟨g, j, none⟩ = false ∧ g < w.heap.size := by
  obtain ⟨hl, ⟨e, _⟩ | ⟨g', cap', cur, e, h1, h2, h3, h4, h5, h6⟩⟩ := h
  · cases e
  · obtain ⟨rfl, rfl⟩ : g = g' ∧ cap = cap' := by simpa using e
    have hjl := get_lt hx
    have hln : l.length = n := by simpa [ints] using hl
    have hc : cur[j]? = some (.int .u64 x) := by
      have : (cur.toList.take (n * 1))[j]? = some (.int .u64 x) := by rw [h6]; simp [ints, hx]
      rw [List.getElem?_take, if_pos (by omega)] at this
      simpa using this
    refine ⟨by simp [World.cell?, h2, hc], by simp [World.frozen?, h2], ?_⟩
    rcases Nat.lt_or_ge g w.heap.size with q | q
    · exact q
    · rw [Array.getElem?_eq_none q] at h2; cases h2

theorem sp_set {w : World} {q n cap j : Nat} {v : Int} (h : SpU w (.slice (some ⟨q, 0, none⟩) n cap)) : SpU (w.setCell ⟨q, j, none⟩ (.int .u64 v)) (.slice (some ⟨q, 0, none⟩) n cap) := by
  intro q' hq cur e fr hc i x hx
  obtain rfl : q = q' := by simpa [Value.ownBlock] using hq
  cases hb : w.heap[q]? with
  | none => simp [World.setCell, Array.getElem?_modify, hb] at hc
  | some o =>
    cases o with
    | cells cur0 e0 fr0 =>
      have hc' : cur0.setIfInBounds j (.int .u64 v) = cur := by
        simp [World.setCell, Array.getElem?_modify, hb] at hc
        exact hc.1
      rw [← hc', Array.getElem?_setIfInBounds] at hx
      split at hx
      · split at hx
        · exact ⟨v, (Option.some.inj hx).symm⟩
        · cases hx
      · exact h q rfl cur0 e0 fr0 hb i x hx
    | _ => simp [World.setCell, Array.getElem?_modify, hb] at hc

theorem MV.setw {w0 w : World} {mb hb nb N q cap j : Nat} {laid : List Int} {now : Nat → Int} (h : MV w0 w mb hb nb N (.slice (some ⟨q, 0, none⟩) laid.length cap) laid now) (v : Int) : MV w0 (w.setCell ⟨q, j, none⟩ (.int .u64 v)) mb hb nb N (.slice (some ⟨q, 0, none⟩) laid.length cap) (laid.set j v) now := by
  obtain ⟨o1, o2⟩ := h.off q rfl
  have hB : But (· = q) w (w.setCell ⟨q, j, none⟩ (.int .u64 v)) := (But.refl (· = q) w).setCell (p := ⟨q, j, none⟩) (fun _ => rfl) _
  have hq := (row_lt1 h.own q rfl).1
  refine ⟨h.tri.but hB (fun e => o1 e.symm), ?_, fun i hi => ?_, Nat.lt_of_lt_of_le h.lt hB.size, h.ne, h.off, h.mB, h.nB, h.be.setCell hq _, sp_set h.sp, fun q' hq' => by rw [List.length_set]; exact h.po q' hq'⟩
  · have := row_set (j := j) h.own (.int .u64 v)
    have e : (ints laid).set j (.int .u64 v) = ints (laid.set j v) := by simp [ints, List.map_set]
    rw [e] at this
    rw [List.length_set]
    exact this
  · obtain ⟨a1, a2⟩ := h.row i hi
    exact ⟨(hB.cell (p := ⟨nb, i, none⟩) h.lt (fun e => o2 e.symm)).trans a1, (hB.frozen (p := ⟨nb, i, none⟩) h.lt (fun e => o2 e.symm)).trans a2⟩

theorem but_then2 {mb nb : Nat} {V U : Value} {w wr w5 : World} (h : But (MB mb nb V) w wr) (h5 : But (MB mb nb U) wr w5) (ho : ∀ q, U.ownBlock = some q → V.ownBlock = some q ∨ w.heap.size ≤ q) : But (MB mb nb V) w w5 := by
  have e1 : But (fun k => MB mb nb V k ∨ w.heap.size ≤ k) w wr := h.mono (fun k _ e => .inl e)
  have e2 : But (fun k => MB mb nb V k ∨ w.heap.size ≤ k) wr w5 := h5.mono (fun k _ e => by
    rcases e with e | e | e
    · exact .inl (.inl e)
    · exact .inl (.inr (.inl e))
    · exact (ho k e).elim (fun e => .inl (.inr (.inr e))) .inr)
  exact (e1.trans e2).mono (fun k hk e => e.elim id (fun e => absurd hk (by omega)))

theorem rep_64 {ws : List Int} {L : List ByteArray} {t : Tr} {x : Int} (hg : allT goodT t = true) (hr : Rep ws L t x) : In64 x := by
  rcases rep_own hg hr with ⟨_, h⟩ | ⟨_, p, h, _⟩
  · obtain ⟨k, n, f, s, a, c, kids⟩ := t
    rw [aloneW_mk] at h
    split at h
    · rw [h]; exact of_64 _ _
    split at h
    · rw [h]; exact of_64 _ _
    split at h
    · obtain ⟨i, h, _⟩ := h
      rw [h]; exact of_64 _ _
    · rw [h]; exact of_64 _ _
  · rw [h]; exact of_64 _ _

/-- No word of a right term is a header. -/
theorem rep_nohead {ws : List Int} {L : List ByteArray} (hL : L.length ≤ 100000) {t : Tr} {x : Int} (hg : allT goodT t = true) (hr : Rep ws L t x) : isB x = false := by
  obtain ⟨k, n, f, s, a, c, kids⟩ := t
  simp only [allT, Bool.and_eq_true] at hg
  have ht : ¬ x % 16 = 7 := by
    have := rep_tag hL hr hg.1
    unfold tagI at this
    omega
  unfold isB
  simp [ht]

/-- A word that stands alone does not point; one that does not, does. -/
theorem rep_pts {ws : List Int} {L : List ByteArray} (hL : L.length ≤ 100000) {t : Tr} {x : Int} (hg : allT goodT t = true) (hr : Rep ws L t x) : (aloneT t = true → ptB x = false) ∧ (aloneT t = false → tagI x = tagT t ∧ (tagI x = 5 ∨ tagI x = 6)) := by
  refine ⟨fun ha => ?_, fun ha => ?_⟩
  · rcases rep_own hg hr with ⟨_, h⟩ | ⟨h, _⟩
    · obtain ⟨k, n, f, s, a, c, kids⟩ := t
      simp only [allT, Bool.and_eq_true] at hg
      have tg := rep_tag hL hr hg.1
      rw [aloneW_mk] at h
      unfold ptB
      rcases tg with ⟨_, e⟩ | ⟨_, e⟩ | ⟨_, e⟩ | ⟨e8, e⟩ | ⟨hB, e⟩
      · rw [e]; rfl
      · rw [e]; rfl
      · rw [e]; rfl
      · subst e8
        rw [if_neg (by decide), if_neg (by decide), if_neg (by decide)] at h
        rw [h, nil_made.1]; rfl
      · have hc := hdB_cases hB
        simp only [aloneT] at ha
        rcases hc with rfl | rfl | rfl | rfl <;> simp at ha
    · rw [ha] at h; cases h
  · rcases rep_own hg hr with ⟨h, _⟩ | ⟨_, p, h, hp, _⟩
    · rw [ha] at h; cases h
    · have ht : tagT t = 5 ∨ tagT t = 6 := by obtain ⟨k, n, f, s, a, c, kids⟩ := t; simp only [tagT]; split <;> simp
      have : tagI x = tagT t := by
        rw [h]
        rcases ht with e | e
        · rw [e]; exact (box_made hp).1
        · rw [e]; exact (cons_made hp).1
      exact ⟨this, by rw [this]; exact ht⟩

/-- What goes on from words to words laid later. -/
def Up (ws : List Int) (L : List ByteArray) (cells : List Cl) (now : Nat → Int) (cs : List Cl) (nw : Nat → Int) (n : Nat) : Prop := (∀ v t, Pt L cells v t → Pt L cs v t) ∧ ∀ R, GH ws cells now 0 R → GH ws cs nw n R

set_option maxHeartbeats 3000000 in
set_option maxRecDepth 100000 in
theorem scan_ok {hb ab most : Nat} {ws : List Int} {L : List ByteArray} {F : List Nat} {a : Option Addr} {c : Nat} {w0 w : World} {mb nb T : Nat} {V : Value} {cells : List Cl} {now : Nat → Int} (hp0 : HP w0 hb ab most ws L F a c) (hL : L.length ≤ 100000) (hA : cells = [] ∨ ∃ g, a = some ⟨g, 0, none⟩) (hT : T ≤ 16777216) (hm : MV w0 w mb hb nb ws.length V (wds cells) now) (hci : CI ws L cells now 0 T) :
    Calls Tryz.prog 57 #[.pointer (some ⟨mb, 0, none⟩)] w fun e w' => e = .returned (.tuple #[]) ∧ ∃ (cells' : List Cl) (now' : Nat → Int) (V' : Value), MV w0 w' mb hb nb ws.length V' (wds cells') now' ∧ CI ws L cells' now' cells'.length T ∧ Up ws L cells now cells' now' cells'.length ∧ But (MB mb nb V) w w' ∧ ∀ q, V'.ownBlock = some q → V.ownBlock = some q ∨ w.heap.size ≤ q := by
  have HP0 := hidb hp0
  have HM0 := hidb hm
  have HC0 := hidb hci
  have HA := hidb (show 0 < T → ∃ g, a = some ⟨g, 0, none⟩ from fun hn => by
    rcases hA with e | h
    · have := hci.po
      rw [e] at this
      simp at this
      omega
    · exact h)
  clear hp0 hm hci hA
  go_enter Tryz.func57, Tryz.ntmps57
  go_wp2_with fail
  go_loopg [2] T (fun gk s2 wr => ∃ (n : Nat) (cs : List Cl) (nw : Nat → Int) (U : Value), s2 = .int .i64 n ∧ n + gk = T ∧ MV w0 wr mb hb nb ws.length U (wds cs) nw ∧ CI ws L cs nw n T ∧ Up ws L cells now cs nw n ∧ But (MB mb nb V) w wr ∧ ∀ q, U.ownBlock = some q → V.ownBlock = some q ∨ w.heap.size ≤ q)
  case atStart => exact ⟨0, cells, now, V, rfl, by omega, HM0.out, HC0.out, ⟨fun _ _ h => h, fun _ h => h⟩, But.refl _ _, fun q h => .inl h⟩
  case round =>
  obtain ⟨n, cs, nw, U, rfl, hgk, hm, hci, hpt, hbt, hown⟩ := hrel
  have HM := hidb hm
  have HC := hidb hci
  have HPT := hidb hpt
  have HBT := hidb hbt
  have HOW := hidb hown
  have HGK := hidb hgk
  have hlen : (wds cs).length = cs.length := by simp [wds]
  have hcsT : cs.length ≤ T := by have := hci.po; omega
  have hnl := hci.nl
  obtain ⟨av, cv, rfl⟩ := own_formW hm.own
  clear hm hci hpt hbt hown hgk HM0 HC0
  obtain ⟨c0, c1, c2, f0, f1, f2, hlt⟩ := HM.out.tri
  rw [hlen] at c1
  by_cases hn : n < cs.length
  · have hnb : (n : Int) < (cs.length : Int) := by omega
    have hnz : (0 : Int) ≤ (n : Int) := by omega
    obtain ⟨g, ha⟩ := HA.out (by omega)
    obtain ⟨q, cap, e9, hq0, hqlt⟩ := HM.out.own.form (by rw [hlen]; omega)
    obtain ⟨rfl, rfl⟩ : av = some ⟨q, 0, none⟩ ∧ cv = cap := by simpa using e9
    obtain ⟨⟨x, kd⟩, hx⟩ : ∃ cl, cs[n]? = some cl := ⟨_, List.getElem?_eq_getElem hn⟩
    obtain ⟨v0, v0f, -⟩ := row_cell1 HM.out.own (wds_get hx)
    have HX := hidb hx
    have HAA := hidb ha
    clear e9 ha
    cases kd with
    | none =>
      have HGF := hidb (fun R (h : GH ws cells now 0 R) => (HPT.out.2 R h).fr (m := n + frN (hkI x)) (by omega) (HC.out.front hx))
      obtain ⟨hB, hci2⟩ := HC.out.fr hx
      obtain ⟨hh, -, -, -⟩ := head_is hB
      have h64 : In64 x := by rw [hh]; exact hd_64 _ _
      have WH := hidb (whead_any x h64.1 h64.2)
      rw [hB] at WH
      have FR := hidb (frontOf_any (hkI x))
      have HC2 := hidb hci2
      have hnl2 := hci2.nl
      generalize hkI x = K at *
      generalize hsI x = Sz at *
      have hfr0 : 1 ≤ frN K := by unfold frN; split <;> omega
      generalize frN K = fr at *
      have hadd : IntKind.i64.wrap ((n : Int) + (fr : Int)) = ((n + fr : Nat) : Int) := by rw [IntKind.wrap_i64]; omega
      clear hh h64 hci2 hx hB
      go_wp2_with (first | (go_at_call 86; refine (WH.out _).mono ?_; rintro e w' ⟨rfl, hw'⟩; obtain rfl := hw'.symm) | (go_at_call 87; refine (FR.out _).mono ?_; rintro e w' ⟨rfl, hw'⟩; obtain rfl := hw'.symm))
      go_roundg (T - (n + fr))
      case measure => have := HGK.out; omega
      case rel => exact ⟨n + fr, cs, nw, _, by simp, by omega, HM.out, HC2.out, ⟨HPT.out.1, HGF.out⟩, HBT.out, HOW.out⟩
    | some t =>
      obtain ⟨t1, t2, t3⟩ := HC.out.pe n x t (Nat.le_refl _) hx
      have h64 := rep_64 t2.1 t3
      have hB := rep_nohead hL t2.1 t3
      have WH := hidb (whead_any x h64.1 h64.2)
      rw [hB] at WH
      obtain ⟨p1, p2⟩ := rep_pts hL t2.1 t3
      have hadd : IntKind.i64.wrap ((n : Int) + 1) = ((n + 1 : Nat) : Int) := by rw [IntKind.wrap_i64]; omega
      generalize hkI x = K at *
      generalize hsI x = Sz at *
      cases hal : aloneT t with
      | true =>
        have ME := hidb (fun w' => meet_al (w := w') (mb := mb) h64.1 h64.2 (p1 hal))
        have HC2 := hidb (HC.out.elA hx hal)
        have HGF := hidb (fun R (h : GH ws cells now 0 R) => (HPT.out.2 R h).elA hx hal)
        have hset : (wds cs).set n x = wds cs := by
          have := wds_get hx
          obtain ⟨hm', e⟩ := List.getElem?_eq_some_iff.1 this
          rw [← e, List.set_getElem_self]
        have HM2 := hidb (show MV w0 (wr.setCell ⟨q, n, none⟩ (.int .u64 x)) mb hb nb ws.length (.slice (some ⟨q, 0, none⟩) (wds cs).length cv) (wds cs) nw from by have := HM.out.setw (j := n) x; rwa [hset] at this)
        have HB2 := hidb (show But (MB mb nb V) w (wr.setCell ⟨q, n, none⟩ (.int .u64 x)) from HBT.out.setCell (p := ⟨q, n, none⟩) (fun hl => (HOW.out q rfl).elim (fun e => .inr (.inr e)) (fun e => absurd hl (by simp only; omega))) _)
        have hcn := HC2.out.nl
        clear h64 hB p1 p2 t1 t2 t3 hx hal hset
        go_wp2_with (first | (go_at_call 86; refine (WH.out _).mono ?_; rintro e w' ⟨rfl, hw'⟩; obtain rfl := hw'.symm) | (go_at_call 56; refine (ME.out _).mono ?_; rintro e w' ⟨rfl, hw'⟩; obtain rfl := hw'.symm))
        go_roundg (T - (n + 1))
        case measure => have := HGK.out; omega
        case rel => exact ⟨n + 1, cs, nw, _, by simp, by omega, HM2.out, HC2.out, ⟨HPT.out.1, HGF.out⟩, HB2.out, HOW.out⟩
      | false =>
        obtain ⟨p, hN⟩ := new_blk t1 t2 t3 hal
        obtain ⟨hnw, hci2, hmono⟩ := HC.out.elP hx hal hN (by omega)
        have HGF := hidb (fun R (h : GH ws cells now 0 R) => (HPT.out.2 R h).elP hx hal hN (by omega) hnw)
        obtain ⟨ht, ht56⟩ := p2 hal
        have hbody : bodyI x = p := by
          rw [hN.x_]
          rw [ht] at ht56
          have hpp := hN.p_
          rcases ht56 with e | e
          · rw [e]; exact (box_made hpp).2.1
          · rw [e]; exact (cons_made hpp).2.1
        have ME := hidb (meet_new HP0.out HAA.out h64.1 h64.2 ht56 hbody hN.n_ hN.l_ (by rw [hlen]; omega) HM.out hnw (blk_rep HAA.out t1 t2 t3 hal hN))
        rw [ht, hlen, ← ownC_wds] at ME
        have HC2 := hidb hci2
        have HMO := hidb hmono
        have hcn := hci2.nl
        have HWD := hidb (show wds cs ++ wds (ownC ws p t) = wds (cs ++ ownC ws p t) from by simp [wds])
        have HWS := hidb (fun v => show (wds (cs ++ ownC ws p t)).set n v = wds ((cs ++ ownC ws p t).set n (v, some t)) from by simp [wds, List.map_set])
        have HXG := hidb (show (wds (cs ++ ownC ws p t))[n]? = some x from wds_get (kd := some t) (by rw [List.getElem?_append_left hn]; exact hx))
        have hlt2 : cs.length ≤ (wds (cs ++ ownC ws p t)).length := by simp [wds]
        generalize ofW (tagT t) (cs.length : Int) = v at *
        generalize hCC : cs ++ ownC ws p t = CC at *
        clear h64 hB p1 p2 t1 t2 t3 hx hal hN hnw hci2 hmono ht ht56 hbody hCC v0 v0f c0 c1 c2 f0 f1 f2 hlt
        obtain ⟨c0, c1, c2, f0, f1, f2, hlt⟩ := HM.out.tri
        rw [hlen] at c1
        obtain ⟨v0, v0f, -⟩ := row_cell1 HM.out.own (wds_get HX.out)
        go_wp2_with (first | (go_at_call 86; refine (WH.out _).mono ?_; rintro e w' ⟨rfl, hw'⟩; obtain rfl := hw'.symm) | (go_at_call 56; refine ME.out.mono ?_; rintro e w5 ⟨rfl, V', hm5, hb5, ho5⟩; rw [HWD.out] at hm5; obtain ⟨q5, cap5, e5, hq5, hl5⟩ := hm5.own.form (by omega); subst e5; have HM5 := hidb hm5; have HB5 := hidb hb5; have HO5 := hidb ho5; obtain ⟨k0, k1, k2, m0, m1, m2, -⟩ := hm5.tri; obtain ⟨u0, u0f, -⟩ := row_cell1 hm5.own HXG.out; have hnb5 : (n : Int) < ((wds CC).length : Int) := (by omega); clear hm5 hb5 ho5))
        have HM6 := hidb (HM5.out.setw (j := n) v)
        rw [HWS.out] at HM6
        have HSZ := HBT.out.size
        have HB6 := hidb (show But (MB mb nb V) w (w5.setCell ⟨q5, n, none⟩ (.int .u64 v)) from ((but_then2 HBT.out HB5.out HOW.out).setCell (p := ⟨q5, n, none⟩) (fun hl => (HO5.out q5 rfl).elim (fun e => (HOW.out q5 e).elim (fun e => .inr (.inr e)) (fun e => absurd hl (by simp only; omega))) (fun e => absurd hl (by simp only; omega))) _))
        go_roundg (T - (n + 1))
        case measure => have := HGK.out; omega
        case rel =>
          refine ⟨n + 1, _, _, _, by simp, by omega, by have := HM6.out; simpa [wds] using this, HC2.out, ⟨fun v t h => HMO.out v t (HPT.out.1 v t h), HGF.out⟩, HB6.out, fun q' hq' => ?_⟩
          rcases HO5.out q' hq' with e | e
          · exact HOW.out q' e
          · exact .inr (by omega)
  · have hnb : ¬ (n : Int) < (cs.length : Int) := by omega
    obtain rfl : n = cs.length := by omega
    go_wp2_with fail
    exact bodyPost_end (v := .tuple #[]) (by simp [results, Tryz.results57, go_sem]) rfl ⟨rfl, cs, nw, _, HM.out, HC.out, HPT.out, HBT.out, HOW.out⟩
end Go.Proofs.YtmijabhnbmmmfaaGreat


/- A gauge that keeps what it has seen. -/
namespace Go.Proofs.YtmijabhnbmmmfaaGreat
open Go.RowKit Go.Deep
attribute [local go_sem] store_float f64bits f64frombits
attribute [local go_sem ↓] Go.wp_at_zero Go.wp_at_succ

abbrev Sn := Nat → Int × Int × Int

/-- The gauge's box and its table. -/
structure GS (w : World) (gb hb sb N W : Nat) (S : Sn) : Prop where
  tri : Tri w gb (.pointer (some ⟨hb, 0, none⟩)) (.int .i64 (W : Int)) (.slice (some ⟨sb, 0, none⟩) N N)
  row : ∀ j, j < N → w.cell? ⟨sb, j * 3, none⟩ = some (.int .u64 (S j).1) ∧ w.cell? ⟨sb, j * 3 + 1, none⟩ = some (.int .i32 (S j).2.1) ∧ w.cell? ⟨sb, j * 3 + 2, none⟩ = some (.int .i32 (S j).2.2) ∧ w.frozen? ⟨sb, j * 3, none⟩ = false ∧ w.frozen? ⟨sb, j * 3 + 1, none⟩ = false ∧ w.frozen? ⟨sb, j * 3 + 2, none⟩ = false
  lt : sb < w.heap.size
  ne : gb ≠ sb

theorem GS.but {P : Nat → Prop} {w w' : World} {gb hb sb N W : Nat} {S : Sn} (h : GS w gb hb sb N W S) (hb' : But P w w') (h1 : ¬ P gb) (h2 : ¬ P sb) : GS w' gb hb sb N W S := by
  refine ⟨h.tri.but hb' h1, fun j hj => ?_, Nat.lt_of_lt_of_le h.lt hb'.size, h.ne⟩
  obtain ⟨a1, a2, a3, a4, a5, a6⟩ := h.row j hj
  have hl := h.lt
  exact ⟨(hb'.cell (p := ⟨sb, j * 3, none⟩) hl h2).trans a1, (hb'.cell (p := ⟨sb, j * 3 + 1, none⟩) hl h2).trans a2, (hb'.cell (p := ⟨sb, j * 3 + 2, none⟩) hl h2).trans a3, (hb'.frozen (p := ⟨sb, j * 3, none⟩) hl h2).trans a4, (hb'.frozen (p := ⟨sb, j * 3 + 1, none⟩) hl h2).trans a5, (hb'.frozen (p := ⟨sb, j * 3 + 2, none⟩) hl h2).trans a6⟩

theorem GS.keep {w w' : World} {gb hb sb N W : Nat} {S : Sn} (h : GS w gb hb sb N W S) (hb' : Below w.heap.size w w') : GS w' gb hb sb N W S := h.but (But.of_below (S := fun _ => False) hb') (fun h => h) (fun h => h)

/-- Its count set anew. -/
theorem GS.count {w : World} {gb hb sb N W : Nat} {S : Sn} (h : GS w gb hb sb N W S) (W' : Nat) : GS (w.setCell ⟨gb, 1, none⟩ (.int .i64 (W' : Int))) gb hb sb N W' S := by
  have hB : But (· = gb) w (w.setCell ⟨gb, 1, none⟩ (.int .i64 (W' : Int))) := (But.refl (· = gb) w).setCell (p := ⟨gb, 1, none⟩) (fun _ => rfl) _
  have hne : ¬ (fun k => k = gb) sb := fun e => h.ne e.symm
  refine ⟨h.tri.set1 _, fun j hj => ?_, Nat.lt_of_lt_of_le h.lt hB.size, h.ne⟩
  obtain ⟨a1, a2, a3, a4, a5, a6⟩ := h.row j hj
  have hl := h.lt
  exact ⟨(hB.cell (p := ⟨sb, j * 3, none⟩) hl hne).trans a1, (hB.cell (p := ⟨sb, j * 3 + 1, none⟩) hl hne).trans a2, (hB.cell (p := ⟨sb, j * 3 + 2, none⟩) hl hne).trans a3, (hB.frozen (p := ⟨sb, j * 3, none⟩) hl hne).trans a4, (hB.frozen (p := ⟨sb, j * 3 + 1, none⟩) hl hne).trans a5, (hB.frozen (p := ⟨sb, j * 3 + 2, none⟩) hl hne).trans a6⟩

/-- What the table says is so. -/
def SeenOk (ws : List Int) (L : List ByteArray) (S : Sn) : Prop := ∀ j, (S j).1 = 0 ∨ ∃ t, Rep ws L t (S j).1 ∧ Fine t ∧ (S j).2.1 = (wN t : Int) ∧ (S j).2.2 = (deepN t : Int)

abbrev GB (gb sb : Nat) : Nat → Prop := fun k => k = gb ∨ k = sb

def OvS (hb ab most gb sb : Nat) (ws : List Int) (L : List ByteArray) (F : List Nat) (a : Option Addr) (c : Nat) (u : Int) (d D N : Nat) : Prop :=
  ∀ (W : Nat) (S : Sn) (w : World), HP w hb ab most ws L F a c → GS w gb hb sb ws.length W S → SeenOk ws L S → W + N ≤ 65536 →
    Calls Tryz.prog 50 #[.pointer (some ⟨gb, 0, none⟩), .int .u64 u, .int .i64 d] w fun e w' => e = .returned (.int .i64 D) ∧ (∃ S', GS w' gb hb sb ws.length (W + N) S' ∧ SeenOk ws L S') ∧ But (GB gb sb) w w'
def InS (hb ab most gb sb : Nat) (ws : List Int) (L : List ByteArray) (F : List Nat) (a : Option Addr) (c : Nat) (u : Int) (d D N : Nat) : Prop :=
  ∀ (W : Nat) (S : Sn) (w : World), HP w hb ab most ws L F a c → GS w gb hb sb ws.length W S → SeenOk ws L S → W + N ≤ 65536 →
    Calls Tryz.prog 80 #[.pointer (some ⟨gb, 0, none⟩), .int .u64 u, .int .i64 d] w fun e w' => e = .returned (.int .i64 D) ∧ (∃ S', GS w' gb hb sb ws.length (W + N) S' ∧ SeenOk ws L S') ∧ But (GB gb sb) w w'

section
variable {hb ab most gb sb : Nat} {ws : List Int} {L : List ByteArray} {F : List Nat} {a : Option Addr} {c : Nat}

set_option maxHeartbeats 1600000 in
theorem ovS_alone {u : Int} {d : Nat} (h0 : 0 ≤ u) (h1 : u ≤ 18446744073709551615) (hr : wRightB u = true) (ht : tagI u = 1 ∨ tagI u = 2 ∨ tagI u = 3 ∨ tagI u = 4) (hok : aloneB L u = true) (hd : d ≤ 200) : OvS hb ab most gb sb ws L F a c u d 1 0 := by
  intro W S w hp hg hs _
  have AL := hidb (alone_ok hp u h0 h1 hr ht)
  rw [hok] at AL
  have PT := hidb (points_any u h0 h1)
  have e : ptB u = false := by unfold ptB; rcases ht with h | h | h | h <;> rw [h] <;> rfl
  rw [e] at PT
  have HG := hidb hg
  have HS := hidb hs
  obtain ⟨c0, c1, c2, f0, f1, f2, hlt⟩ := hg.tri
  clear hp e hg hs
  generalize aloneK u = K at *
  generalize aloneN u = N at *
  generalize aloneS L u = Sx at *
  have hdd : ¬ (200 : Int) < (d : Int) := by omega
  go_enter Tryz.func50, Tryz.ntmps50
  go_wp2_with (first | (go_at_call 51; refine (PT.out _).mono ?_; rintro e w' ⟨rfl, rfl⟩) | (go_at_call 52; refine AL.out.mono ?_; rintro e w1 ⟨rfl, hb1⟩; have HB := hidb hb1; clear hb1))
  go_ret
  exact ⟨rfl, ⟨S, (HG.out.keep HB.out).keep (below_new _ _), HS.out⟩, But.of_below (below_a0 HB.out _)⟩

set_option maxHeartbeats 1600000 in
set_option maxRecDepth 100000 in
theorem again_ok {w : World} {W d A D : Nat} {S : Sn} (hg : GS w gb hb sb ws.length W S) (hA : W + A ≤ 65536) (hd : d + D ≤ 201) (hD : 1 ≤ D) :
    Calls Tryz.prog 79 #[.pointer (some ⟨gb, 0, none⟩), .agg #[.int .i32 (A : Int), .int .i32 (D : Int)], .int .i64 d] w fun e w' => e = .returned (.int .i64 D) ∧ GS w' gb hb sb ws.length (W + A) S ∧ But (GB gb sb) w w' := by
  have HG := hidb hg
  have HG1 := hidb (hg.keep (below_new w (.cells #[.int .i32 (A : Int), .int .i32 (D : Int)] 165)))
  have HD1 := hidb (Duo.new w 165 (.int .i32 (A : Int)) (.int .i32 (D : Int)))
  obtain ⟨c0, c1, c2, f0, f1, f2, hlt⟩ := HG1.out.tri
  obtain ⟨d0, d1, g0, g1, -⟩ := HD1.out
  have hgw : gb < w.heap.size := hg.tri.lt
  have hne1 : ¬ gb = w.heap.size := by omega
  have hne2 : ¬ w.heap.size = gb := by omega
  have w1 : IntKind.i64.wrap (A : Int) = (A : Int) := by rw [IntKind.wrap_i64]; omega
  have w2 : IntKind.i64.wrap (D : Int) = (D : Int) := by rw [IntKind.wrap_i64]; omega
  have w3 : IntKind.i64.wrap ((W : Int) + (A : Int)) = (W : Int) + (A : Int) := by rw [IntKind.wrap_i64]; omega
  have hb1 : ¬ (65536 : Int) < (W : Int) + (A : Int) := by omega
  have w4 : IntKind.i64.wrap ((d : Int) + (D : Int)) = (d : Int) + (D : Int) := by rw [IntKind.wrap_i64]; omega
  have w5 : IntKind.i64.wrap ((d : Int) + (D : Int) - 1) = (d : Int) + (D : Int) - 1 := by rw [IntKind.wrap_i64]; omega
  have hb2 : ¬ (200 : Int) < (d : Int) + (D : Int) - 1 := by omega
  clear hg hd hA
  go_enter Tryz.func79, Tryz.ntmps79
  go_wp2_with fail
  go_cut [] from 7 (fun wc => GS wc gb hb sb ws.length (W + A) S ∧ Duo wc w.heap.size (.int .i32 (A : Int)) (.int .i32 (D : Int)) ∧ But (GB gb sb) w wc)
  case first =>
    go_region
    go_wp2_with fail
    go_meet
    case rel =>
      have hx := HG.out.count (W + A)
      rw [Int.natCast_add] at hx
      have es : (w.setCell ⟨gb, 1, none⟩ (.int .i64 ((W : Int) + (A : Int)))).heap.size = w.heap.size := by simp [World.setCell]
      have ho := Duo.new (w.setCell ⟨gb, 1, none⟩ (.int .i64 ((W : Int) + (A : Int)))) 165 (.int .i32 (A : Int)) (.int .i32 (D : Int))
      rw [es] at ho
      refine ⟨(hx.keep (below_new _ _)).keep ((Below.refl _ _).drew), ho.keep ((Below.refl _ _).drew), ?_⟩
      exact (((But.refl (GB gb sb) w).setCell (p := ⟨gb, 1, none⟩) (fun _ => .inl rfl) _).alloc _).drew
  case rest =>
  obtain ⟨hg2, hd2, hb2'⟩ := hcut
  have HG2 := hidb hg2
  have HB2 := hidb hb2'
  clear c0 c1 c2 f0 f1 f2 hlt d0 d1 g0 g1 HG1 HD1
  obtain ⟨c0, c1, c2, f0, f1, f2, hlt⟩ := hg2.tri
  obtain ⟨d0, d1, g0, g1, -⟩ := hd2
  rw [Int.natCast_add] at c1
  clear hg2 hb2'
  go_wp2_with fail
  go_ret
  exact ⟨rfl, HG2.out, HB2.out⟩

set_option maxHeartbeats 1600000 in
set_option maxRecDepth 100000 in
/-- A word that points: what is known of it, or what is there. -/
theorem ovS_pt {u : Int} {d p : Nat} {t : Tr} (hL : L.length ≤ 100000) (h0 : 0 ≤ u) (h1 : u ≤ 18446744073709551615) (ht : tagI u = 5 ∨ tagI u = 6) (hp : bodyI u = p) (hpl : p < ws.length) (hd : d ≤ 200) (hdd2 : d + deepN t ≤ 201) (hf : Fine t) (hr : Rep ws L t u) (hin : InS hb ab most gb sb ws L F a c u d (deepN t) (wN t)) : OvS hb ab most gb sb ws L F a c u d (deepN t) (wN t) := by
  intro W S w hpp hg hs hN
  have hu0 : u ≠ 0 := fun e => by subst e; unfold tagI at ht; omega
  have IN := hidb (hin W S w hpp hg hs hN)
  have PT := hidb (points_any u h0 h1)
  have e : ptB u = true := by unfold ptB; rcases ht with h | h <;> rw [h] <;> rfl
  rw [e] at PT
  have BD := hidb (body_any u h0 h1)
  rw [hp] at BD
  obtain ⟨r1, r2, r3, _, _, _⟩ := hg.row p hpl
  have HAG := hidb (fun (h : (S p).1 = u) => show (S p).2.1 = (wN t : Int) ∧ (S p).2.2 = (deepN t : Int) from by
    rcases hs p with h' | ⟨t0, q1, q2, q3, q4⟩
    · exact absurd (h.symm.trans h') hu0
    · rw [h] at q1
      obtain ⟨e1, e2, e3⟩ := same_like _ _ (rep_det hL t hf t0 u q2 hr q1)
      rw [q3, q4, e2, e3]
      exact ⟨rfl, rfl⟩)
  have HG := hidb hg
  have HS := hidb hs
  have hDp := deepN_pos t
  obtain ⟨c0, c1, c2, f0, f1, f2, hlt⟩ := hg.tri
  generalize S p = Sp at r1 r2 r3 HAG
  obtain ⟨s0, s1, s2⟩ := Sp
  simp only at r1 r2 r3 HAG
  clear hin e ht hp hpp hr hf hs hg
  have hpb : (p : Int) < (ws.length : Int) := by omega
  have hpz : (0 : Int) ≤ (p : Int) := by omega
  have hdd : ¬ (200 : Int) < (d : Int) := by omega
  by_cases hsu : s0 = u
  · obtain ⟨rfl, rfl⟩ := HAG.out hsu
    subst hsu
    have AG := hidb (again_ok (ws := ws) HG.out (A := wN t) (D := deepN t) (d := d) hN hdd2 hDp)
    clear IN HAG
    generalize wN t = A at *
    generalize deepN t = D at *
    go_enter Tryz.func50, Tryz.ntmps50
    go_wp2_with (first | (go_at_call 51; refine (PT.out _).mono ?_; rintro e w' ⟨rfl, rfl⟩) | (go_at_call 78; refine (BD.out _).mono ?_; rintro e w' ⟨rfl, rfl⟩) | (go_at_call 79; refine AG.out.mono ?_; rintro e w1 ⟨rfl, hq1, hq2⟩; have HQ1 := hidb hq1; have HQ2 := hidb hq2; clear hq1 hq2))
    go_ret
    exact ⟨rfl, ⟨S, HQ1.out, HS.out⟩, HQ2.out⟩
  · have hsb : (s0 == u) = false := by simpa using hsu
    clear HAG
    generalize wN t = A at *
    generalize deepN t = D at *
    go_enter Tryz.func50, Tryz.ntmps50
    go_wp2_with (first | (go_at_call 51; refine (PT.out _).mono ?_; rintro e w' ⟨rfl, rfl⟩) | (go_at_call 78; refine (BD.out _).mono ?_; rintro e w' ⟨rfl, rfl⟩) | (go_at_call 80; refine IN.out.mono ?_; rintro e w1 ⟨rfl, hq⟩; have HQ := hidb hq; clear hq))
    go_ret
    exact ⟨rfl, HQ.out⟩
end
end Go.Proofs.YtmijabhnbmmmfaaGreat


