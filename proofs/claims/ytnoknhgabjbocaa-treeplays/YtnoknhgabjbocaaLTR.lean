/- TreeRows. -/
import Derived.Test.YtnoknhgabjbocaaAvC1
import Derived.Test.YtnoknhgabjbocaaAvC4
import Derived.Deep.Cut
namespace Go.Proofs.Ytnoknhgabjbocaa
open Go.RowKit Go.Shelf
attribute [local go_sem] Oper.semAt_some
attribute [local go_sem ↓] Go.wp_at_zero Go.wp_at_succ

theorem Rise.pre {a b : List KV} (h : Rise b) (hp : a <+: b) : Rise a := h.sublist hp.sublist
theorem Rise.flt {l : List KV} {p : KV → Bool} (h : Rise l) : Rise (l.filter p) := h.filter _

theorem not_rise {q : List KV} {last v xk xv : Int} (h : xk ≤ last) : ¬ Rise (q ++ [(last, v)] ++ [(xk, xv)]) := by
  intro hr
  have h1 := (List.pairwise_append.1 hr).2.2 (last, v) (by simp) (xk, xv) (by simp)
  simp only at h1
  omega

theorem two_cells {W : World} {a b : Nat} {u v x y : Value} (c1 : W.cell? ⟨a, 0, none⟩ = some u) (c2 : W.frozen? ⟨a, 0, none⟩ = false) (c3 : W.cell? ⟨b, 0, none⟩ = some v) (c4 : W.frozen? ⟨b, 0, none⟩ = false) (hne : a ≠ b) :
    (((W.setCell ⟨a, 0, none⟩ x).setCell ⟨b, 0, none⟩ y).cell? ⟨a, 0, none⟩ = some x ∧ ((W.setCell ⟨a, 0, none⟩ x).setCell ⟨b, 0, none⟩ y).frozen? ⟨a, 0, none⟩ = false) ∧ (((W.setCell ⟨a, 0, none⟩ x).setCell ⟨b, 0, none⟩ y).cell? ⟨b, 0, none⟩ = some y ∧ ((W.setCell ⟨a, 0, none⟩ x).setCell ⟨b, 0, none⟩ y).frozen? ⟨b, 0, none⟩ = false) :=
  ⟨⟨(World.cell?_setCell_other _ _ _ _ (ne_blk _ _ _ _ (Ne.symm hne))).trans (World.cell?_setCell_same _ _ _ c1), by rw [World.frozen?_setCell, World.frozen?_setCell]; exact c2⟩, World.cell?_setCell_same _ _ _ (u := v) (by rw [World.cell?_setCell_other _ _ _ _ (ne_blk _ _ _ _ hne)]; exact c3), by rw [World.frozen?_setCell, World.frozen?_setCell]; exact c4⟩

theorem tmod_bd (n : Int) : n.tmod 20001 ≤ 20000 ∧ -20000 ≤ n.tmod 20001 := by
  have h1 := Int.tmod_lt_of_pos n (show (0 : Int) < 20001 by decide)
  have h2 := Int.lt_tmod_of_pos n (show (0 : Int) < 20001 by decide)
  omega

theorem TB.cut {D : Nat → Prop} {w : World} {tb : Nat} {L : List KV} (h : TB w tb D L) : TB w tb (fun k => D k ∧ k < w.heap.size) L := by
  obtain ⟨p, t, h1, h2, h3, h4, h5, h6, h7⟩ := h
  exact ⟨p, t, h1, h2.cut (fun k hk hl => ⟨hk, hl⟩), h3, h4, h5, h6, fun h => h7 h.1⟩

theorem TB.norm {D : Nat → Prop} {w : World} {tb : Nat} {L : List KV} (h : TB w tb D L) : TB w tb (fun k => k < w.heap.size ∧ k ≠ tb) L := by
  obtain ⟨p, t, h1, h2, h3, h4, h5, h6, h7⟩ := h
  exact ⟨p, t, h1, h2.cut (fun k hk hl => ⟨hl, fun e => h7 (e ▸ hk)⟩), h3, h4, h5, h6, fun h => h.2 rfl⟩

set_option maxRecDepth 100000 in
set_option maxHeartbeats 8000000 in
theorem treeRows_walk (fr st n kp : Int) (hfr : -9223372036854775808 ≤ fr ∧ fr ≤ 9223372036854775807) (hn : -9223372036854775808 ≤ n ∧ n ≤ 9223372036854775807) (hkp : -9223372036854775808 ≤ kp ∧ kp ≤ 9223372036854775807) (w : World) :
    Calls Try.prog 4 #[.int .i64 fr, .int .i64 st, .int .i64 n, .int .i64 kp] w fun e w' => e = .returned (.bool true) ∧ Below w.heap.size w w' := by
  refine calls_marks Try.func4 rfl ?_
  simp only [Try.ntmps4, List.size_toArray, List.length_cons, List.length_nil, Nat.reduceAdd, Nat.reduceSub, Array.replicate_succ, Array.replicate_zero, List.push_toArray, List.append_toArray, List.nil_append, List.cons_append]
  have HF := hidb hfr
  have HN := hidb hn
  have HK := hidb hkp
  clear hfr hn hkp
  go_upto_if 22 with (go_at_call 7; refine (known13_any _).mono ?_; rintro e w1 ⟨rfl, hb1⟩; have HB1 := hidb hb1; clear hb1)
  go_cut [2] from 17 (fun s2 wc => ∃ m : Nat, s2 = .int .i64 (m : Int) ∧ m ≤ 20000 ∧ wc = w1)
  case first =>
    have t1 := tmod_bd n
    generalize n.tmod 20001 = q at *
    have HT := hidb t1
    clear t1
    go_wp2_with fail
    · go_meet
      case rel =>
        have ht := HT.out
        have e : wrap64 (-q) = ((-q).toNat : Int) := by unfold wrap64; omega
        exact ⟨(-q).toNat, by rw [e], by omega, rfl⟩
    · go_meet
      case rel =>
        have ht := HT.out
        exact ⟨q.toNat, by rw [Int.toNat_of_nonneg (by omega)], by omega, rfl⟩
  case rest =>
  obtain ⟨m, rfl, hm, rfl⟩ := hcut
  have HM := hidb hm
  clear hm
  go_upto_if 28 with fail
  go_cut [3] from 17 (fun s3 wc' => ∃ kk : Int, s3 = .int .i64 kk ∧ wc' = wc)
  case first =>
    go_wp2_with fail
    all_goals go_meet
    all_goals exact ⟨_, rfl, rfl⟩
  case rest =>
  obtain ⟨kk, rfl, rfl⟩ := hcut
  rename World => w1
  have HR : Hid ((w1.cell? ⟨w.heap.size, 0, none⟩ = some (.bool false) ∧ w1.frozen? ⟨w.heap.size, 0, none⟩ = false) ∧ Below w.heap.size w w1 ∧ w.heap.size < w1.heap.size) := hidb (by
    have hb := HB1.out
    have hl : w.heap.size < (w.alloc (.cells #[.bool false] 4)).heap.size := by simp
    refine ⟨⟨(hb.cell (p := ⟨w.heap.size, 0, none⟩) hl).trans (by simp [go_sem]), (hb.frozen (p := ⟨w.heap.size, 0, none⟩) hl).trans (by simp [go_sem])⟩, (below_new w _).trans (hb.mono (by simp)), Nat.lt_of_lt_of_le hl hb.size⟩)
  clear HB1 HN HK
  go_wp2_with (go_at_call 8; refine (new_any _).mono ?_; rintro e w2 ⟨rfl, ht2, hb2, hs2⟩; have HT2 := hidb ht2; have HB2 := hidb hb2; clear ht2 hb2)
  clear hs2
  generalize htb : w1.heap.size = tb at *
  have HTB := hidb htb
  clear htb
  go_loopw [10, 11] (fun kv iv wr => ∃ (i : Nat) (k : Int) (D : Nat → Prop) (L : List KV), kv = .int .i64 k ∧ iv = .int .i64 (i : Int) ∧ i ≤ m ∧ -9223372036854775808 ≤ k ∧ TB wr tb D L ∧ L.length ≤ i ∧ Below tb w1 wr ∧ ∀ k, D k → tb < k) (fun _ iv _ => m - (intOf iv).toNat)
  case atStart => exact ⟨0, fr, _, [], rfl, rfl, by omega, HF.out.1, HT2.out, by simp, HB2.out, fun _ h => h.elim⟩
  case round =>
  obtain ⟨i, k, D, L, rfl, rfl, hi, hk, hT, hL, hB, hDt⟩ := hrel
  have HDT := hidb hDt
  clear hDt
  have HT := hidb hT
  have HBW := hidb hB
  have HK := hidb hk
  have HI := hidb (⟨hi, hL⟩ : i ≤ m ∧ L.length ≤ i)
  clear hT hB hk hi hL HT2 HB2
  by_cases him : i < m
  · have e1 : (i : Int) < (m : Int) := by omega
    have HE4 : Hid (wrap64 ((i : Int) + 1) = ((i + 1 : Nat) : Int)) := hidb (by have := HM.out; unfold wrap64; omega)
    go_wp2_with (go_at_call 9; refine (put_any HT.out (by have := HI.out; have := HM.out; omega) _ _ HK.out).mono ?_; rintro e w3 ⟨rfl, hT3, hb3⟩; have HT3 := hidb hT3; have HB3 := hidb hb3; clear hT3 hb3)
    go_roundw
    case rel =>
      have hw := HBW.out
      have hl := HI.out
      refine ⟨i + 1, wrap64 (k + st), _, _, rfl, by rw [HE4.out], by omega, by unfold wrap64; omega, HT3.out, ?_, hw.trans (HB3.out.below (by have := hw.size; have := HTB.out; omega) (fun k e => by omega)), fun k hk => hk.elim (HDT.out k) (fun h => Nat.lt_of_lt_of_le HT.out.lt h.1)⟩
      rw [ins_len HT.out.rise]; split <;> omega
    case measure =>
      rw [HE4.out]
      simp only [RowKit.intOf, Int.toNat_natCast]
      omega
  · have e1 : ¬ (i : Int) < (m : Int) := by omega
    obtain ⟨ln, hln, hcl⟩ : ∃ ln : Int, ln = (L.length : Int) ∧ Calls Try.prog 17 #[.pointer (some ⟨tb, 0, none⟩)] wr fun e w' => e = .returned (.int .i64 ln) ∧ w' = wr := ⟨_, rfl, len_any HT.out⟩
    have CL := hidb hcl
    have CH := hidb (hl_any HT.out (by have := HI.out; have := HM.out; omega))
    have HLN := hidb hln
    have e8 : ¬ (m : Int) < ln := by have := HI.out; omega
    have HIM := hidb him
    clear hcl hln him
    go_wp2_with (first
      | (go_at_call 17; refine CL.out.mono ?_; rintro e w4 ⟨rfl, rfl⟩)
      | (go_at_call 16; refine CH.out.mono ?_; rintro e w5 ⟨hv, lv, rfl, rfl, HV, HLE⟩; have e7 : ¬ ln < lv := (by have := HV.out; have := HLN.out; omega))
      | (go_at_call 18; refine (HLE.out _).mono ?_; rintro e w6 ⟨rfl, rfl⟩))
    have HLM : Hid (L.length ≤ m) := hidb (by have := HI.out; have := HIM.out; omega)
    clear CL CH HLE HV e7 e8 HLN HK HI HIM e1
    go_loopw [10, 12] (fun kv iv wr => ∃ (i : Nat) (k : Int) (D : Nat → Prop) (L : List KV), kv = .int .i64 k ∧ iv = .int .i64 (i : Int) ∧ i ≤ m ∧ TB wr tb D L ∧ L.length ≤ m ∧ Below tb w1 wr ∧ ∀ k, D k → tb < k) (fun _ iv _ => m - (intOf iv).toNat)
    case atStart => exact ⟨0, fr, D, L, rfl, rfl, by omega, HT.out, HLM.out, HBW.out, HDT.out⟩
    case round =>
    clear HT HLM HBW HDT
    obtain ⟨i, k, D, L, rfl, rfl, hi, hT, hL, hB, hDt⟩ := hrel
    have HDT := hidb hDt
    clear hDt
    have HT := hidb hT
    have HBW := hidb hB
    have HI := hidb (⟨hi, hL⟩ : i ≤ m ∧ L.length ≤ m)
    clear hT hB hi hL
    by_cases him : i < m
    · have e1 : (i : Int) < (m : Int) := by omega
      have HE4 : Hid (wrap64 ((i : Int) + 1) = ((i + 1 : Nat) : Int)) := hidb (by have := HM.out; unfold wrap64; omega)
      go_wp2_with (go_at_call 11; refine (drop_any HT.out (by have := HI.out; have := HM.out; omega) _).mono ?_; rintro e w3 ⟨rfl, hT3, hb3⟩; have HT3 := hidb hT3; have HB3 := hidb hb3; clear hT3 hb3)
      · go_roundw
        case rel =>
          have hw := HBW.out
          have hl := HI.out
          refine ⟨i + 1, wrap64 (k + st), _, _, rfl, by rw [HE4.out], by omega, HT3.out, ?_, hw.trans (HB3.out.below (by have := hw.size; have := HTB.out; omega) (fun k e => by omega)), fun k hk => hk.elim (HDT.out k) (fun h => Nat.lt_of_lt_of_le HT.out.lt h.1)⟩
          exact Nat.le_trans (List.length_filter_le _ _) hl.2
        case measure =>
          rw [HE4.out]
          simp only [RowKit.intOf, Int.toNat_natCast]
          omega
      · go_roundw
        case rel => exact ⟨i + 1, wrap64 (k + st), D, L, rfl, by rw [HE4.out], by have := HI.out; omega, HT.out, HI.out.2, HBW.out, HDT.out⟩
        case measure =>
          rw [HE4.out]
          simp only [RowKit.intOf, Int.toNat_natCast]
          omega
    · have e1 : ¬ (i : Int) < (m : Int) := by omega
      obtain ⟨ln, hln, hcl⟩ : ∃ ln : Int, ln = (L.length : Int) ∧ Calls Try.prog 17 #[.pointer (some ⟨tb, 0, none⟩)] wr fun e w' => e = .returned (.int .i64 ln) ∧ w' = wr := ⟨_, rfl, len_any HT.out⟩
      have CL := hidb hcl
      have CH := hidb (hl_any HT.out (by have := HI.out; have := HM.out; omega))
      have HLN := hidb hln
      have HIM := hidb him
      clear hcl hln him
      go_wp2_with (first
        | (go_at_call 17; refine CL.out.mono ?_; rintro e w4 ⟨rfl, rfl⟩)
        | (go_at_call 16; refine CH.out.mono ?_; rintro e w5 ⟨hv, lv, rfl, rfl, HV, HLE⟩; have e7 : ¬ ln < lv := (by have := HV.out; have := HLN.out; omega); have e8 : ¬ hv < 0 := (by have := HV.out; omega); have e9 : ¬ 64 < hv := (by have := HV.out; omega))
        | (go_at_call 18; refine (HLE.out _).mono ?_; rintro e w6 ⟨rfl, rfl⟩)
        | (go_at_call 20; have HTA := hidb (HT.out.cut.keep (((below_new _ (.cells #[.int .i64 0] 3))).trans ((below_new _ (.cells #[.int .i64 0] 3)).mono (by simp)))); refine (All_any HTA.out).mono ?_; rintro e w7 ⟨f, rfl, hb7, hq7⟩; have HB7 := hidb hb7; have HQ7 := hidb hq7; clear hb7 hq7))
      have F : ∃ W6, Hid (TB W6 tb D L ∧ Below tb w1 W6 ∧ W6 = w6) := ⟨_, hidb ⟨HT.out, HBW.out, rfl⟩⟩
      obtain ⟨hT6, hB6, -⟩ := (show TB w6 tb D L ∧ Below tb w1 w6 ∧ True from ⟨HT.out, HBW.out, trivial⟩)
      clear F
      have hb2 : Below w6.heap.size w6 ((w6.alloc (.cells #[.int .i64 0] 3)).alloc (.cells #[.int .i64 0] 3)) := (below_new _ _).alloc (by simp) _
      have hb7 := HB7.out
      have hq7 := HQ7.out
      have g0 : w7.cell? ⟨w6.heap.size, 0, none⟩ = some (.int .i64 0) := (hb7.cell (p := ⟨w6.heap.size, 0, none⟩) (by simp; omega)).trans (by simp [go_sem])
      have g1 : w7.cell? ⟨w6.heap.size + 1, 0, none⟩ = some (.int .i64 0) := (hb7.cell (p := ⟨w6.heap.size + 1, 0, none⟩) (by simp)).trans (by simp [go_sem])
      have g2 : w7.frozen? ⟨w6.heap.size, 0, none⟩ = false := (hb7.frozen (p := ⟨w6.heap.size, 0, none⟩) (by simp; omega)).trans (by simp [go_sem])
      have g3 : w7.frozen? ⟨w6.heap.size + 1, 0, none⟩ = false := (hb7.frozen (p := ⟨w6.heap.size + 1, 0, none⟩) (by simp)).trans (by simp [go_sem])
      have hb67 : Below w6.heap.size w6 w7 := hb2.trans (hb7.mono (by simp; omega))
      have hs7 := hb7.size
      simp only [World.size_alloc] at hs7
      obtain ⟨⟨rc, rf⟩, hbw1, hRl⟩ := HR.out
      have htb := HTB.out
      have hs6 := hB6.size
      have r7 : w7.cell? ⟨w.heap.size, 0, none⟩ = some (.bool false) := (hb67.cell (p := ⟨w.heap.size, 0, none⟩) (show w.heap.size < _ by omega)).trans ((hB6.cell (p := ⟨w.heap.size, 0, none⟩) (show w.heap.size < _ by omega)).trans rc)
      have f7 : w7.frozen? ⟨w.heap.size, 0, none⟩ = false := (hb67.frozen (p := ⟨w.heap.size, 0, none⟩) (show w.heap.size < _ by omega)).trans ((hB6.frozen (p := ⟨w.heap.size, 0, none⟩) (show w.heap.size < _ by omega)).trans rf)
      have hdt := HDT.out
      have hsq : SQ w7 (fun k => ¬ (k = w.heap.size ∨ k = w6.heap.size ∨ k = w6.heap.size + 1 ∨ w7.heap.size ≤ k)) f (-9223372036854775808) L := by
        refine hq7.mono (fun k hk => ?_)
        rcases hk with ⟨h1, h2⟩ | ⟨h1, h2⟩
        · have := hdt k h1; omega
        · simp only [World.size_alloc] at h1; omega
      obtain ⟨lb, rfl, hseq⟩ := seq_o hsq (fun k hk => .inr (.inr (.inr hk)))
      have hTL := hT6
      have HTL := hidb hTL
      clear CL CH HV HLE HQ7 HB7 HTA hq7 hb7 e7 e8 e9 hTL
      refine range_p (w := w7) (gf := 33) (lb := lb) rfl (enters_of Try.func33 (by kernel_rfl) rfl) hseq (fun k hk => .inr (.inr (.inr hk))) (Below.refl _ _) (fun _ => rfl)
        (fun pre W => ∃ last c : Int, ((pre = [] ∨ ∃ q v, pre = q ++ [(last, v)]) ∧ c = (pre.length : Int)) ∧ (W.cell? ⟨w6.heap.size, 0, none⟩ = some (.int .i64 last) ∧ W.frozen? ⟨w6.heap.size, 0, none⟩ = false) ∧ (W.cell? ⟨w6.heap.size + 1, 0, none⟩ = some (.int .i64 c) ∧ W.frozen? ⟨w6.heap.size + 1, 0, none⟩ = false) ∧ But (fun k => k = w6.heap.size ∨ k = w6.heap.size + 1) w7 W)
        (fun c pre _ => c = .ret ∧ ¬ Rise pre)
        ?hI ?hIx ⟨0, 0, ⟨.inl rfl, rfl⟩, ⟨g0, g2⟩, ⟨g1, g3⟩, But.refl _ _⟩ ?round ?done ?stop
      case hI =>
        rintro pre A B row ⟨last, c, h1, h2, h3, h4⟩ hg hr
        exact ⟨last, c, h1, OwnFrom.cells _ (fun _ : Unit => .int .i64 last) () A B row h2 hg hr, OwnFrom.cells _ (fun _ : Unit => .int .i64 c) () A B row h3 hg hr, OwnFrom.but (β := Unit) (Nat.le_refl _) () A B row h4 hg hr⟩
      case hIx => exact fun c => ownFrom_pure _ _
      case round =>
        rintro l pre ⟨xk, xv⟩ W _ hlen
        gi_wp2
        refine ⟨trivial, ?_⟩
        rintro W1 ⟨last, c, ⟨hpre, hc⟩, ⟨c1, c2⟩, ⟨c3, c4⟩, hB1⟩ _
        have r1 := (hB1.cell (p := ⟨w.heap.size, 0, none⟩) (show w.heap.size < _ by omega) (show ¬ (w.heap.size = w6.heap.size ∨ w.heap.size = w6.heap.size + 1) by omega)).trans r7
        have r2 := (hB1.frozen (p := ⟨w.heap.size, 0, none⟩) (show w.heap.size < _ by omega) (show ¬ (w.heap.size = w6.heap.size ∨ w.heap.size = w6.heap.size + 1) by omega)).trans f7
        have hln : pre.length < L.length := hlen
        have hl2 := HI.out.2
        have hm2 := HM.out
        have e4 : wrap64 (c + 1) = c + 1 := by unfold wrap64; omega
        have HC := hidb hc
        have HP := hidb hpre
        clear hc hpre hln hl2 hm2
        by_cases hz : 0 < c
        · by_cases hx : xk ≤ last
          · gi_wp2
            refine ⟨(But.refl _ _).setCell (fun _ => ⟨.inl rfl, .inl (show w.heap.size < _ by omega)⟩) _, rfl, ?_⟩
            rcases HP.out with rfl | ⟨q, v, rfl⟩
            · have := HC.out; simp at this; omega
            · exact not_rise hx
          · gi_wp2
            exact ⟨((But.refl _ _).setCell (fun _ => ⟨.inr (.inl rfl), .inl (show w6.heap.size < _ by omega)⟩) _).setCell (fun _ => ⟨.inr (.inr (.inl rfl)), .inl (show w6.heap.size + 1 < _ by omega)⟩) _, xk, c + 1, ⟨.inr ⟨pre, xv, rfl⟩, by rw [HC.out]; simp⟩, (two_cells c1 c2 c3 c4 (by omega)).1, (two_cells c1 c2 c3 c4 (by omega)).2, (hB1.setCell (p := ⟨w6.heap.size, 0, none⟩) (fun _ => .inl rfl) _).setCell (p := ⟨w6.heap.size + 1, 0, none⟩) (fun _ => .inr rfl) _⟩
        · gi_wp2
          exact ⟨((But.refl _ _).setCell (fun _ => ⟨.inr (.inl rfl), .inl (show w6.heap.size < _ by omega)⟩) _).setCell (fun _ => ⟨.inr (.inr (.inl rfl)), .inl (show w6.heap.size + 1 < _ by omega)⟩) _, xk, c + 1, ⟨.inr ⟨pre, xv, rfl⟩, by rw [HC.out]; simp⟩, (two_cells c1 c2 c3 c4 (by omega)).1, (two_cells c1 c2 c3 c4 (by omega)).2, (hB1.setCell (p := ⟨w6.heap.size, 0, none⟩) (fun _ => .inl rfl) _).setCell (p := ⟨w6.heap.size + 1, 0, none⟩) (fun _ => .inr rfl) _⟩
      case done =>
        rintro Dd ys W hD rfl ⟨last, c, ⟨hpre, hc⟩, ⟨c1, c2⟩, ⟨c3, c4⟩, hB1⟩ hK
        have hTW : TB W.drew tb (fun k => D k ∧ k < w6.heap.size) L := ((HTL.out.cut.keep hb67).but hB1 (fun k hk e => by omega) (by have := HTL.out.lt; omega)).keep ((Below.refl _ _).drew)
        have CL := hidb (len_any hTW)
        rw [filter_all (fun x hx => by have := HTL.out.wf x hx; simpa using this)] at hc
        obtain rfl : c = (L.length : Int) := hc
        have r1 := (hB1.cell (p := ⟨w.heap.size, 0, none⟩) (show w.heap.size < _ by omega) (show ¬ (w.heap.size = w6.heap.size ∨ w.heap.size = w6.heap.size + 1) by omega)).trans r7
        have r2 := (hB1.frozen (p := ⟨w.heap.size, 0, none⟩) (show w.heap.size < _ by omega) (show ¬ (w.heap.size = w6.heap.size ∨ w.heap.size = w6.heap.size + 1) by omega)).trans f7
        have HS0 : Hid (W.drew.cell? ⟨w6.heap.size + 1, 0, none⟩ = some (.int .i64 (L.length : Int)) ∧ W.drew.cell? ⟨w.heap.size, 0, none⟩ = some (.bool false) ∧ W.drew.frozen? ⟨w.heap.size, 0, none⟩ = false) := hidb ⟨c3, r1, r2⟩
        have HS1 : Hid ((W.setCell ⟨w.heap.size, 0, none⟩ (.bool true)).drew.cell? ⟨w6.heap.size + 1, 0, none⟩ = some (.int .i64 (L.length : Int))) := hidb ((World.cell?_setCell_other _ _ _ _ (ne_blk _ _ _ _ (by omega))).trans c3)
        clear hpre hTW
        have HX := hidb (⟨hD, hB1, hK, hb67, hB6, hbw1, htb, hs6, hRl, hs7, r1, c1, c2, c3, c4⟩ : w7.heap.size ≤ Dd ∧ But (fun k => k = w6.heap.size ∨ k = w6.heap.size + 1) w7 W ∧ W.heap[Dd]? = some (.deferred (some [])) ∧ Below w6.heap.size w6 w7 ∧ Below tb w1 w6 ∧ Below w.heap.size w w1 ∧ w1.heap.size = tb ∧ w1.heap.size ≤ w6.heap.size ∧ w.heap.size < tb ∧ w6.heap.size + 1 + 1 ≤ w7.heap.size ∧ W.cell? ⟨w.heap.size, 0, none⟩ = some (.bool false) ∧ W.cell? ⟨w6.heap.size, 0, none⟩ = some (.int .i64 last) ∧ W.frozen? ⟨w6.heap.size, 0, none⟩ = false ∧ W.cell? ⟨w6.heap.size + 1, 0, none⟩ = some (.int .i64 (L.length : Int)) ∧ W.frozen? ⟨w6.heap.size + 1, 0, none⟩ = false)
        go_wp2_with fail
        go_region_held3 (fun w' => w'.cell? ⟨w6.heap.size + 1, 0, none⟩ = some (.int .i64 (L.length : Int))) (first | with_reducible exact HS0.out.1 | with_reducible exact HS1.out | go_keep) (first | (go_at_call 17; refine CL.out.mono ?_; clear CL; rintro e w8 ⟨rfl, rfl⟩))
        go_wp2_with fail
        obtain ⟨x1, x2, x3, x4, x5, x6, x7, x8, x9, x10, x11, x12⟩ := HX.out
        have hc2 : (W.setCell ⟨w.heap.size, 0, none⟩ (.bool true)).drew.cell? ⟨w.heap.size, 0, none⟩ = some (.bool true) := World.cell?_setCell_same _ _ _ x11
        refine retM [Dd] rfl (fun E hE => ?_) (by simp) (fun W' hb => ?_)
        · obtain rfl : E = Dd := by simpa using hE
          exact (Below.heap_setCell W _ _ E (by simp; omega)).trans x3
        · have c5 := (hb.cell (p := ⟨w.heap.size, 0, none⟩) (World.block_lt_of_cell? _ _ hc2) (by simp; omega)).trans hc2
          have hz : But (fun k => w.heap.size ≤ k) w7 W' := (((x2.mono (fun k _ h => by show w.heap.size ≤ k; omega)).setCell (p := ⟨w.heap.size, 0, none⟩) (fun _ => Nat.le_refl _) _).drew).trans (hb.mono (fun k _ h => by have : k = Dd := (by simpa using h); show w.heap.size ≤ k; omega))
          exact ⟨.bool true, by simp [results, Try.results4, go_sem, c5], rfl, x6.trans ((x5.mono (by omega)).trans ((x4.mono (by omega)).trans (hz.below (by omega) (fun k h => h))))⟩
      case stop =>
        rintro Dd c pre W hD hp ⟨rfl, hx⟩ hK
        exact absurd (Rise.pre (Rise.flt HTL.out.rise) hp) hx

end Go.Proofs.Ytnoknhgabjbocaa
