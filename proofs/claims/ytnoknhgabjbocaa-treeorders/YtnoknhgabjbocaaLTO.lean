/- TreeOrders. -/
import Derived.Test.YtnoknhgabjbocaaAvR
namespace Go.Proofs.Ytnoknhgabjbocaa
open Go.RowKit Go.Shelf
attribute [local go_sem] Oper.semAt_some
attribute [local go_sem ↓] Go.wp_at_zero Go.wp_at_succ

set_option maxRecDepth 100000 in
set_option maxHeartbeats 8000000 in
theorem treeOrders_walk (v0 : Value) (l : List Int) (tn : Int) (w : World) (hl : IR w v0 l) (hwf : ∀ x ∈ l, (-9223372036854775808 : Int) ≤ x ∧ x ≤ 9223372036854775807) :
    Calls Try.prog 6 #[v0, .int .i64 tn] w fun e w' => e = .returned (.bool true) ∧ Below w.heap.size w w' := by
  obtain ⟨q, c, rfl, hcl⟩ := hl
  have HC := hidb hcl
  have HWF := hidb hwf
  clear hcl hwf
  refine calls_marks Try.func6 rfl ?_
  simp only [Try.ntmps6, List.size_toArray, List.length_cons, List.length_nil, Nat.reduceAdd, Nat.reduceSub, Array.replicate_succ, Array.replicate_zero, List.push_toArray, List.append_toArray, List.nil_append, List.cons_append]
  by_cases hlen : l.length > 2000 ∨ l.length = 0
  · have e1 : (decide ((2000 : Int) < (l.length : Int)) || ((l.length : Int) == 0)) = true := by
      rcases hlen with h | h
      · simp; left; omega
      · simp [h]
    clear hlen
    go_wp2_with (go_at_call 7; refine (known13_any _).mono ?_; rintro e w1 ⟨rfl, hb1⟩; have HB1 := hidb hb1; have r1 := (hb1.cell (p := ⟨w.heap.size, 0, none⟩) (by simp)).trans (show _ = some (.bool false) by simp [go_sem]); have r2 := (hb1.frozen (p := ⟨w.heap.size, 0, none⟩) (by simp)).trans (show _ = false by simp [go_sem]); clear hb1)
    all_goals
      have hb := HB1.out
      have hc2 : (w1.setCell ⟨w.heap.size, 0, none⟩ (.bool true)).cell? ⟨w.heap.size, 0, none⟩ = some (.bool true) := World.cell?_setCell_same _ _ _ r1
      refine retM [] rfl (fun E hE => by simp at hE) (by simp) (fun W' hb' => ?_)
      have c5 := (hb'.cell (p := ⟨w.heap.size, 0, none⟩) (World.block_lt_of_cell? _ _ hc2) (by simp)).trans hc2
      exact ⟨.bool true, by simp [results, Try.results6, go_sem, c5], rfl, ((below_new w _).trans (hb.mono (by simp))).trans (((Below.refl _ _).setCell (p := ⟨w.heap.size, 0, none⟩) (Nat.le_refl _) _).trans (hb'.below (by have := hb.size; simp only [World.size_alloc] at this; simp only [World.setCell, Array.size_modify]; omega) (fun k h => by simp at h)))⟩
  · have e1 : decide ((2000 : Int) < (l.length : Int)) = false := by simp; omega
    have e2 : ((l.length : Int) == 0) = false := by simp; intro e; subst e; simp at hlen
    have e3 : ¬ l = [] := by intro e; subst e; simp at hlen
    have HLN : Hid (0 < l.length ∧ l.length ≤ 2000) := hidb (by omega)
    clear hlen
    go_upto_if 38 with (first
      | (go_at_call 7; refine (known13_any _).mono ?_; rintro e w1 ⟨rfl, hb1⟩; have HB1 := hidb hb1; clear hb1; have M1 := hidb trivial)
      | (clear M1; go_at_call 8; refine (new_any _).mono ?_; rintro e w2 ⟨rfl, ht2, hb2, hs2⟩; have HT2 := hidb ht2; have HB2 := hidb hb2; clear ht2 hb2)
      | (go_at_call 8; refine (new_any _).mono ?_; rintro e w3 ⟨rfl, ht3, hb3, hs3⟩; have HT3 := hidb ht3; have HB3 := hidb hb3; clear ht3 hb3))
    have HTM := hidb (tmod_bd2 tn l.length HLN.out.1)
    go_cut [1] from 15 (fun s1 wc => ∃ t : Nat, s1 = .int .i64 (t : Int) ∧ t < l.length ∧ wc = w3)
    case first =>
      generalize tn.tmod (l.length : Int) = qq at *
      have HQ : Hid (wrap64 (qq + (l.length : Int)) = qq + (l.length : Int)) := hidb (by have := HTM.out; have := HLN.out; unfold wrap64; omega)
      go_wp2_with fail
      · go_meet
        case rel => exact ⟨(qq + (l.length : Int)).toNat, by rw [HQ.out, Int.toNat_of_nonneg (by have := HTM.out; omega)], by have := HTM.out; omega, rfl⟩
      · go_meet
        case rel => exact ⟨qq.toNat, by rw [Int.toNat_of_nonneg (by omega)], by have := HTM.out; omega, rfl⟩
    case rest =>
    obtain ⟨t, rfl, ht, rfl⟩ := hcut
    rename World => w3
    have HTL := hidb ht
    have HR : Hid ((w1.cell? ⟨w.heap.size, 0, none⟩ = some (.bool false) ∧ w1.frozen? ⟨w.heap.size, 0, none⟩ = false) ∧ Below w.heap.size w w1 ∧ w.heap.size < w1.heap.size) := hidb (by
      have hb := HB1.out
      have hl : w.heap.size < (w.alloc (.cells #[.bool false] 4)).heap.size := by simp
      refine ⟨⟨(hb.cell (p := ⟨w.heap.size, 0, none⟩) hl).trans (by simp [go_sem]), (hb.frozen (p := ⟨w.heap.size, 0, none⟩) hl).trans (by simp [go_sem])⟩, (below_new w _).trans (hb.mono (by simp)), Nat.lt_of_lt_of_le hl hb.size⟩)
    have HS : Hid (w2.heap.size = w1.heap.size + 1 ∧ w3.heap.size = w1.heap.size + 2) := hidb (by omega)
    have HT2' : Hid (TB w3 w1.heap.size (fun _ => False) []) := hidb (HT2.out.keep HB3.out)
    have HT3' : Hid (TB w3 (w1.heap.size + 1) (fun _ => False) []) := hidb (by have := HT3.out; rw [hs2] at this; exact this)
    have HB3' : Hid (Below w1.heap.size w1 w3) := hidb (HB2.out.trans (HB3.out.mono HB2.out.size))
    clear HT2 HT3 HB2 HB3 hs2 hs3 ht HTM HB1
    go_wp2_with fail
    go_loopw [7] (fun iv wr => ∃ (i : Nat) (D1 D2 : Nat → Prop) (L1 L2 : List KV), iv = .int .i64 (i : Int) ∧ i ≤ l.length ∧ TB wr w1.heap.size D1 L1 ∧ TB wr (w1.heap.size + 1) D2 L2 ∧ (L1.length ≤ i ∧ L2.length ≤ i) ∧ (Has L1 (Fst l i) ∧ Has L2 (Trn l t i)) ∧ ((∀ k, D1 k → w1.heap.size + 1 < k) ∧ (∀ k, D2 k → w1.heap.size + 1 < k)) ∧ Below w1.heap.size w1 wr) (fun iv _ => l.length - (intOf iv).toNat)
    case atStart => exact ⟨0, _, _, [], [], rfl, by omega, HT2'.out, HT3'.out, ⟨by simp, by simp⟩, ⟨fun x => ⟨fun h => by simp at h, fun ⟨⟨j, h, _⟩, _⟩ => by omega⟩, fun x => ⟨fun h => by simp at h, fun ⟨⟨j, h, _⟩, _⟩ => by omega⟩⟩, ⟨fun _ h => h.elim, fun _ h => h.elim⟩, HB3'.out⟩
    case round =>
    obtain ⟨i, D1, D2, L1, L2, rfl, hi, hT1, hT2, hLL, hHH, hDD, hB⟩ := hrel
    have HT1 := hidb hT1
    have HT2 := hidb hT2
    have HLL := hidb hLL
    have HHH := hidb hHH
    have HDD := hidb hDD
    have HBW := hidb hB
    have HI := hidb hi
    clear hT1 hT2 hLL hHH hDD hB hi HT2' HT3' HB3'
    by_cases him : i < l.length
    · have e4 : (i : Int) < (l.length : Int) := by omega
      have e5 : (0 : Int) ≤ (i : Int) := by omega
      have HE6 : Hid (wrap64 ((i : Int) + 1) = ((i + 1 : Nat) : Int)) := hidb (by have := HLN.out; unfold wrap64; omega)
      obtain ⟨x, hx⟩ : ∃ x, l[i]? = some x := ⟨_, List.getElem?_eq_getElem him⟩
      obtain ⟨b, o, rfl, hcx⟩ := HC.out i x hx
      have hbw : b < w.heap.size := World.block_lt_of_cell? _ _ hcx
      have HXB := hidb (HWF.out x (List.mem_of_getElem? hx))
      obtain ⟨m, hm⟩ : ∃ m, (i + t) % l.length = m := ⟨_, rfl⟩
      have hml : m < l.length := by rw [← hm]; exact Nat.mod_lt _ (by omega)
      obtain ⟨y, hy⟩ : ∃ y, l[m]? = some y := ⟨_, List.getElem?_eq_getElem hml⟩
      obtain ⟨b', o', hbo, hcy⟩ := HC.out m y hy
      obtain ⟨rfl, rfl⟩ : b = b' ∧ o = o' := by simp at hbo; omega
      have HYB := hidb (HWF.out y (List.mem_of_getElem? hy))
      obtain ⟨⟨rc, rf⟩, hbw1, hRl⟩ := HR.out
      have kw : ∀ W, Below w1.heap.size w1 W → ∀ p : Addr, p.block < w.heap.size → W.cell? p = w.cell? p := fun W hW p hp => (hW.cell (by omega)).trans (hbw1.cell hp)
      have KW := hidb kw
      have e7 : (m : Int) < (l.length : Int) := by omega
      have e8 : (0 : Int) ≤ (m : Int) := by omega
      obtain ⟨A, hA⟩ : ∃ A : Int, A = (i : Int) + (t : Int) := ⟨_, rfl⟩
      have e9 : wrap64 ((i : Int) + (t : Int)) = A := by have := HLN.out; have := HTL.out; unfold wrap64; omega
      have e10 : A.tmod (l.length : Int) = (m : Int) := by rw [hA, ← hm]; rw [Int.tmod_eq_emod_of_nonneg (by omega)]; simp
      obtain ⟨xh, hxh⟩ : ∃ xh : Int, xh = x.tdiv 2 := ⟨_, rfl⟩
      obtain ⟨yh, hyh⟩ : ∃ yh : Int, yh = y.tdiv 2 := ⟨_, rfl⟩
      have e11 : IntKind.i64.wrap (x.tdiv 2) = xh := by rw [hxh]; exact tdiv_bd HXB.out
      have e12 : IntKind.i64.wrap (y.tdiv 2) = yh := by rw [hyh]; exact tdiv_bd HYB.out
      have hs := HS.out
      have c0 : wr.cell? ⟨b, o + i, none⟩ = some (.int .i64 x) := (kw wr HBW.out _ hbw).trans hcx
      have HD0 : Below wr.heap.size wr wr.drew := (Below.refl _ _).drew
      have HS0 : Hid (wr.drew.cell? ⟨b, o + i, none⟩ = some (.int .i64 x)) := hidb c0
      have hu1 := HT1.out.lt
      have hu2 := HT2.out.lt
      have hdd := HDD.out
      have C1 : Hid (Calls Try.prog 9 #[.pointer (some ⟨w1.heap.size, 0, none⟩), .int .i64 x, .int .i64 xh] wr.drew fun e w4 => ∃ z, e = .returned z ∧ Hid (w4.cell? ⟨b, o + i, none⟩ = some (.int .i64 x)) ∧ w4.cell? ⟨b, o + m, none⟩ = some (.int .i64 y) ∧ Hid (Calls Try.prog 9 #[.pointer (some ⟨w1.heap.size + 1, 0, none⟩), .int .i64 y, .int .i64 yh] w4 fun e w5 => ∃ z, e = .returned z ∧ Hid (∃ (D1 D2 : Nat → Prop) (L1 L2 : List KV), TB w5 w1.heap.size D1 L1 ∧ TB w5 (w1.heap.size + 1) D2 L2 ∧ (L1.length ≤ i + 1 ∧ L2.length ≤ i + 1) ∧ (Has L1 (Fst l (i + 1)) ∧ Has L2 (Trn l t (i + 1))) ∧ ((∀ k, D1 k → w1.heap.size + 1 < k) ∧ (∀ k, D2 k → w1.heap.size + 1 < k)) ∧ Below w1.heap.size w1 w5))) := by
        have hll := HLL.out
        have hln := HLN.out
        have hhh := HHH.out
        refine hidb ((put_any (HT1.out.keep HD0) (by omega) x xh HXB.out.1).mono ?_)
        rintro e w4 ⟨rfl, hp1, hp2⟩
        have hb4 : Below w1.heap.size w1 w4 := (HBW.out.drew).trans (hp2.below (show w1.heap.size ≤ wr.heap.size from HBW.out.size) (fun k e => by omega))
        have hu4 : TB w4 (w1.heap.size + 1) D2 L2 := (HT2.out.keep HD0).but hp2 (fun k hk e => by have := hdd.2 k hk; omega) (by omega)
        refine ⟨_, rfl, hidb ((kw w4 hb4 _ hbw).trans hcx), (kw w4 hb4 _ hbw).trans hcy, hidb ((put_any hu4 (by omega) y yh HYB.out.1).mono ?_)⟩
        rintro e w5 ⟨rfl, hq1, hq2⟩
        have hs4 := hp2.size
        have hd1 : ∀ k, Nw D1 wr.drew w4 k → w1.heap.size + 1 < k := fun k hk => hk.elim (hdd.1 k) (fun h => Nat.lt_of_lt_of_le (show w1.heap.size + 1 < wr.drew.heap.size from hu2) h.1)
        refine ⟨_, rfl, hidb ⟨_, _, _, _, hp1.but hq2 (fun k hk e => by have := hd1 k hk; omega) (by omega), hq1, ⟨?_, ?_⟩, ⟨?_, ?_⟩, ⟨hd1, fun k hk => hk.elim (hdd.2 k) (fun h => Nat.lt_of_lt_of_le (show w1.heap.size + 1 < w4.heap.size from hu4.lt) h.1)⟩, hb4.trans (hq2.below hb4.size (fun k e => by omega))⟩⟩
        · rw [ins_len HT1.out.rise]; split <;> omega
        · rw [ins_len HT2.out.rise]; split <;> omega
        · rw [hxh]; exact (hhh.1.ins x).iff (Fst.succ hx)
        · rw [hyh]; exact (hhh.2.ins y).iff (Trn.succ (by rw [hm]; exact hy))
      clear kw hcx hcy hbw1 hRl rc rf hs hu1 hu2 hdd hbw hm hx hy hbo hA hxh hyh HD0
      go_wp2_with fail
      go_region_held3 (fun w' => w'.cell? ⟨b, o + i, none⟩ = some (.int .i64 x)) (first | with_reducible exact HS0.out | with_reducible exact HS1.out) (first | (go_at_call 9; refine C1.out.mono ?_; clear C1; rintro e w4 ⟨z4, rfl, HS1, c4, C2⟩))
      go_wp2_with (go_at_call 9; refine C2.out.mono ?_; clear C2; rintro e w5 ⟨z5, rfl, HF⟩)
      go_roundw
      case rel =>
        obtain ⟨E1, E2, M1, M2, g1, g2, g3, g4, g5, g6⟩ := HF.out
        exact ⟨i + 1, E1, E2, M1, M2, by rw [HE6.out], by omega, g1, g2, g3, g4, g5, g6⟩
      case measure =>
        rw [HE6.out]
        simp only [RowKit.intOf, Int.toNat_natCast]
        omega
    · have e4 : ¬ (i : Int) < (l.length : Int) := by omega
      obtain rfl : i = l.length := by have := HI.out; omega
      have HEQ : Hid (L1 = L2) := hidb (HHH.out.1.same HHH.out.2 HT1.out.rise HT2.out.rise (fst_trn HTL.out))
      have HLM : Hid (L1.length ≤ 2000 ∧ L2.length ≤ 2000) := hidb (by have := HLL.out; have := HLN.out; omega)
      have HTA := hidb (HT1.out.cut.keep (below_new wr (.cells #[.slice none 0 0] 27)))
      go_wp2_with (go_at_call 20; refine (All_any HTA.out).mono ?_; rintro e w7 ⟨f, rfl, hb7, hq7⟩)
      have hs := HS.out
      obtain ⟨⟨rc, rf⟩, hbw1, hRl⟩ := HR.out
      have hdd := HDD.out
      have hu1 := HT1.out.lt
      have hu2 := HT2.out.lt
      have hB := HBW.out
      have hs7 := hb7.size
      simp only [World.size_alloc] at hs7
      have hb67 : Below wr.heap.size wr w7 := (below_new wr _).trans (hb7.mono (by simp))
      have g0 : w7.cell? ⟨wr.heap.size, 0, none⟩ = some (.slice none 0 0) := (hb7.cell (p := ⟨wr.heap.size, 0, none⟩) (by simp)).trans (by simp [go_sem])
      have g2 : w7.frozen? ⟨wr.heap.size, 0, none⟩ = false := (hb7.frozen (p := ⟨wr.heap.size, 0, none⟩) (by simp)).trans (by simp [go_sem])
      have r7 : w7.cell? ⟨w.heap.size, 0, none⟩ = some (.bool false) := (hb67.cell (p := ⟨w.heap.size, 0, none⟩) (show w.heap.size < _ by omega)).trans ((hB.cell (p := ⟨w.heap.size, 0, none⟩) (show w.heap.size < _ by omega)).trans rc)
      have f7 : w7.frozen? ⟨w.heap.size, 0, none⟩ = false := (hb67.frozen (p := ⟨w.heap.size, 0, none⟩) (show w.heap.size < _ by omega)).trans ((hB.frozen (p := ⟨w.heap.size, 0, none⟩) (show w.heap.size < _ by omega)).trans rf)
      have hsq : SQ w7 (fun k => ¬ (k = wr.heap.size ∨ w7.heap.size ≤ k)) f (-9223372036854775808) L1 := by
        refine hq7.mono (fun k hk => ?_)
        rcases hk with ⟨h1, h2⟩ | ⟨h1, h2⟩
        · omega
        · simp only [World.size_alloc] at h1; omega
      obtain ⟨lb, rfl, hseq⟩ := seq_o hsq (fun k hk => .inr hk)
      have hT1 : TB w7 w1.heap.size (fun k => D1 k ∧ k < wr.heap.size) L1 := HT1.out.cut.keep hb67
      have hT2 : TB w7 (w1.heap.size + 1) (fun k => D2 k ∧ k < wr.heap.size) L2 := HT2.out.cut.keep hb67
      have hlm := HLM.out
      obtain ⟨i0, hi0, hz0, hz1, hz2⟩ := infoI
      have hflt : L1.filter (fun x => decide ((-9223372036854775808 : Int) ≤ x.1)) = L1 := filter_all (fun x hx => by have := HT1.out.wf x hx; simpa using this)
      have HG := hidb (⟨hs, hdd, hu1, hu2, hB, hs7, hb67, r7, f7, hT1, hT2, hlm, hbw1, hRl⟩ : (w2.heap.size = w1.heap.size + 1 ∧ w3.heap.size = w1.heap.size + 2) ∧ ((∀ k, D1 k → w1.heap.size + 1 < k) ∧ (∀ k, D2 k → w1.heap.size + 1 < k)) ∧ w1.heap.size < wr.heap.size ∧ w1.heap.size + 1 < wr.heap.size ∧ Below w1.heap.size w1 wr ∧ wr.heap.size + 1 ≤ w7.heap.size ∧ Below wr.heap.size wr w7 ∧ w7.cell? ⟨w.heap.size, 0, none⟩ = some (.bool false) ∧ w7.frozen? ⟨w.heap.size, 0, none⟩ = false ∧ TB w7 w1.heap.size (fun k => D1 k ∧ k < wr.heap.size) L1 ∧ TB w7 (w1.heap.size + 1) (fun k => D2 k ∧ k < wr.heap.size) L2 ∧ (L1.length ≤ 2000 ∧ L2.length ≤ 2000) ∧ Below w.heap.size w w1 ∧ w.heap.size < w1.heap.size)
      clear HTA hb7 hq7 hsq hs hdd hu1 hu2 hB hb67 r7 f7 hT1 hT2 rc rf hbw1 hRl HR HS HBW HDD HT1 HT2
      refine range_p (w := w7) (gf := 33) (lb := lb) rfl (enters_of Try.func33 (by kernel_rfl) rfl) hseq (fun k hk => .inr hk) (Below.refl _ _) (fun _ => rfl)
        (fun pre W => ∃ v, (W.cell? ⟨wr.heap.size, 0, none⟩ = some v ∧ W.frozen? ⟨wr.heap.size, 0, none⟩ = false) ∧ W.ownsRow (w7.heap.size + 7) IT 1 v (2 * pre.length) (ivs (flat pre)) ∧ But (fun k => k = wr.heap.size) w7 W)
        (fun _ _ _ => False)
        ?hI ?hIx ⟨_, ⟨g0, g2⟩, World.ownsRow_nil _ _ _ _, But.refl _ _⟩ ?round ?done ?stop
      case hI =>
        rintro pre A B row ⟨v, h1, h2, h3⟩ hg hr
        exact ⟨v, OwnFrom.cells _ (fun _ : Unit => v) () A B row h1 hg hr, OwnFrom.row (fun _ : Unit => 2 * pre.length) (fun _ => v) (fun _ => ivs (flat pre)) () A B row h2 hg hr, OwnFrom.but (β := Unit) (Nat.le_refl _) () A B row h3 hg hr⟩
      case hIx => exact fun c => ownFrom_pure _ _
      case stop => rintro Dd c pre W hD hp hf hK; exact hf.elim
      case round =>
        rintro l2 pre ⟨xk, xv⟩ W _ hlen
        gi_wp2
        refine ⟨trivial, ?_⟩
        rintro W1 ⟨v, ⟨c1, c2⟩, hrow, hB1⟩ hsz
        obtain ⟨av, cv, rfl⟩ := own_sl hrow
        have hln : pre.length < L1.length := hlen
        have hs1 := hB1.size
        have hga : ∀ g, Value.ownBlock (.slice av (2 * pre.length) cv) = some g → w7.heap.size + 7 ≤ g ∧ g < W1.heap.size := hrow.lt
        have hne : Value.ownBlock (.slice av (2 * pre.length) cv) ≠ some wr.heap.size := fun e => by have := (hga _ e).1; omega
        gi_wp2_with (gi_at_builtin; refine wpListIn_append_own _ rfl _ _ 27 rfl (w7.heap.size + 7) IT i0 (.int .i64 0) 1 8 Try.underlying27 hi0 hz0 hz1 hz2 rfl (by decide) _ _ _ rfl (hrow.alloc _) ⟨W1.heap.size, 0, none⟩ 2 2 [.int .i64 xk, .int .i64 xv] rfl rfl (cell_two_new _ _ _ _) (by simp [Value.oneCell']) (by unfold maxLen; omega) (by omega) (by simp; omega) ?_; intro v' w8 hown' hgrow _; obtain ⟨a8, c8, rfl⟩ := own_sl hown'; have k1 := hgrow.cell (a := ⟨wr.heap.size, 0, none⟩) (((below_new W1 _).cell (p := ⟨wr.heap.size, 0, none⟩) (show wr.heap.size < W1.heap.size by omega)).trans c1) (Ne.symm hne); have k2 := (World.frozen?_of_block (w := W1) (w' := w8) (a := ⟨wr.heap.size, 0, none⟩) ((hgrow.block wr.heap.size (by simp only [World.size_alloc]; omega) (Ne.symm hne)).trans (Below.heap_alloc _ _ _ (show wr.heap.size < W1.heap.size by omega)))).trans c2)
        have hbg : But (fun k => w7.heap.size + 7 ≤ k) W1 w8 := ((But.refl _ _).alloc _).trans (But.of_grown hgrow (fun g e => (hga g e).1))
        have h8 : ∀ g, Value.ownBlock (.slice a8 (2 * pre.length + 2) c8) = some g → w7.heap.size + 7 ≤ g ∧ g < w8.heap.size := hown'.lt
        refine ⟨(hbg.mono (fun k _ h => ⟨.inr (by omega), .inr h⟩)).setCell (fun _ => ⟨.inl rfl, .inl (show wr.heap.size < w7.heap.size by omega)⟩) _, _, ⟨World.cell?_setCell_same _ _ _ k1, by rw [World.frozen?_setCell]; exact k2⟩, ?_, (hB1.then hbg (fun k hk h => by omega)).setCell (p := ⟨wr.heap.size, 0, none⟩) (fun _ => rfl) _⟩
        rw [flat_append, ivs_append, List.length_append, show 2 * (pre.length + [(xk, xv)].length) = 2 * pre.length + 2 by simp; omega]
        exact row_but hown' ((But.refl (fun k => k = wr.heap.size) w8).setCell (p := ⟨wr.heap.size, 0, none⟩) (fun _ => rfl) _) (fun g e h => by have := (h8 g e).1; omega)
      case done =>
        rintro Dd ys W hD hys ⟨v, ⟨c1, c2⟩, hrow, hB1⟩ hK
        rw [hflt] at hys
        subst hys
        obtain ⟨hs, hdd, hu1, hu2, hB, hs7', hb67, r7, f7, hT1, hT2, hlm', hbw1, hRl⟩ := HG.out
        obtain ⟨N2, hN2⟩ : ∃ N2, 2 * ys.length = N2 := ⟨_, rfl⟩
        rw [hN2] at hrow
        obtain ⟨av, cv, rfl⟩ := own_sl hrow
        have hWs := hB1.size
        have hTW2 : TB W (w1.heap.size + 1) (fun k => D2 k ∧ k < wr.heap.size) L2 := hT2.but hB1 (fun k hk e => by omega) (by omega)
        have hTW1 : TB W w1.heap.size (fun k => D1 k ∧ k < wr.heap.size) ys := hT1.but hB1 (fun k hk e => by omega) (by omega)
        have HTA := hidb (hTW2.keep (below_new W (.cells #[.int .i64 0] 3)))
        have HG2 := hidb (⟨hTW1, hTW2, hrow, hB1, hK, hD⟩ : TB W w1.heap.size (fun k => D1 k ∧ k < wr.heap.size) ys ∧ TB W (w1.heap.size + 1) (fun k => D2 k ∧ k < wr.heap.size) L2 ∧ W.ownsRow (w7.heap.size + 7) IT 1 (.slice av N2 cv) N2 (ivs (flat ys)) ∧ But (fun k => k = wr.heap.size) w7 W ∧ W.heap[Dd]? = some (.deferred (some [])) ∧ w7.heap.size ≤ Dd)
        have HN2 := hidb hN2
        clear hTW1 hTW2 hrow hB1 hK hD hs hdd hu1 hu2 hB hb67 r7 f7 hT1 hT2 hlm' hbw1 hRl hs7' hWs hseq g0 g2 hlm hN2
        go_wp2_with (go_at_call 20; refine (All_any HTA.out).mono ?_; rintro e w9 ⟨f, rfl, hb9, hq9⟩)
        obtain ⟨hs, hdd, hu1, hu2, hB, hs7', hb67, r7, f7, hT1, hT2, hlm', hbw1, hRl⟩ := HG.out
        obtain ⟨hTW1, hTW2, hrow, hB1, hK, hD⟩ := HG2.out
        have hN2 := HN2.out
        have heq := HEQ.out
        have hs9 := hb9.size
        have hWs := hB1.size
        simp only [World.size_alloc] at hs9
        have hbW9 : Below W.heap.size W w9 := (below_new W _).trans (hb9.mono (by simp))
        have n0 : w9.cell? ⟨W.heap.size, 0, none⟩ = some (.int .i64 0) := (hb9.cell (p := ⟨W.heap.size, 0, none⟩) (by simp)).trans (by simp [go_sem])
        have n1 : w9.frozen? ⟨W.heap.size, 0, none⟩ = false := (hb9.frozen (p := ⟨W.heap.size, 0, none⟩) (by simp)).trans (by simp [go_sem])
        have a9 : w9.cell? ⟨wr.heap.size, 0, none⟩ = some (.slice av N2 cv) := (hbW9.cell (p := ⟨wr.heap.size, 0, none⟩) (show wr.heap.size < W.heap.size by omega)).trans c1
        have r9 : w9.cell? ⟨w.heap.size, 0, none⟩ = some (.bool false) := (hbW9.cell (p := ⟨w.heap.size, 0, none⟩) (show w.heap.size < W.heap.size by omega)).trans ((hB1.cell (p := ⟨w.heap.size, 0, none⟩) (show w.heap.size < w7.heap.size by omega) (show ¬ w.heap.size = wr.heap.size by omega)).trans r7)
        have f9 : w9.frozen? ⟨w.heap.size, 0, none⟩ = false := (hbW9.frozen (p := ⟨w.heap.size, 0, none⟩) (show w.heap.size < W.heap.size by omega)).trans ((hB1.frozen (p := ⟨w.heap.size, 0, none⟩) (show w.heap.size < w7.heap.size by omega) (show ¬ w.heap.size = wr.heap.size by omega)).trans f7)
        have hir : IR w9 (.slice av N2 cv) (flat ys) := (IR.of_own hrow).keep hbW9
        have hk9 : w9.heap[Dd]? = some (.deferred (some [])) := (hbW9.block Dd (Array.getElem?_eq_some_iff.1 hK).1).trans hK
        have hDl : Dd < W.heap.size := (Array.getElem?_eq_some_iff.1 hK).1
        have hsq : SQ w9 (fun k => ¬ (k = W.heap.size ∨ k = w.heap.size ∨ w9.heap.size ≤ k)) f (-9223372036854775808) L2 := by
          refine hq9.mono (fun k hk => ?_)
          rcases hk with ⟨h1, h2⟩ | ⟨h1, h2⟩
          · have := hdd.2 k h1; omega
          · simp only [World.size_alloc] at h1; omega
        obtain ⟨lb2, rfl, hseq⟩ := seq_o hsq (fun k hk => .inr (.inr hk))
        have hflt2 : L2.filter (fun x => decide ((-9223372036854775808 : Int) ≤ x.1)) = L2 := filter_all (fun x hx => by have := hTW2.wf x hx; simpa using this)
        have hT91 : TB w9 w1.heap.size (fun k => D1 k ∧ k < wr.heap.size) ys := hTW1.keep hbW9
        have hT92 : TB w9 (w1.heap.size + 1) (fun k => D2 k ∧ k < wr.heap.size) L2 := hTW2.keep hbW9
        obtain ⟨q9, c9, e9, hcells⟩ := hir
        obtain ⟨rfl, -, rfl⟩ : av = q9 ∧ N2 = (flat ys).length ∧ cv = c9 := by simpa using e9
        clear e9
        refine range_p (w := w9) (gf := 33) (lb := lb2) rfl (enters_of Try.func33 (by kernel_rfl) rfl) hseq (fun k hk => .inr (.inr hk)) (Below.refl _ _) (fun _ => rfl)
          (fun pre W' => ∃ pp : Nat, (pp = 2 * pre.length ∧ pre <+: ys) ∧ (W'.cell? ⟨W.heap.size, 0, none⟩ = some (.int .i64 (pp : Int)) ∧ W'.frozen? ⟨W.heap.size, 0, none⟩ = false) ∧ But (fun k => k = W.heap.size) w9 W')
          (fun c pre _ => c = .ret ∧ ¬ pre <+: ys)
          ?hI ?hIx ⟨0, ⟨rfl, List.nil_prefix⟩, ⟨n0, n1⟩, But.refl _ _⟩ ?round ?done ?stop
        case hI =>
          rintro pre A B row ⟨pp, h1, h2, h3⟩ hg hr
          exact ⟨pp, h1, OwnFrom.cells _ (fun _ : Unit => .int .i64 (pp : Int)) () A B row h2 hg hr, OwnFrom.but (β := Unit) (Nat.le_refl _) () A B row h3 hg hr⟩
        case hIx => exact fun c => ownFrom_pure _ _
        case stop =>
          rintro De c pre W' hD' hp ⟨rfl, hx⟩ hK'
          rw [hflt2, ← heq] at hp
          exact absurd hp hx
        case round =>
          rintro l3 pre ⟨xk, xv⟩ W0 _ hlen
          gi_wp2
          refine ⟨trivial, ?_⟩
          rintro W1 ⟨pp, ⟨hpp, hpre⟩, ⟨p1, p2⟩, hB9⟩ hsz
          have hln : pre.length < ys.length := by rw [heq]; exact hlen
          obtain ⟨y, hy⟩ : ∃ y, ys[pre.length]? = some y := ⟨_, List.getElem?_eq_getElem hln⟩
          obtain ⟨yk, yv⟩ := y
          have hpfx : ∀ x : KV, (pre ++ [x] <+: ys) ↔ x = (yk, yv) := prefix_one hpre hy
          obtain ⟨hf1, hf2⟩ := flat_get hy
          rw [← hpp] at hf1 hf2
          obtain ⟨b, o, rfl, d1⟩ := hcells _ _ hf1
          obtain ⟨b', o', hbo, d2⟩ := hcells _ _ hf2
          obtain ⟨rfl, rfl⟩ : b = b' ∧ o = o' := by simp at hbo; omega
          have hlt9 : b < w9.heap.size := World.block_lt_of_cell? _ _ d1
          have hbn : b ≠ W.heap.size := by
            intro e
            have := hrow.lt b rfl
            omega
          have q1 := (hB9.cell (p := ⟨b, o + pp, none⟩) hlt9 hbn).trans d1
          have q2 := (hB9.cell (p := ⟨b, o + (pp + 1), none⟩) hlt9 hbn).trans d2
          have q3 := (hB9.cell (p := ⟨wr.heap.size, 0, none⟩) (show wr.heap.size < w9.heap.size by omega) (show ¬ wr.heap.size = W.heap.size by omega)).trans a9
          have q4 := (hB9.cell (p := ⟨w.heap.size, 0, none⟩) (show w.heap.size < w9.heap.size by omega) (show ¬ w.heap.size = W.heap.size by omega)).trans r9
          have q5 := (hB9.frozen (p := ⟨w.heap.size, 0, none⟩) (show w.heap.size < w9.heap.size by omega) (show ¬ w.heap.size = W.heap.size by omega)).trans f9
          have s1 : wrap64 ((pp : Int) + 1) = ((pp + 1 : Nat) : Int) := by unfold wrap64; omega
          have s2 : wrap64 ((pp : Int) + 2) = ((pp + 2 : Nat) : Int) := by unfold wrap64; omega
          have s3 : ¬ ((N2 : Int) ≤ ((pp + 1 : Nat) : Int)) := by omega
          have s4 : (pp : Int) < (N2 : Int) := by omega
          have s5 : (((pp + 1 : Nat) : Int)) < (N2 : Int) := by omega
          have HPP := hidb hpp
          have s6 : (0 : Int) ≤ (pp : Int) := by omega
          have s7 : (0 : Int) ≤ ((pp + 1 : Nat) : Int) := by omega
          have HPF := hidb hpfx
          have HB9 := hidb hB9
          have HZ : Hid (w.heap.size < W.heap.size ∧ W.heap.size + 1 ≤ w9.heap.size) := hidb (by omega)
          clear hpp hbn hlt9 d1 d2 hf1 hf2 hy hln hlen hcells hpfx hB9 hpre hbo hsz hs hdd hu1 hu2 hB hs7' hb67 r7 f7 hT1 hT2 hlm' hbw1 hRl hTW1 hTW2 hrow hB1 hK hD hN2 heq hflt2 hT91 hT92 hsq hseq hk9 hDl hs9 hWs hbW9 n0 n1 a9 r9 f9 hq9 hb9 c1 c2
          by_cases hxk : yk = xk
          · subst hxk
            by_cases hxv : yv = xv
            · subst hxv
              gi_wp2
              have hz := HZ.out
              refine ⟨(But.refl _ _).setCell (fun _ => ⟨.inl rfl, .inl (show W.heap.size < w9.heap.size by omega)⟩) _, pp + 2, ⟨by rw [HPP.out]; simp; omega, (HPF.out _).2 rfl⟩, ⟨?_, by rw [World.frozen?_setCell]; exact p2⟩, HB9.out.setCell (p := ⟨W.heap.size, 0, none⟩) (fun _ => rfl) _⟩
              rw [show ((pp + 2 : Nat) : Int) = (pp : Int) + 2 by omega]
              exact World.cell?_setCell_same _ _ _ p1
            · have hxv' : (yv != xv) = true := by simpa using hxv
              have HXV := hidb hxv
              clear hxv
              gi_wp2
              have hz := HZ.out
              have hxv := HXV.out
              exact ⟨(But.refl _ _).setCell (fun _ => ⟨.inr (.inl rfl), .inl (show w.heap.size < w9.heap.size by omega)⟩) _, rfl, fun h => hxv (by have := (HPF.out _).1 h; simpa using this.symm)⟩
          · gi_wp2
            have hz := HZ.out
            exact ⟨(But.refl _ _).setCell (fun _ => ⟨.inr (.inl rfl), .inl (show w.heap.size < w9.heap.size by omega)⟩) _, rfl, fun h => hxk (by have := (HPF.out _).1 h; simp at this; exact this.1.symm)⟩
        case done =>
          rintro De zs W' hD' hzs ⟨pp, ⟨hpp, hpre⟩, ⟨p1, p2⟩, hB9⟩ hK'
          rw [hflt2, ← heq] at hzs
          subst hzs
          rw [hN2] at hpp
          subst hpp
          have hL1 : TB W' w1.heap.size (fun k => D1 k ∧ k < wr.heap.size) zs := hT91.but hB9 (fun k hk e => by omega) (by omega)
          have hL2 : TB W' (w1.heap.size + 1) (fun k => D2 k ∧ k < wr.heap.size) L2 := hT92.but hB9 (fun k hk e => by omega) (by omega)
          rw [← heq] at hL2
          have CL1 := hidb (len_any hL1)
          have CL2 := hidb (len_any hL2)
          have q3 := (hB9.cell (p := ⟨wr.heap.size, 0, none⟩) (show wr.heap.size < w9.heap.size by omega) (show ¬ wr.heap.size = W.heap.size by omega)).trans a9
          have q4 := (hB9.cell (p := ⟨w.heap.size, 0, none⟩) (show w.heap.size < w9.heap.size by omega) (show ¬ w.heap.size = W.heap.size by omega)).trans r9
          have q5 := (hB9.frozen (p := ⟨w.heap.size, 0, none⟩) (show w.heap.size < w9.heap.size by omega) (show ¬ w.heap.size = W.heap.size by omega)).trans f9
          have hkD : W'.heap[Dd]? = some (.deferred (some [])) := (hB9.block Dd (by omega) (by omega)).trans hk9
          have HY : Hid ((W'.heap[Dd]? = some (.deferred (some [])) ∧ W'.heap[De]? = some (.deferred (some []))) ∧ (Dd < W.heap.size ∧ w9.heap.size ≤ De ∧ w7.heap.size ≤ Dd) ∧ (w.heap.size < w1.heap.size ∧ w1.heap.size ≤ wr.heap.size ∧ wr.heap.size + 1 ≤ w7.heap.size ∧ w7.heap.size ≤ W.heap.size ∧ W.heap.size + 1 ≤ w9.heap.size) ∧ Below w.heap.size w w1 ∧ Below w1.heap.size w1 wr ∧ Below wr.heap.size wr w7 ∧ But (fun k => k = wr.heap.size) w7 W ∧ Below W.heap.size W w9 ∧ But (fun k => k = W.heap.size) w9 W' ∧ W'.cell? ⟨w.heap.size, 0, none⟩ = some (.bool false)) := hidb ⟨⟨hkD, hK'⟩, ⟨hDl, hD', hD⟩, ⟨hRl, by omega, hs7', hWs, hs9⟩, hbw1, hB, hb67, hB1, hbW9, hB9, q4⟩
          clear hL1 hL2 hkD hB9 hK' hD' hpre hcells hs hdd hu1 hu2 hB hs7' hb67 r7 f7 hT1 hT2 hlm' hbw1 hRl hTW1 hTW2 hrow hB1 hK hD hN2 hflt2 hT91 hT92 hsq hseq hk9 hDl hs9 hWs hbW9 n0 n1 a9 r9 f9 hq9 hb9 c1 c2 HG HG2 HEQ heq HN2
          go_wp2_with (first
            | (go_at_call 17; refine CL1.out.mono ?_; clear CL1; rintro e w8 ⟨rfl, rfl⟩)
            | (go_at_call 17; refine CL2.out.mono ?_; clear CL2; rintro e w8 ⟨rfl, rfl⟩))
          obtain ⟨⟨y1, y2⟩, ⟨y3, y4, y5⟩, ⟨y6, y7, y8, y9, y10⟩, y11, y12, y13, y14, y15, y16, y17⟩ := HY.out
          have hc2 : (w8.setCell ⟨w.heap.size, 0, none⟩ (.bool true)).cell? ⟨w.heap.size, 0, none⟩ = some (.bool true) := World.cell?_setCell_same _ _ _ y17
          refine retM [De, Dd] rfl (fun E hE => ?_) (by simp; omega) (fun W'' hb => ?_)
          · rcases List.mem_cons.1 hE with rfl | hE
            · exact (Below.heap_setCell w8 _ _ E (by simp; omega)).trans y2
            · obtain rfl : E = Dd := by simpa using hE
              exact (Below.heap_setCell w8 _ _ E (by simp; omega)).trans y1
          · have c5 := (hb.cell (p := ⟨w.heap.size, 0, none⟩) (World.block_lt_of_cell? _ _ hc2) (by simp; omega)).trans hc2
            have z1 : But (fun k => w.heap.size ≤ k) w9 W'' := (((y16.mono (fun k _ h => by show w.heap.size ≤ k; omega)).setCell (p := ⟨w.heap.size, 0, none⟩) (fun _ => Nat.le_refl _) _)).trans (hb.mono (fun k _ h => by have : k = De ∨ k = Dd := (by simpa using h); show w.heap.size ≤ k; omega))
            exact ⟨.bool true, by simp [results, Try.results6, go_sem, c5], rfl, y11.trans ((y12.mono (by omega)).trans ((y13.mono (by omega)).trans ((y14.below (by omega) (fun k h => by omega)).trans ((y15.mono (by omega)).trans (z1.below (by omega) (fun k h => h))))))⟩

end Go.Proofs.Ytnoknhgabjbocaa
