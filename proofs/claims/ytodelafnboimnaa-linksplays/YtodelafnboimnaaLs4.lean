/- LinksPlays, walked. -/
import Derived.Test.YtodelafnboimnaaLs3
namespace Go.Proofs.Ytodelafnboimnaa
open Go.RowKit Go.Lib
open HV (Hf hf0 getL insL delL Rise Wfk TB Nw Rst RT RU HT hvs)
attribute [local go_sem ↓] Go.wp_at_zero Go.wp_at_succ

set_option maxRecDepth 100000 in
set_option maxHeartbeats 16000000 in
theorem linksPlays_walk (v0 : Value) (l1 : List (Int × Int × Int)) (w : World) (hl1 : AC w v0 l1) :
    Calls Try.prog 3 #[v0] w fun e w' => e = .returned (.bool true) ∧ Below w.heap.size w w' := by
  obtain ⟨q1, c1, rfl, hcl1⟩ := hl1
  have HC1 := hidb hcl1
  clear hcl1
  by_cases z1 : l1.length > 2000
  · have e1 : (2000 : Int) < (l1.length : Int) := by omega
    go_enter Try.func3, Try.ntmps3
    go_wp2_with (go_at_call 5; refine (known14_any _).mono ?_; rintro e w1 ⟨rfl, hb1⟩; have HB1 := hidb hb1; clear hb1)
    go_ret
    exact ⟨rfl, HB1.out⟩
  have e1 : ¬ (2000 : Int) < (l1.length : Int) := by omega
  have HZ : Hid (l1.length ≤ 2000) := hidb (by omega)
  clear z1
  go_enter Try.func3, Try.ntmps3
  go_wp2_with (first
    | (go_at_call 5; refine (known14_any _).mono ?_; rintro e w1 ⟨rfl, hb1⟩; have HB1 := hidb hb1; clear hb1)
    | (go_at_call 6; refine (lnew_any _).mono ?_; rintro e w2 ⟨rfl, ht2, hb2, hs2⟩; have HT2 := hidb ht2; have HB2 := hidb hb2; have HS2 := hidb hs2; clear ht2 hb2))
  clear hs2
  go_loopw [5] (fun iv wr => ∃ (i : Nat) (L : List HV.KV) (n : Int), iv = .int .i64 (i : Int) ∧ i ≤ l1.length ∧ PL w1 wr w1.heap.size (w1.heap.size + 1) L n ∧ L.length ≤ i ∧ 0 ≤ n ∧ n ≤ i) (fun iv _ => l1.length - (intOf iv).toNat)
  case atStart => exact ⟨0, [], 0, rfl, by omega, PL.start HT2.out HB2.out HS2.out, by simp, by omega, by omega⟩
  case round =>
  obtain ⟨i, L, n, rfl, hi, hP, hLi, hn0, hn1⟩ := hrel
  have HP := hidb hP
  have HI := hidb (⟨hi, hLi, hn0, hn1⟩ : i ≤ l1.length ∧ L.length ≤ i ∧ 0 ≤ n ∧ n ≤ i)
  clear hi hP hLi hn0 hn1 HT2 HB2 HS2
  by_cases hlt : i < l1.length
  · have hlt' : (i : Int) < (l1.length : Int) := by omega
    obtain ⟨x0, x1, x2, hx⟩ : ∃ x0 x1 x2 : Int, l1[i]? = some (x0, x1, x2) := ⟨_, _, _, List.getElem?_eq_getElem hlt⟩
    obtain ⟨b, o, rfl, y0, y1, y2⟩ := HC1.out i _ hx
    have hbw : b < w.heap.size := World.block_lt_of_cell? _ _ y0
    have hbr := HB1.out.trans (HP.out.below.mono HB1.out.size)
    have m0 := (hbr.cell (p := ⟨b, o + i * 3, none⟩) hbw).trans y0
    have m1 := (hbr.cell (p := ⟨b, o + i * 3 + 1, none⟩) hbw).trans y1
    have m2 := (hbr.cell (p := ⟨b, o + i * 3 + 2, none⟩) hbw).trans y2
    simp only at m0 m1 m2
    have s0 : (0 : Int) ≤ (i : Int) := by omega
    have HW : Hid (wrap64 ((i : Int) + 1) = ((i + 1 : Nat) : Int)) := hidb (by have := HZ.out; unfold wrap64; omega)
    by_cases hx1 : x1 < 1
    · clear hx y0 y1 y2 hbw hlt hbr
      go_wp2_with fail
      go_roundw
      case rel =>
        have := HI.out
        exact ⟨i + 1, L, n, by first | rfl | (rw [HW.out]), by omega, HP.out, by omega, by omega, by omega⟩
      case measure =>
        try rw [HW.out]
        simp only [RowKit.intOf]
        omega
    · have CS : Hid (Calls Try.prog 7 #[.pointer (some ⟨w1.heap.size, 0, none⟩), .pointer (some ⟨w1.heap.size + 1, 0, none⟩), .agg #[.int .i64 x0, .int .i64 x1, .int .i64 x2]] wr fun e w5 => e = .returned (.bool true) ∧ w5.cell? ⟨b, o + i * 3 + 1, none⟩ = some (.int .i64 x1) ∧ ∃ va vb vc z, Hid (Calls Try.prog 8 #[.pointer (some ⟨w1.heap.size, 0, none⟩), .int .i64 x1] w5 fun e w6 => e = .returned (.tuple #[.agg #[.int .i64 va, .int .i64 vb, .int .i64 vc], .bool z]) ∧ (w6.alloc (.cells #[.int .i64 va, .int .i64 vb, .int .i64 vc] 34)).cell? ⟨b, o + i * 3 + 1, none⟩ = some (.int .i64 x1) ∧ Hid (Calls Try.prog 9 #[.pointer (some ⟨w1.heap.size + 1, 0, none⟩), .int .i64 x1] (w6.alloc (.cells #[.int .i64 va, .int .i64 vb, .int .i64 vc] 34)) fun e w7 => ∃ N ra rc, e = .returned (.tuple #[.agg #[.int .i64 va, .int .i64 vb, .int .i64 vc], .bool z]) ∧ Tri (w7.alloc (.cells #[.int .i64 va, .int .i64 vb, .int .i64 vc] 34)) w6.heap.size (.int .i64 va) (.int .i64 vb) (.int .i64 vc) ∧ (w7.alloc (.cells #[.int .i64 va, .int .i64 vb, .int .i64 vc] 34)).cell? ⟨w1.heap.size + 1, 0, none⟩ = some (.slice ra N rc) ∧ Hid (∀ m, Calls Try.prog 10 #[.pointer (some ⟨w1.heap.size, 0, none⟩)] ((w7.alloc (.cells #[.int .i64 va, .int .i64 vb, .int .i64 vc] 34)).drewN m) fun e w' => e = .returned (.int .i64 (N : Int)) ∧ w' = (w7.alloc (.cells #[.int .i64 va, .int .i64 vb, .int .i64 vc] 34)).drewN m) ∧ Hid (∃ L' n', PL w1 (w7.alloc (.cells #[.int .i64 va, .int .i64 vb, .int .i64 vc] 34)) w1.heap.size (w1.heap.size + 1) L' n' ∧ L'.length ≤ i + 1 ∧ 0 ≤ n' ∧ n' ≤ ((i + 1 : Nat) : Int))))) := by
        have hi5 := HI.out
        have hz5 := HZ.out
        refine hidb ((step_any HP.out x0 x1 x2 (by omega) (by omega) (by omega)).mono ?_)
        rintro e w5 ⟨rfl, hp5⟩
        have h6 := stp_len (op := x0) (p := x1) (id := x2) (n := n) HP.out.lts.2.2.1
        have h7 := stp_n (op := x0) (p := x1) (n := n) (L := L)
        generalize stpL x0 x1 x2 n L = L' at *
        generalize stpN x0 x1 n L = n' at *
        have hb5 : Below w.heap.size w w5 := HB1.out.trans (hp5.below.mono HB1.out.size)
        obtain ⟨D5, ht5⟩ := hp5.ltt
        refine ⟨rfl, (hb5.cell (p := ⟨b, o + i * 3 + 1, none⟩) hbw).trans y1, (stL x1 L').a, (stL x1 L').b, (stL x1 L').c, (getL x1 L').isSome, hidb ((lget_any ht5 x1).mono ?_)⟩
        rintro e w6 ⟨rfl, hb6⟩
        have hb6' : Below w5.heap.size w5 (w6.alloc (.cells #[.int .i64 (stL x1 L').a, .int .i64 (stL x1 L').b, .int .i64 (stL x1 L').c] 34)) := hb6.alloc hb6.size _
        have hp6 := hp5.keep hb6'
        have hb6w : Below w.heap.size w (w6.alloc (.cells #[.int .i64 (stL x1 L').a, .int .i64 (stL x1 L').b, .int .i64 (stL x1 L').c] 34)) := hb5.trans (hb6'.mono hb5.size)
        refine ⟨rfl, (hb6w.cell (p := ⟨b, o + i * 3 + 1, none⟩) hbw).trans y1, hidb ?_⟩
        obtain ⟨D6, E6, h61, h62, -⟩ := id hp6
        refine (HV.rget_any h62 hp6.lts.2.2.1 hp6.lts.2.2.2 x1 (by omega)).mono ?_
        rintro e w7 ⟨rfl, hb7⟩
        have hb7' : Below (w6.alloc (.cells #[.int .i64 (stL x1 L').a, .int .i64 (stL x1 L').b, .int .i64 (stL x1 L').c] 34)).heap.size (w6.alloc (.cells #[.int .i64 (stL x1 L').a, .int .i64 (stL x1 L').b, .int .i64 (stL x1 L').c] 34)) (w7.alloc (.cells #[.int .i64 (stL x1 L').a, .int .i64 (stL x1 L').b, .int .i64 (stL x1 L').c] 34)) := hb7.alloc hb7.size _
        have hp7 := hp6.keep hb7'
        obtain ⟨ra, rc, hr0, -⟩ := hp7.row
        obtain ⟨D7, ht7⟩ := hp7.ltt
        exact ⟨L'.length, ra, rc, rfl, (Tri.new w6 _ _ _ _).keep hb7', hr0, hidb (fun m => llen_any (ht7.keep (below_drewN (Below.refl _ _) m))), hidb ⟨L', n', hp7, by omega, by omega, by omega⟩⟩
      clear hx y0 y1 y2 hbw hlt hbr
      go_wp2_with (first
        | (go_at_call 7; refine CS.out.mono ?_; clear CS; rintro e w5 ⟨rfl, m5, va, vb, vc, z, CG⟩)
        | (go_at_call 8; refine CG.out.mono ?_; clear CG; rintro e w6 ⟨rfl, m6, CR⟩)
        | (go_at_call 9; refine CR.out.mono ?_; clear CR; rintro e w7 ⟨N, ra, rc, rfl, P8, r8, CL, HR⟩; have p0 := P8.c0; have p1 := P8.c1; have p2 := P8.c2))
      go_quiet ((go_at_call 10; exact Calls.quiet_of_same (CL.out _)))
      go_wp2_with fail
      go_roundw
      case rel =>
        obtain ⟨L', n', r1, r2, r3, r4⟩ := HR.out
        exact ⟨i + 1, L', n', by first | rfl | (rw [HW.out]), by omega, r1.keep (below_drewN (Below.refl _ _) _), r2, r3, r4⟩
      case measure =>
        try rw [HW.out]
        simp only [RowKit.intOf]
        omega
  · have hlt' : ¬ (i : Int) < (l1.length : Int) := by omega
    have CA : Hid (Calls Try.prog 11 #[.pointer (some ⟨w1.heap.size, 0, none⟩)] wr fun e w3 => ∃ N a c ra rc, e = .returned (.slice a N c) ∧ w3.cell? ⟨w1.heap.size + 1, 0, none⟩ = some (.slice ra N rc) ∧ Hid (Calls Try.prog 12 #[.slice a N c, .slice ra N rc] w3 fun e w4 => e = .returned (.bool true) ∧ Hid (PL w1 w4 w1.heap.size (w1.heap.size + 1) L n ∧ (N = L.length ∧ N ≤ 2000) ∧ ∃ wP, PL w1 wP w1.heap.size (w1.heap.size + 1) L n ∧ w4.ownsRow wP.heap.size HT 3 (.slice a N c) N (hvs L) ∧ Below wP.heap.size wP w4))) := by
      have hi5 := HI.out
      have hz5 := HZ.out
      refine hidb ((HP.out.all (by omega)).mono ?_)
      rintro e w3 ⟨a, c, rfl, hb3, ho3⟩
      have hp3 := HP.out.keep hb3
      obtain ⟨ra, rc, hr0, hr1⟩ := hp3.row
      refine ⟨L.length, a, c, ra, rc, rfl, hr0, hidb ((sameH_any ho3 hr1 (by omega)).mono ?_)⟩
      rintro e w4 ⟨rfl, hb4⟩
      exact ⟨rfl, hidb ⟨hp3.keep hb4, ⟨rfl, by omega⟩, wr, HP.out, ho3.keep9 hb4, hb3.trans (hb4.mono hb3.size)⟩⟩
    clear hlt
    go_wp2_with (first
      | (go_at_call 11; refine CA.out.mono ?_; clear CA; rintro e w3 ⟨N, a, c, ra, rc, rfl, k3, CM⟩)
      | (go_at_call 12; refine CM.out.mono ?_; clear CM; rintro e w4 ⟨rfl, HR⟩))
    clear HP hlt'
    go_loopw [11] (fun iv wr => ∃ (j : Nat), iv = .int .i64 (j : Int) ∧ j ≤ N ∧ PL w1 wr w1.heap.size (w1.heap.size + 1) L n ∧ ∃ wP xs, PL w1 wP w1.heap.size (w1.heap.size + 1) L n ∧ wr.ownsRow wP.heap.size HT 3 (.slice a N c) N xs ∧ But (fun k => wP.heap.size ≤ k) wP wr) (fun iv _ => N - (intOf iv).toNat)
    case atStart =>
      obtain ⟨r1, r2, wP, r3, r4, r5⟩ := HR.out
      exact ⟨0, rfl, by omega, r1, wP, _, r3, r4, But.of_below r5⟩
    case round =>
    rename World => wr
    obtain ⟨j, rfl, hj, hP, wP, xs, hP0, hrow, hbt⟩ := hrel
    have HJ : Hid (j ≤ N ∧ N = L.length ∧ N ≤ 2000) := hidb ⟨hj, HR.out.2.1⟩
    have HP := hidb hP
    clear hj hP
    by_cases hlt : j < N
    · have hlt' : (j : Int) < (N : Int) := by omega
      have s0 : (0 : Int) ≤ (j : Int) := by omega
      have HW : Hid (wrap64 ((j : Int) + 1) = ((j + 1 : Nat) : Int)) := hidb (by have := HJ.out; unfold wrap64; omega)
      obtain ⟨g, hga⟩ : ∃ g, a = some ⟨g, 0, none⟩ := by
        rcases hrow.2 with ⟨h0, h1⟩ | ⟨g, cap, cur, h0, -⟩
        · omega
        · exact ⟨g, by simp at h0; exact h0.1⟩
      subst hga
      have hxl := hrow.1
      obtain ⟨u0, hu0⟩ : ∃ u, xs[j * 3]? = some u := ⟨_, List.getElem?_eq_getElem (by omega)⟩
      obtain ⟨u1, hu1⟩ : ∃ u, xs[j * 3 + 1]? = some u := ⟨_, List.getElem?_eq_getElem (by omega)⟩
      obtain ⟨u2, hu2⟩ : ∃ u, xs[j * 3 + 2]? = some u := ⟨_, List.getElem?_eq_getElem (by omega)⟩
      have t0 : wr.cell? ⟨g, j * 3, none⟩ = some u0 := (hrow.cellAt _ (by omega)).trans hu0
      have t1 : wr.cell? ⟨g, j * 3 + 1, none⟩ = some u1 := (hrow.cellAt _ (by omega)).trans hu1
      have t2 : wr.cell? ⟨g, j * 3 + 2, none⟩ = some u2 := (hrow.cellAt _ (by omega)).trans hu2
      have hrow0 := HV.row_lift (B := 0) hrow (fun _ _ => Nat.zero_le _)
      have f0 := HV.row_free hrow0 (j * 3)
      have f1 := HV.row_free hrow0 (j * 3 + 1)
      have f2 := HV.row_free hrow0 (j * 3 + 2)
      have HFIN : Hid (PL w1 (((wr.setCell ⟨g, j * 3, none⟩ (.int .i64 0)).setCell ⟨g, j * 3 + 1, none⟩ (.int .i64 0)).setCell ⟨g, j * 3 + 2, none⟩ (.int .i64 0)) w1.heap.size (w1.heap.size + 1) L n ∧ ∃ wP xs, PL w1 wP w1.heap.size (w1.heap.size + 1) L n ∧ (((wr.setCell ⟨g, j * 3, none⟩ (.int .i64 0)).setCell ⟨g, j * 3 + 1, none⟩ (.int .i64 0)).setCell ⟨g, j * 3 + 2, none⟩ (.int .i64 0)).ownsRow wP.heap.size HT 3 (.slice (some ⟨g, 0, none⟩) N c) N xs ∧ But (fun k => wP.heap.size ≤ k) wP (((wr.setCell ⟨g, j * 3, none⟩ (.int .i64 0)).setCell ⟨g, j * 3 + 1, none⟩ (.int .i64 0)).setCell ⟨g, j * 3 + 2, none⟩ (.int .i64 0))) := hidb (by
        have hgl := (hrow.lt g rfl).1
        have hb9 : But (fun k => wP.heap.size ≤ k) wP (((wr.setCell ⟨g, j * 3, none⟩ (.int .i64 0)).setCell ⟨g, j * 3 + 1, none⟩ (.int .i64 0)).setCell ⟨g, j * 3 + 2, none⟩ (.int .i64 0)) := ((hbt.setCell (p := ⟨g, j * 3, none⟩) (fun _ => hgl) _).setCell (p := ⟨g, j * 3 + 1, none⟩) (fun _ => hgl) _).setCell (p := ⟨g, j * 3 + 2, none⟩) (fun _ => hgl) _
        exact ⟨hP0.out hb9 (fun k h => h), wP, _, hP0, (((hrow.stored (j * 3) (.int .i64 0)).1.stored (j * 3 + 1) (.int .i64 0)).1.stored (j * 3 + 2) (.int .i64 0)).1, hb9⟩)
      clear hrow hrow0 hbt hP0 hxl hu0 hu1 hu2 hlt
      go_wp2_with fail
      go_roundw
      case rel =>
        have := HJ.out
        obtain ⟨r1, r2⟩ := HFIN.out
        exact ⟨j + 1, by first | rfl | (rw [HW.out]), by omega, r1, r2⟩
      case measure =>
        try rw [HW.out]
        simp only [RowKit.intOf]
        omega
    · have hlt' : ¬ (j : Int) < (N : Int) := by omega
      obtain ⟨rb0, rb1, hr0, -⟩ := HP.out.row
      have hNL := HJ.out
      have HS0 : Hid (wr.drew.cell? ⟨w1.heap.size + 1, 0, none⟩ = some (.slice rb0 L.length rb1)) := hidb hr0
      have CA : Hid (Calls Try.prog 11 #[.pointer (some ⟨w1.heap.size, 0, none⟩)] wr.drew fun e w5 => ∃ a c, e = .returned (.slice a L.length c) ∧ Hid (w5.cell? ⟨w1.heap.size + 1, 0, none⟩ = some (.slice rb0 L.length rb1)) ∧ Hid (Calls Try.prog 12 #[.slice a L.length c, .slice rb0 L.length rb1] w5 fun e w6 => e = .returned (.bool true) ∧ Hid (w6.cell? ⟨w1.heap.size + 1, 0, none⟩ = some (.slice rb0 L.length rb1)) ∧ Hid (Below w.heap.size w w6))) := by
        have hpd := HP.out.keep ((Below.refl _ _).drew)
        refine hidb ((hpd.all (by omega)).mono ?_)
        rintro e w5 ⟨a5, c5, rfl, hb5, ho5⟩
        have hp5 := hpd.keep hb5
        have hlr := hpd.lts.2.1
        have hcr : w5.cell? ⟨w1.heap.size + 1, 0, none⟩ = some (.slice rb0 L.length rb1) := (hb5.cell (p := ⟨w1.heap.size + 1, 0, none⟩) hlr).trans hr0
        obtain ⟨ra, rc, hr5, hr6⟩ := hp5.row
        rw [hcr] at hr5
        obtain ⟨rfl, rfl⟩ : rb0 = ra ∧ rb1 = rc := by simpa using hr5
        refine ⟨a5, c5, rfl, hidb hcr, hidb ((sameH_any ho5 hr6 (by omega)).mono ?_)⟩
        rintro e w6 ⟨rfl, hb6⟩
        have hp6 := hp5.keep hb6
        exact ⟨rfl, hidb ((hb6.cell (p := ⟨w1.heap.size + 1, 0, none⟩) hp5.lts.2.1).trans hcr), hidb (HB1.out.trans (hp6.below.mono HB1.out.size))⟩
      clear hr0 hNL hrow hbt hP0 hlt
      go_wp2_with fail
      go_region_held3 (fun w' => w'.cell? ⟨w1.heap.size + 1, 0, none⟩ = some (.slice rb0 L.length rb1)) (first | with_reducible exact HS0.out | with_reducible exact HS1.out | with_reducible exact HS2.out) (first
        | (go_at_call 11; refine CA.out.mono ?_; clear CA; rintro e w5 ⟨a5, c5, rfl, HS1, CM⟩)
        | (go_at_call 12; refine CM.out.mono ?_; clear CM; rintro e w6 ⟨rfl, HS2, HB⟩))
      go_wp2_with fail
      go_ret
      exact ⟨rfl, HB.out⟩

end Go.Proofs.Ytodelafnboimnaa
