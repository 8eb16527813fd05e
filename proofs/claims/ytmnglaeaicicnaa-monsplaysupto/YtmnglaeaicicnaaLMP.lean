/- MonsPlays, walked. -/
import Derived.Test.YtmnglaeaicicnaaMs2
namespace Go.Proofs.Ytmnglaeaicicnaa
open Go.RowKit Go.Lib
open MV (Hf hf0 getL insL delL Rise Wfk TB Nw Rst KV MnT mvs)
attribute [local go_sem ↓] Go.wp_at_zero Go.wp_at_succ

set_option maxRecDepth 100000 in
set_option maxHeartbeats 16000000 in
theorem monsPlays_walk (v0 : Value) (l : List Act4) (w : World) (hl : AC w v0 l) (hs : ∀ x ∈ l, x.nm.size ≤ 281474976710656) :
    Calls Try.prog 3 #[v0] w fun e w' => e = .returned (.bool true) ∧ Below w.heap.size w w' := by
  obtain ⟨q1, c1, rfl, hcl1⟩ := hl
  have HC1 := hidb hcl1
  have HS := hidb hs
  clear hcl1 hs
  by_cases z1 : l.length > 2000
  · have e1 : (2000 : Int) < (l.length : Int) := by omega
    go_enter Try.func3, Try.ntmps3
    go_wp2_with (go_at_call 5; refine (known15_any _).mono ?_; rintro e w1 ⟨rfl, hb1⟩; have HB1 := hidb hb1; clear hb1)
    go_ret
    exact ⟨rfl, HB1.out⟩
  have e1 : ¬ (2000 : Int) < (l.length : Int) := by omega
  have HZ : Hid (l.length ≤ 2000) := hidb (by omega)
  clear z1
  go_enter Try.func3, Try.ntmps3
  go_wp2_with (first
    | (go_at_call 5; refine (known15_any _).mono ?_; rintro e w1 ⟨rfl, hb1⟩; have HB1 := hidb hb1; clear hb1)
    | (go_at_call 6; refine (mnew_any _).mono ?_; rintro e w2 ⟨rfl, ht2, hb2, hs2⟩; have HT2 := hidb ht2; have HB2 := hidb hb2; have HS2 := hidb hs2; clear ht2 hb2))
  clear hs2
  go_loopw [5] (fun iv wr => ∃ (i : Nat) (O T : List KV), iv = .int .i64 (i : Int) ∧ i ≤ l.length ∧ PB NoX w1 wr w1.heap.size (w1.heap.size + 1) O T O T ∧ O.length ≤ i ∧ T.length ≤ i) (fun iv _ => l.length - (RowKit.intOf iv).toNat)
  case atStart => exact ⟨0, [], [], rfl, by omega, PB.start HT2.out HB2.out HS2.out, by simp, by simp⟩
  case round =>
  obtain ⟨i, O, T, rfl, hi, hP, hLO, hLT⟩ := hrel
  have HP := hidb hP
  have HI := hidb (⟨hi, hLO, hLT⟩ : i ≤ l.length ∧ O.length ≤ i ∧ T.length ≤ i)
  clear hi hP hLO hLT HT2 HB2 HS2
  by_cases hlt : i < l.length
  · have hlt' : (i : Int) < (l.length : Int) := by omega
    obtain ⟨xo, xr, xp, xn, hx⟩ : ∃ (xo xr xp : Int) (xn : ByteArray), l[i]? = some ⟨xo, xr, xp, xn⟩ := ⟨_, _, _, _, List.getElem?_eq_getElem hlt⟩
    have hnm := HS.out _ (List.mem_of_getElem? hx)
    obtain ⟨b, o, rfl, y0, y1, y2, y3⟩ := HC1.out i _ hx
    have hbw : b < w.heap.size := World.block_lt_of_cell? _ _ y0
    have s0 : (0 : Int) ≤ (i : Int) := by omega
    have HW : Hid (wrap64 ((i : Int) + 1) = ((i + 1 : Nat) : Int)) := hidb (by have := HZ.out; unfold wrap64; omega)
    obtain ⟨D9, hM9⟩ := HP.out.mtt
    have CL : Hid (Calls Try.prog 7 #[.pointer (some ⟨w1.heap.size, 0, none⟩)] wr fun e w3 => ∃ NO NT a c a' c', e = .returned (.tuple #[.int .i64 ((NO : Nat) : Int), .int .i64 ((NT : Nat) : Int)]) ∧ Hid (∀ W, Below w3.heap.size w3 W → (W.cell? ⟨(w1.heap.size + 1), 0, none⟩ = some (.slice a NO c) ∧ W.cell? ⟨(w1.heap.size + 1), 1, none⟩ = some (.slice a' NT c') ∧ W.cell? ⟨b, o + i * 4, none⟩ = some (.int .i64 xo) ∧ W.cell? ⟨b, o + i * 4 + 1, none⟩ = some (.int .i64 xr) ∧ W.cell? ⟨b, o + i * 4 + 2, none⟩ = some (.int .i64 xp) ∧ W.cell? ⟨b, o + i * 4 + 3, none⟩ = some (.string xn)) ∧ Calls Try.prog 8 #[.pointer (some ⟨w1.heap.size, 0, none⟩), .pointer (some ⟨(w1.heap.size + 1), 0, none⟩), .agg #[.int .i64 xo, .int .i64 xr, .int .i64 xp, .string xn]] W fun e w5 => e = .returned (.bool true) ∧ Hid (∃ O T, PB NoX w1 w5 w1.heap.size (w1.heap.size + 1) O T O T ∧ O.length ≤ i + 1 ∧ T.length ≤ i + 1))) := hidb ((mlen_any hM9).mono (by
      rintro e w3 ⟨rfl, hb3⟩
      have hp3 := HP.out.keep hb3
      obtain ⟨a, c, a', c', r0, r1, -, -⟩ := hp3.rows
      refine ⟨_, _, a, c, a', c', rfl, hidb (fun W hW => ?_)⟩
      have hpW := hp3.keep hW
      have hbW := HB1.out.trans (hpW.low.mono HB1.out.size)
      have hrl := hp3.lts.2.1
      have hi5 := HI.out
      have hz5 := HZ.out
      refine ⟨⟨(hW.cell (p := ⟨(w1.heap.size + 1), 0, none⟩) hrl).trans r0, (hW.cell (p := ⟨(w1.heap.size + 1), 1, none⟩) hrl).trans r1, (hbW.cell (p := ⟨b, o + i * 4, none⟩) hbw).trans y0, (hbW.cell (p := ⟨b, o + i * 4 + 1, none⟩) hbw).trans y1, (hbW.cell (p := ⟨b, o + i * 4 + 2, none⟩) hbw).trans y2, (hbW.cell (p := ⟨b, o + i * 4 + 3, none⟩) hbw).trans y3⟩, (step_any hpW ⟨xo, xr, xp, xn⟩ hnm (by omega) (by omega)).mono ?_⟩
      rintro e w5 ⟨rfl, hp5⟩
      have h6 := stpO_len (x := ⟨xo, xr, xp, xn⟩) hpW.lts.2.2.2.1
      have h7 := stpT_len (x := ⟨xo, xr, xp, xn⟩) hpW.lts.2.2.2.2.1
      exact ⟨rfl, hidb ⟨_, _, hp5, by omega, by omega⟩⟩))
    clear hx y0 y1 y2 y3 hbw hlt hnm hM9
    go_wp2_with (first
      | (go_at_call 7; refine CL.out.mono ?_; clear CL; rintro e w3 ⟨NO, NT, a, c, a', c', rfl, HR⟩; obtain ⟨k0, k1, k2, k3, k4, k5⟩ := (HR.out _ (Below.refl _ _)).1)
      | (go_at_call 8; refine (HR.out _ (by (repeat (first | exact Below.refl _ _ | assumption | refine Below.drew ?_ | refine below_drewN ?_ _ | refine Below.setCell ?_ (by simp) _ | refine Below.alloc ?_ (by (first | exact Nat.le_refl _ | (simp; done) | (simp; omega) | omega)) _ | refine Below.trans ?_ (Below.mono (by assumption) (by first | exact Nat.le_refl _ | (simp; done) | (simp; omega) | omega)))))).2.mono ?_; clear HR; rintro e w5 ⟨rfl, HQ⟩))
    go_roundw
    case rel =>
      have hi5 := HI.out
      obtain ⟨O', T', r1, r2, r3⟩ := HQ.out
      exact ⟨i + 1, O', T', by first | rfl | (rw [HW.out]), by omega, r1, r2, r3⟩
    case measure =>
      try rw [HW.out]
      simp only [RowKit.intOf]
      omega
  · have hlt' : ¬ (i : Int) < (l.length : Int) := by omega
    have hi5 := HI.out
    have hz5 := HZ.out
    have CO : Hid (Calls Try.prog 9 #[.pointer (some ⟨w1.heap.size, 0, none⟩)] wr fun e w3 => ∃ NO a c, e = .returned (.slice a NO c) ∧ Hid (wr.heap.size ≤ w3.heap.size) ∧ Hid (Calls Try.prog 10 #[.pointer (some ⟨w1.heap.size, 0, none⟩)] w3 fun e w4 => ∃ NT a' c' ra rc ra' rc', e = .returned (.slice a' NT c') ∧ Hid (∀ W, Below w4.heap.size w4 W → W.cell? ⟨(w1.heap.size + 1), 0, none⟩ = some (.slice ra NO rc) ∧ W.cell? ⟨(w1.heap.size + 1), 1, none⟩ = some (.slice ra' NT rc') ∧ Calls Try.prog 11 #[.slice a NO c, .slice ra NO rc] W (fun e w5 => e = .returned (.bool true) ∧ Below W.heap.size W w5) ∧ Calls Try.prog 11 #[.slice a' NT c', .slice ra' NT rc'] W (fun e w5 => e = .returned (.bool true) ∧ Below W.heap.size W w5)) ∧ Hid (NO = O.length ∧ NT = T.length ∧ NO ≤ 2000 ∧ NT ≤ 2000 ∧ PB (fun k => wr.heap.size ≤ k ∧ k < w4.heap.size) w1 w4 w1.heap.size (w1.heap.size + 1) O T O T ∧ w4.ownsRow wr.heap.size MnT 3 (.slice a NO c) NO (mvs O) ∧ w4.ownsRow w3.heap.size MnT 3 (.slice a' NT c') NT (mvs T) ∧ (∀ g, (Value.slice a NO c).ownBlock = some g → g < w3.heap.size)))) := by
      refine hidb ((HP.out.origins (by omega)).mono ?_)
      rintro e w3 ⟨a, c, rfl, hb3, ho3⟩
      have hp3 := HP.out.keep hb3
      refine ⟨O.length, a, c, rfl, hidb hb3.size, hidb ((hp3.targets (by omega)).mono ?_)⟩
      rintro e w4 ⟨a', c', rfl, hb4, ho4⟩
      have hp4 := hp3.keep hb4
      obtain ⟨ra, rc, ra', rc', r0, r1, r2, r3⟩ := hp4.rows
      refine ⟨T.length, a', c', ra, rc, ra', rc', rfl, hidb (fun W hW => ?_), hidb ⟨rfl, rfl, by omega, by omega, HP.out.turn (hb3.trans (hb4.mono hb3.size)) (fun k hk => hk), ho3.keep9 hb4, ho4, fun g e => (ho3.lt g e).2⟩⟩
      have hrl := hp4.lts.2.1
      exact ⟨(hW.cell (p := ⟨(w1.heap.size + 1), 0, none⟩) hrl).trans r0, (hW.cell (p := ⟨(w1.heap.size + 1), 1, none⟩) hrl).trans r1, sameM_any ((ho3.keep9 hb4).keep9 hW) (r2.keep9 hW) (by omega), sameM_any (ho4.keep9 hW) (r3.keep9 hW) (by omega)⟩
    clear hlt hi5 hz5
    go_wp2_with (first
      | (go_at_call 9; refine CO.out.mono ?_; clear CO; rintro e w3 ⟨NO, a, c, rfl, HW3, CT⟩)
      | (go_at_call 10; refine CT.out.mono ?_; clear CT; rintro e w4 ⟨NT, a', c', ra, rc, ra', rc', rfl, HR, HQ⟩; obtain ⟨k0, k1, -, -⟩ := HR.out _ (Below.refl _ _); have HRa := hidb (fun W hW => (HR.out W hW).2.2.1); have HRb := hidb (fun W hW => And.intro (HR.out W hW).2.1 (HR.out W hW).2.2.2); clear HR)
      | (go_at_call 11; refine (HRa.out _ (Below.refl _ _)).mono ?_; clear HRa; rintro e w5 ⟨rfl, hb5⟩; have k3 := (HRb.out _ hb5).1; have HB5 := hidb hb5; clear hb5)
      | (go_at_call 11; refine (HRb.out _ HB5.out).2.mono ?_; clear HRb; rintro e w6 ⟨rfl, hb6⟩; have HB6 := hidb (HB5.out.trans (hb6.mono HB5.out.size)); clear hb6))
    have HQ1 : Hid (∃ (X : Nat → Prop) (B0 B3 : Nat), (NO = O.length ∧ NT = T.length ∧ NO ≤ 2000 ∧ NT ≤ 2000) ∧ (∀ g, (Value.slice a NO c).ownBlock = some g → X g ∧ g < B3) ∧ (∀ g, (Value.slice a' NT c').ownBlock = some g → X g) ∧ PB X w1 w6 w1.heap.size (w1.heap.size + 1) O T O T ∧ (∃ xs, w6.ownsRow B0 MnT 3 (.slice a NO c) NO xs) ∧ (∃ ys, w6.ownsRow B3 MnT 3 (.slice a' NT c') NT ys)) := hidb (by
      obtain ⟨q1, q2, q3, q4, q5, q6, q7, q8⟩ := HQ.out
      have hb := HB6.out
      have h3 := HW3.out
      refine ⟨_, _, _, ⟨q1, q2, q3, q4⟩, fun g e => ⟨⟨(q6.lt g e).1, (q6.lt g e).2⟩, q8 g e⟩, fun g e => ⟨by have := (q7.lt g e).1; omega, (q7.lt g e).2⟩, q5.keep hb, ⟨_, q6.keep9 hb⟩, ⟨_, q7.keep9 hb⟩⟩)
    obtain ⟨X, B0, B3, hq1, hq2, hq3, hq4⟩ := HQ1.out
    have HG := hidb (And.intro hq1 (And.intro hq2 hq3))
    have HQ2 := hidb hq4
    clear HQ1 hq1 hq2 hq3 hq4 HQ HP HB5 HB6
    go_loopw [10] (fun iv wq => ∃ j : Nat, iv = .int .i64 (j : Int) ∧ j ≤ NO ∧ PB X w1 wq w1.heap.size (w1.heap.size + 1) O T O T ∧ (∃ xs, wq.ownsRow B0 MnT 3 (.slice a NO c) NO xs) ∧ (∃ ys, wq.ownsRow B3 MnT 3 (.slice a' NT c') NT ys)) (fun iv _ => NO - (RowKit.intOf iv).toNat)
    case atStart => exact ⟨0, rfl, by omega, HQ2.out⟩
    case round =>
    rename World => wq
    obtain ⟨j, rfl, hj, hPQ, ⟨xs, hxs⟩, ⟨ys, hys⟩⟩ := hrel
    have HJ := hidb hj
    clear hj HQ2
    by_cases hlt : j < NO
    · have hlt' : (j : Int) < (NO : Int) := by omega
      have s0 : (0 : Int) ≤ (j : Int) := by omega
      have HW : Hid (wrap64 ((j : Int) + 1) = ((j + 1 : Nat) : Int)) := hidb (by have := HG.out.1; unfold wrap64; omega)
      obtain ⟨g, u0, u1, u2, zs, hga, hgl, t0, t1, t2, f0, f1, f2, hnew, hbt⟩ := row_zero hxs hlt
      have HFIN : Hid (PB X w1 (((wq.setCell ⟨g, j * 3, none⟩ (.int .i64 0)).setCell ⟨g, j * 3 + 1, none⟩ (.int .i64 0)).setCell ⟨g, j * 3 + 2, none⟩ (.string ⟨#[]⟩)) w1.heap.size (w1.heap.size + 1) O T O T ∧ (∃ xs, (((wq.setCell ⟨g, j * 3, none⟩ (.int .i64 0)).setCell ⟨g, j * 3 + 1, none⟩ (.int .i64 0)).setCell ⟨g, j * 3 + 2, none⟩ (.string ⟨#[]⟩)).ownsRow B0 MnT 3 (.slice a NO c) NO xs) ∧ (∃ ys, (((wq.setCell ⟨g, j * 3, none⟩ (.int .i64 0)).setCell ⟨g, j * 3 + 1, none⟩ (.int .i64 0)).setCell ⟨g, j * 3 + 2, none⟩ (.string ⟨#[]⟩)).ownsRow B3 MnT 3 (.slice a' NT c') NT ys)) := hidb (by
        have hgg := HG.out
        have hgx := hgg.2.1 g (by rw [hga]; rfl)
        refine ⟨hPQ.poke (hbt.mono (fun k _ e => e ▸ hgx.1)), ⟨zs, hnew⟩, ys, MV.row_but hys hbt (fun q hq e => ?_)⟩
        have := (hys.lt q hq).1; omega)
      subst hga
      clear hxs hys hPQ hgl hnew hbt hlt
      go_wp2_with fail
      go_roundw
      case rel =>
        have := HJ.out
        exact ⟨j + 1, by first | rfl | (rw [HW.out]), by omega, HFIN.out⟩
      case measure =>
        try rw [HW.out]
        simp only [RowKit.intOf]
        omega
    · have hlt' : ¬ (j : Int) < (NO : Int) := by omega
      have HPQ := hidb (And.intro hPQ (Exists.intro ys hys))
      clear hPQ hxs hys hlt
      go_wp2_with fail
      go_loopw [11] (fun iv wq => ∃ j : Nat, iv = .int .i64 (j : Int) ∧ j ≤ NT ∧ PB X w1 wq w1.heap.size (w1.heap.size + 1) O T O T ∧ (∃ ys, wq.ownsRow B3 MnT 3 (.slice a' NT c') NT ys)) (fun iv _ => NT - (RowKit.intOf iv).toNat)
      case atStart => exact ⟨0, rfl, by omega, HPQ.out⟩
      case round =>
      rename World => wq
      obtain ⟨j, rfl, hj, hPQ, ⟨ys, hys⟩⟩ := hrel
      have HJ := hidb hj
      clear hj HPQ
      by_cases hlt : j < NT
      · have hlt' : (j : Int) < (NT : Int) := by omega
        have s0 : (0 : Int) ≤ (j : Int) := by omega
        have HW : Hid (wrap64 ((j : Int) + 1) = ((j + 1 : Nat) : Int)) := hidb (by have := HG.out.1; unfold wrap64; omega)
        obtain ⟨g, u0, u1, u2, zs, hga, hgl, t0, t1, t2, f0, f1, f2, hnew, hbt⟩ := row_zero hys hlt
        have HFIN : Hid (PB X w1 (((wq.setCell ⟨g, j * 3, none⟩ (.int .i64 0)).setCell ⟨g, j * 3 + 1, none⟩ (.int .i64 0)).setCell ⟨g, j * 3 + 2, none⟩ (.string ⟨#[]⟩)) w1.heap.size (w1.heap.size + 1) O T O T ∧ (∃ ys, (((wq.setCell ⟨g, j * 3, none⟩ (.int .i64 0)).setCell ⟨g, j * 3 + 1, none⟩ (.int .i64 0)).setCell ⟨g, j * 3 + 2, none⟩ (.string ⟨#[]⟩)).ownsRow B3 MnT 3 (.slice a' NT c') NT ys)) := hidb (by
          have hgg := HG.out
          have hgx := hgg.2.2 g (by rw [hga]; rfl)
          refine ⟨hPQ.poke (hbt.mono (fun k _ e => e ▸ hgx)), zs, hnew⟩
  )
        subst hga
        clear hys hPQ hgl hnew hbt hlt
        go_wp2_with fail
        go_roundw
        case rel =>
          have := HJ.out
          exact ⟨j + 1, by first | rfl | (rw [HW.out]), by omega, HFIN.out⟩
        case measure =>
          try rw [HW.out]
          simp only [RowKit.intOf]
          omega
      · have hlt' : ¬ (j : Int) < (NT : Int) := by omega
        have HP := hidb hPQ
        clear hPQ hys hlt
        obtain ⟨ra9, rc9, rb9, rd9, r0, r1, r2, r3⟩ := HP.out.rows
        have hrl := HP.out.lts.2.1
        have hgg := HG.out.1
        have HSS : Hid (∀ W, Below wq.heap.size wq W → W.cell? ⟨(w1.heap.size + 1), 0, none⟩ = some (.slice ra9 O.length rc9) ∧ W.cell? ⟨(w1.heap.size + 1), 1, none⟩ = some (.slice rb9 T.length rd9)) := hidb (fun W hW => ⟨(hW.cell (p := ⟨(w1.heap.size + 1), 0, none⟩) hrl).trans r0, (hW.cell (p := ⟨(w1.heap.size + 1), 1, none⟩) hrl).trans r1⟩)
        have HS0 : Hid (wq.drew.cell? ⟨(w1.heap.size + 1), 0, none⟩ = some (.slice ra9 O.length rc9) ∧ wq.drew.cell? ⟨(w1.heap.size + 1), 1, none⟩ = some (.slice rb9 T.length rd9)) := hidb (HSS.out _ ((Below.refl _ _).drew))
        have CO : Hid (Calls Try.prog 9 #[.pointer (some ⟨w1.heap.size, 0, none⟩)] wq.drew fun e w7 => ∃ aa cc, e = .returned (.slice aa O.length cc) ∧ Hid (w7.cell? ⟨(w1.heap.size + 1), 0, none⟩ = some (.slice ra9 O.length rc9) ∧ w7.cell? ⟨(w1.heap.size + 1), 1, none⟩ = some (.slice rb9 T.length rd9)) ∧ Hid (Calls Try.prog 11 #[.slice aa O.length cc, .slice ra9 O.length rc9] w7 fun e w8 => e = .returned (.bool true) ∧ Hid (w8.cell? ⟨(w1.heap.size + 1), 0, none⟩ = some (.slice ra9 O.length rc9) ∧ w8.cell? ⟨(w1.heap.size + 1), 1, none⟩ = some (.slice rb9 T.length rd9)) ∧ Hid (Below wq.heap.size wq w8))) := by
          have hpd := HP.out.keep ((Below.refl _ _).drew)
          refine hidb ((hpd.origins (by omega)).mono ?_)
          rintro e w7 ⟨aa, cc, rfl, hb7, ho7⟩
          have hb7' : Below wq.heap.size wq w7 := ((Below.refl _ _).drew).trans (hb7.mono (Nat.le_refl _))
          refine ⟨aa, cc, rfl, hidb (HSS.out _ hb7'), hidb ((sameM_any ho7 (r2.keep9 hb7') (by omega)).mono ?_)⟩
          rintro e w8 ⟨rfl, hb8⟩
          have hb8' := hb7'.trans (hb8.mono hb7'.size)
          exact ⟨rfl, hidb (HSS.out _ hb8'), hidb hb8'⟩
        have CT : Hid (∀ W, Below wq.heap.size wq W → Calls Try.prog 10 #[.pointer (some ⟨w1.heap.size, 0, none⟩)] W fun e w7 => ∃ aa cc, e = .returned (.slice aa T.length cc) ∧ Hid (w7.cell? ⟨(w1.heap.size + 1), 0, none⟩ = some (.slice ra9 O.length rc9) ∧ w7.cell? ⟨(w1.heap.size + 1), 1, none⟩ = some (.slice rb9 T.length rd9)) ∧ Hid (Calls Try.prog 11 #[.slice aa T.length cc, .slice rb9 T.length rd9] w7 fun e w8 => e = .returned (.bool true) ∧ Hid (w8.cell? ⟨(w1.heap.size + 1), 0, none⟩ = some (.slice ra9 O.length rc9) ∧ w8.cell? ⟨(w1.heap.size + 1), 1, none⟩ = some (.slice rb9 T.length rd9)) ∧ Hid (Below w.heap.size w w8))) := hidb (fun W hW => by
          refine (((HP.out.keep hW)).targets (by omega)).mono ?_
          rintro e w7 ⟨aa, cc, rfl, hb7, ho7⟩
          have hb7' : Below wq.heap.size wq w7 := hW.trans (hb7.mono hW.size)
          refine ⟨aa, cc, rfl, hidb (HSS.out _ hb7'), hidb ((sameM_any ho7 (r3.keep9 hb7') (by omega)).mono ?_)⟩
          rintro e w8 ⟨rfl, hb8⟩
          have hb8' := hb7'.trans (hb8.mono hb7'.size)
          exact ⟨rfl, hidb (HSS.out _ hb8'), hidb (HB1.out.trans (((HP.out.keep hb8').low).mono HB1.out.size))⟩)
        clear HSS r0 r1 r2 r3 hrl hgg
        go_wp2_with fail
        go_region_held3 (fun w' => w'.cell? ⟨(w1.heap.size + 1), 0, none⟩ = some (.slice ra9 O.length rc9) ∧ w'.cell? ⟨(w1.heap.size + 1), 1, none⟩ = some (.slice rb9 T.length rd9)) (first | with_reducible exact HS0.out | with_reducible exact HS1.out | with_reducible exact HS2.out | with_reducible exact HS3.out | with_reducible exact HS4.out) (first
          | (go_at_call 9; refine CO.out.mono ?_; clear CO; rintro e w7 ⟨aa, cc, rfl, HS1, CM1⟩)
          | (go_at_call 11; refine CM1.out.mono ?_; clear CM1; rintro e w8 ⟨rfl, HS2, HB8⟩)
          | (go_at_call 10; refine (CT.out _ HB8.out).mono ?_; clear CT; rintro e w9 ⟨bb, dd, rfl, HS3, CM2⟩)
          | (go_at_call 11; refine CM2.out.mono ?_; clear CM2; rintro e w10 ⟨rfl, HS4, HB⟩))
        go_wp2_with fail
        go_ret
        exact ⟨rfl, HB.out⟩
end Go.Proofs.Ytmnglaeaicicnaa
