/- TreePlays, walked. -/
import Derived.Test.YtnoknhgabjbocaaAvP
import Derived.Test.YtnoknhgabjbocaaAvC4
namespace Go.Proofs.Ytnoknhgabjbocaa
open Go.RowKit Go.Shelf
attribute [local go_sem] Oper.semAt_some
attribute [local go_sem ↓] Go.wp_at_zero Go.wp_at_succ

set_option maxRecDepth 100000 in
set_option maxHeartbeats 8000000 in
theorem treePlays_walk (v0 : Value) (l : List (Int × Int × Int)) (w : World) (hl : AC w v0 l) (hwf : ∀ x ∈ l, (-9223372036854775808 : Int) ≤ x.2.1) :
    Calls Try.prog 3 #[v0] w fun e w' => e = .returned (.bool true) ∧ Below w.heap.size w w' := by
  obtain ⟨q, c, rfl, hcl⟩ := hl
  have HC := hidb hcl
  have HWF := hidb hwf
  clear hcl hwf
  by_cases hlen : l.length > 3000
  · have e1 : (3000 : Int) < (l.length : Int) := by omega
    go_enter Try.func3, Try.ntmps3
    go_wp2_with (go_at_call 7; refine (known13_any _).mono ?_; rintro e w1 ⟨rfl, hb1⟩; have HB1 := hidb hb1; clear hb1)
    go_ret
    exact ⟨rfl, HB1.out⟩
  · have e1 : ¬ (3000 : Int) < (l.length : Int) := by omega
    have HLN := hidb hlen
    clear hlen
    go_enter Try.func3, Try.ntmps3
    go_wp2_with (first
      | (go_at_call 7; refine (known13_any _).mono ?_; rintro e w1 ⟨rfl, hb1⟩; have HB1 := hidb hb1; clear hb1)
      | (go_at_call 8; refine (new_any _).mono ?_; rintro e w2 ⟨rfl, ht2, hb2, hs2⟩; have HT2 := hidb ht2; have HB2 := hidb hb2; clear ht2 hb2))
    go_loopw [5] (fun iv wr => ∃ (i : Nat) (L : List KV), iv = .int .i64 (i : Int) ∧ i ≤ l.length ∧ PR wr w1.heap.size (fun _ => False) w1.heap.size (w1.heap.size + 1) L L ∧ L.length ≤ i ∧ Below w1.heap.size w1 wr) (fun iv _ => l.length - (intOf iv).toNat)
    case atStart =>
      have ht2 := HT2.out
      have hb2 := HB2.out
      have hz : (w2.alloc (.cells #[.slice none 0 0, .slice none 0 0] 29)).heap.size = w1.heap.size + 2 := by simp [hs2]
      have hbn := below_new w2 (.cells #[.slice none 0 0, .slice none 0 0] 29)
      exact ⟨0, [], rfl, by omega, PR.new (ht2.keep hbn) (by rw [← hs2]; exact RB.start w2), by simp, hb2.trans (hbn.mono hb2.size)⟩
    case round =>
      obtain ⟨i, L, rfl, hi, hP, hLi, hB⟩ := hrel
      have HP := hidb hP
      have HI := hidb (⟨hi, hLi⟩ : i ≤ l.length ∧ L.length ≤ i)
      have HBW := hidb hB
      clear hi hP hLi hB
      by_cases hlt : i < l.length
      · have hlt' : (i : Int) < (l.length : Int) := by omega
        obtain ⟨x0, x1, x2, hx⟩ : ∃ x0 x1 x2 : Int, l[i]? = some (x0, x1, x2) := ⟨_, _, _, List.getElem?_eq_getElem hlt⟩
        obtain ⟨b, o, rfl, y0, y1, y2⟩ := HC.out i _ hx
        have HK : Hid (-9223372036854775808 ≤ x1) := hidb (HWF.out _ (List.mem_of_getElem? hx))
        have hbw : b < w.heap.size := World.block_lt_of_cell? _ _ y0
        have m0 := ((HB1.out.trans (HBW.out.mono HB1.out.size)).cell (p := ⟨b, o + i * 3, none⟩) hbw).trans y0
        have m1 := ((HB1.out.trans (HBW.out.mono HB1.out.size)).cell (p := ⟨b, o + i * 3 + 1, none⟩) hbw).trans y1
        have m2 := ((HB1.out.trans (HBW.out.mono HB1.out.size)).cell (p := ⟨b, o + i * 3 + 2, none⟩) hbw).trans y2
        have HLA : Hid (L.length ≤ 80000 ∧ i < 3000 ∧ i < l.length ∧ L.length ≤ i) := hidb (by have := HI.out; have := HLN.out; omega)
        have HBA : Hid (Below wr.heap.size wr (wr.alloc (.cells #[.int .i64 x0, .int .i64 x1, .int .i64 x2] 31))) := hidb (below_new wr _)
        have HPA : Hid (PR (wr.alloc (.cells #[.int .i64 x0, .int .i64 x1, .int .i64 x2] 31)) w1.heap.size (fun k => k = wr.heap.size) w1.heap.size (w1.heap.size + 1) L L) := hidb (HP.out.turn HBA.out (fun k e => by subst e; simp))
        have HBD : Hid (Below wr.heap.size wr (wr.alloc (.cells #[.int .i64 x0, .int .i64 x1, .int .i64 x2] 31)).drew) := hidb HBA.out.drew
        have HPD : Hid (PR (wr.alloc (.cells #[.int .i64 x0, .int .i64 x1, .int .i64 x2] 31)).drew w1.heap.size (fun k => k = wr.heap.size) w1.heap.size (w1.heap.size + 1) L L) := hidb (HPA.out.keep ((Below.refl _ _).drew))
        have HKA : Hid ((wr.alloc (.cells #[.int .i64 x0, .int .i64 x1, .int .i64 x2] 31)).cell? ⟨wr.heap.size, 1, none⟩ = some (.int .i64 x1) ∧ (wr.alloc (.cells #[.int .i64 x0, .int .i64 x1, .int .i64 x2] 31)).cell? ⟨wr.heap.size, 2, none⟩ = some (.int .i64 x2)) := hidb (by simp [go_sem])
        have HS0 : Hid ((wr.alloc (.cells #[.int .i64 x0, .int .i64 x1, .int .i64 x2] 31)).drew.cell? ⟨wr.heap.size, 1, none⟩ = some (.int .i64 x1) ∧ (wr.alloc (.cells #[.int .i64 x0, .int .i64 x1, .int .i64 x2] 31)).drew.cell? ⟨wr.heap.size, 2, none⟩ = some (.int .i64 x2)) := hidb HKA.out
        obtain ⟨bp, hbp⟩ := HPD.out.puts (by have := HLA.out; omega) x1 x2 HK.out rfl HS0.out.1 HS0.out.2
        obtain ⟨bd, hbd⟩ := HPD.out.drops (by have := HLA.out; omega) x1 rfl HS0.out.1 HS0.out.2
        have C1 := hidb hbp
        have C3 := hidb hbd
        have CO := hidb (HPA.out.over (by have := HLA.out; omega) x1)
        have HBL : Hid (w1.heap.size ≤ wr.heap.size) := hidb HBW.out.size
        have HLX := hidb hlt
        clear y0 y1 y2 hbw hx hbp hbd HP HI
        go_wp2_with fail
        · go_region_held3 (fun w' => w'.cell? ⟨wr.heap.size, 1, none⟩ = some (.int .i64 x1) ∧ w'.cell? ⟨wr.heap.size, 2, none⟩ = some (.int .i64 x2)) (first | with_reducible exact HS0.out | with_reducible exact HS1.out | with_reducible exact HS2.out) (first
            | (go_at_call 9; refine C1.out.mono ?_; clear C1 C3 CO; rintro e w3 ⟨rfl, HS1, C2⟩)
            | (go_at_call 10; refine C2.out.mono ?_; clear C2; rintro e w4 ⟨M, rfl, HS2, HQ3⟩))
          obtain ⟨hq1, hq2, hq3⟩ := HQ3.out
          have HM := hidb hq1
          have HML : Hid (M.length ≤ i + 1) := hidb (by have := HLA.out; omega)
          have HBM : Hid (Below w1.heap.size w1 w4) := hidb (HBW.out.trans ((HBD.out.mono HBL.out).trans (But.below (B := w1.heap.size) hq3 (by have := HBL.out; have := HBD.out.size; omega) (fun k h => h.1))))
          have k1 := HS2.out.1
          clear hq1 hq2 hq3 HQ3
          obtain ⟨g, gb, CG, CR⟩ := HM.out.gets (by have := HML.out; have := HLA.out; omega) x1
          go_wp2_with (first
            | (go_at_call 14; refine CG.out.mono ?_; clear CG; rintro e w5 ⟨rfl, rfl⟩)
            | (go_at_call 15; refine CR.out.mono ?_; clear CR; rintro e w6 ⟨rfl, HQ⟩)
            | (go_at_call 16; refine (HQ.out.1.tops (by have := HML.out; have := HLA.out; omega)).mono ?_; rintro e w7 ⟨hv, lv, N, a, ca, rfl, rfl, HV, HLE, CL, HSR⟩))
          obtain ⟨v1, v2, v3⟩ := HV.out
          have v4 : decide (hv < 0) = false := by simpa using v1
          have v5 : decide ((64 : Int) < hv) = false := by simpa using v2
          have v6 : decide ((N : Int) < lv) = false := by simpa using v3
          go_region_held3 (fun w' => w'.cell? ⟨w1.heap.size + 1, 0, none⟩ = some (.slice a N ca)) (first | with_reducible exact HSR.out) (first | (go_at_call 17; refine CL.out.mono ?_; clear CL; rintro e w10 ⟨rfl, rfl⟩) | (go_at_call 18; refine (HLE.out _).mono ?_; clear HLE; rintro e w10 ⟨rfl, rfl⟩))
          go_wp2_with fail
          go_roundw
          case rel =>
            have hq := HQ.out
            have hml := HML.out
            have hla := HLA.out
            have hbm := HBM.out
            exact ⟨i + 1, M, by simp, by omega, (hq.1.turn (Y := fun _ => False) ((Below.refl _ _).drew) (fun k h => h.elim)), by omega, hbm.trans ((hq.2.drew).mono hbm.size)⟩
          case measure =>
            have hla := HLA.out
            simp only [RowKit.intOf]
            omega
        · go_region_held3 (fun w' => w'.cell? ⟨wr.heap.size, 1, none⟩ = some (.int .i64 x1) ∧ w'.cell? ⟨wr.heap.size, 2, none⟩ = some (.int .i64 x2)) (first | with_reducible exact HS0.out | with_reducible exact HS1.out | with_reducible exact HS2.out) (first
            | (go_at_call 11; refine C3.out.mono ?_; clear C1 C3 CO; rintro e w3 ⟨rfl, HS1, C2⟩)
            | (go_at_call 12; refine C2.out.mono ?_; clear C2; rintro e w4 ⟨M, rfl, HS2, HQ3⟩))
          obtain ⟨hq1, hq2, hq3⟩ := HQ3.out
          have HM := hidb hq1
          have HML : Hid (M.length ≤ i + 1) := hidb (by have := HLA.out; omega)
          have HBM : Hid (Below w1.heap.size w1 w4) := hidb (HBW.out.trans ((HBD.out.mono HBL.out).trans (But.below (B := w1.heap.size) hq3 (by have := HBL.out; have := HBD.out.size; omega) (fun k h => h.1))))
          have k1 := HS2.out.1
          clear hq1 hq2 hq3 HQ3
          obtain ⟨g, gb, CG, CR⟩ := HM.out.gets (by have := HML.out; have := HLA.out; omega) x1
          go_wp2_with (first
            | (go_at_call 14; refine CG.out.mono ?_; clear CG; rintro e w5 ⟨rfl, rfl⟩)
            | (go_at_call 15; refine CR.out.mono ?_; clear CR; rintro e w6 ⟨rfl, HQ⟩)
            | (go_at_call 16; refine (HQ.out.1.tops (by have := HML.out; have := HLA.out; omega)).mono ?_; rintro e w7 ⟨hv, lv, N, a, ca, rfl, rfl, HV, HLE, CL, HSR⟩))
          obtain ⟨v1, v2, v3⟩ := HV.out
          have v4 : decide (hv < 0) = false := by simpa using v1
          have v5 : decide ((64 : Int) < hv) = false := by simpa using v2
          have v6 : decide ((N : Int) < lv) = false := by simpa using v3
          go_region_held3 (fun w' => w'.cell? ⟨w1.heap.size + 1, 0, none⟩ = some (.slice a N ca)) (first | with_reducible exact HSR.out) (first | (go_at_call 17; refine CL.out.mono ?_; clear CL; rintro e w10 ⟨rfl, rfl⟩) | (go_at_call 18; refine (HLE.out _).mono ?_; clear HLE; rintro e w10 ⟨rfl, rfl⟩))
          go_wp2_with fail
          go_roundw
          case rel =>
            have hq := HQ.out
            have hml := HML.out
            have hla := HLA.out
            have hbm := HBM.out
            exact ⟨i + 1, M, by simp, by omega, (hq.1.turn (Y := fun _ => False) ((Below.refl _ _).drew) (fun k h => h.elim)), by omega, hbm.trans ((hq.2.drew).mono hbm.size)⟩
          case measure =>
            have hla := HLA.out
            simp only [RowKit.intOf]
            omega
        · refine CO.out.mono ?_
          clear C1 C3 CO
          rintro e w4 ⟨rfl, hq1, hq2⟩
          have HM := hidb hq1
          have HML : Hid (L.length ≤ i + 1) := hidb (by have := HLA.out; omega)
          have HBM : Hid (Below w1.heap.size w1 w4) := hidb (HBW.out.trans ((HBA.out.mono HBL.out).trans (hq2.mono (by have := HBL.out; have := HBA.out.size; omega))))
          have k1 := (hq2.cell (p := ⟨wr.heap.size, 1, none⟩) (by simp)).trans HKA.out.1
          clear hq1 hq2
          obtain ⟨g, gb, CG, CR⟩ := HM.out.gets (by have := HML.out; have := HLA.out; omega) x1
          go_wp2_with (first
            | (go_at_call 14; refine CG.out.mono ?_; clear CG; rintro e w5 ⟨rfl, rfl⟩)
            | (go_at_call 15; refine CR.out.mono ?_; clear CR; rintro e w6 ⟨rfl, HQ⟩)
            | (go_at_call 16; refine (HQ.out.1.tops (by have := HML.out; have := HLA.out; omega)).mono ?_; rintro e w7 ⟨hv, lv, N, a, ca, rfl, rfl, HV, HLE, CL, HSR⟩))
          obtain ⟨v1, v2, v3⟩ := HV.out
          have v4 : decide (hv < 0) = false := by simpa using v1
          have v5 : decide ((64 : Int) < hv) = false := by simpa using v2
          have v6 : decide ((N : Int) < lv) = false := by simpa using v3
          go_region_held3 (fun w' => w'.cell? ⟨w1.heap.size + 1, 0, none⟩ = some (.slice a N ca)) (first | with_reducible exact HSR.out) (first | (go_at_call 17; refine CL.out.mono ?_; clear CL; rintro e w10 ⟨rfl, rfl⟩) | (go_at_call 18; refine (HLE.out _).mono ?_; clear HLE; rintro e w10 ⟨rfl, rfl⟩))
          go_wp2_with fail
          go_roundw
          case rel =>
            have hq := HQ.out
            have hml := HML.out
            have hla := HLA.out
            have hbm := HBM.out
            exact ⟨i + 1, L, by simp, by omega, (hq.1.turn (Y := fun _ => False) ((Below.refl _ _).drew) (fun k h => h.elim)), by omega, hbm.trans ((hq.2.drew).mono hbm.size)⟩
          case measure =>
            have hla := HLA.out
            simp only [RowKit.intOf]
            omega
        · clear C1 C3 CO
          have HM := HPA
          have HML : Hid (L.length ≤ i + 1) := hidb (by have := HLA.out; omega)
          have HBM := hidb (HBW.out.trans (HBA.out.mono HBL.out))
          obtain ⟨g, gb, CG, CR⟩ := HM.out.gets (by have := HML.out; have := HLA.out; omega) x1
          go_wp2_with (first
            | (go_at_call 14; refine CG.out.mono ?_; clear CG; rintro e w5 ⟨rfl, rfl⟩)
            | (go_at_call 15; refine CR.out.mono ?_; clear CR; rintro e w6 ⟨rfl, HQ⟩)
            | (go_at_call 16; refine (HQ.out.1.tops (by have := HML.out; have := HLA.out; omega)).mono ?_; rintro e w7 ⟨hv, lv, N, a, ca, rfl, rfl, HV, HLE, CL, HSR⟩))
          obtain ⟨v1, v2, v3⟩ := HV.out
          have v4 : decide (hv < 0) = false := by simpa using v1
          have v5 : decide ((64 : Int) < hv) = false := by simpa using v2
          have v6 : decide ((N : Int) < lv) = false := by simpa using v3
          go_region_held3 (fun w' => w'.cell? ⟨w1.heap.size + 1, 0, none⟩ = some (.slice a N ca)) (first | with_reducible exact HSR.out) (first | (go_at_call 17; refine CL.out.mono ?_; clear CL; rintro e w10 ⟨rfl, rfl⟩) | (go_at_call 18; refine (HLE.out _).mono ?_; clear HLE; rintro e w10 ⟨rfl, rfl⟩))
          go_wp2_with fail
          go_roundw
          case rel =>
            have hq := HQ.out
            have hml := HML.out
            have hla := HLA.out
            have hbm := HBM.out
            exact ⟨i + 1, L, by simp, by omega, (hq.1.turn (Y := fun _ => False) ((Below.refl _ _).drew) (fun k h => h.elim)), by omega, hbm.trans ((hq.2.drew).mono hbm.size)⟩
          case measure =>
            have hla := HLA.out
            simp only [RowKit.intOf]
            omega
      · have hlt' : ¬ (i : Int) < (l.length : Int) := by omega
        have CA := hidb (HP.out.all (by have := HI.out; have := HLN.out; omega))
        go_wp2_with (go_at_call 19; refine CA.out.mono ?_; clear CA; rintro e w4 ⟨rfl, hb4⟩)
        go_ret
        exact ⟨rfl, HB1.out.trans ((HBW.out.mono HB1.out.size).trans (hb4.mono (by have := HBW.out.size; have := HB1.out.size; omega)))⟩

end Go.Proofs.Ytnoknhgabjbocaa
