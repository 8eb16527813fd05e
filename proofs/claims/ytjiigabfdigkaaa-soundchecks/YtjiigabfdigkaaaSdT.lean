import Derived.Test.YtjiigabfdigkaaaG22
/- All halves of a process, counted in a view. -/
namespace Go.Proofs.Ytjiigabfdigkaaa
open Go.RowKit Go.Lib Go.Maps Go.WideMaps

attribute [local go_sem] store_float
set_option maxHeartbeats 4000000 in
set_option maxRecDepth 10000 in
theorem tieall_any {w : World} {vb : Nat} {pa : Option Addr} {np cp fb nb tb n : Nat} {g : Int → Option Nat} {NL : List ByteArray} {TL : List Tie} (hv : VW w vb pa np cp fb nb tb n g NL TL) (hne : vb ≠ tb ∧ fb ≠ tb ∧ nb ≠ tb) (p : Pc) (hp : PcIn w p) (hwf : PcWf p) (hm : TL.length + (tiesOf p).length < 1000000000) :
    Calls Try.prog 27 #[.pointer (some ⟨vb, 0, none⟩), pcV p] w (fun e w' => e = .returned (.tuple #[]) ∧ VW w' vb pa np cp fb nb tb n g NL (TL ++ tiesOf p) ∧ But (fun k => k = tb) w w') := by
  have HV := hidb hv
  have HPI := hidb hp
  have HWF := hidb hwf
  have HNE := hidb hne
  have HM := hidb hm
  have h64 : p.ll ≤ 9223372036854775807 := hp.ll.2
  have h65 : p.ol ≤ 9223372036854775807 := hp.lo.2
  have h66 : p.tl ≤ 9223372036854775807 := hp.lt.2
  clear hv hp hwf hne hm
  have HX0 := hidb (At.new w [.int .i64 p.pid, .int .i64 p.st, .int .i64 p.rk, .int .i64 p.rn, .float .f64 p.rf, .string p.rs, .slice p.ra p.rl p.rc, .bool p.trap, .slice p.ia p.il p.ic, .slice p.la p.ll p.lc, .slice p.oa p.ol p.oc, .slice p.ta p.tl p.tc, .slice p.na p.nl p.nc] 45)
  go_enter Try.func27, Try.ntmps27
  go_wp2_with fail
  obtain ⟨W0, hW0⟩ : ∃ W0, w.alloc (.cells #[.int .i64 p.pid, .int .i64 p.st, .int .i64 p.rk, .int .i64 p.rn, .float .f64 p.rf, .string p.rs, .slice p.ra p.rl p.rc, .bool p.trap, .slice p.ia p.il p.ic, .slice p.la p.ll p.lc, .slice p.oa p.ol p.oc, .slice p.ta p.tl p.tc, .slice p.na p.nl p.nc] 45) = W0 := ⟨_, rfl⟩
  have HB1 : Hid (Below w.heap.size w W0) := hidb (by rw [← hW0]; exact below_new w _)
  have HX0 : Hid (At W0 w.heap.size [.int .i64 p.pid, .int .i64 p.st, .int .i64 p.rk, .int .i64 p.rn, .float .f64 p.rf, .string p.rs, .slice p.ra p.rl p.rc, .bool p.trap, .slice p.ia p.il p.ic, .slice p.la p.ll p.lc, .slice p.oa p.ol p.oc, .slice p.ta p.tl p.tc, .slice p.na p.nl p.nc]) := hidb (by rw [← hW0]; exact HX0.out)
  rw [hW0]
  clear hW0
  have HV := hidb (HV.out.keep HB1.out)
  have HPI := hidb (HPI.out.keep HB1.out)
  have HB1 : Hid (But (fun k => k = tb) w W0) := hidb (But.of_below HB1.out)
  go_loopw [13] (fun iv wr => ∃ (m : Nat), m ≤ p.ll ∧ iv = .int .i64 m ∧ VW wr vb pa np cp fb nb tb n g NL (TL ++ lnkT p (p.links.take m)) ∧ But (fun k => k = tb) W0 wr) (fun iv _ => p.ll - (RowKit.intOf iv).toNat)
  case atStart => exact ⟨0, by omega, rfl, by simpa [lnkT, monT] using HV.out, But.refl _ _⟩
  case round =>
    obtain ⟨m, hm, rfl, hvr, hb⟩ := hrel
    have HB := hidb hb
    have HVR := hidb hvr
    have HNC : Hid (Nocells W0 (fun k => k = tb)) := hidb (fun b hb i => by subst hb; exact HV.out.ties.nocell i)
    have HLEN : Hid ((TL ++ lnkT p (p.links.take m)).length < 1000000000) := hidb (by have := HM.out; have := HPI.out.ll.1; have := HPI.out.lo.1; have := HPI.out.lt.1; simp [tiesOf, lnkT, monT] at *; omega)
    clear hvr hb
    by_cases hml : m < p.ll
    · have hmb : (m : Int) < (p.ll : Int) := by omega
      have hmz : (0 : Int) ≤ (m : Int) := by omega
      have hmw : IntKind.i64.wrap ((m : Int) + 1) = (m : Int) + 1 := by rw [IntKind.wrap_i64]; omega
      obtain ⟨x, b2, o2, hx, hla, hlt2, hc2⟩ := (HPI.out.but HB.out HNC.out).links.at m (by have := HPI.out.ll.1; omega)
      have d0 : wr.cell? ⟨b2, o2 + m * 3, none⟩ = some (.int .i64 x.pid) := hc2 0 (by omega)
      have d1 : wr.cell? ⟨b2, o2 + m * 3 + 1, none⟩ = some (.int .i64 x.st) := hc2 1 (by omega)
      have d2 : wr.cell? ⟨b2, o2 + m * 3 + 2, none⟩ = some (.int .i64 x.id) := hc2 2 (by omega)
      have HPX := hidb hx
      rw [hla]
      clear hx hc2 hla
      have HXM := hidb (List.mem_of_getElem? HPX.out)
      have HX := hidb ((HX0.out.but HB.out (HX0.out.nocell HNC.out)).keep (below_new wr (.cells #[.int .i64 x.pid, .int .i64 x.st, .int .i64 x.id] 61)))
      obtain ⟨x0, -⟩ := HX.out.1 0 _ rfl
      have HVX := hidb (HVR.out.keep (below_new wr (.cells #[.int .i64 x.pid, .int .i64 x.st, .int .i64 x.id] 61)))
      have HXB := hidb (At.new wr [.int .i64 x.pid, .int .i64 x.st, .int .i64 x.id] 61)
      go_wp2_with fail
      obtain ⟨WA, hWA⟩ : ∃ WA, wr.alloc (.cells #[.int .i64 x.pid, .int .i64 x.st, .int .i64 x.id] 61) = WA := ⟨_, rfl⟩
      rw [hWA] at HX HVX HXB x0 ⊢
      have HBW : Hid (Below wr.heap.size wr WA) := hidb (by rw [← hWA]; exact below_new wr _)
      clear hWA x0
      have hwt : wft ⟨0, p.pid, 0, x.pid⟩ := ⟨wfi_0, HWF.out.pid, wfi_0, HWF.out.links x HXM.out⟩
      have HWT := hidb hwt
      obtain ⟨CNT, hCNT⟩ : ∃ C, cnt (⟨0, p.pid, 0, x.pid⟩ : Tie) (TL ++ lnkT p (p.links.take m)) = C := ⟨_, rfl⟩
      have HCN := hidb hCNT
      have hcw : IntKind.i64.wrap ((CNT : Int) + 1) = ((CNT + 1 : Nat) : Int) := by
        have h1 := cnt_le (⟨0, p.pid, 0, x.pid⟩ : Tie) (TL ++ lnkT p (p.links.take m))
        have h2 := HLEN.out
        rw [hCNT] at h1
        rw [IntKind.wrap_i64]
        omega
      clear hCNT hwt
      have HSA : Hid (∀ W9, Below WA.heap.size WA W9 → W9.cell? ⟨vb, 3, none⟩ = some (.map (some tb)) ∧ W9.cell? ⟨w.heap.size, 0, none⟩ = some (.int .i64 p.pid) ∧ W9.cell? ⟨wr.heap.size, 0, none⟩ = some (.int .i64 x.pid) ∧ (Instr.lookup VMT (.map (some tb)) (tieV ⟨0, p.pid, 0, x.pid⟩) false).run Try.prog W9 = .ok (.int .i64 (CNT : Int)) W9) := hidb (fun W9 hb => by
        have h1 := HVX.out.keep hb
        have h2 := HX.out.keep hb
        have h3 := HXB.out.keep hb
        have h4 := h1.ties.look vLawT vUndT (keyTie HWT.out) HWT.out
        rw [HCN.out] at h4
        exact ⟨(h1.box.1 3 _ rfl).1, (h2.1 0 _ rfl).1, (h3.1 0 _ rfl).1, h4⟩)
      have HSE : Hid (∀ wd W9, Below WA.heap.size WA wd → But (fun k => k = tb) wd W9 → (Instr.lookup VMT (.map (some tb)) (tieV ⟨0, p.pid, 0, x.pid⟩) false).run Try.prog W9 = .ok (.int .i64 (CNT : Int)) W9 → W9.cell? ⟨vb, 3, none⟩ = some (.map (some tb)) ∧ W9.cell? ⟨w.heap.size, 0, none⟩ = some (.int .i64 p.pid) ∧ W9.cell? ⟨wr.heap.size, 0, none⟩ = some (.int .i64 x.pid) ∧ (Instr.lookup VMT (.map (some tb)) (tieV ⟨0, p.pid, 0, x.pid⟩) false).run Try.prog W9 = .ok (.int .i64 (CNT : Int)) W9) := hidb (fun wd W9 hb hbt h4 => by
        have h1 := HVX.out.keep hb
        have hnc : Nocells wd (fun k => k = tb) := fun b hb i => by subst hb; exact h1.ties.nocell i
        have h0 := h1.box.but hbt (h1.box.nocell hnc)
        have h2 := (HX.out.keep hb).but hbt ((HX.out.keep hb).nocell hnc)
        have h3 := (HXB.out.keep hb).but hbt ((HXB.out.keep hb).nocell hnc)
        exact ⟨(h0.1 3 _ rfl).1, (h2.1 0 _ rfl).1, (h3.1 0 _ rfl).1, h4⟩)
      refine wp_region_D (fun W9 => W9.cell? ⟨vb, 3, none⟩ = some (.map (some tb)) ∧ W9.cell? ⟨w.heap.size, 0, none⟩ = some (.int .i64 p.pid) ∧ W9.cell? ⟨wr.heap.size, 0, none⟩ = some (.int .i64 x.pid) ∧ (Instr.lookup VMT (.map (some tb)) (tieV ⟨0, p.pid, 0, x.pid⟩) false).run Try.prog W9 = .ok (.int .i64 (CNT : Int)) W9) [13] (by kernel_rfl) ?_
      have hbd : Below WA.heap.size WA WA.drew := (Below.refl _ _).drew
      generalize WA.drew = wd at hbd ⊢
      have HD := hidb hbd
      have HT := hidb (HSA.out wd hbd)
      clear hbd
      refine wpAnyD_takeL (i := 0) (v := ?vvt10) rfl (by kernel_rfl) (by kernel_rfl) (by kernel_rfl) (by kernel_rfl) (fun _ _ _ h => h) HT.out rfl ?hyt10 ?_
      case hyt10 => intro wy hSw; obtain ⟨q0, q1, q2, q3⟩ := hSw; go_simp; try with_reducible rfl
      simp only [Act.put, List.setIfInBounds_toArray, List.set_cons_zero, List.set_cons_succ]
      refine wpAnyD_takeL (i := 1) (v := ?vvt11) rfl (by kernel_rfl) (by kernel_rfl) (by kernel_rfl) (by kernel_rfl) (fun _ _ _ h => h) HT.out rfl ?hyt11 ?_
      case hyt11 => intro wy hSw; obtain ⟨q0, q1, q2, q3⟩ := hSw; go_simp; try with_reducible rfl
      simp only [Act.put, List.setIfInBounds_toArray, List.set_cons_zero, List.set_cons_succ]
      refine wpAnyD_takeL (i := 2) (v := ?vvt12) rfl (by kernel_rfl) (by kernel_rfl) (by kernel_rfl) (by kernel_rfl) (fun _ _ _ h => h) HT.out rfl ?hyt12 ?_
      case hyt12 => intro wy hSw; obtain ⟨q0, q1, q2, q3⟩ := hSw; go_simp; try with_reducible rfl
      simp only [Act.put, List.setIfInBounds_toArray, List.set_cons_zero, List.set_cons_succ]
      refine wpAnyD_takeL (i := 3) (v := ?vvt13) rfl (by kernel_rfl) (by kernel_rfl) (by kernel_rfl) (by kernel_rfl) (fun _ _ _ h => h) HT.out rfl ?hyt13 ?_
      case hyt13 => intro wy hSw; obtain ⟨q0, q1, q2, q3⟩ := hSw; go_simp; try with_reducible rfl
      simp only [Act.put, List.setIfInBounds_toArray, List.set_cons_zero, List.set_cons_succ]
      refine wpAnyD_takeL (i := 4) (v := ?vvt14) rfl (by kernel_rfl) (by kernel_rfl) (by kernel_rfl) (by kernel_rfl) (fun _ _ _ h => h) HT.out rfl ?hyt14 ?_
      case hyt14 => intro wy hSw; obtain ⟨q0, q1, q2, q3⟩ := hSw; go_simp; try with_reducible rfl
      simp only [Act.put, List.setIfInBounds_toArray, List.set_cons_zero, List.set_cons_succ]
      refine wpAnyD_takeL (i := 5) (v := ?vvt15) rfl (by kernel_rfl) (by kernel_rfl) (by kernel_rfl) (by kernel_rfl) (fun _ _ _ h => h) HT.out rfl ?hyt15 ?_
      case hyt15 => intro wy hSw; obtain ⟨q0, q1, q2, q3⟩ := hSw; go_simp; try with_reducible rfl
      simp only [Act.put, List.setIfInBounds_toArray, List.set_cons_zero, List.set_cons_succ]
      refine wpAnyD_takeL (i := 6) (v := ?vvt16) rfl (by kernel_rfl) (by kernel_rfl) (by kernel_rfl) (by kernel_rfl) (fun _ _ _ h => h) HT.out rfl ?hyt16 ?_
      case hyt16 => intro wy hSw; obtain ⟨q0, q1, q2, q3⟩ := hSw; go_simp; try with_reducible rfl
      simp only [Act.put, List.setIfInBounds_toArray, List.set_cons_zero, List.set_cons_succ]
      refine wpAnyD_takeL (i := 7) (v := ?vvt17) rfl (by kernel_rfl) (by kernel_rfl) (by kernel_rfl) (by kernel_rfl) (fun _ _ _ h => h) HT.out rfl ?hyt17 ?_
      case hyt17 => intro wy hSw; obtain ⟨q0, q1, q2, q3⟩ := hSw; go_simp; try with_reducible rfl
      simp only [Act.put, List.setIfInBounds_toArray, List.set_cons_zero, List.set_cons_succ]
      refine wpAnyD_takeL (i := 8) (v := ?vvt18) rfl (by kernel_rfl) (by kernel_rfl) (by kernel_rfl) (by kernel_rfl) (fun _ _ _ h => h) HT.out rfl ?hyt18 ?_
      case hyt18 => intro wy hSw; obtain ⟨q0, q1, q2, q3⟩ := hSw; go_simp; try with_reducible rfl
      simp only [Act.put, List.setIfInBounds_toArray, List.set_cons_zero, List.set_cons_succ]
      refine wpAnyD_takeL (i := 9) (v := ?vvt1l) rfl (by kernel_rfl) (by kernel_rfl) (by kernel_rfl) (by kernel_rfl) (fun _ _ _ h => h) HT.out rfl ?hyt1l ?_
      case hyt1l => intro wy hSw; obtain ⟨q0, q1, q2, q3⟩ := hSw; go_simp; try with_reducible rfl
      simp only [Act.put, List.setIfInBounds_toArray, List.set_cons_zero, List.set_cons_succ]
      refine wpAnyD_takeL (i := 10) (v := ?vvt1a) rfl (by kernel_rfl) (by kernel_rfl) (by kernel_rfl) (by kernel_rfl) (fun _ _ _ h => h) HT.out rfl ?hyt1a ?_
      case hyt1a => intro wy hSw; obtain ⟨q0, q1, q2, q3⟩ := hSw; go_simp; try with_reducible rfl
      simp only [Act.put, List.setIfInBounds_toArray, List.set_cons_zero, List.set_cons_succ]
      obtain ⟨st, w1, he1, hb1, hl1, w3, he3, hcm3, hb3⟩ := ((HVX.out.keep HD.out).ties.incr vKeyT vUndT (keyTie HWT.out) HWT.out (fun y hy he => tieL_inj hy HWT.out he) (by have := HLEN.out; unfold maxLen; omega))
      rw [HCN.out] at he1 hl1 he3
      refine wpAnyD_stepL (i := 11) (by kernel_rfl) rfl (fun K hK => ?_)
      refine step_entry rfl VMT (.tmp 20) (.tmp 25) rfl rfl rfl he1 ?_
      have HT1 := hidb (HSE.out wd w1 HD.out hb1 hl1)
      refine hK _ _ (fun _ => HT1.out) ?_
      clear hK K
      simp only [Act.put, List.setIfInBounds_toArray, List.set_cons_zero, List.set_cons_succ]
      refine wpAnyD_takeL (i := 12) (v := ?vvt1x) rfl (by kernel_rfl) (by kernel_rfl) (by kernel_rfl) (by kernel_rfl) (fun _ _ _ h => h) HT1.out rfl ?hyt1x ?_
      case hyt1x => intro wy hSw; obtain ⟨q0, q1, q2, q3⟩ := hSw; go_simp; try with_reducible rfl
      simp only [Act.put, List.setIfInBounds_toArray, List.set_cons_zero, List.set_cons_succ]
      refine wpAnyD_stepL (i := 13) (by kernel_rfl) rfl (fun K hK => ?_)
      refine step_estore rfl VMT (.tmp 20) (.tmp 29) (.tmp 27) rfl rfl rfl rfl he3 ?_
      refine hK _ _ (fun h => absurd (List.mem_singleton.2 rfl) h) ?_
      clear hK K he1 hl1 he3 hb1
      have HCM := hidb hcm3
      have HB3 := hidb hb3
      clear hcm3 hb3
      refine wpAnyD_done (by kernel_rfl) ?_ _
      go_wp2_with fail
      go_roundw
      case rel =>
        refine ⟨m + 1, by omega, by go_num, ?_, HB.out.trans (((But.of_below HBW.out).trans (But.of_below HD.out)).trans HB3.out)⟩
        have h := (HVX.out.keep HD.out).tie HB3.out HNE.out.1 HNE.out.2.1 HNE.out.2.2 HCM.out
        rw [List.append_assoc] at h
        rw [show lnkT p (p.links.take (m + 1)) = lnkT p (p.links.take m) ++ [⟨0, p.pid, 0, x.pid⟩] from take_map_step HPX.out]
        exact h
      case measure => simp [RowKit.intOf]; omega
    · have hmn : ¬ (m : Int) < (p.ll : Int) := by omega
      have HVE : Hid (VW wr vb pa np cp fb nb tb n g NL (TL ++ lnkT p p.links)) := hidb (by
        have h := HVR.out
        rwa [List.take_of_length_le (by have := HPI.out.ll.1; omega)] at h)
      have HX := hidb (HX0.out.but HB.out (HX0.out.nocell HNC.out))
      obtain ⟨x10, -⟩ := HX.out.1 10 _ rfl
      have HPJ := hidb (HPI.out.but HB.out HNC.out)
      go_wp2_with fail
      have HB1 := hidb (HB1.out.trans HB.out)
      clear HB HV HVR HX0 HPI x10 hml hmn hm HNC HLEN
      have HX0 := HX
      have HPI := HPJ
      have HV := HVE
      clear HX HPJ HVE
      obtain ⟨W0, hW0⟩ : ∃ W0, W0 = wr := ⟨_, rfl⟩
      subst hW0
      go_loopw [34] (fun iv wr => ∃ (m : Nat), m ≤ p.ol ∧ iv = .int .i64 m ∧ VW wr vb pa np cp fb nb tb n g NL ((TL ++ lnkT p p.links) ++ monT 1 p (p.origins.take m)) ∧ But (fun k => k = tb) W0 wr) (fun iv _ => p.ol - (RowKit.intOf iv).toNat)
      case atStart => exact ⟨0, by omega, rfl, by simpa [lnkT, monT] using HV.out, But.refl _ _⟩
      case round =>
        obtain ⟨m, hm, rfl, hvr, hb⟩ := hrel
        have HB := hidb hb
        have HVR := hidb hvr
        have HNC : Hid (Nocells W0 (fun k => k = tb)) := hidb (fun b hb i => by subst hb; exact HV.out.ties.nocell i)
        have HLEN : Hid (((TL ++ lnkT p p.links) ++ monT 1 p (p.origins.take m)).length < 1000000000) := hidb (by have := HM.out; have := HPI.out.ll.1; have := HPI.out.lo.1; have := HPI.out.lt.1; simp [tiesOf, lnkT, monT] at *; omega)
        clear hvr hb
        by_cases hml : m < p.ol
        · have hmb : (m : Int) < (p.ol : Int) := by omega
          have hmz : (0 : Int) ≤ (m : Int) := by omega
          have hmw : IntKind.i64.wrap ((m : Int) + 1) = (m : Int) + 1 := by rw [IntKind.wrap_i64]; omega
          obtain ⟨x, b2, o2, hx, hla, hlt2, hc2⟩ := (HPI.out.but HB.out HNC.out).origins.at m (by have := HPI.out.lo.1; omega)
          have d0 : wr.cell? ⟨b2, o2 + m * 3, none⟩ = some (.int .i64 x.ref) := hc2 0 (by omega)
          have d1 : wr.cell? ⟨b2, o2 + m * 3 + 1, none⟩ = some (.int .i64 x.pid) := hc2 1 (by omega)
          have d2 : wr.cell? ⟨b2, o2 + m * 3 + 2, none⟩ = some (.string x.name) := hc2 2 (by omega)
          have HPX := hidb hx
          rw [hla]
          clear hx hc2 hla
          have HXM := hidb (List.mem_of_getElem? HPX.out)
          have HX := hidb ((HX0.out.but HB.out (HX0.out.nocell HNC.out)).keep (below_new wr (.cells #[.int .i64 x.ref, .int .i64 x.pid, .string x.name] 81)))
          obtain ⟨x0, -⟩ := HX.out.1 0 _ rfl
          have HVX := hidb (HVR.out.keep (below_new wr (.cells #[.int .i64 x.ref, .int .i64 x.pid, .string x.name] 81)))
          have HXB := hidb (At.new wr [.int .i64 x.ref, .int .i64 x.pid, .string x.name] 81)
          go_wp2_with fail
          obtain ⟨WA, hWA⟩ : ∃ WA, wr.alloc (.cells #[.int .i64 x.ref, .int .i64 x.pid, .string x.name] 81) = WA := ⟨_, rfl⟩
          rw [hWA] at HX HVX HXB x0 ⊢
          have HBW : Hid (Below wr.heap.size wr WA) := hidb (by rw [← hWA]; exact below_new wr _)
          clear hWA x0
          have hwt : wft ⟨1, p.pid, x.ref, x.pid⟩ := ⟨wfi_1, HWF.out.pid, (HWF.out.origins x HXM.out).1, (HWF.out.origins x HXM.out).2⟩
          have HWT := hidb hwt
          obtain ⟨CNT, hCNT⟩ : ∃ C, cnt (⟨1, p.pid, x.ref, x.pid⟩ : Tie) ((TL ++ lnkT p p.links) ++ monT 1 p (p.origins.take m)) = C := ⟨_, rfl⟩
          have HCN := hidb hCNT
          have hcw : IntKind.i64.wrap ((CNT : Int) + 1) = ((CNT + 1 : Nat) : Int) := by
            have h1 := cnt_le (⟨1, p.pid, x.ref, x.pid⟩ : Tie) ((TL ++ lnkT p p.links) ++ monT 1 p (p.origins.take m))
            have h2 := HLEN.out
            rw [hCNT] at h1
            rw [IntKind.wrap_i64]
            omega
          clear hCNT hwt
          have HSA : Hid (∀ W9, Below WA.heap.size WA W9 → W9.cell? ⟨vb, 3, none⟩ = some (.map (some tb)) ∧ W9.cell? ⟨w.heap.size, 0, none⟩ = some (.int .i64 p.pid) ∧ W9.cell? ⟨wr.heap.size, 0, none⟩ = some (.int .i64 x.ref) ∧ W9.cell? ⟨wr.heap.size, 1, none⟩ = some (.int .i64 x.pid) ∧ (Instr.lookup VMT (.map (some tb)) (tieV ⟨1, p.pid, x.ref, x.pid⟩) false).run Try.prog W9 = .ok (.int .i64 (CNT : Int)) W9) := hidb (fun W9 hb => by
            have h1 := HVX.out.keep hb
            have h2 := HX.out.keep hb
            have h3 := HXB.out.keep hb
            have h4 := h1.ties.look vLawT vUndT (keyTie HWT.out) HWT.out
            rw [HCN.out] at h4
            exact ⟨(h1.box.1 3 _ rfl).1, (h2.1 0 _ rfl).1, (h3.1 0 _ rfl).1, (h3.1 1 _ rfl).1, h4⟩)
          have HSE : Hid (∀ wd W9, Below WA.heap.size WA wd → But (fun k => k = tb) wd W9 → (Instr.lookup VMT (.map (some tb)) (tieV ⟨1, p.pid, x.ref, x.pid⟩) false).run Try.prog W9 = .ok (.int .i64 (CNT : Int)) W9 → W9.cell? ⟨vb, 3, none⟩ = some (.map (some tb)) ∧ W9.cell? ⟨w.heap.size, 0, none⟩ = some (.int .i64 p.pid) ∧ W9.cell? ⟨wr.heap.size, 0, none⟩ = some (.int .i64 x.ref) ∧ W9.cell? ⟨wr.heap.size, 1, none⟩ = some (.int .i64 x.pid) ∧ (Instr.lookup VMT (.map (some tb)) (tieV ⟨1, p.pid, x.ref, x.pid⟩) false).run Try.prog W9 = .ok (.int .i64 (CNT : Int)) W9) := hidb (fun wd W9 hb hbt h4 => by
            have h1 := HVX.out.keep hb
            have hnc : Nocells wd (fun k => k = tb) := fun b hb i => by subst hb; exact h1.ties.nocell i
            have h0 := h1.box.but hbt (h1.box.nocell hnc)
            have h2 := (HX.out.keep hb).but hbt ((HX.out.keep hb).nocell hnc)
            have h3 := (HXB.out.keep hb).but hbt ((HXB.out.keep hb).nocell hnc)
            exact ⟨(h0.1 3 _ rfl).1, (h2.1 0 _ rfl).1, (h3.1 0 _ rfl).1, (h3.1 1 _ rfl).1, h4⟩)
          refine wp_region_D (fun W9 => W9.cell? ⟨vb, 3, none⟩ = some (.map (some tb)) ∧ W9.cell? ⟨w.heap.size, 0, none⟩ = some (.int .i64 p.pid) ∧ W9.cell? ⟨wr.heap.size, 0, none⟩ = some (.int .i64 x.ref) ∧ W9.cell? ⟨wr.heap.size, 1, none⟩ = some (.int .i64 x.pid) ∧ (Instr.lookup VMT (.map (some tb)) (tieV ⟨1, p.pid, x.ref, x.pid⟩) false).run Try.prog W9 = .ok (.int .i64 (CNT : Int)) W9) [15] (by kernel_rfl) ?_
          have hbd : Below WA.heap.size WA WA.drew := (Below.refl _ _).drew
          generalize WA.drew = wd at hbd ⊢
          have HD := hidb hbd
          have HT := hidb (HSA.out wd hbd)
          clear hbd
          refine wpAnyD_takeL (i := 0) (v := ?vvt20) rfl (by kernel_rfl) (by kernel_rfl) (by kernel_rfl) (by kernel_rfl) (fun _ _ _ h => h) HT.out rfl ?hyt20 ?_
          case hyt20 => intro wy hSw; obtain ⟨q0, q1, q2, q3, q4⟩ := hSw; go_simp; try with_reducible rfl
          simp only [Act.put, List.setIfInBounds_toArray, List.set_cons_zero, List.set_cons_succ]
          refine wpAnyD_takeL (i := 1) (v := ?vvt21) rfl (by kernel_rfl) (by kernel_rfl) (by kernel_rfl) (by kernel_rfl) (fun _ _ _ h => h) HT.out rfl ?hyt21 ?_
          case hyt21 => intro wy hSw; obtain ⟨q0, q1, q2, q3, q4⟩ := hSw; go_simp; try with_reducible rfl
          simp only [Act.put, List.setIfInBounds_toArray, List.set_cons_zero, List.set_cons_succ]
          refine wpAnyD_takeL (i := 2) (v := ?vvt22) rfl (by kernel_rfl) (by kernel_rfl) (by kernel_rfl) (by kernel_rfl) (fun _ _ _ h => h) HT.out rfl ?hyt22 ?_
          case hyt22 => intro wy hSw; obtain ⟨q0, q1, q2, q3, q4⟩ := hSw; go_simp; try with_reducible rfl
          simp only [Act.put, List.setIfInBounds_toArray, List.set_cons_zero, List.set_cons_succ]
          refine wpAnyD_takeL (i := 3) (v := ?vvt23) rfl (by kernel_rfl) (by kernel_rfl) (by kernel_rfl) (by kernel_rfl) (fun _ _ _ h => h) HT.out rfl ?hyt23 ?_
          case hyt23 => intro wy hSw; obtain ⟨q0, q1, q2, q3, q4⟩ := hSw; go_simp; try with_reducible rfl
          simp only [Act.put, List.setIfInBounds_toArray, List.set_cons_zero, List.set_cons_succ]
          refine wpAnyD_takeL (i := 4) (v := ?vvt24) rfl (by kernel_rfl) (by kernel_rfl) (by kernel_rfl) (by kernel_rfl) (fun _ _ _ h => h) HT.out rfl ?hyt24 ?_
          case hyt24 => intro wy hSw; obtain ⟨q0, q1, q2, q3, q4⟩ := hSw; go_simp; try with_reducible rfl
          simp only [Act.put, List.setIfInBounds_toArray, List.set_cons_zero, List.set_cons_succ]
          refine wpAnyD_takeL (i := 5) (v := ?vvt25) rfl (by kernel_rfl) (by kernel_rfl) (by kernel_rfl) (by kernel_rfl) (fun _ _ _ h => h) HT.out rfl ?hyt25 ?_
          case hyt25 => intro wy hSw; obtain ⟨q0, q1, q2, q3, q4⟩ := hSw; go_simp; try with_reducible rfl
          simp only [Act.put, List.setIfInBounds_toArray, List.set_cons_zero, List.set_cons_succ]
          refine wpAnyD_takeL (i := 6) (v := ?vvt26) rfl (by kernel_rfl) (by kernel_rfl) (by kernel_rfl) (by kernel_rfl) (fun _ _ _ h => h) HT.out rfl ?hyt26 ?_
          case hyt26 => intro wy hSw; obtain ⟨q0, q1, q2, q3, q4⟩ := hSw; go_simp; try with_reducible rfl
          simp only [Act.put, List.setIfInBounds_toArray, List.set_cons_zero, List.set_cons_succ]
          refine wpAnyD_takeL (i := 7) (v := ?vvt27) rfl (by kernel_rfl) (by kernel_rfl) (by kernel_rfl) (by kernel_rfl) (fun _ _ _ h => h) HT.out rfl ?hyt27 ?_
          case hyt27 => intro wy hSw; obtain ⟨q0, q1, q2, q3, q4⟩ := hSw; go_simp; try with_reducible rfl
          simp only [Act.put, List.setIfInBounds_toArray, List.set_cons_zero, List.set_cons_succ]
          refine wpAnyD_takeL (i := 8) (v := ?vvt28) rfl (by kernel_rfl) (by kernel_rfl) (by kernel_rfl) (by kernel_rfl) (fun _ _ _ h => h) HT.out rfl ?hyt28 ?_
          case hyt28 => intro wy hSw; obtain ⟨q0, q1, q2, q3, q4⟩ := hSw; go_simp; try with_reducible rfl
          simp only [Act.put, List.setIfInBounds_toArray, List.set_cons_zero, List.set_cons_succ]
          refine wpAnyD_takeL (i := 9) (v := ?vvt29) rfl (by kernel_rfl) (by kernel_rfl) (by kernel_rfl) (by kernel_rfl) (fun _ _ _ h => h) HT.out rfl ?hyt29 ?_
          case hyt29 => intro wy hSw; obtain ⟨q0, q1, q2, q3, q4⟩ := hSw; go_simp; try with_reducible rfl
          simp only [Act.put, List.setIfInBounds_toArray, List.set_cons_zero, List.set_cons_succ]
          refine wpAnyD_takeL (i := 10) (v := ?vvt210) rfl (by kernel_rfl) (by kernel_rfl) (by kernel_rfl) (by kernel_rfl) (fun _ _ _ h => h) HT.out rfl ?hyt210 ?_
          case hyt210 => intro wy hSw; obtain ⟨q0, q1, q2, q3, q4⟩ := hSw; go_simp; try with_reducible rfl
          simp only [Act.put, List.setIfInBounds_toArray, List.set_cons_zero, List.set_cons_succ]
          refine wpAnyD_takeL (i := 11) (v := ?vvt2l) rfl (by kernel_rfl) (by kernel_rfl) (by kernel_rfl) (by kernel_rfl) (fun _ _ _ h => h) HT.out rfl ?hyt2l ?_
          case hyt2l => intro wy hSw; obtain ⟨q0, q1, q2, q3, q4⟩ := hSw; go_simp; try with_reducible rfl
          simp only [Act.put, List.setIfInBounds_toArray, List.set_cons_zero, List.set_cons_succ]
          refine wpAnyD_takeL (i := 12) (v := ?vvt2a) rfl (by kernel_rfl) (by kernel_rfl) (by kernel_rfl) (by kernel_rfl) (fun _ _ _ h => h) HT.out rfl ?hyt2a ?_
          case hyt2a => intro wy hSw; obtain ⟨q0, q1, q2, q3, q4⟩ := hSw; go_simp; try with_reducible rfl
          simp only [Act.put, List.setIfInBounds_toArray, List.set_cons_zero, List.set_cons_succ]
          obtain ⟨st, w1, he1, hb1, hl1, w3, he3, hcm3, hb3⟩ := ((HVX.out.keep HD.out).ties.incr vKeyT vUndT (keyTie HWT.out) HWT.out (fun y hy he => tieL_inj hy HWT.out he) (by have := HLEN.out; unfold maxLen; omega))
          rw [HCN.out] at he1 hl1 he3
          refine wpAnyD_stepL (i := 13) (by kernel_rfl) rfl (fun K hK => ?_)
          refine step_entry rfl VMT (.tmp 41) (.tmp 48) rfl rfl rfl he1 ?_
          have HT1 := hidb (HSE.out wd w1 HD.out hb1 hl1)
          refine hK _ _ (fun _ => HT1.out) ?_
          clear hK K
          simp only [Act.put, List.setIfInBounds_toArray, List.set_cons_zero, List.set_cons_succ]
          refine wpAnyD_takeL (i := 14) (v := ?vvt2x) rfl (by kernel_rfl) (by kernel_rfl) (by kernel_rfl) (by kernel_rfl) (fun _ _ _ h => h) HT1.out rfl ?hyt2x ?_
          case hyt2x => intro wy hSw; obtain ⟨q0, q1, q2, q3, q4⟩ := hSw; go_simp; try with_reducible rfl
          simp only [Act.put, List.setIfInBounds_toArray, List.set_cons_zero, List.set_cons_succ]
          refine wpAnyD_stepL (i := 15) (by kernel_rfl) rfl (fun K hK => ?_)
          refine step_estore rfl VMT (.tmp 41) (.tmp 52) (.tmp 50) rfl rfl rfl rfl he3 ?_
          refine hK _ _ (fun h => absurd (List.mem_singleton.2 rfl) h) ?_
          clear hK K he1 hl1 he3 hb1
          have HCM := hidb hcm3
          have HB3 := hidb hb3
          clear hcm3 hb3
          refine wpAnyD_done (by kernel_rfl) ?_ _
          go_wp2_with fail
          go_roundw
          case rel =>
            refine ⟨m + 1, by omega, by go_num, ?_, HB.out.trans (((But.of_below HBW.out).trans (But.of_below HD.out)).trans HB3.out)⟩
            have h := (HVX.out.keep HD.out).tie HB3.out HNE.out.1 HNE.out.2.1 HNE.out.2.2 HCM.out
            rw [List.append_assoc] at h
            rw [show monT 1 p (p.origins.take (m + 1)) = monT 1 p (p.origins.take m) ++ [⟨1, p.pid, x.ref, x.pid⟩] from take_map_step HPX.out]
            exact h
          case measure => simp [RowKit.intOf]; omega
        · have hmn : ¬ (m : Int) < (p.ol : Int) := by omega
          have HVE : Hid (VW wr vb pa np cp fb nb tb n g NL ((TL ++ lnkT p p.links) ++ monT 1 p p.origins)) := hidb (by
            have h := HVR.out
            rwa [List.take_of_length_le (by have := HPI.out.lo.1; omega)] at h)
          have HX := hidb (HX0.out.but HB.out (HX0.out.nocell HNC.out))
          obtain ⟨x11, -⟩ := HX.out.1 11 _ rfl
          have HPJ := hidb (HPI.out.but HB.out HNC.out)
          go_wp2_with fail
          have HB1 := hidb (HB1.out.trans HB.out)
          clear HB HV HVR HX0 HPI x11 hml hmn hm HNC HLEN
          have HX0 := HX
          have HPI := HPJ
          have HV := HVE
          clear HX HPJ HVE
          obtain ⟨W0, hW0⟩ : ∃ W0, W0 = wr := ⟨_, rfl⟩
          subst hW0
          go_loopw [57] (fun iv wr => ∃ (m : Nat), m ≤ p.tl ∧ iv = .int .i64 m ∧ VW wr vb pa np cp fb nb tb n g NL ((TL ++ lnkT p p.links ++ monT 1 p p.origins) ++ monT 2 p (p.targets.take m)) ∧ But (fun k => k = tb) W0 wr) (fun iv _ => p.tl - (RowKit.intOf iv).toNat)
          case atStart => exact ⟨0, by omega, rfl, by simpa [lnkT, monT] using HV.out, But.refl _ _⟩
          case round =>
            obtain ⟨m, hm, rfl, hvr, hb⟩ := hrel
            have HB := hidb hb
            have HVR := hidb hvr
            have HNC : Hid (Nocells W0 (fun k => k = tb)) := hidb (fun b hb i => by subst hb; exact HV.out.ties.nocell i)
            have HLEN : Hid (((TL ++ lnkT p p.links ++ monT 1 p p.origins) ++ monT 2 p (p.targets.take m)).length < 1000000000) := hidb (by have := HM.out; have := HPI.out.ll.1; have := HPI.out.lo.1; have := HPI.out.lt.1; simp [tiesOf, lnkT, monT] at *; omega)
            clear hvr hb
            by_cases hml : m < p.tl
            · have hmb : (m : Int) < (p.tl : Int) := by omega
              have hmz : (0 : Int) ≤ (m : Int) := by omega
              have hmw : IntKind.i64.wrap ((m : Int) + 1) = (m : Int) + 1 := by rw [IntKind.wrap_i64]; omega
              obtain ⟨x, b2, o2, hx, hla, hlt2, hc2⟩ := (HPI.out.but HB.out HNC.out).targets.at m (by have := HPI.out.lt.1; omega)
              have d0 : wr.cell? ⟨b2, o2 + m * 3, none⟩ = some (.int .i64 x.ref) := hc2 0 (by omega)
              have d1 : wr.cell? ⟨b2, o2 + m * 3 + 1, none⟩ = some (.int .i64 x.pid) := hc2 1 (by omega)
              have d2 : wr.cell? ⟨b2, o2 + m * 3 + 2, none⟩ = some (.string x.name) := hc2 2 (by omega)
              have HPX := hidb hx
              rw [hla]
              clear hx hc2 hla
              have HXM := hidb (List.mem_of_getElem? HPX.out)
              have HX := hidb ((HX0.out.but HB.out (HX0.out.nocell HNC.out)).keep (below_new wr (.cells #[.int .i64 x.ref, .int .i64 x.pid, .string x.name] 81)))
              obtain ⟨x0, -⟩ := HX.out.1 0 _ rfl
              have HVX := hidb (HVR.out.keep (below_new wr (.cells #[.int .i64 x.ref, .int .i64 x.pid, .string x.name] 81)))
              have HXB := hidb (At.new wr [.int .i64 x.ref, .int .i64 x.pid, .string x.name] 81)
              go_wp2_with fail
              obtain ⟨WA, hWA⟩ : ∃ WA, wr.alloc (.cells #[.int .i64 x.ref, .int .i64 x.pid, .string x.name] 81) = WA := ⟨_, rfl⟩
              rw [hWA] at HX HVX HXB x0 ⊢
              have HBW : Hid (Below wr.heap.size wr WA) := hidb (by rw [← hWA]; exact below_new wr _)
              clear hWA x0
              have hwt : wft ⟨2, p.pid, x.ref, x.pid⟩ := ⟨wfi_2, HWF.out.pid, (HWF.out.targets x HXM.out).1, (HWF.out.targets x HXM.out).2⟩
              have HWT := hidb hwt
              obtain ⟨CNT, hCNT⟩ : ∃ C, cnt (⟨2, p.pid, x.ref, x.pid⟩ : Tie) ((TL ++ lnkT p p.links ++ monT 1 p p.origins) ++ monT 2 p (p.targets.take m)) = C := ⟨_, rfl⟩
              have HCN := hidb hCNT
              have hcw : IntKind.i64.wrap ((CNT : Int) + 1) = ((CNT + 1 : Nat) : Int) := by
                have h1 := cnt_le (⟨2, p.pid, x.ref, x.pid⟩ : Tie) ((TL ++ lnkT p p.links ++ monT 1 p p.origins) ++ monT 2 p (p.targets.take m))
                have h2 := HLEN.out
                rw [hCNT] at h1
                rw [IntKind.wrap_i64]
                omega
              clear hCNT hwt
              have HSA : Hid (∀ W9, Below WA.heap.size WA W9 → W9.cell? ⟨vb, 3, none⟩ = some (.map (some tb)) ∧ W9.cell? ⟨w.heap.size, 0, none⟩ = some (.int .i64 p.pid) ∧ W9.cell? ⟨wr.heap.size, 0, none⟩ = some (.int .i64 x.ref) ∧ W9.cell? ⟨wr.heap.size, 1, none⟩ = some (.int .i64 x.pid) ∧ (Instr.lookup VMT (.map (some tb)) (tieV ⟨2, p.pid, x.ref, x.pid⟩) false).run Try.prog W9 = .ok (.int .i64 (CNT : Int)) W9) := hidb (fun W9 hb => by
                have h1 := HVX.out.keep hb
                have h2 := HX.out.keep hb
                have h3 := HXB.out.keep hb
                have h4 := h1.ties.look vLawT vUndT (keyTie HWT.out) HWT.out
                rw [HCN.out] at h4
                exact ⟨(h1.box.1 3 _ rfl).1, (h2.1 0 _ rfl).1, (h3.1 0 _ rfl).1, (h3.1 1 _ rfl).1, h4⟩)
              have HSE : Hid (∀ wd W9, Below WA.heap.size WA wd → But (fun k => k = tb) wd W9 → (Instr.lookup VMT (.map (some tb)) (tieV ⟨2, p.pid, x.ref, x.pid⟩) false).run Try.prog W9 = .ok (.int .i64 (CNT : Int)) W9 → W9.cell? ⟨vb, 3, none⟩ = some (.map (some tb)) ∧ W9.cell? ⟨w.heap.size, 0, none⟩ = some (.int .i64 p.pid) ∧ W9.cell? ⟨wr.heap.size, 0, none⟩ = some (.int .i64 x.ref) ∧ W9.cell? ⟨wr.heap.size, 1, none⟩ = some (.int .i64 x.pid) ∧ (Instr.lookup VMT (.map (some tb)) (tieV ⟨2, p.pid, x.ref, x.pid⟩) false).run Try.prog W9 = .ok (.int .i64 (CNT : Int)) W9) := hidb (fun wd W9 hb hbt h4 => by
                have h1 := HVX.out.keep hb
                have hnc : Nocells wd (fun k => k = tb) := fun b hb i => by subst hb; exact h1.ties.nocell i
                have h0 := h1.box.but hbt (h1.box.nocell hnc)
                have h2 := (HX.out.keep hb).but hbt ((HX.out.keep hb).nocell hnc)
                have h3 := (HXB.out.keep hb).but hbt ((HXB.out.keep hb).nocell hnc)
                exact ⟨(h0.1 3 _ rfl).1, (h2.1 0 _ rfl).1, (h3.1 0 _ rfl).1, (h3.1 1 _ rfl).1, h4⟩)
              refine wp_region_D (fun W9 => W9.cell? ⟨vb, 3, none⟩ = some (.map (some tb)) ∧ W9.cell? ⟨w.heap.size, 0, none⟩ = some (.int .i64 p.pid) ∧ W9.cell? ⟨wr.heap.size, 0, none⟩ = some (.int .i64 x.ref) ∧ W9.cell? ⟨wr.heap.size, 1, none⟩ = some (.int .i64 x.pid) ∧ (Instr.lookup VMT (.map (some tb)) (tieV ⟨2, p.pid, x.ref, x.pid⟩) false).run Try.prog W9 = .ok (.int .i64 (CNT : Int)) W9) [15] (by kernel_rfl) ?_
              have hbd : Below WA.heap.size WA WA.drew := (Below.refl _ _).drew
              generalize WA.drew = wd at hbd ⊢
              have HD := hidb hbd
              have HT := hidb (HSA.out wd hbd)
              clear hbd
              refine wpAnyD_takeL (i := 0) (v := ?vvt30) rfl (by kernel_rfl) (by kernel_rfl) (by kernel_rfl) (by kernel_rfl) (fun _ _ _ h => h) HT.out rfl ?hyt30 ?_
              case hyt30 => intro wy hSw; obtain ⟨q0, q1, q2, q3, q4⟩ := hSw; go_simp; try with_reducible rfl
              simp only [Act.put, List.setIfInBounds_toArray, List.set_cons_zero, List.set_cons_succ]
              refine wpAnyD_takeL (i := 1) (v := ?vvt31) rfl (by kernel_rfl) (by kernel_rfl) (by kernel_rfl) (by kernel_rfl) (fun _ _ _ h => h) HT.out rfl ?hyt31 ?_
              case hyt31 => intro wy hSw; obtain ⟨q0, q1, q2, q3, q4⟩ := hSw; go_simp; try with_reducible rfl
              simp only [Act.put, List.setIfInBounds_toArray, List.set_cons_zero, List.set_cons_succ]
              refine wpAnyD_takeL (i := 2) (v := ?vvt32) rfl (by kernel_rfl) (by kernel_rfl) (by kernel_rfl) (by kernel_rfl) (fun _ _ _ h => h) HT.out rfl ?hyt32 ?_
              case hyt32 => intro wy hSw; obtain ⟨q0, q1, q2, q3, q4⟩ := hSw; go_simp; try with_reducible rfl
              simp only [Act.put, List.setIfInBounds_toArray, List.set_cons_zero, List.set_cons_succ]
              refine wpAnyD_takeL (i := 3) (v := ?vvt33) rfl (by kernel_rfl) (by kernel_rfl) (by kernel_rfl) (by kernel_rfl) (fun _ _ _ h => h) HT.out rfl ?hyt33 ?_
              case hyt33 => intro wy hSw; obtain ⟨q0, q1, q2, q3, q4⟩ := hSw; go_simp; try with_reducible rfl
              simp only [Act.put, List.setIfInBounds_toArray, List.set_cons_zero, List.set_cons_succ]
              refine wpAnyD_takeL (i := 4) (v := ?vvt34) rfl (by kernel_rfl) (by kernel_rfl) (by kernel_rfl) (by kernel_rfl) (fun _ _ _ h => h) HT.out rfl ?hyt34 ?_
              case hyt34 => intro wy hSw; obtain ⟨q0, q1, q2, q3, q4⟩ := hSw; go_simp; try with_reducible rfl
              simp only [Act.put, List.setIfInBounds_toArray, List.set_cons_zero, List.set_cons_succ]
              refine wpAnyD_takeL (i := 5) (v := ?vvt35) rfl (by kernel_rfl) (by kernel_rfl) (by kernel_rfl) (by kernel_rfl) (fun _ _ _ h => h) HT.out rfl ?hyt35 ?_
              case hyt35 => intro wy hSw; obtain ⟨q0, q1, q2, q3, q4⟩ := hSw; go_simp; try with_reducible rfl
              simp only [Act.put, List.setIfInBounds_toArray, List.set_cons_zero, List.set_cons_succ]
              refine wpAnyD_takeL (i := 6) (v := ?vvt36) rfl (by kernel_rfl) (by kernel_rfl) (by kernel_rfl) (by kernel_rfl) (fun _ _ _ h => h) HT.out rfl ?hyt36 ?_
              case hyt36 => intro wy hSw; obtain ⟨q0, q1, q2, q3, q4⟩ := hSw; go_simp; try with_reducible rfl
              simp only [Act.put, List.setIfInBounds_toArray, List.set_cons_zero, List.set_cons_succ]
              refine wpAnyD_takeL (i := 7) (v := ?vvt37) rfl (by kernel_rfl) (by kernel_rfl) (by kernel_rfl) (by kernel_rfl) (fun _ _ _ h => h) HT.out rfl ?hyt37 ?_
              case hyt37 => intro wy hSw; obtain ⟨q0, q1, q2, q3, q4⟩ := hSw; go_simp; try with_reducible rfl
              simp only [Act.put, List.setIfInBounds_toArray, List.set_cons_zero, List.set_cons_succ]
              refine wpAnyD_takeL (i := 8) (v := ?vvt38) rfl (by kernel_rfl) (by kernel_rfl) (by kernel_rfl) (by kernel_rfl) (fun _ _ _ h => h) HT.out rfl ?hyt38 ?_
              case hyt38 => intro wy hSw; obtain ⟨q0, q1, q2, q3, q4⟩ := hSw; go_simp; try with_reducible rfl
              simp only [Act.put, List.setIfInBounds_toArray, List.set_cons_zero, List.set_cons_succ]
              refine wpAnyD_takeL (i := 9) (v := ?vvt39) rfl (by kernel_rfl) (by kernel_rfl) (by kernel_rfl) (by kernel_rfl) (fun _ _ _ h => h) HT.out rfl ?hyt39 ?_
              case hyt39 => intro wy hSw; obtain ⟨q0, q1, q2, q3, q4⟩ := hSw; go_simp; try with_reducible rfl
              simp only [Act.put, List.setIfInBounds_toArray, List.set_cons_zero, List.set_cons_succ]
              refine wpAnyD_takeL (i := 10) (v := ?vvt310) rfl (by kernel_rfl) (by kernel_rfl) (by kernel_rfl) (by kernel_rfl) (fun _ _ _ h => h) HT.out rfl ?hyt310 ?_
              case hyt310 => intro wy hSw; obtain ⟨q0, q1, q2, q3, q4⟩ := hSw; go_simp; try with_reducible rfl
              simp only [Act.put, List.setIfInBounds_toArray, List.set_cons_zero, List.set_cons_succ]
              refine wpAnyD_takeL (i := 11) (v := ?vvt3l) rfl (by kernel_rfl) (by kernel_rfl) (by kernel_rfl) (by kernel_rfl) (fun _ _ _ h => h) HT.out rfl ?hyt3l ?_
              case hyt3l => intro wy hSw; obtain ⟨q0, q1, q2, q3, q4⟩ := hSw; go_simp; try with_reducible rfl
              simp only [Act.put, List.setIfInBounds_toArray, List.set_cons_zero, List.set_cons_succ]
              refine wpAnyD_takeL (i := 12) (v := ?vvt3a) rfl (by kernel_rfl) (by kernel_rfl) (by kernel_rfl) (by kernel_rfl) (fun _ _ _ h => h) HT.out rfl ?hyt3a ?_
              case hyt3a => intro wy hSw; obtain ⟨q0, q1, q2, q3, q4⟩ := hSw; go_simp; try with_reducible rfl
              simp only [Act.put, List.setIfInBounds_toArray, List.set_cons_zero, List.set_cons_succ]
              obtain ⟨st, w1, he1, hb1, hl1, w3, he3, hcm3, hb3⟩ := ((HVX.out.keep HD.out).ties.incr vKeyT vUndT (keyTie HWT.out) HWT.out (fun y hy he => tieL_inj hy HWT.out he) (by have := HLEN.out; unfold maxLen; omega))
              rw [HCN.out] at he1 hl1 he3
              refine wpAnyD_stepL (i := 13) (by kernel_rfl) rfl (fun K hK => ?_)
              refine step_entry rfl VMT (.tmp 64) (.tmp 71) rfl rfl rfl he1 ?_
              have HT1 := hidb (HSE.out wd w1 HD.out hb1 hl1)
              refine hK _ _ (fun _ => HT1.out) ?_
              clear hK K
              simp only [Act.put, List.setIfInBounds_toArray, List.set_cons_zero, List.set_cons_succ]
              refine wpAnyD_takeL (i := 14) (v := ?vvt3x) rfl (by kernel_rfl) (by kernel_rfl) (by kernel_rfl) (by kernel_rfl) (fun _ _ _ h => h) HT1.out rfl ?hyt3x ?_
              case hyt3x => intro wy hSw; obtain ⟨q0, q1, q2, q3, q4⟩ := hSw; go_simp; try with_reducible rfl
              simp only [Act.put, List.setIfInBounds_toArray, List.set_cons_zero, List.set_cons_succ]
              refine wpAnyD_stepL (i := 15) (by kernel_rfl) rfl (fun K hK => ?_)
              refine step_estore rfl VMT (.tmp 64) (.tmp 75) (.tmp 73) rfl rfl rfl rfl he3 ?_
              refine hK _ _ (fun h => absurd (List.mem_singleton.2 rfl) h) ?_
              clear hK K he1 hl1 he3 hb1
              have HCM := hidb hcm3
              have HB3 := hidb hb3
              clear hcm3 hb3
              refine wpAnyD_done (by kernel_rfl) ?_ _
              go_wp2_with fail
              go_roundw
              case rel =>
                refine ⟨m + 1, by omega, by go_num, ?_, HB.out.trans (((But.of_below HBW.out).trans (But.of_below HD.out)).trans HB3.out)⟩
                have h := (HVX.out.keep HD.out).tie HB3.out HNE.out.1 HNE.out.2.1 HNE.out.2.2 HCM.out
                rw [List.append_assoc] at h
                rw [show monT 2 p (p.targets.take (m + 1)) = monT 2 p (p.targets.take m) ++ [⟨2, p.pid, x.ref, x.pid⟩] from take_map_step HPX.out]
                exact h
              case measure => simp [RowKit.intOf]; omega
            · have hmn : ¬ (m : Int) < (p.tl : Int) := by omega
              have HVE : Hid (VW wr vb pa np cp fb nb tb n g NL ((TL ++ lnkT p p.links ++ monT 1 p p.origins) ++ monT 2 p p.targets)) := hidb (by
                have h := HVR.out
                rwa [List.take_of_length_le (by have := HPI.out.lt.1; omega)] at h)
              go_wp2_with fail
              exact bodyPost_end (by simp [results, Try.results27, go_sem]) rfl ⟨rfl, by rw [tiesOf, ← List.append_assoc, ← List.append_assoc]; exact HVE.out, HB1.out.trans HB.out⟩
end Go.Proofs.Ytjiigabfdigkaaa


