import Derived.Test.YtjiigabfdigkaaaSdT
import Derived.Test.YtjiigabfdigkaaaG06
import Derived.Test.YtjiigabfdigkaaaG04
import Derived.Deep.LoopGhost
import Derived.BigQuiet
import Derived.Laws.OwnMore
import Derived.Laws.Strings
import Derived.Laws.AppendOwn
/- A view, made. -/
namespace Go.Proofs.Ytjiigabfdigkaaa
open Go.RowKit Go.Lib Go.Maps Go.WideMaps

attribute [local go_sem] store_float
/-- The ties of those of the first m that are the first with their pid. -/
def fT (ps : List Pc) : Nat → List Tie
  | 0 => []
  | m + 1 => fT ps m ++ (match ps[m]? with
    | some p => if (fst (ps.take m) p.pid).isNone then tiesOf p else []
    | none => [])
theorem fT_new {ps : List Pc} {m : Nat} {p : Pc} (hp : ps[m]? = some p) (hf : fst (ps.take m) p.pid = none) : fT ps (m + 1) = fT ps m ++ tiesOf p := by
  simp [fT, hp, hf]
theorem fT_old {ps : List Pc} {m k : Nat} {p : Pc} (hp : ps[m]? = some p) (hf : fst (ps.take m) p.pid = some k) : fT ps (m + 1) = fT ps m := by
  simp [fT, hp, hf]
theorem fst_step {ps : List Pc} {m : Nat} {p : Pc} (hp : ps[m]? = some p) (q : Int) : fst (ps.take (m + 1)) q = (fst (ps.take m) q).or (if q = p.pid then some m else none) := by
  have hl := (List.getElem?_eq_some_iff.1 hp).1
  unfold fst
  rw [List.take_add_one, hp, List.findIdx?_append]
  simp only [Option.toList_some, List.findIdx?_cons, List.findIdx?_nil, List.length_take, Nat.min_eq_left (Nat.le_of_lt hl)]
  by_cases e : q = p.pid
  · subst e; simp
  · have e' : ¬ p.pid = q := fun k => e k.symm
    simp [e, e']
theorem fst_old {ps : List Pc} {m j : Nat} {p : Pc} (hp : ps[m]? = some p) (hf : fst (ps.take m) p.pid = some j) : fst (ps.take (m + 1)) = fst (ps.take m) := by
  funext q
  rw [fst_step hp]
  by_cases e : q = p.pid
  · subst e; rw [hf]; rfl
  · rw [if_neg e]; simp
theorem fst_new {ps : List Pc} {m : Nat} {p : Pc} (hp : ps[m]? = some p) (hf : fst (ps.take m) p.pid = none) : fst (ps.take (m + 1)) = fun x => if x = p.pid then some m else fst (ps.take m) x := by
  funext q
  rw [fst_step hp]
  by_cases e : q = p.pid
  · subst e; rw [hf]; simp
  · simp [e]
theorem names_step {ps : List Pc} {m : Nat} {p : Pc} (hp : ps[m]? = some p) : (ps.take (m + 1)).flatMap Pc.names = (ps.take m).flatMap Pc.names ++ p.names := by
  rw [List.take_add_one, hp]
  simp
theorem fT_len (ps : List Pc) (m : Nat) : (fT ps m).length ≤ tot (fun p => (tiesOf p).length) (ps.take m) := by
  induction m with
  | zero => simp [fT]
  | succ m ih =>
    cases hp : ps[m]? with
    | none => 
      have : ps.take (m + 1) = ps.take m := by rw [List.take_add_one, hp]; simp
      rw [this]
      simpa [fT, hp] using ih
    | some p =>
      rw [tot_step hp]
      simp only [fT, hp, List.length_append]
      split <;> simp <;> omega
set_option maxHeartbeats 4000000 in
set_option maxRecDepth 10000 in
theorem look_any {w : World} {pa : Option Addr} {np cp : Nat} {ps : List Pc} (hr : RowC 13 Pc.cells w pa ps) (hn : ps.length = np) (hnp : np ≤ 1000) (hp : ∀ p ∈ ps, PcIn w p) (hwf : ∀ p ∈ ps, PcWf p) (hm : (ps.flatMap Pc.names).length < 1000000000 ∧ tot (fun p => (tiesOf p).length) ps < 1000000000) :
    Calls Try.prog 16 #[.slice pa np cp] w (fun e w' => ∃ vb fb nb tb n, e = .returned (.pointer (some ⟨vb, 0, none⟩)) ∧ VW w' vb pa np cp fb nb tb n (fst ps) (ps.flatMap Pc.names) (fT ps np) ∧ Below w.heap.size w w') := by
  have HR := hidb hr
  have HN := hidb hn
  have HP := hidb hp
  have HWF := hidb hwf
  have HM := hidb hm
  clear hr hn hp hwf hm
  have hmm := @run_makeMap Try.prog
  go_enter Try.func16, Try.ntmps16
  -- LOOK
  go_wp2_with fail
  obtain ⟨W0, hW0⟩ : ∃ W0, ((((w.alloc (.map #[] 0)).alloc (.map #[] 0)).alloc (.map #[] 0)).alloc (.cells #[.slice pa np cp, .map (some w.heap.size), .map (some (w.heap.size + 1)), .map (some (w.heap.size + 1 + 1))] 71)) = W0 := ⟨_, rfl⟩
  have HV : Hid (VW W0 (w.heap.size + 1 + 1 + 1) pa np cp w.heap.size (w.heap.size + 1) (w.heap.size + 1 + 1) 0 (fun _ => none) [] []) := hidb (by
    have h1 := fm_made w
    have h2 := cm_made (K := VS) (lit := strL) (ok := fun s => s.size ≤ maxLen) (w.alloc (.map #[] 0))
    have h3 := cm_made (K := VT) (lit := tieL) (ok := wft) ((w.alloc (.map #[] 0)).alloc (.map #[] 0))
    have h4 := At.new (((w.alloc (.map #[] 0)).alloc (.map #[] 0)).alloc (.map #[] 0)) [.slice pa np cp, .map (some w.heap.size), .map (some (w.heap.size + 1)), .map (some (w.heap.size + 1 + 1))] 71
    have b1 := below_new (w.alloc (.map #[] 0)) (.map #[] 0)
    have b2 := below_new ((w.alloc (.map #[] 0)).alloc (.map #[] 0)) (.map #[] 0)
    have b3 := below_new (((w.alloc (.map #[] 0)).alloc (.map #[] 0)).alloc (.map #[] 0)) (.cells #[.slice pa np cp, .map (some w.heap.size), .map (some (w.heap.size + 1)), .map (some (w.heap.size + 1 + 1))] 71)
    simp only [World.size_alloc] at h2 h3 h4
    rw [← hW0]
    refine ⟨h4, ?_, ?_, ?_⟩
    · exact ((h1.but (But.of_below (S := fun _ => False) b1) (fun h => h)).but (But.of_below (S := fun _ => False) b2) (fun h => h)).but (But.of_below (S := fun _ => False) b3) (fun h => h)
    · exact (h2.but (But.of_below (S := fun _ => False) b2) (fun h => h)).but (But.of_below (S := fun _ => False) b3) (fun h => h)
    · exact h3.but (But.of_below (S := fun _ => False) b3) (fun h => h))
  have HB1 : Hid (Below w.heap.size w W0) := hidb (by
    rw [← hW0]
    exact ((((Below.refl _ w).alloc (Nat.le_refl _) _).alloc (by simp) _).alloc (by simp; omega) _).alloc (by simp; omega) _)
  rw [hW0]
  clear hW0 hmm
  obtain ⟨fb, hfb⟩ : ∃ b, w.heap.size = b := ⟨_, rfl⟩
  obtain ⟨nb, hnb⟩ : ∃ b, w.heap.size + 1 = b := ⟨_, rfl⟩
  obtain ⟨tb, htb⟩ : ∃ b, w.heap.size + 1 + 1 = b := ⟨_, rfl⟩
  obtain ⟨vb, hvb⟩ : ∃ b, w.heap.size + 1 + 1 + 1 = b := ⟨_, rfl⟩
  have HNE : Hid (w.heap.size ≤ fb ∧ w.heap.size ≤ nb ∧ w.heap.size ≤ tb ∧ w.heap.size ≤ vb ∧ fb ≠ nb ∧ fb ≠ tb ∧ nb ≠ tb ∧ vb ≠ fb ∧ vb ≠ nb ∧ vb ≠ tb) := hidb (by omega)
  rw [hvb, htb, hnb] at HV ⊢
  rw [show VW W0 vb pa np cp w.heap.size nb tb 0 (fun _ => none) [] [] = VW W0 vb pa np cp fb nb tb 0 (fun _ => none) [] [] by rw [hfb]] at HV
  rw [show (Value.map (some w.heap.size)) = .map (some fb) by rw [hfb]]
  clear hfb hnb htb hvb
  go_loopw [18] (fun iv wr => ∃ (m : Nat), m ≤ np ∧ iv = .int .i64 m ∧ (∃ n, n ≤ m ∧ VW wr vb pa np cp fb nb tb n (fst (ps.take m)) ((ps.take m).flatMap Pc.names) (fT ps m)) ∧ Below w.heap.size w wr) (fun iv _ => np - (RowKit.intOf iv).toNat)
  case atStart => exact ⟨0, by omega, rfl, ⟨0, by omega, HV.out⟩, HB1.out⟩
  case round =>
    obtain ⟨m, hm, rfl, ⟨n, hnm, hvr⟩, hb⟩ := hrel
    have HVR := hidb hvr
    have HB := hidb hb
    have HNM := hidb hnm
    clear hvr hb hnm
    by_cases hml : m < np
    · have hmb : (m : Int) < (np : Int) := by omega
      have hmz : (0 : Int) ≤ (m : Int) := by omega
      have hmw : IntKind.i64.wrap ((m : Int) + 1) = (m : Int) + 1 := by rw [IntKind.wrap_i64]; omega
      obtain ⟨p, b, o, hp, rfl, hlt, hc⟩ := HR.out.at m (by have := HN.out; omega)
      have hpm := List.mem_of_getElem? hp
      have HPI := hidb ((HP.out p hpm).keep HB.out)
      have HPW := hidb (HWF.out p hpm)
      have cc : ∀ (i : Nat), i < 13 → wr.cell? ⟨b, o + m * 13 + i, none⟩ = (Pc.cells p)[i]? := fun i hi => (HB.out.cell (p := ⟨b, o + m * 13 + i, none⟩) hlt).trans (hc i hi)
      have c0 : wr.cell? ⟨b, o + m * 13, none⟩ = some (.int .i64 p.pid) := cc 0 (by omega)
      have c1 : wr.cell? ⟨b, o + m * 13 + 1, none⟩ = some (.int .i64 p.st) := cc 1 (by omega)
      have c2 : wr.cell? ⟨b, o + m * 13 + 2, none⟩ = some (.int .i64 p.rk) := cc 2 (by omega)
      have c3 : wr.cell? ⟨b, o + m * 13 + 3, none⟩ = some (.int .i64 p.rn) := cc 3 (by omega)
      have c4 : wr.cell? ⟨b, o + m * 13 + 4, none⟩ = some (.float .f64 p.rf) := cc 4 (by omega)
      have c5 : wr.cell? ⟨b, o + m * 13 + 5, none⟩ = some (.string p.rs) := cc 5 (by omega)
      have c6 : wr.cell? ⟨b, o + m * 13 + 6, none⟩ = some (.slice p.ra p.rl p.rc) := cc 6 (by omega)
      have c7 : wr.cell? ⟨b, o + m * 13 + 7, none⟩ = some (.bool p.trap) := cc 7 (by omega)
      have c8 : wr.cell? ⟨b, o + m * 13 + 8, none⟩ = some (.slice p.ia p.il p.ic) := cc 8 (by omega)
      have c9 : wr.cell? ⟨b, o + m * 13 + 9, none⟩ = some (.slice p.la p.ll p.lc) := cc 9 (by omega)
      have c10 : wr.cell? ⟨b, o + m * 13 + 10, none⟩ = some (.slice p.oa p.ol p.oc) := cc 10 (by omega)
      have c11 : wr.cell? ⟨b, o + m * 13 + 11, none⟩ = some (.slice p.ta p.tl p.tc) := cc 11 (by omega)
      have c12 : wr.cell? ⟨b, o + m * 13 + 12, none⟩ = some (.slice p.na p.nl p.nc) := cc 12 (by omega)
      have HPP := hidb hp
      have HX0 := hidb (At.new wr [.int .i64 p.pid, .int .i64 p.st, .int .i64 p.rk, .int .i64 p.rn, .float .f64 p.rf, .string p.rs, .slice p.ra p.rl p.rc, .bool p.trap, .slice p.ia p.il p.ic, .slice p.la p.ll p.lc, .slice p.oa p.ol p.oc, .slice p.ta p.tl p.tc, .slice p.na p.nl p.nc] 45)
      obtain ⟨x8, -⟩ := HX0.out.1 8 _ rfl
      clear hp hc cc hpm
      go_wp2_with fail
      obtain ⟨W1, hW1⟩ : ∃ W1, wr.alloc (.cells #[.int .i64 p.pid, .int .i64 p.st, .int .i64 p.rk, .int .i64 p.rn, .float .f64 p.rf, .string p.rs, .slice p.ra p.rl p.rc, .bool p.trap, .slice p.ia p.il p.ic, .slice p.la p.ll p.lc, .slice p.oa p.ol p.oc, .slice p.ta p.tl p.tc, .slice p.na p.nl p.nc] 45) = W1 := ⟨_, rfl⟩
      have HBW : Hid (Below wr.heap.size wr W1) := hidb (by rw [← hW1]; exact below_new wr _)
      obtain ⟨pb, hpb⟩ : ∃ pb, wr.heap.size = pb := ⟨_, rfl⟩
      have HPB : Hid (pb = wr.heap.size) := hidb hpb.symm
      have HXW : Hid (At W1 pb [.int .i64 p.pid, .int .i64 p.st, .int .i64 p.rk, .int .i64 p.rn, .float .f64 p.rf, .string p.rs, .slice p.ra p.rl p.rc, .bool p.trap, .slice p.ia p.il p.ic, .slice p.la p.ll p.lc, .slice p.oa p.ol p.oc, .slice p.ta p.tl p.tc, .slice p.na p.nl p.nc]) := hidb (by rw [← hW1, ← hpb]; exact HX0.out)
      rw [hW1, hpb]
      clear hW1 hpb x8 HX0
      have HV1 := hidb (HVR.out.keep HBW.out)
      have HP1 := hidb (HPI.out.keep HBW.out)
      have HNC : Hid (Nocells W1 (fun k => k = nb)) := hidb (fun b hb i => by subst hb; exact HV1.out.names.nocell i)
      have hnl : p.nl ≤ 9223372036854775807 := HP1.out.ln.2
      have HLN : Hid (((ps.take m).flatMap Pc.names ++ p.names).length < 1000000000) := hidb (by
        have h1 := names_step HPP.out
        rw [← h1]
        have h2 : ps.flatMap Pc.names = (ps.take (m + 1)).flatMap Pc.names ++ (ps.drop (m + 1)).flatMap Pc.names := by rw [← List.flatMap_append, List.take_append_drop]
        have h3 := HM.out.1
        rw [h2, List.length_append] at h3
        omega)
      obtain ⟨wo, hwo⟩ : ∃ wo, wo = wr := ⟨_, rfl⟩
      subst hwo
      go_loopw [26] (fun iv w2 => ∃ (k : Nat), k ≤ p.nl ∧ iv = .int .i64 k ∧ VW w2 vb (some ⟨b, o, none⟩) np cp fb nb tb n (fst (ps.take m)) ((ps.take m).flatMap Pc.names ++ p.names.take k) (fT ps m) ∧ But (fun k => k = nb) W1 w2) (fun iv _ => p.nl - (RowKit.intOf iv).toNat)
      case atStart => exact ⟨0, by omega, rfl, by simpa using HV1.out, But.refl _ _⟩
      case round =>
        obtain ⟨w2, hw2⟩ : ∃ w2, w2 = wr := ⟨_, rfl⟩
        subst hw2
        obtain ⟨k, hk, rfl, hv2, hb2⟩ := hrel
        have HV2 := hidb hv2
        have HB2 := hidb hb2
        clear hv2 hb2
        by_cases hkl : k < p.nl
        · have hkb : (k : Int) < (p.nl : Int) := by omega
          have hkz : (0 : Int) ≤ (k : Int) := by omega
          have hkw : IntKind.i64.wrap ((k : Int) + 1) = (k : Int) + 1 := by rw [IntKind.wrap_i64]; omega
          obtain ⟨s, b2, o2, hx, hla, hlt2, hc2⟩ := (HP1.out.but HB2.out HNC.out).names.at k (by have := HP1.out.ln.1; omega)
          have d0 : w2.cell? ⟨b2, o2 + k, none⟩ = some (.string s) := by have h := hc2 0 (by omega); simpa using h
          have HPX := hidb hx
          have hsz := HPW.out.names s (List.mem_of_getElem? hx)
          have hlk := HV2.out.names.look vLawS vUndN (keyStr hsz) hsz
          obtain ⟨v2, -⟩ := HV2.out.box.1 2 _ rfl
          have hle := cnt_le s ((ps.take m).flatMap Pc.names ++ p.names.take k)
          have hll : ((ps.take m).flatMap Pc.names ++ p.names.take k).length < 1000000000 := by
            have h1 := HLN.out
            rw [List.length_append] at h1 ⊢
            rw [List.length_take]
            omega
          obtain ⟨w3, hup, hcm, hb3⟩ := HV2.out.names.store vLawS vUndN (keyStr hsz) trivial hsz (fun y _ he => strL_inj he) (by unfold maxLen; omega)
          rw [hla]
          obtain ⟨CNT, hC⟩ : ∃ C, cnt s ((ps.take m).flatMap Pc.names ++ p.names.take k) = C := ⟨_, rfl⟩
          rw [hC] at hlk hup hle
          have hup' : (Instr.mapUpdate 68 (.map (some nb)) (.string s) (.int .i64 ((CNT : Int) + 1))).run Try.prog w2 = .ok () w3 := hup
          have hcw : IntKind.i64.wrap ((CNT : Int) + 1) = (CNT : Int) + 1 := by rw [IntKind.wrap_i64]; omega
          have HCM := hidb hcm
          have HB3 := hidb hb3
          clear hx hc2 hla hsz hle hll hcm hb3 hup hC
          go_wp2_with fail
          go_roundw
          case rel =>
            refine ⟨k + 1, by omega, by go_num, ?_, HB2.out.trans HB3.out⟩
            have h := HV2.out.name HB3.out HNE.out.2.2.2.2.2.2.2.2.1 HNE.out.2.2.2.2.1 (fun e => HNE.out.2.2.2.2.2.2.1 e.symm) HCM.out
            rw [List.append_assoc] at h
            rw [show p.names.take (k + 1) = p.names.take k ++ [s] by rw [List.take_add_one, HPX.out]; rfl]
            exact h
          case measure => simp [RowKit.intOf]; omega
        · have hkn : ¬ (k : Int) < (p.nl : Int) := by omega
          have HVN : Hid (VW w2 vb (some ⟨b, o, none⟩) np cp fb nb tb n (fst (ps.take m)) ((ps.take (m + 1)).flatMap Pc.names) (fT ps m)) := hidb (by
            have h := HV2.out
            rw [show p.names.take k = p.names from List.take_of_length_le (by have := HP1.out.ln.1; omega)] at h
            rw [names_step HPP.out]
            exact h)
          have HX2 := hidb (HXW.out.but HB2.out (HXW.out.nocell HNC.out))
          have HP2 := hidb (HP1.out.but HB2.out HNC.out)
          have HB0 : Hid (Below w.heap.size w w2) := hidb ((HB.out.trans (HBW.out.mono HB.out.size)).trans (HB2.out.below (Nat.le_trans HB.out.size HBW.out.size) (fun _ h => h ▸ HNE.out.2.1)))
          clear HV2 HV1 HP1 HPI HVR HXW
          go_wp2_with fail
          have HD2 : Hid (Below w2.heap.size w2 w2.drew) := hidb (Below.refl _ _).drew
          have HVD := hidb (HVN.out.keep HD2.out)
          have HXD := hidb (HX2.out.keep HD2.out)
          have hlk := HVD.out.first.look HPW.out.pid
          obtain ⟨v1, -⟩ := HVD.out.box.1 1 _ rfl
          obtain ⟨x0, -⟩ := HXD.out.1 0 _ rfl
          cases hg : fst (ps.take m) p.pid with
          | some j =>
            have HG := hidb hg
            rw [hg] at hlk
            clear hg
            go_region
            go_wp2_with fail
            go_roundw
            case rel =>
              refine ⟨m + 1, by omega, by go_num, ⟨n, by have := HNM.out; omega, ?_⟩, HB0.out.trans (HD2.out.mono HB0.out.size)⟩
              rw [fst_old HPP.out HG.out, fT_old HPP.out HG.out]
              exact HVD.out
            case measure => simp [RowKit.intOf]; omega
          | none =>
            have HG := hidb hg
            rw [hg] at hlk
            clear hg
            go_region
            go_wp2_with fail
            have HTL : Hid ((fT ps m).length + (tiesOf p).length < 1000000000) := hidb (by
              have h1 := fT_len ps (m + 1)
              have h2 := tot_le (fun p => (tiesOf p).length) ps (m + 1)
              have h3 := HM.out.2
              rw [fT_new HPP.out HG.out, List.length_append] at h1
              omega)
            obtain ⟨WB, hWB⟩ : ∃ WB, w2.drew = WB := ⟨_, rfl⟩
            have HWB : Hid (w2.drew = WB) := hidb hWB
            have HVB : Hid (VW WB vb (some ⟨b, o, none⟩) np cp fb nb tb n (fst (ps.take m)) ((ps.take (m + 1)).flatMap Pc.names) (fT ps m)) := hidb (by rw [← hWB]; exact HVD.out)
            have HXB : Hid (At WB pb [.int .i64 p.pid, .int .i64 p.st, .int .i64 p.rk, .int .i64 p.rn, .float .f64 p.rf, .string p.rs, .slice p.ra p.rl p.rc, .bool p.trap, .slice p.ia p.il p.ic, .slice p.la p.ll p.lc, .slice p.oa p.ol p.oc, .slice p.ta p.tl p.tc, .slice p.na p.nl p.nc]) := hidb (by rw [← hWB]; exact HXD.out)
            rw [hWB]
            clear hWB hlk v1 x0
            refine wp_region_D (fun W9 => W9.cell? ⟨vb, 1, none⟩ = some (.map (some fb)) ∧ W9.cell? ⟨pb, 0, none⟩ = some (.int .i64 p.pid)) [7] (by kernel_rfl) ?_
            have hbd : Below WB.heap.size WB WB.drew := (Below.refl _ _).drew
            generalize WB.drew = wd at hbd ⊢
            have HD := hidb hbd
            have HVX := hidb (HVB.out.keep hbd)
            have HXX := hidb (HXB.out.keep hbd)
            clear hbd
            have HT : Hid (wd.cell? ⟨vb, 1, none⟩ = some (.map (some fb)) ∧ wd.cell? ⟨pb, 0, none⟩ = some (.int .i64 p.pid)) := hidb ⟨(HVX.out.box.1 1 _ rfl).1, (HXX.out.1 0 _ rfl).1⟩
            refine wpAnyD_takeL (i := 0) (v := ?vvf0) rfl (by kernel_rfl) (by kernel_rfl) (by kernel_rfl) (by kernel_rfl) (fun _ _ _ h => h) HT.out rfl ?hyf0 ?_
            case hyf0 => intro wy hSw; obtain ⟨q0, q1⟩ := hSw; go_simp; try with_reducible rfl
            simp only [Act.put, List.setIfInBounds_toArray, List.set_cons_zero, List.set_cons_succ]
            refine wpAnyD_takeL (i := 1) (v := ?vvf1) rfl (by kernel_rfl) (by kernel_rfl) (by kernel_rfl) (by kernel_rfl) (fun _ _ _ h => h) HT.out rfl ?hyf1 ?_
            case hyf1 => intro wy hSw; obtain ⟨q0, q1⟩ := hSw; go_simp; try with_reducible rfl
            simp only [Act.put, List.setIfInBounds_toArray, List.set_cons_zero, List.set_cons_succ]
            refine wpAnyD_takeL (i := 2) (v := ?vvf2) rfl (by kernel_rfl) (by kernel_rfl) (by kernel_rfl) (by kernel_rfl) (fun _ _ _ h => h) HT.out rfl ?hyf2 ?_
            case hyf2 => intro wy hSw; obtain ⟨q0, q1⟩ := hSw; go_simp; try with_reducible rfl
            simp only [Act.put, List.setIfInBounds_toArray, List.set_cons_zero, List.set_cons_succ]
            refine wpAnyD_takeL (i := 3) (v := ?vvf3) rfl (by kernel_rfl) (by kernel_rfl) (by kernel_rfl) (by kernel_rfl) (fun _ _ _ h => h) HT.out rfl ?hyf3 ?_
            case hyf3 => intro wy hSw; obtain ⟨q0, q1⟩ := hSw; go_simp; try with_reducible rfl
            simp only [Act.put, List.setIfInBounds_toArray, List.set_cons_zero, List.set_cons_succ]
            refine wpAnyD_takeL (i := 4) (v := ?vvf4) rfl (by kernel_rfl) (by kernel_rfl) (by kernel_rfl) (by kernel_rfl) (fun _ _ _ h => h) HT.out rfl ?hyf4 ?_
            case hyf4 => intro wy hSw; obtain ⟨q0, q1⟩ := hSw; go_simp; try with_reducible rfl
            simp only [Act.put, List.setIfInBounds_toArray, List.set_cons_zero, List.set_cons_succ]
            refine wpAnyD_takeL (i := 5) (v := ?vvf5) rfl (by kernel_rfl) (by kernel_rfl) (by kernel_rfl) (by kernel_rfl) (fun _ _ _ h => h) HT.out rfl ?hyf5 ?_
            case hyf5 => intro wy hSw; obtain ⟨q0, q1⟩ := hSw; go_simp; try with_reducible rfl
            simp only [Act.put, List.setIfInBounds_toArray, List.set_cons_zero, List.set_cons_succ]
            refine wpAnyD_takeL (i := 6) (v := ?vvf6) rfl (by kernel_rfl) (by kernel_rfl) (by kernel_rfl) (by kernel_rfl) (fun _ _ _ h => h) HT.out rfl ?hyf6 ?_
            case hyf6 => intro wy hSw; obtain ⟨q0, q1⟩ := hSw; go_simp; try with_reducible rfl
            simp only [Act.put, List.setIfInBounds_toArray, List.set_cons_zero, List.set_cons_succ]
            obtain ⟨w3, hup, hfm, hb3⟩ := HVX.out.first.store HPW.out.pid (by have := HNM.out; unfold maxLen; omega) m
            refine wpAnyD_stepL (i := 7) (by kernel_rfl) rfl (fun K hK => ?_)
            refine step_mapup rfl VMF (.tmp 53) (.tmp 55) (.tmp 56) rfl rfl rfl rfl hup ?_
            refine hK _ _ (fun h => absurd (List.mem_singleton.2 rfl) h) ?_
            clear hK K hup
            have HFM := hidb hfm
            have HB3 := hidb hb3
            clear hfm hb3
            refine wpAnyD_done (by kernel_rfl) ?_ _
            have HNF : Hid (Nocells wd (fun k => k = fb)) := hidb (fun b hb i => by subst hb; exact HVX.out.first.nocell i)
            have HV3 := hidb (HVX.out.place HB3.out HNE.out.2.2.2.2.2.2.2.1 (fun e => HNE.out.2.2.2.2.1 e.symm) (fun e => HNE.out.2.2.2.2.2.1 e.symm) HFM.out)
            have HX3 := hidb (HXX.out.but HB3.out (HXX.out.nocell HNF.out))
            have HP3 := hidb (((HP2.out.keep HD2.out).keep (by rw [HWB.out]; exact HD.out)).but HB3.out HNF.out)
            obtain ⟨y0, -⟩ := HX3.out.1 0 _ rfl
            obtain ⟨y1, -⟩ := HX3.out.1 1 _ rfl
            obtain ⟨y2, -⟩ := HX3.out.1 2 _ rfl
            obtain ⟨y3, -⟩ := HX3.out.1 3 _ rfl
            obtain ⟨y4, -⟩ := HX3.out.1 4 _ rfl
            obtain ⟨y5, -⟩ := HX3.out.1 5 _ rfl
            obtain ⟨y6, -⟩ := HX3.out.1 6 _ rfl
            obtain ⟨y7, -⟩ := HX3.out.1 7 _ rfl
            obtain ⟨y8, -⟩ := HX3.out.1 8 _ rfl
            obtain ⟨y9, -⟩ := HX3.out.1 9 _ rfl
            obtain ⟨y10, -⟩ := HX3.out.1 10 _ rfl
            obtain ⟨y11, -⟩ := HX3.out.1 11 _ rfl
            obtain ⟨y12, -⟩ := HX3.out.1 12 _ rfl
            go_wp2_with fail
            refine (tieall_any HV3.out ⟨HNE.out.2.2.2.2.2.2.2.2.2, HNE.out.2.2.2.2.2.1, HNE.out.2.2.2.2.2.2.1⟩ p HP3.out HPW.out HTL.out).mono ?_
            rintro e w4 ⟨rfl, hv4, hb4⟩
            have HV4 := hidb hv4
            have HB4 := hidb hb4
            clear hv4 hb4
            go_wp2_with fail
            go_roundw
            case rel =>
              refine ⟨m + 1, by omega, by go_num, ⟨n + 1, by have := HNM.out; omega, ?_⟩, ?_⟩
              · rw [fst_new HPP.out HG.out, fT_new HPP.out HG.out]
                exact HV4.out
              · have h0 : Below w.heap.size w WB := by rw [← HWB.out]; exact HB0.out.trans (HD2.out.mono HB0.out.size)
                have h1 : Below w.heap.size w wd := h0.trans (HD.out.mono h0.size)
                have h3 := HB3.out.below h1.size (fun _ h => h ▸ HNE.out.1)
                have h13 := h1.trans h3
                exact h13.trans (HB4.out.below h13.size (fun _ h => h ▸ HNE.out.2.2.1))
            case measure => simp [RowKit.intOf]; omega
    · have hmn : ¬ (m : Int) < (np : Int) := by omega
      have HVE : Hid (VW wr vb pa np cp fb nb tb n (fst ps) (ps.flatMap Pc.names) (fT ps np)) := hidb (by
        have h := HVR.out
        obtain rfl : m = np := by omega
        rw [List.take_of_length_le (by have := HN.out; omega)] at h
        exact h)
      clear HVR
      go_wp2_with fail
      go_ret
      exact ⟨vb, rfl, ⟨fb, nb, tb, n, HVE.out⟩, HB.out⟩
end Go.Proofs.Ytjiigabfdigkaaa


/- Of a state: names. -/
namespace Go.Proofs.Ytjiigabfdigkaaa
open Go.RowKit

attribute [local go_sem] store_float
abbrev SrT : TypeId := 9
def sX (l : List ByteArray) : List Value := l.map Value.string
theorem infoStr : (Try.prog.info? SrT).map (fun i => (i.zero, i.size, i.bytes)) = some (some (.string ⟨#[]⟩), 1, 16) := by kernel_rfl
theorem info_str : ∃ i0, Try.prog.info? SrT = some i0 ∧ i0.zero = some (.string ⟨#[]⟩) ∧ i0.size = 1 ∧ i0.bytes = 16 := by
  have h := infoStr
  cases hi : Try.prog.info? SrT with
  | none => rw [hi] at h; cases h
  | some i =>
    rw [hi] at h
    simp only [Option.map_some, Option.some.injEq, Prod.mk.injEq] at h
    exact ⟨i, rfl, h.1, h.2.1, h.2.2⟩
/-- Rule 4. -/
def NmOk (ps : List Pc) : Prop := (∀ p ∈ ps, p.nl ≤ 1) ∧ (ps.flatMap Pc.names).Nodup
theorem cut_at {α : Type} {l : List α} {m : Nat} {x : α} (h : l[m]? = some x) : l = l.take m ++ x :: l.drop (m + 1) := by
  obtain ⟨hm, rfl⟩ := List.getElem?_eq_some_iff.1 h
  rw [← List.drop_eq_getElem_cons hm, List.take_append_drop]
theorem nm_pre {ps : List Pc} {m k : Nat} {p : Pc} {s : ByteArray} (hp : ps[m]? = some p) (hk : p.names[k]? = some s) : ∃ R, ps.flatMap Pc.names = ((ps.take m).flatMap Pc.names ++ p.names.take k) ++ s :: R := by
  refine ⟨p.names.drop (k + 1) ++ (ps.drop (m + 1)).flatMap Pc.names, ?_⟩
  conv => lhs; rw [cut_at hp]
  rw [List.flatMap_append, List.flatMap_cons]
  conv => lhs; arg 2; arg 1; rw [cut_at hk]
  simp
theorem grown_none {w w' : World} (hb : Below w.heap.size w w') : w.grownBy w' none := ⟨hb.os, hb.tape, hb.output, hb.size, fun k hk _ => hb.block k hk⟩
theorem btl_injN {a b : ByteArray} (h : a.toList = b.toList) : a = b := by
  rw [ByteArray.toList_eq, ByteArray.toList_eq] at h
  exact ByteArray.ext (Array.toList_inj.1 h)
theorem own_slN {w : World} {C e size n : Nat} {v : Value} {xs : List Value} (h : w.ownsRow C e size v n xs) : ∃ a c m, v = .slice a m c ∧ n = m := by
  rcases h.2 with ⟨rfl, h0⟩ | ⟨g, cap, cur, rfl, _⟩
  · exact ⟨none, 0, 0, rfl, h0⟩
  · exact ⟨_, _, _, rfl, rfl⟩
theorem own_cellN {w : World} {C n c : Nat} {a : Option Addr} {L : List ByteArray} (h : w.ownsRow C SrT 1 (.slice a n c) n (sX L)) (hL : L.length = n) {j : Nat} (hj : j < n) : ∃ g x, a = some ⟨g, 0, none⟩ ∧ L[j]? = some x ∧ w.cell? ⟨g, j, none⟩ = some (.string x) := by
  rcases h.2 with ⟨_, h0⟩ | ⟨g, cap, cur, hv, _⟩
  · omega
  · obtain ⟨rfl, -, rfl⟩ : a = some ⟨g, 0, none⟩ ∧ True ∧ c = cap := by simpa using hv
    obtain ⟨x, hx⟩ : ∃ x, L[j]? = some x := ⟨_, List.getElem?_eq_getElem (by omega)⟩
    refine ⟨g, x, rfl, hx, ?_⟩
    rw [h.cellAt j (by omega), sX, List.getElem?_map, hx]
    rfl
set_option maxHeartbeats 4000000 in
set_option maxRecDepth 10000 in
theorem named_any (w : World) (pa la : Option Addr) (cp cl np nl : Nat) (ps : List Pc) (ls : List Ln) (oa : Option Addr) (no co : Nat) (hs : StIn w pa ps la ls) (hnp : ps.length = np) (hfew : np ≤ 1000) :
    Calls Try.prog 23 #[stV pa np cp la nl cl oa no co] w (Says (NmOk ps) w) := by
  have HNP := hidb hfew
  clear hfew
  obtain ⟨i0, hi, hz0, hz1, hz2⟩ := info_str
  have HS := hidb hs
  have HN := hidb hnp
  have h63 : np ≤ 9223372036854775807 := hnp ▸ hs.lp
  clear hs hnp
  have HX0 := hidb (At.new w [.slice pa np cp, .slice la nl cl, .slice oa no co] 26)
  go_enter Try.func23, Try.ntmps23
  go_wp2_with fail
  obtain ⟨W0, hW0⟩ : ∃ W0, w.alloc (.cells #[.slice pa np cp, .slice la nl cl, .slice oa no co] 26) = W0 := ⟨_, rfl⟩
  have HB1 : Hid (Below w.heap.size w W0) := hidb (by rw [← hW0]; exact below_new w _)
  rw [hW0] at HX0 ⊢
  clear hW0

  go_loopw [3, 4] (fun av iv wr => ∃ (m n c : Nat) (a : Option Addr) (L : List ByteArray), m ≤ np ∧ av = .slice a n c ∧ iv = .int .i64 m ∧ L = (ps.take m).flatMap Pc.names ∧ L.length = n ∧ n ≤ m ∧ wr.ownsRow W0.heap.size SrT 1 (.slice a n c) n (sX L) ∧ L.Nodup ∧ (∀ (i : Nat) (q : Pc), i < m → ps[i]? = some q → q.nl ≤ 1) ∧ Below W0.heap.size W0 wr) (fun _ iv _ => np - (RowKit.intOf iv).toNat)
  case atStart => exact ⟨0, 0, 0, none, [], by omega, rfl, rfl, by simp, rfl, by omega, ⟨rfl, .inl ⟨rfl, rfl⟩⟩, List.nodup_nil, fun i q h => by omega, Below.refl _ _⟩
  case round =>
    obtain ⟨m, n0, c0, a0, L0, hm, rfl, rfl, hle, hln, hnm, hown, hnd, hri, hb⟩ := hrel
    have HLE0 := hidb hle
    have HLN0 := hidb hln
    have HNM0 := hidb hnm
    have HOWN0 := hidb hown
    have HND0 := hidb hnd
    have HRI := hidb hri
    have HB := hidb hb
    clear hle hln hnm hown hnd hri hb
    have HX := hidb (HX0.out.keep HB.out)
    obtain ⟨x0, -⟩ := HX.out.1 0 _ rfl
    by_cases hml : m < np
    · have hmb : (m : Int) < (np : Int) := by omega
      have hmz : (0 : Int) ≤ (m : Int) := by omega
      have hmw : IntKind.i64.wrap ((m : Int) + 1) = (m : Int) + 1 := by rw [IntKind.wrap_i64]; omega
      obtain ⟨p, b, o, hp, rfl, hlt, hc⟩ := HS.out.procs.at m (by have := HN.out; omega)
      have hq := HB1.out.trans (HB.out.mono HB1.out.size)
      have HPI := hidb (HS.out.each p (List.mem_of_getElem? hp))
      have c12 : wr.cell? ⟨b, o + m * 13 + 12, none⟩ = some (.slice p.na p.nl p.nc) := (hq.cell (p := ⟨b, o + m * 13 + 12, none⟩) hlt).trans (hc 12 (by omega))
      have HP := hidb hp
      clear hp hc hq
      by_cases h1 : p.nl ≤ 1
      rotate_left
      · have h2 : (1 : Int) < (p.nl : Int) := by omega
        have H1 := hidb h1
        go_wp2_with fail
        go_ret
        exact ⟨⟨false, rfl, fun h => (by cases h), fun h => absurd (h.1 p (List.mem_of_getElem? HP.out)) H1.out⟩, HB1.out.trans (HB.out.mono HB1.out.size)⟩
      have h2 : ¬ (1 : Int) < (p.nl : Int) := by omega
      have HP1 := hidb h1
      go_wp2_with fail
      clear c12 x0
      go_loopw [3, 6] (fun av iv wr => ∃ (k n c : Nat) (a : Option Addr) (L : List ByteArray), k ≤ p.nl ∧ av = .slice a n c ∧ iv = .int .i64 k ∧ L = (ps.take m).flatMap Pc.names ++ p.names.take k ∧ L.length = n ∧ n ≤ m + k ∧ wr.ownsRow W0.heap.size SrT 1 (.slice a n c) n (sX L) ∧ L.Nodup ∧ Below W0.heap.size W0 wr) (fun _ iv _ => p.nl - (RowKit.intOf iv).toNat)
      case atStart => exact ⟨0, _, _, _, _, by omega, rfl, rfl, by rw [List.take_zero, List.append_nil]; exact HLE0.out, HLN0.out, by have := HNM0.out; omega, HOWN0.out, HND0.out, HB.out⟩
      case round =>
        obtain ⟨k, n, c, a, L, hk, rfl, rfl, hle, hln, hnm, hown, hnd, hbk⟩ := hrel
        have HLE := hidb hle
        have HLN := hidb hln
        have HNM := hidb hnm
        have HOWN := hidb hown
        have HND := hidb hnd
        have HBK := hidb hbk
        have HNN : Hid (n ≤ 1001) := hidb (by have := HP1.out; have := HNP.out; omega)
        clear hle hln hnm hown hnd hbk
        by_cases hkl : k < p.nl
        · have hkb : (k : Int) < (p.nl : Int) := by omega
          have hkz : (0 : Int) ≤ (k : Int) := by omega
          have hkw : IntKind.i64.wrap ((k : Int) + 1) = (k : Int) + 1 := by rw [IntKind.wrap_i64]; have := HP1.out; omega
          obtain ⟨s, b2, o2, hs, hna, hlt2, hc2⟩ := HPI.out.names.at k (by have := HPI.out.ln.1; omega)
          have hq := HB1.out.trans (HBK.out.mono HB1.out.size)
          have HD0 : Hid (wr.cell? ⟨b2, o2 + k, none⟩ = some (.string s)) := hidb (by
            have h1 := hc2 0 (by omega)
            have h2 : ⟨b2, o2 + k * 1 + 0, none⟩ = (⟨b2, o2 + k, none⟩ : Addr) := by simp
            rw [h2] at h1
            exact (hq.cell (p := ⟨b2, o2 + k, none⟩) hlt2).trans h1)
          have HSK := hidb hs
          rw [hna]
          clear hs hna hc2 hq
          go_wp2_with fail
          obtain ⟨wk, hwk⟩ : ∃ wk, wk = wr := ⟨_, rfl⟩
          subst hwk
          go_loopw [7] (fun iv wr => ∃ (j : Nat), j ≤ n ∧ iv = .int .i64 j ∧ (∀ (i : Nat) (x : ByteArray), i < j → L[i]? = some x → x ≠ s) ∧ Below wk.heap.size wk wr) (fun iv _ => n - (RowKit.intOf iv).toNat)
          case atStart => exact ⟨0, by omega, rfl, fun i x h => by omega, Below.refl _ _⟩
          case round =>
            obtain ⟨j, hj, rfl, hrj, hcj⟩ := hrel
            have HRJ := hidb hrj
            have HCJ := hidb hcj
            clear hrj hcj
            have HOJ := hidb (HOWN.out.kept (grown_none HCJ.out) (by simp; exact Classical.em _))
            have d0 : wr.cell? ⟨b2, o2 + k, none⟩ = some (.string s) := (HCJ.out.cell (World.block_lt_of_cell? _ _ HD0.out)).trans HD0.out
            by_cases hjl : j < n
            · have hjb : (j : Int) < (n : Int) := by omega
              have hjz : (0 : Int) ≤ (j : Int) := by omega
              have hjw : IntKind.i64.wrap ((j : Int) + 1) = (j : Int) + 1 := by rw [IntKind.wrap_i64]; have := HNN.out; omega
              obtain ⟨g, x, hag, hLx, hcx⟩ := own_cellN HOJ.out HLN.out hjl
              rw [hag]
              have HLX := hidb hLx
              clear hLx hag
              by_cases hxs : x = s
              · obtain rfl : s = x := hxs.symm
                clear hxs
                go_wp2_with fail
                go_big_quiet (fail)
                go_wp2_with fail
                go_ret
                refine ⟨⟨false, rfl, fun h => (by cases h), fun h => ?_⟩, HB1.out.trans ((HBK.out.trans ((below_drewN HCJ.out _).mono HBK.out.size)).mono HB1.out.size)⟩
                obtain ⟨R, hR⟩ := nm_pre HP.out HSK.out
                have hnd := h.2
                rw [hR, ← HLE.out, List.nodup_append] at hnd
                exact absurd rfl (hnd.2.2 s (List.mem_of_getElem? HLX.out) s (by simp))
              · have HXS := hidb hxs
                have HG1 := hidb (show (x.toList == s.toList) = false by simpa using fun h => hxs (btl_injN h))
                clear hxs
                go_wp2_with fail
                have G1 := HG1.out
                go_big_quiet (fail)
                clear G1
                go_wp2_with fail
                go_roundw
                case rel =>
                  refine ⟨j + 1, by omega, by go_num, fun i y hi hy => ?_, below_drewN HCJ.out _⟩
                  by_cases hlt : i < j
                  · exact HRJ.out i y hlt hy
                  · obtain rfl : i = j := by omega
                    rw [HLX.out] at hy
                    obtain rfl := Option.some.inj hy
                    exact HXS.out
                case measure => simp [RowKit.intOf]; omega
            · have hjn : ¬ (j : Int) < (n : Int) := by omega
              have HNS : Hid (s ∉ L) := hidb (fun hh => by
                obtain ⟨i2, hi2⟩ := List.mem_iff_getElem?.1 hh
                exact HRJ.out i2 s (by have := (List.getElem?_eq_some_iff.1 hi2).1; have := HLN.out; omega) hi2 rfl)
              have HOA := hidb (HOJ.out.alloc (.cells #[.string s] 9))
              have HSZ : Hid (W0.heap.size ≤ wr.heap.size) := hidb (Nat.le_trans HBK.out.size HCJ.out.size)
              go_wp2_with (first
                | (at_builtin; refine wpList_append_own _ rfl _ _ 43 rfl W0.heap.size SrT i0 (.string ⟨#[]⟩) 1 16 Try.underlying43 hi hz0 hz1 hz2 rfl (by decide) (.slice a n c) n (sX L) rfl HOA.out ⟨wr.heap.size, 0, none⟩ 1 1 [.string s] rfl rfl (cell_one_new _ _ _) (by simp [Value.oneCell']) (by have := HNN.out; unfold maxLen; omega) (by have := HNN.out; omega) (by have := HSZ.out; simp; omega) ?_; intro v4 w4 hown hg hnil; have HO4 := hidb hown; have HG4 := hidb hg; obtain ⟨a4, c4, m4, rfl, hm4⟩ := own_slN hown; subst hm4; clear hown hg hnil))
              have HB4 : Hid (Below W0.heap.size W0 w4) := hidb (((HBK.out.trans (HCJ.out.mono HBK.out.size)).alloc HSZ.out _).grown HG4.out (by have := HSZ.out; simp; omega) (fun j hj => (HOJ.out.lt j hj).1))
              go_roundw
              case rel =>
                refine ⟨k + 1, _, _, _, L ++ [s], by omega, rfl, by go_num, ?_, by rw [List.length_append, HLN.out]; rfl, by have := HNM.out; omega, by rw [show sX (L ++ [s]) = sX L ++ [.string s] by simp [sX]]; exact HO4.out, ?_, HB4.out⟩
                · rw [List.take_add_one, HSK.out, HLE.out]
                  simp
                · rw [List.nodup_append]
                  refine ⟨HND.out, by simp, fun x hx y hy => ?_⟩
                  obtain rfl : y = s := by simpa using hy
                  exact fun e => HNS.out (e ▸ hx)
              case measure => simp [RowKit.intOf]; omega
        · have hkn : ¬ (k : Int) < (p.nl : Int) := by omega
          go_wp2_with fail
          go_roundw
          case rel =>
            refine ⟨m + 1, n, c, a, L, by omega, rfl, by go_num, ?_, HLN.out, by have := HNM.out; have := HP1.out; omega, HOWN.out, HND.out, fun i q hi hq => ?_, HBK.out⟩
            · obtain rfl : k = p.nl := by omega
              rw [HLE.out, List.take_add_one, HP.out, ← HPI.out.ln.1, List.take_length]
              simp
            · by_cases hlt : i < m
              · exact HRI.out i q hlt hq
              · obtain rfl : i = m := by omega
                rw [HP.out] at hq
                obtain rfl := Option.some.inj hq
                exact HP1.out
          case measure => simp [RowKit.intOf]; omega
    · have hmn : ¬ (m : Int) < (np : Int) := by omega
      go_wp2_with fail
      go_ret
      refine ⟨⟨true, rfl, fun _ => ⟨fun p hp => ?_, ?_⟩, fun _ => rfl⟩, HB1.out.trans (HB.out.mono HB1.out.size)⟩
      · obtain ⟨i, hi⟩ := List.mem_iff_getElem?.1 hp
        exact HRI.out i p (by have := (List.getElem?_eq_some_iff.1 hi).1; have := HN.out; omega) hi
      · obtain rfl : m = np := by omega
        have h1 := HND0.out
        rw [HLE0.out, ← HN.out, List.take_length] at h1
        exact h1
end Go.Proofs.Ytjiigabfdigkaaa


