import Derived.Test.YtjiigabfdigkaaaG14
import Derived.Test.YtjiigabfdigkaaaG04
/- Of a process, as the program asks, with a view: its names, halves. -/
namespace Go.Proofs.Ytjiigabfdigkaaa
open Go.RowKit

attribute [local go_sem] store_float
/-- Numbers that are in reach, names that are not too long. -/
structure PcWf (p : Pc) : Prop where
  pid : wfi p.pid
  links : ∀ h ∈ p.links, wfi h.pid
  origins : ∀ m ∈ p.origins, wfi m.ref ∧ wfi m.pid
  targets : ∀ m ∈ p.targets, wfi m.ref ∧ wfi m.pid
  names : ∀ s ∈ p.names, s.size ≤ maxLen
def MisOk (p : Pc) (NL : List ByteArray) : Prop := p.nl ≤ 1 ∧ ∀ s ∈ p.names, cnt s NL ≤ 1
def LnkOk (p : Pc) (TL : List Tie) : Prop := ∀ h ∈ p.links, (⟨0, h.pid, 0, p.pid⟩ : Tie) ∈ TL
def DedOk (ps : List Pc) (p : Pc) : Prop := (∀ h ∈ p.links, ¬ Gone ps h.pid) ∧ (∀ m ∈ p.origins, m.pid ≠ 0 → ¬ Gone ps m.pid) ∧ ∀ m ∈ p.targets, ¬ Gone ps m.pid
def UprOk (p : Pc) (TL : List Tie) : Prop := (∀ m ∈ p.origins, m.pid ≠ 0 → (⟨2, m.pid, m.ref, p.pid⟩ : Tie) ∈ TL) ∧ ∀ m ∈ p.targets, (⟨1, m.pid, m.ref, p.pid⟩ : Tie) ∈ TL
theorem wfi_0 : wfi 0 := rfl
theorem wfi_1 : wfi 1 := rfl
theorem wfi_2 : wfi 2 := rfl
set_option maxHeartbeats 4000000 in
set_option maxRecDepth 10000 in
theorem misnamed_any {w : World} {vb : Nat} {pa : Option Addr} {np cp fb nb tb n : Nat} {NL : List ByteArray} {TL : List Tie} {g : Int → Option Nat} (hv : VW w vb pa np cp fb nb tb n g NL TL) (p : Pc) (hp : PcIn w p) (hwf : PcWf p) : Calls Try.prog 33 #[.pointer (some ⟨vb, 0, none⟩), pcV p] w (Says (¬ MisOk p NL) w) := by
  have HV := hidb hv
  have HPI := hidb hp
  have HWF := hidb hwf
  clear hv hp hwf
  have h64 : p.nl ≤ 9223372036854775807 := HPI.out.ln.2
  have HX0 := hidb (At.new w [.int .i64 p.pid, .int .i64 p.st, .int .i64 p.rk, .int .i64 p.rn, .float .f64 p.rf, .string p.rs, .slice p.ra p.rl p.rc, .bool p.trap, .slice p.ia p.il p.ic, .slice p.la p.ll p.lc, .slice p.oa p.ol p.oc, .slice p.ta p.tl p.tc, .slice p.na p.nl p.nc] 45)
  go_enter Try.func33, Try.ntmps33
  go_wp2_with fail
  obtain ⟨W0, hW0⟩ : ∃ W0, w.alloc (.cells #[.int .i64 p.pid, .int .i64 p.st, .int .i64 p.rk, .int .i64 p.rn, .float .f64 p.rf, .string p.rs, .slice p.ra p.rl p.rc, .bool p.trap, .slice p.ia p.il p.ic, .slice p.la p.ll p.lc, .slice p.oa p.ol p.oc, .slice p.ta p.tl p.tc, .slice p.na p.nl p.nc] 45) = W0 := ⟨_, rfl⟩
  have HB1 : Hid (Below w.heap.size w W0) := hidb (by rw [← hW0]; exact below_new w _)
  have HX0 : Hid (At W0 w.heap.size [.int .i64 p.pid, .int .i64 p.st, .int .i64 p.rk, .int .i64 p.rn, .float .f64 p.rf, .string p.rs, .slice p.ra p.rl p.rc, .bool p.trap, .slice p.ia p.il p.ic, .slice p.la p.ll p.lc, .slice p.oa p.ol p.oc, .slice p.ta p.tl p.tc, .slice p.na p.nl p.nc]) := hidb (by rw [← hW0]; exact HX0.out)
  rw [hW0]
  clear hW0
  have HV := hidb (HV.out.keep HB1.out)
  go_loopw [10] (fun iv wr => ∃ (m : Nat), m ≤ p.nl ∧ iv = .int .i64 m ∧ (∀ (i : Nat) (q : ByteArray), i < m → p.names[i]? = some q → cnt q NL ≤ 1) ∧ Below W0.heap.size W0 wr) (fun iv _ => p.nl - (RowKit.intOf iv).toNat)
  case atStart => exact ⟨0, by omega, rfl, fun i q h => by omega, Below.refl _ _⟩
  case round =>
    obtain ⟨m, hm, rfl, hri, hb⟩ := hrel
    have HRI := hidb hri
    have HB := hidb hb
    clear hri hb
    skip
    by_cases hml : m < p.nl
    · have hmb : (m : Int) < (p.nl : Int) := by omega
      have hmz : (0 : Int) ≤ (m : Int) := by omega
      have hmw : IntKind.i64.wrap ((m : Int) + 1) = (m : Int) + 1 := by rw [IntKind.wrap_i64]; omega
      obtain ⟨s, b2, o2, hx, hla, hlt2, hc2⟩ := HPI.out.names.at m (by have := HPI.out.ln.1; omega)
      have hq := HB1.out.trans (HB.out.mono HB1.out.size)
      have d0 : wr.cell? ⟨b2, o2 + m, none⟩ = some (.string s) := (hq.cell (p := ⟨b2, o2 + m, none⟩) hlt2).trans (by have h := hc2 0 (by omega); simpa using h)
      have HPX := hidb hx
      have hsz := HWF.out.names s (List.mem_of_getElem? hx)
      have HV2 := hidb (HV.out.keep HB.out)
      have hlk := HV2.out.names.look vLawS vUndN (keyStr hsz) hsz
      obtain ⟨v2, -⟩ := HV2.out.box.1 2 _ rfl
      rw [hla]
      clear hx hc2 hq hla
      have HXM := hidb (List.mem_of_getElem? HPX.out)
      obtain ⟨C, hC⟩ : ∃ C, cnt s NL = C := ⟨_, rfl⟩
      rw [hC] at hlk
      have HC := hidb hC
      clear hC hsz
      by_cases h1 : 1 < C
      · have H1 := hidb h1
        go_wp2_with fail
        go_ret
        exact ⟨⟨true, rfl, fun _ hh => absurd (hh.2 s HXM.out) (by rw [HC.out]; have := H1.out; omega), fun _ => rfl⟩, HB1.out.trans (HB.out.mono HB1.out.size)⟩
      · have H1 := hidb h1
        go_wp2_with fail
        go_roundw
        case rel =>
          refine ⟨m + 1, by omega, by go_num, fun i q hi hq => ?_, HB.out⟩
          by_cases hlt : i < m
          · exact HRI.out i q hlt hq
          · obtain rfl : i = m := by omega
            rw [HPX.out] at hq
            obtain rfl := Option.some.inj hq
            rw [HC.out]
            have := H1.out
            omega
        case measure => simp [RowKit.intOf]; omega
    · have hmn : ¬ (m : Int) < (p.nl : Int) := by omega
      have HX := hidb (HX0.out.keep HB.out)
      obtain ⟨x12, -⟩ := HX.out.1 12 _ rfl
      have HAL : Hid (∀ s ∈ p.names, cnt s NL ≤ 1) := hidb (fun h hh => by obtain ⟨i2, hi2⟩ := List.mem_iff_getElem?.1 hh; exact HRI.out i2 h (by have := (List.getElem?_eq_some_iff.1 hi2).1; have := HPI.out.ln.1; omega) hi2)
      go_wp2_with fail
      go_ret
      refine ⟨⟨_, rfl, ?_⟩, HB1.out.trans (HB.out.mono HB1.out.size)⟩
      rw [decide_eq_true_eq]
      constructor
      · intro h hh
        have := hh.1
        omega
      · intro h
        have : ¬ p.nl ≤ 1 := fun k => h ⟨k, HAL.out⟩
        omega
set_option maxHeartbeats 4000000 in
set_option maxRecDepth 10000 in
theorem alone_any {w : World} {vb : Nat} {pa : Option Addr} {np cp fb nb tb n : Nat} {NL : List ByteArray} {TL : List Tie} {g : Int → Option Nat} (hv : VW w vb pa np cp fb nb tb n g NL TL) (p : Pc) (hp : PcIn w p) (hwf : PcWf p) : Calls Try.prog 36 #[.pointer (some ⟨vb, 0, none⟩), pcV p] w (Says (¬ LnkOk p TL) w) := by
  have HV := hidb hv
  have HPI := hidb hp
  have HWF := hidb hwf
  clear hv hp hwf
  have h64 : p.ll ≤ 9223372036854775807 := HPI.out.ll.2
  have HX0 := hidb (At.new w [.int .i64 p.pid, .int .i64 p.st, .int .i64 p.rk, .int .i64 p.rn, .float .f64 p.rf, .string p.rs, .slice p.ra p.rl p.rc, .bool p.trap, .slice p.ia p.il p.ic, .slice p.la p.ll p.lc, .slice p.oa p.ol p.oc, .slice p.ta p.tl p.tc, .slice p.na p.nl p.nc] 45)
  go_enter Try.func36, Try.ntmps36
  go_wp2_with fail
  obtain ⟨W0, hW0⟩ : ∃ W0, w.alloc (.cells #[.int .i64 p.pid, .int .i64 p.st, .int .i64 p.rk, .int .i64 p.rn, .float .f64 p.rf, .string p.rs, .slice p.ra p.rl p.rc, .bool p.trap, .slice p.ia p.il p.ic, .slice p.la p.ll p.lc, .slice p.oa p.ol p.oc, .slice p.ta p.tl p.tc, .slice p.na p.nl p.nc] 45) = W0 := ⟨_, rfl⟩
  have HB1 : Hid (Below w.heap.size w W0) := hidb (by rw [← hW0]; exact below_new w _)
  have HX0 : Hid (At W0 w.heap.size [.int .i64 p.pid, .int .i64 p.st, .int .i64 p.rk, .int .i64 p.rn, .float .f64 p.rf, .string p.rs, .slice p.ra p.rl p.rc, .bool p.trap, .slice p.ia p.il p.ic, .slice p.la p.ll p.lc, .slice p.oa p.ol p.oc, .slice p.ta p.tl p.tc, .slice p.na p.nl p.nc]) := hidb (by rw [← hW0]; exact HX0.out)
  rw [hW0]
  clear hW0
  have HV := hidb (HV.out.keep HB1.out)
  go_loopw [10] (fun iv wr => ∃ (m : Nat), m ≤ p.ll ∧ iv = .int .i64 m ∧ (∀ (i : Nat) (q : Hf), i < m → p.links[i]? = some q → (⟨0, q.pid, 0, p.pid⟩ : Tie) ∈ TL) ∧ Below W0.heap.size W0 wr) (fun iv _ => p.ll - (RowKit.intOf iv).toNat)
  case atStart => exact ⟨0, by omega, rfl, fun i q h => by omega, Below.refl _ _⟩
  case round =>
    obtain ⟨m, hm, rfl, hri, hb⟩ := hrel
    have HRI := hidb hri
    have HB := hidb hb
    clear hri hb
    skip
    by_cases hml : m < p.ll
    · have hmb : (m : Int) < (p.ll : Int) := by omega
      have hmz : (0 : Int) ≤ (m : Int) := by omega
      have hmw : IntKind.i64.wrap ((m : Int) + 1) = (m : Int) + 1 := by rw [IntKind.wrap_i64]; omega
      obtain ⟨x, b2, o2, hx, hla, hlt2, hc2⟩ := HPI.out.links.at m (by have := HPI.out.ll.1; omega)
      have hq := HB1.out.trans (HB.out.mono HB1.out.size)
      have d0 : wr.cell? ⟨b2, o2 + m * 3, none⟩ = some (.int .i64 x.pid) := (hq.cell (p := ⟨b2, o2 + m * 3, none⟩) hlt2).trans (hc2 0 (by omega))
      have d1 : wr.cell? ⟨b2, o2 + m * 3 + 1, none⟩ = some (.int .i64 x.st) := (hq.cell (p := ⟨b2, o2 + m * 3 + 1, none⟩) hlt2).trans (hc2 1 (by omega))
      have d2 : wr.cell? ⟨b2, o2 + m * 3 + 2, none⟩ = some (.int .i64 x.id) := (hq.cell (p := ⟨b2, o2 + m * 3 + 2, none⟩) hlt2).trans (hc2 2 (by omega))
      have HPX := hidb hx
      have HVR := hidb (HV.out.keep HB.out)
      rw [hla]
      clear hx hc2 hq hla
      have HXM := hidb (List.mem_of_getElem? HPX.out)
      have HX := hidb ((HX0.out.keep HB.out).keep (below_new wr (.cells #[.int .i64 x.pid, .int .i64 x.st, .int .i64 x.id] 61)))
      obtain ⟨x0, -⟩ := HX.out.1 0 _ rfl
      have HWC := hidb ((HVR.out.keep (below_new wr (.cells #[.int .i64 x.pid, .int .i64 x.st, .int .i64 x.id] 61))))
      have HBC : Hid (Below W0.heap.size W0 (wr.alloc (.cells #[.int .i64 x.pid, .int .i64 x.st, .int .i64 x.id] 61))) := hidb (HB.out.trans ((below_new wr _).mono HB.out.size))
      go_wp2_with fail
      refine (vhas_any HWC.out ⟨0, x.pid, 0, p.pid⟩ ⟨wfi_0, HWF.out.links x HXM.out, wfi_0, HWF.out.pid⟩).mono ?_
      rintro e w5 ⟨⟨r, rfl, hr⟩, hb5⟩
      have HR5 := hidb hr
      have HB5 := hidb (HBC.out.trans (hb5.mono HBC.out.size))
      clear hr hb5 x0
      cases r
      · have HNO : Hid (¬ ((⟨0, x.pid, 0, p.pid⟩ : Tie) ∈ TL)) := hidb (fun k => (by have h9 := HR5.out.2 k; cases h9))
        clear HR5
        go_wp2_with fail
        go_ret
        exact ⟨⟨true, rfl, fun _ hh => HNO.out (hh x HXM.out), fun _ => rfl⟩, HB1.out.trans (HB5.out.mono HB1.out.size)⟩
      · have HOK : Hid ((⟨0, x.pid, 0, p.pid⟩ : Tie) ∈ TL) := hidb (HR5.out.1 rfl)
        clear HR5
        go_wp2_with fail
        go_roundw
        case rel =>
          refine ⟨m + 1, by omega, by go_num, fun i q hi hq => ?_, HB5.out⟩
          by_cases hlt : i < m
          · exact HRI.out i q hlt hq
          · obtain rfl : i = m := by omega
            rw [HPX.out] at hq
            obtain rfl := Option.some.inj hq
            exact HOK.out
        case measure => simp [RowKit.intOf]; omega
    · have hmn : ¬ (m : Int) < (p.ll : Int) := by omega
      have HA1 : Hid (∀ q ∈ p.links, (⟨0, q.pid, 0, p.pid⟩ : Tie) ∈ TL) := hidb (fun h hh => by obtain ⟨i2, hi2⟩ := List.mem_iff_getElem?.1 hh; exact HRI.out i2 h (by have := (List.getElem?_eq_some_iff.1 hi2).1; have := HPI.out.ll.1; omega) hi2)
      go_wp2_with fail
      go_ret
      exact ⟨⟨false, rfl, fun h => (by cases h), fun h => absurd (HA1.out) h⟩, HB1.out.trans (HB.out.mono HB1.out.size)⟩
set_option maxHeartbeats 4000000 in
set_option maxRecDepth 10000 in
theorem hdead_any {w : World} {vb : Nat} {pa : Option Addr} {np cp fb nb tb n : Nat} {ps : List Pc} {NL : List ByteArray} {TL : List Tie} (hv : VW w vb pa np cp fb nb tb n (fst ps) NL TL) (hr : RowC 13 Pc.cells w pa ps) (hn : ps.length = np) (p : Pc) (hp : PcIn w p) (hwf : PcWf p) : Calls Try.prog 37 #[.pointer (some ⟨vb, 0, none⟩), pcV p] w (Says (¬ DedOk ps p) w) := by
  have HR := hidb hr
  have HN := hidb hn
  have h65 : p.ol ≤ 9223372036854775807 := hp.lo.2
  have h66 : p.tl ≤ 9223372036854775807 := hp.lt.2
  clear hr hn
  have HV := hidb hv
  have HPI := hidb hp
  have HWF := hidb hwf
  clear hv hp hwf
  have h64 : p.ll ≤ 9223372036854775807 := HPI.out.ll.2
  have HX0 := hidb (At.new w [.int .i64 p.pid, .int .i64 p.st, .int .i64 p.rk, .int .i64 p.rn, .float .f64 p.rf, .string p.rs, .slice p.ra p.rl p.rc, .bool p.trap, .slice p.ia p.il p.ic, .slice p.la p.ll p.lc, .slice p.oa p.ol p.oc, .slice p.ta p.tl p.tc, .slice p.na p.nl p.nc] 45)
  go_enter Try.func37, Try.ntmps37
  go_wp2_with fail
  obtain ⟨W0, hW0⟩ : ∃ W0, w.alloc (.cells #[.int .i64 p.pid, .int .i64 p.st, .int .i64 p.rk, .int .i64 p.rn, .float .f64 p.rf, .string p.rs, .slice p.ra p.rl p.rc, .bool p.trap, .slice p.ia p.il p.ic, .slice p.la p.ll p.lc, .slice p.oa p.ol p.oc, .slice p.ta p.tl p.tc, .slice p.na p.nl p.nc] 45) = W0 := ⟨_, rfl⟩
  have HB1 : Hid (Below w.heap.size w W0) := hidb (by rw [← hW0]; exact below_new w _)
  have HX0 : Hid (At W0 w.heap.size [.int .i64 p.pid, .int .i64 p.st, .int .i64 p.rk, .int .i64 p.rn, .float .f64 p.rf, .string p.rs, .slice p.ra p.rl p.rc, .bool p.trap, .slice p.ia p.il p.ic, .slice p.la p.ll p.lc, .slice p.oa p.ol p.oc, .slice p.ta p.tl p.tc, .slice p.na p.nl p.nc]) := hidb (by rw [← hW0]; exact HX0.out)
  rw [hW0]
  clear hW0
  have HV := hidb (HV.out.keep HB1.out)
  go_loopw [14] (fun iv wr => ∃ (m : Nat), m ≤ p.ll ∧ iv = .int .i64 m ∧ (∀ (i : Nat) (q : Hf), i < m → p.links[i]? = some q → ¬ Gone ps q.pid) ∧ Below W0.heap.size W0 wr) (fun iv _ => p.ll - (RowKit.intOf iv).toNat)
  case atStart => exact ⟨0, by omega, rfl, fun i q h => by omega, Below.refl _ _⟩
  case round =>
    obtain ⟨m, hm, rfl, hri, hb⟩ := hrel
    have HRI := hidb hri
    have HB := hidb hb
    clear hri hb
    skip
    by_cases hml : m < p.ll
    · have hmb : (m : Int) < (p.ll : Int) := by omega
      have hmz : (0 : Int) ≤ (m : Int) := by omega
      have hmw : IntKind.i64.wrap ((m : Int) + 1) = (m : Int) + 1 := by rw [IntKind.wrap_i64]; omega
      obtain ⟨x, b2, o2, hx, hla, hlt2, hc2⟩ := HPI.out.links.at m (by have := HPI.out.ll.1; omega)
      have hq := HB1.out.trans (HB.out.mono HB1.out.size)
      have d0 : wr.cell? ⟨b2, o2 + m * 3, none⟩ = some (.int .i64 x.pid) := (hq.cell (p := ⟨b2, o2 + m * 3, none⟩) hlt2).trans (hc2 0 (by omega))
      have d1 : wr.cell? ⟨b2, o2 + m * 3 + 1, none⟩ = some (.int .i64 x.st) := (hq.cell (p := ⟨b2, o2 + m * 3 + 1, none⟩) hlt2).trans (hc2 1 (by omega))
      have d2 : wr.cell? ⟨b2, o2 + m * 3 + 2, none⟩ = some (.int .i64 x.id) := (hq.cell (p := ⟨b2, o2 + m * 3 + 2, none⟩) hlt2).trans (hc2 2 (by omega))
      have HPX := hidb hx
      have HVR := hidb (HV.out.keep HB.out)
      rw [hla]
      clear hx hc2 hq hla
      have HXM := hidb (List.mem_of_getElem? HPX.out)
      have HX := hidb ((HX0.out.keep HB.out).keep (below_new wr (.cells #[.int .i64 x.pid, .int .i64 x.st, .int .i64 x.id] 61)))
      obtain ⟨x0, -⟩ := HX.out.1 0 _ rfl
      have HWC := hidb ((HVR.out.keep (below_new wr (.cells #[.int .i64 x.pid, .int .i64 x.st, .int .i64 x.id] 61))))
      have HBC : Hid (Below W0.heap.size W0 (wr.alloc (.cells #[.int .i64 x.pid, .int .i64 x.st, .int .i64 x.id] 61))) := hidb (HB.out.trans ((below_new wr _).mono HB.out.size))
      go_wp2_with fail
      refine (isgone_any HWC.out ((HR.out.keep HB1.out).keep HBC.out) HN.out x.pid (HWF.out.links x HXM.out)).mono ?_
      rintro e w5 ⟨⟨r, rfl, hr⟩, hb5⟩
      have HR5 := hidb hr
      have HB5 := hidb (HBC.out.trans (hb5.mono HBC.out.size))
      clear hr hb5 x0
      cases r
      · have HOK : Hid (¬ Gone ps x.pid) := hidb (fun k => (by have h9 := HR5.out.2 k; cases h9))
        clear HR5
        go_wp2_with fail
        go_roundw
        case rel =>
          refine ⟨m + 1, by omega, by go_num, fun i q hi hq => ?_, HB5.out⟩
          by_cases hlt : i < m
          · exact HRI.out i q hlt hq
          · obtain rfl : i = m := by omega
            rw [HPX.out] at hq
            obtain rfl := Option.some.inj hq
            exact HOK.out
        case measure => simp [RowKit.intOf]; omega
      · have HNO : Hid (¬ (¬ Gone ps x.pid)) := hidb (fun k => k (HR5.out.1 rfl))
        clear HR5
        go_wp2_with fail
        go_ret
        exact ⟨⟨true, rfl, fun _ hh => HNO.out (hh.1 x HXM.out), fun _ => rfl⟩, HB1.out.trans (HB5.out.mono HB1.out.size)⟩
    · have hmn : ¬ (m : Int) < (p.ll : Int) := by omega
      have HX := hidb (HX0.out.keep HB.out)
      obtain ⟨x10, -⟩ := HX.out.1 10 _ rfl
      have HA1 : Hid (∀ q ∈ p.links, ¬ Gone ps q.pid) := hidb (fun h hh => by obtain ⟨i2, hi2⟩ := List.mem_iff_getElem?.1 hh; exact HRI.out i2 h (by have := (List.getElem?_eq_some_iff.1 hi2).1; have := HPI.out.ll.1; omega) hi2)
      go_wp2_with fail
      have HB1 := hidb (HB1.out.trans (HB.out.mono HB1.out.size))
      have HX0 := hidb (HX0.out.keep HB.out)
      have HV := hidb (HV.out.keep HB.out)
      clear HB HX x10 hml hmn HRI hm
      obtain ⟨W0, hW0⟩ : ∃ W0, W0 = wr := ⟨_, rfl⟩
      subst hW0
      go_loopw [26] (fun iv wr => ∃ (m : Nat), m ≤ p.ol ∧ iv = .int .i64 m ∧ (∀ (i : Nat) (q : Mn), i < m → p.origins[i]? = some q → q.pid ≠ 0 → ¬ Gone ps q.pid) ∧ Below W0.heap.size W0 wr) (fun iv _ => p.ol - (RowKit.intOf iv).toNat)
      case atStart => exact ⟨0, by omega, rfl, fun i q h => by omega, Below.refl _ _⟩
      case round =>
        obtain ⟨m, hm, rfl, hri, hb⟩ := hrel
        have HRI := hidb hri
        have HB := hidb hb
        clear hri hb
        skip
        by_cases hml : m < p.ol
        · have hmb : (m : Int) < (p.ol : Int) := by omega
          have hmz : (0 : Int) ≤ (m : Int) := by omega
          have hmw : IntKind.i64.wrap ((m : Int) + 1) = (m : Int) + 1 := by rw [IntKind.wrap_i64]; omega
          obtain ⟨x, b2, o2, hx, hla, hlt2, hc2⟩ := HPI.out.origins.at m (by have := HPI.out.lo.1; omega)
          have hq := HB1.out.trans (HB.out.mono HB1.out.size)
          have d0 : wr.cell? ⟨b2, o2 + m * 3, none⟩ = some (.int .i64 x.ref) := (hq.cell (p := ⟨b2, o2 + m * 3, none⟩) hlt2).trans (hc2 0 (by omega))
          have d1 : wr.cell? ⟨b2, o2 + m * 3 + 1, none⟩ = some (.int .i64 x.pid) := (hq.cell (p := ⟨b2, o2 + m * 3 + 1, none⟩) hlt2).trans (hc2 1 (by omega))
          have d2 : wr.cell? ⟨b2, o2 + m * 3 + 2, none⟩ = some (.string x.name) := (hq.cell (p := ⟨b2, o2 + m * 3 + 2, none⟩) hlt2).trans (hc2 2 (by omega))
          have HPX := hidb hx
          have HVR := hidb (HV.out.keep HB.out)
          rw [hla]
          clear hx hc2 hq hla
          have HXM := hidb (List.mem_of_getElem? HPX.out)
          have HX := hidb ((HX0.out.keep HB.out).keep (below_new wr (.cells #[.int .i64 x.ref, .int .i64 x.pid, .string x.name] 81)))
          obtain ⟨x0, -⟩ := HX.out.1 0 _ rfl
          have HWC := hidb ((HVR.out.keep (below_new wr (.cells #[.int .i64 x.ref, .int .i64 x.pid, .string x.name] 81))))
          have HBC : Hid (Below W0.heap.size W0 (wr.alloc (.cells #[.int .i64 x.ref, .int .i64 x.pid, .string x.name] 81))) := hidb (HB.out.trans ((below_new wr _).mono HB.out.size))
          by_cases hz : x.pid = 0
          · have HZ := hidb hz
            go_wp2_with fail
            go_roundw
            case rel =>
              refine ⟨m + 1, by omega, by go_num, fun i q hi hq => ?_, HB.out.trans ((below_new wr _).mono HB.out.size)⟩
              by_cases hlt : i < m
              · exact HRI.out i q hlt hq
              · obtain rfl : i = m := by omega
                rw [HPX.out] at hq
                obtain rfl := Option.some.inj hq
                exact fun k => absurd HZ.out k
            case measure => simp [RowKit.intOf]; omega
          · have HZ := hidb hz
            go_wp2_with fail
            refine (isgone_any HWC.out ((HR.out.keep HB1.out).keep HBC.out) HN.out x.pid ((HWF.out.origins x HXM.out).2)).mono ?_
            rintro e w5 ⟨⟨r, rfl, hr⟩, hb5⟩
            have HR5 := hidb hr
            have HB5 := hidb (HBC.out.trans (hb5.mono HBC.out.size))
            clear hr hb5 x0
            cases r
            · have HOK : Hid (x.pid ≠ 0 → ¬ Gone ps x.pid) := hidb (fun _ k => (by have h9 := HR5.out.2 k; cases h9))
              clear HR5
              go_wp2_with fail
              go_roundw
              case rel =>
                refine ⟨m + 1, by omega, by go_num, fun i q hi hq => ?_, HB5.out⟩
                by_cases hlt : i < m
                · exact HRI.out i q hlt hq
                · obtain rfl : i = m := by omega
                  rw [HPX.out] at hq
                  obtain rfl := Option.some.inj hq
                  exact HOK.out
              case measure => simp [RowKit.intOf]; omega
            · have HNO : Hid (¬ (x.pid ≠ 0 → ¬ Gone ps x.pid)) := hidb (fun k => k HZ.out (HR5.out.1 rfl))
              clear HR5
              go_wp2_with fail
              go_ret
              exact ⟨⟨true, rfl, fun _ hh => HNO.out (hh.2.1 x HXM.out), fun _ => rfl⟩, HB1.out.trans (HB5.out.mono HB1.out.size)⟩
        · have hmn : ¬ (m : Int) < (p.ol : Int) := by omega
          have HX := hidb (HX0.out.keep HB.out)
          obtain ⟨x11, -⟩ := HX.out.1 11 _ rfl
          have HA2 : Hid (∀ q ∈ p.origins, q.pid ≠ 0 → ¬ Gone ps q.pid) := hidb (fun h hh => by obtain ⟨i2, hi2⟩ := List.mem_iff_getElem?.1 hh; exact HRI.out i2 h (by have := (List.getElem?_eq_some_iff.1 hi2).1; have := HPI.out.lo.1; omega) hi2)
          go_wp2_with fail
          have HB1 := hidb (HB1.out.trans (HB.out.mono HB1.out.size))
          have HX0 := hidb (HX0.out.keep HB.out)
          have HV := hidb (HV.out.keep HB.out)
          clear HB HX x11 hml hmn HRI hm
          obtain ⟨W0, hW0⟩ : ∃ W0, W0 = wr := ⟨_, rfl⟩
          subst hW0
          go_loopw [43] (fun iv wr => ∃ (m : Nat), m ≤ p.tl ∧ iv = .int .i64 m ∧ (∀ (i : Nat) (q : Mn), i < m → p.targets[i]? = some q → ¬ Gone ps q.pid) ∧ Below W0.heap.size W0 wr) (fun iv _ => p.tl - (RowKit.intOf iv).toNat)
          case atStart => exact ⟨0, by omega, rfl, fun i q h => by omega, Below.refl _ _⟩
          case round =>
            obtain ⟨m, hm, rfl, hri, hb⟩ := hrel
            have HRI := hidb hri
            have HB := hidb hb
            clear hri hb
            skip
            by_cases hml : m < p.tl
            · have hmb : (m : Int) < (p.tl : Int) := by omega
              have hmz : (0 : Int) ≤ (m : Int) := by omega
              have hmw : IntKind.i64.wrap ((m : Int) + 1) = (m : Int) + 1 := by rw [IntKind.wrap_i64]; omega
              obtain ⟨x, b2, o2, hx, hla, hlt2, hc2⟩ := HPI.out.targets.at m (by have := HPI.out.lt.1; omega)
              have hq := HB1.out.trans (HB.out.mono HB1.out.size)
              have d0 : wr.cell? ⟨b2, o2 + m * 3, none⟩ = some (.int .i64 x.ref) := (hq.cell (p := ⟨b2, o2 + m * 3, none⟩) hlt2).trans (hc2 0 (by omega))
              have d1 : wr.cell? ⟨b2, o2 + m * 3 + 1, none⟩ = some (.int .i64 x.pid) := (hq.cell (p := ⟨b2, o2 + m * 3 + 1, none⟩) hlt2).trans (hc2 1 (by omega))
              have d2 : wr.cell? ⟨b2, o2 + m * 3 + 2, none⟩ = some (.string x.name) := (hq.cell (p := ⟨b2, o2 + m * 3 + 2, none⟩) hlt2).trans (hc2 2 (by omega))
              have HPX := hidb hx
              have HVR := hidb (HV.out.keep HB.out)
              rw [hla]
              clear hx hc2 hq hla
              have HXM := hidb (List.mem_of_getElem? HPX.out)
              have HX := hidb ((HX0.out.keep HB.out).keep (below_new wr (.cells #[.int .i64 x.ref, .int .i64 x.pid, .string x.name] 81)))
              obtain ⟨x0, -⟩ := HX.out.1 0 _ rfl
              have HWC := hidb ((HVR.out.keep (below_new wr (.cells #[.int .i64 x.ref, .int .i64 x.pid, .string x.name] 81))))
              have HBC : Hid (Below W0.heap.size W0 (wr.alloc (.cells #[.int .i64 x.ref, .int .i64 x.pid, .string x.name] 81))) := hidb (HB.out.trans ((below_new wr _).mono HB.out.size))
              go_wp2_with fail
              refine (isgone_any HWC.out ((HR.out.keep HB1.out).keep HBC.out) HN.out x.pid ((HWF.out.targets x HXM.out).2)).mono ?_
              rintro e w5 ⟨⟨r, rfl, hr⟩, hb5⟩
              have HR5 := hidb hr
              have HB5 := hidb (HBC.out.trans (hb5.mono HBC.out.size))
              clear hr hb5 x0
              cases r
              · have HOK : Hid (¬ Gone ps x.pid) := hidb (fun k => (by have h9 := HR5.out.2 k; cases h9))
                clear HR5
                go_wp2_with fail
                go_roundw
                case rel =>
                  refine ⟨m + 1, by omega, by go_num, fun i q hi hq => ?_, HB5.out⟩
                  by_cases hlt : i < m
                  · exact HRI.out i q hlt hq
                  · obtain rfl : i = m := by omega
                    rw [HPX.out] at hq
                    obtain rfl := Option.some.inj hq
                    exact HOK.out
                case measure => simp [RowKit.intOf]; omega
              · have HNO : Hid (¬ (¬ Gone ps x.pid)) := hidb (fun k => k (HR5.out.1 rfl))
                clear HR5
                go_wp2_with fail
                go_ret
                exact ⟨⟨true, rfl, fun _ hh => HNO.out (hh.2.2 x HXM.out), fun _ => rfl⟩, HB1.out.trans (HB5.out.mono HB1.out.size)⟩
            · have hmn : ¬ (m : Int) < (p.tl : Int) := by omega
              have HA3 : Hid (∀ q ∈ p.targets, ¬ Gone ps q.pid) := hidb (fun h hh => by obtain ⟨i2, hi2⟩ := List.mem_iff_getElem?.1 hh; exact HRI.out i2 h (by have := (List.getElem?_eq_some_iff.1 hi2).1; have := HPI.out.lt.1; omega) hi2)
              go_wp2_with fail
              go_ret
              exact ⟨⟨false, rfl, fun h => (by cases h), fun h => absurd (⟨HA1.out, HA2.out, HA3.out⟩) h⟩, HB1.out.trans (HB.out.mono HB1.out.size)⟩
set_option maxHeartbeats 4000000 in
set_option maxRecDepth 10000 in
theorem unpaired_any {w : World} {vb : Nat} {pa : Option Addr} {np cp fb nb tb n : Nat} {NL : List ByteArray} {TL : List Tie} {g : Int → Option Nat} (hv : VW w vb pa np cp fb nb tb n g NL TL) (p : Pc) (hp : PcIn w p) (hwf : PcWf p) : Calls Try.prog 38 #[.pointer (some ⟨vb, 0, none⟩), pcV p] w (Says (¬ UprOk p TL) w) := by
  have h66 : p.tl ≤ 9223372036854775807 := hp.lt.2
  have HV := hidb hv
  have HPI := hidb hp
  have HWF := hidb hwf
  clear hv hp hwf
  have h64 : p.ol ≤ 9223372036854775807 := HPI.out.lo.2
  have HX0 := hidb (At.new w [.int .i64 p.pid, .int .i64 p.st, .int .i64 p.rk, .int .i64 p.rn, .float .f64 p.rf, .string p.rs, .slice p.ra p.rl p.rc, .bool p.trap, .slice p.ia p.il p.ic, .slice p.la p.ll p.lc, .slice p.oa p.ol p.oc, .slice p.ta p.tl p.tc, .slice p.na p.nl p.nc] 45)
  go_enter Try.func38, Try.ntmps38
  go_wp2_with fail
  obtain ⟨W0, hW0⟩ : ∃ W0, w.alloc (.cells #[.int .i64 p.pid, .int .i64 p.st, .int .i64 p.rk, .int .i64 p.rn, .float .f64 p.rf, .string p.rs, .slice p.ra p.rl p.rc, .bool p.trap, .slice p.ia p.il p.ic, .slice p.la p.ll p.lc, .slice p.oa p.ol p.oc, .slice p.ta p.tl p.tc, .slice p.na p.nl p.nc] 45) = W0 := ⟨_, rfl⟩
  have HB1 : Hid (Below w.heap.size w W0) := hidb (by rw [← hW0]; exact below_new w _)
  have HX0 : Hid (At W0 w.heap.size [.int .i64 p.pid, .int .i64 p.st, .int .i64 p.rk, .int .i64 p.rn, .float .f64 p.rf, .string p.rs, .slice p.ra p.rl p.rc, .bool p.trap, .slice p.ia p.il p.ic, .slice p.la p.ll p.lc, .slice p.oa p.ol p.oc, .slice p.ta p.tl p.tc, .slice p.na p.nl p.nc]) := hidb (by rw [← hW0]; exact HX0.out)
  rw [hW0]
  clear hW0
  have HV := hidb (HV.out.keep HB1.out)
  go_loopw [12] (fun iv wr => ∃ (m : Nat), m ≤ p.ol ∧ iv = .int .i64 m ∧ (∀ (i : Nat) (q : Mn), i < m → p.origins[i]? = some q → q.pid ≠ 0 → (⟨2, q.pid, q.ref, p.pid⟩ : Tie) ∈ TL) ∧ Below W0.heap.size W0 wr) (fun iv _ => p.ol - (RowKit.intOf iv).toNat)
  case atStart => exact ⟨0, by omega, rfl, fun i q h => by omega, Below.refl _ _⟩
  case round =>
    obtain ⟨m, hm, rfl, hri, hb⟩ := hrel
    have HRI := hidb hri
    have HB := hidb hb
    clear hri hb
    skip
    by_cases hml : m < p.ol
    · have hmb : (m : Int) < (p.ol : Int) := by omega
      have hmz : (0 : Int) ≤ (m : Int) := by omega
      have hmw : IntKind.i64.wrap ((m : Int) + 1) = (m : Int) + 1 := by rw [IntKind.wrap_i64]; omega
      obtain ⟨x, b2, o2, hx, hla, hlt2, hc2⟩ := HPI.out.origins.at m (by have := HPI.out.lo.1; omega)
      have hq := HB1.out.trans (HB.out.mono HB1.out.size)
      have d0 : wr.cell? ⟨b2, o2 + m * 3, none⟩ = some (.int .i64 x.ref) := (hq.cell (p := ⟨b2, o2 + m * 3, none⟩) hlt2).trans (hc2 0 (by omega))
      have d1 : wr.cell? ⟨b2, o2 + m * 3 + 1, none⟩ = some (.int .i64 x.pid) := (hq.cell (p := ⟨b2, o2 + m * 3 + 1, none⟩) hlt2).trans (hc2 1 (by omega))
      have d2 : wr.cell? ⟨b2, o2 + m * 3 + 2, none⟩ = some (.string x.name) := (hq.cell (p := ⟨b2, o2 + m * 3 + 2, none⟩) hlt2).trans (hc2 2 (by omega))
      have HPX := hidb hx
      have HVR := hidb (HV.out.keep HB.out)
      rw [hla]
      clear hx hc2 hq hla
      have HXM := hidb (List.mem_of_getElem? HPX.out)
      have HX := hidb ((HX0.out.keep HB.out).keep (below_new wr (.cells #[.int .i64 x.ref, .int .i64 x.pid, .string x.name] 81)))
      obtain ⟨x0, -⟩ := HX.out.1 0 _ rfl
      have HWC := hidb ((HVR.out.keep (below_new wr (.cells #[.int .i64 x.ref, .int .i64 x.pid, .string x.name] 81))))
      have HBC : Hid (Below W0.heap.size W0 (wr.alloc (.cells #[.int .i64 x.ref, .int .i64 x.pid, .string x.name] 81))) := hidb (HB.out.trans ((below_new wr _).mono HB.out.size))
      by_cases hz : x.pid = 0
      · have HZ := hidb hz
        go_wp2_with fail
        go_roundw
        case rel =>
          refine ⟨m + 1, by omega, by go_num, fun i q hi hq => ?_, HB.out.trans ((below_new wr _).mono HB.out.size)⟩
          by_cases hlt : i < m
          · exact HRI.out i q hlt hq
          · obtain rfl : i = m := by omega
            rw [HPX.out] at hq
            obtain rfl := Option.some.inj hq
            exact fun k => absurd HZ.out k
        case measure => simp [RowKit.intOf]; omega
      · have HZ := hidb hz
        go_wp2_with fail
        refine (vhas_any HWC.out ⟨2, x.pid, x.ref, p.pid⟩ ⟨wfi_2, (HWF.out.origins x HXM.out).2, (HWF.out.origins x HXM.out).1, HWF.out.pid⟩).mono ?_
        rintro e w5 ⟨⟨r, rfl, hr⟩, hb5⟩
        have HR5 := hidb hr
        have HB5 := hidb (HBC.out.trans (hb5.mono HBC.out.size))
        clear hr hb5 x0
        cases r
        · have HNO : Hid (¬ (x.pid ≠ 0 → (⟨2, x.pid, x.ref, p.pid⟩ : Tie) ∈ TL)) := hidb (fun k => (by have h9 := HR5.out.2 (k HZ.out); cases h9))
          clear HR5
          go_wp2_with fail
          go_ret
          exact ⟨⟨true, rfl, fun _ hh => HNO.out (hh.1 x HXM.out), fun _ => rfl⟩, HB1.out.trans (HB5.out.mono HB1.out.size)⟩
        · have HOK : Hid (x.pid ≠ 0 → (⟨2, x.pid, x.ref, p.pid⟩ : Tie) ∈ TL) := hidb (fun _ => HR5.out.1 rfl)
          clear HR5
          go_wp2_with fail
          go_roundw
          case rel =>
            refine ⟨m + 1, by omega, by go_num, fun i q hi hq => ?_, HB5.out⟩
            by_cases hlt : i < m
            · exact HRI.out i q hlt hq
            · obtain rfl : i = m := by omega
              rw [HPX.out] at hq
              obtain rfl := Option.some.inj hq
              exact HOK.out
          case measure => simp [RowKit.intOf]; omega
    · have hmn : ¬ (m : Int) < (p.ol : Int) := by omega
      have HX := hidb (HX0.out.keep HB.out)
      obtain ⟨x11, -⟩ := HX.out.1 11 _ rfl
      have HA1 : Hid (∀ q ∈ p.origins, q.pid ≠ 0 → (⟨2, q.pid, q.ref, p.pid⟩ : Tie) ∈ TL) := hidb (fun h hh => by obtain ⟨i2, hi2⟩ := List.mem_iff_getElem?.1 hh; exact HRI.out i2 h (by have := (List.getElem?_eq_some_iff.1 hi2).1; have := HPI.out.lo.1; omega) hi2)
      go_wp2_with fail
      have HB1 := hidb (HB1.out.trans (HB.out.mono HB1.out.size))
      have HX0 := hidb (HX0.out.keep HB.out)
      have HV := hidb (HV.out.keep HB.out)
      clear HB HX x11 hml hmn HRI hm
      obtain ⟨W0, hW0⟩ : ∃ W0, W0 = wr := ⟨_, rfl⟩
      subst hW0
      go_loopw [35] (fun iv wr => ∃ (m : Nat), m ≤ p.tl ∧ iv = .int .i64 m ∧ (∀ (i : Nat) (q : Mn), i < m → p.targets[i]? = some q → (⟨1, q.pid, q.ref, p.pid⟩ : Tie) ∈ TL) ∧ Below W0.heap.size W0 wr) (fun iv _ => p.tl - (RowKit.intOf iv).toNat)
      case atStart => exact ⟨0, by omega, rfl, fun i q h => by omega, Below.refl _ _⟩
      case round =>
        obtain ⟨m, hm, rfl, hri, hb⟩ := hrel
        have HRI := hidb hri
        have HB := hidb hb
        clear hri hb
        skip
        by_cases hml : m < p.tl
        · have hmb : (m : Int) < (p.tl : Int) := by omega
          have hmz : (0 : Int) ≤ (m : Int) := by omega
          have hmw : IntKind.i64.wrap ((m : Int) + 1) = (m : Int) + 1 := by rw [IntKind.wrap_i64]; omega
          obtain ⟨x, b2, o2, hx, hla, hlt2, hc2⟩ := HPI.out.targets.at m (by have := HPI.out.lt.1; omega)
          have hq := HB1.out.trans (HB.out.mono HB1.out.size)
          have d0 : wr.cell? ⟨b2, o2 + m * 3, none⟩ = some (.int .i64 x.ref) := (hq.cell (p := ⟨b2, o2 + m * 3, none⟩) hlt2).trans (hc2 0 (by omega))
          have d1 : wr.cell? ⟨b2, o2 + m * 3 + 1, none⟩ = some (.int .i64 x.pid) := (hq.cell (p := ⟨b2, o2 + m * 3 + 1, none⟩) hlt2).trans (hc2 1 (by omega))
          have d2 : wr.cell? ⟨b2, o2 + m * 3 + 2, none⟩ = some (.string x.name) := (hq.cell (p := ⟨b2, o2 + m * 3 + 2, none⟩) hlt2).trans (hc2 2 (by omega))
          have HPX := hidb hx
          have HVR := hidb (HV.out.keep HB.out)
          rw [hla]
          clear hx hc2 hq hla
          have HXM := hidb (List.mem_of_getElem? HPX.out)
          have HX := hidb ((HX0.out.keep HB.out).keep (below_new wr (.cells #[.int .i64 x.ref, .int .i64 x.pid, .string x.name] 81)))
          obtain ⟨x0, -⟩ := HX.out.1 0 _ rfl
          have HWC := hidb ((HVR.out.keep (below_new wr (.cells #[.int .i64 x.ref, .int .i64 x.pid, .string x.name] 81))))
          have HBC : Hid (Below W0.heap.size W0 (wr.alloc (.cells #[.int .i64 x.ref, .int .i64 x.pid, .string x.name] 81))) := hidb (HB.out.trans ((below_new wr _).mono HB.out.size))
          go_wp2_with fail
          refine (vhas_any HWC.out ⟨1, x.pid, x.ref, p.pid⟩ ⟨wfi_1, (HWF.out.targets x HXM.out).2, (HWF.out.targets x HXM.out).1, HWF.out.pid⟩).mono ?_
          rintro e w5 ⟨⟨r, rfl, hr⟩, hb5⟩
          have HR5 := hidb hr
          have HB5 := hidb (HBC.out.trans (hb5.mono HBC.out.size))
          clear hr hb5 x0
          cases r
          · have HNO : Hid (¬ ((⟨1, x.pid, x.ref, p.pid⟩ : Tie) ∈ TL)) := hidb (fun k => (by have h9 := HR5.out.2 k; cases h9))
            clear HR5
            go_wp2_with fail
            go_ret
            exact ⟨⟨true, rfl, fun _ hh => HNO.out (hh.2 x HXM.out), fun _ => rfl⟩, HB1.out.trans (HB5.out.mono HB1.out.size)⟩
          · have HOK : Hid ((⟨1, x.pid, x.ref, p.pid⟩ : Tie) ∈ TL) := hidb (HR5.out.1 rfl)
            clear HR5
            go_wp2_with fail
            go_roundw
            case rel =>
              refine ⟨m + 1, by omega, by go_num, fun i q hi hq => ?_, HB5.out⟩
              by_cases hlt : i < m
              · exact HRI.out i q hlt hq
              · obtain rfl : i = m := by omega
                rw [HPX.out] at hq
                obtain rfl := Option.some.inj hq
                exact HOK.out
            case measure => simp [RowKit.intOf]; omega
        · have hmn : ¬ (m : Int) < (p.tl : Int) := by omega
          have HA2 : Hid (∀ q ∈ p.targets, (⟨1, q.pid, q.ref, p.pid⟩ : Tie) ∈ TL) := hidb (fun h hh => by obtain ⟨i2, hi2⟩ := List.mem_iff_getElem?.1 hh; exact HRI.out i2 h (by have := (List.getElem?_eq_some_iff.1 hi2).1; have := HPI.out.lt.1; omega) hi2)
          go_wp2_with fail
          go_ret
          exact ⟨⟨false, rfl, fun h => (by cases h), fun h => absurd (⟨HA1.out, HA2.out⟩) h⟩, HB1.out.trans (HB.out.mono HB1.out.size)⟩
end Go.Proofs.Ytjiigabfdigkaaa


/- Of a state: the living and the dead. -/
namespace Go.Proofs.Ytjiigabfdigkaaa
open Go.RowKit

attribute [local go_sem] store_float
/-- Rule 3, of one process. -/
def LivOk (p : Pc) : Prop := ¬ ((p.st = 3 ∨ p.st = 4) ∧ (0 < p.il ∨ 0 < p.nl ∨ p.trap = true)) ∧ ¬ (p.st = 4 ∧ (0 < p.ll ∨ 0 < p.ol ∨ 0 < p.tl)) ∧ ¬ ((p.st = 1 ∨ p.st = 2) ∧ p.rk ≠ 0)
set_option maxHeartbeats 1000000 in
set_option maxRecDepth 10000 in
theorem living_any (w : World) (pa la : Option Addr) (cp cl np nl : Nat) (ps : List Pc) (ls : List Ln) (oa : Option Addr) (no co : Nat) (hs : StIn w pa ps la ls) (hnp : ps.length = np) :
    Calls Try.prog 22 #[stV pa np cp la nl cl oa no co] w (Says (∀ p ∈ ps, LivOk p) w) := by
  have HS := hidb hs
  have HN := hidb hnp
  have h63 : np ≤ 9223372036854775807 := hnp ▸ hs.lp
  clear hs hnp
  have HX0 := hidb (At.new w [.slice pa np cp, .slice la nl cl, .slice oa no co] 26)
  go_enter Try.func22, Try.ntmps22
  go_wp2_with fail
  obtain ⟨W0, hW0⟩ : ∃ W0, w.alloc (.cells #[.slice pa np cp, .slice la nl cl, .slice oa no co] 26) = W0 := ⟨_, rfl⟩
  have HB1 : Hid (Below w.heap.size w W0) := hidb (by rw [← hW0]; exact below_new w _)
  rw [hW0] at HX0 ⊢
  clear hW0
  go_loopw [3] (fun iv wr => ∃ (m : Nat), m ≤ np ∧ iv = .int .i64 m ∧ (∀ (i : Nat) (q : Pc), i < m → ps[i]? = some q → LivOk q) ∧ Below W0.heap.size W0 wr) (fun iv _ => np - (RowKit.intOf iv).toNat)
  case atStart => exact ⟨0, by omega, rfl, fun i q h => by omega, Below.refl _ _⟩
  case round =>
    obtain ⟨m, hm, rfl, hri, hb⟩ := hrel
    have HRI := hidb hri
    have HB := hidb hb
    clear hri hb
    have HX := hidb (HX0.out.keep HB.out)
    obtain ⟨x0, -⟩ := HX.out.1 0 _ rfl
    by_cases hml : m < np
    · have hmb : (m : Int) < (np : Int) := by omega
      have hmz : (0 : Int) ≤ (m : Int) := by omega
      have hmw : IntKind.i64.wrap ((m : Int) + 1) = (m : Int) + 1 := by rw [IntKind.wrap_i64]; omega
      obtain ⟨p, b, o, hp, rfl, hlt, hc⟩ := HS.out.procs.at m (by have := HN.out; omega)
      have hq := HB1.out.trans (HB.out.mono HB1.out.size)
      have cc : ∀ (i : Nat), i < 13 → wr.cell? ⟨b, o + m * 13 + i, none⟩ = (Pc.cells p)[i]? := fun i hi => (hq.cell (p := ⟨b, o + m * 13 + i, none⟩) hlt).trans (hc i hi)
      have c0 : wr.cell? ⟨b, o + m * 13, none⟩ = some (.int .i64 p.pid) := cc 0 (by omega)
      have c1 : wr.cell? ⟨b, o + m * 13 + 1, none⟩ = some (.int .i64 p.st) := cc 1 (by omega)
      have c2 : wr.cell? ⟨b, o + m * 13 + 2, none⟩ = some (.int .i64 p.rk) := cc 2 (by omega)
      have c3 : wr.cell? ⟨b, o + m * 13 + 3, none⟩ = some (.int .i64 p.rn) := cc 3 (by omega)
      have c4 : wr.cell? ⟨b, o + m * 13 + 4, none⟩ = some (.float .f64 p.rf) := cc 4 (by omega)
      have c5 : wr.cell? ⟨b, o + m * 13 + 5, none⟩ = some (.string p.rs) := cc 5 (by omega)
      have c6 : wr.cell? ⟨b, o + m * 13 + 6, none⟩ = some (.slice p.ra p.rl p.rc) := cc 6 (by omega)
      have c7 : wr.cell? ⟨b, o + m * 13 + 7, none⟩ = some (.bool p.trap) := cc 7 (by omega)
      have c8 : wr.cell? ⟨b, o + m * 13 + 8, none⟩ = some (.slice p.ia p.il p.ic) := cc 8 (by omega)
      have c9 : wr.cell? ⟨b, o + m * 13 + 9, none⟩ = some (.slice p.la p.ll p.lc) := cc 9 (by omega)
      have c10 : wr.cell? ⟨b, o + m * 13 + 10, none⟩ = some (.slice p.oa p.ol p.oc) := cc 10 (by omega)
      have c11 : wr.cell? ⟨b, o + m * 13 + 11, none⟩ = some (.slice p.ta p.tl p.tc) := cc 11 (by omega)
      have c12 : wr.cell? ⟨b, o + m * 13 + 12, none⟩ = some (.slice p.na p.nl p.nc) := cc 12 (by omega)
      have HP := hidb hp
      clear hp hc hq cc
      have HQ := hidb (show ∀ W, Below W0.heap.size W0 W → Below w.heap.size w W from fun W h => HB1.out.trans (h.mono HB1.out.size))
      go_wp2_with fail
      all_goals first
        | (go_ret
           exact ⟨⟨false, rfl, fun h => (by cases h), fun h => absurd (h p (List.mem_of_getElem? HP.out)) (by simp [LivOk, *])⟩, HQ.out _ (HB.out.trans ((below_new wr _).mono HB.out.size))⟩)
        | (refine (ralive_is _ _ _ _ _ _ _ _ _ _ _ _ _ _ _ _ _ _ _ _ _ _ _ _ _ _).mono ?_
           rintro e w5 ⟨⟨r, rfl, hr⟩, hb5⟩
           have k2 : w5.cell? ⟨wr.heap.size, 2, none⟩ = some (.int .i64 p.rk) := (hb5.cell (p := ⟨wr.heap.size, 2, none⟩) (by simp)).trans (by rw [World.cell?_alloc_new]; rfl)
           have HB5 := hidb (HB.out.trans (((below_new wr _).trans (hb5.mono (by simp))).mono HB.out.size))
           clear hb5
           have hr2 := hidb hr
           clear hr
           by_cases hk : p.rk = 0
           · have hok : LivOk p := by
               refine ⟨?_, ?_, ?_⟩ <;> simp_all
             cases r
             all_goals
               go_wp2_with fail
             all_goals
               go_roundw
               case rel =>
                 refine ⟨m + 1, by omega, by go_num, fun i q hi hq => ?_, HB5.out⟩
                 by_cases hlt : i < m
                 · exact HRI.out i q hlt hq
                 · obtain rfl : i = m := by omega
                   rw [HP.out] at hq
                   obtain rfl := Option.some.inj hq
                   exact hok
               case measure => simp [RowKit.intOf]; omega
           · cases r
             · have hok : LivOk p := by
                 have hr := hr2.out
                 refine ⟨?_, ?_, ?_⟩ <;> simp_all [Alv]
               go_wp2_with fail
               all_goals
                 go_roundw
                 case rel =>
                   refine ⟨m + 1, by omega, by go_num, fun i q hi hq => ?_, HB5.out⟩
                   by_cases hlt : i < m
                   · exact HRI.out i q hlt hq
                   · obtain rfl : i = m := by omega
                     rw [HP.out] at hq
                     obtain rfl := Option.some.inj hq
                     exact hok
                 case measure => simp [RowKit.intOf]; omega
             · go_wp2_with fail
               all_goals
                 go_ret
                 exact ⟨⟨false, rfl, fun h => (by cases h), fun h => absurd (h p (List.mem_of_getElem? HP.out)) (fun hl => hl.2.2 ⟨by have := hr2.out.1 (by simp); unfold Alv at this; omega, hk⟩)⟩, HQ.out _ HB5.out⟩)
    · have hmn : ¬ (m : Int) < (np : Int) := by omega
      go_wp2_with fail
      go_ret
      refine ⟨⟨true, rfl, fun _ q hq => ?_, fun _ => rfl⟩, HB1.out.trans (HB.out.mono HB1.out.size)⟩
      obtain ⟨i, hi⟩ := List.mem_iff_getElem?.1 hq
      exact HRI.out i q (by have := (List.getElem?_eq_some_iff.1 hi).1; have := HN.out; omega) hi
end Go.Proofs.Ytjiigabfdigkaaa


