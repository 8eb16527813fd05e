import Derived.Test.YtjiigabfdigkaaaG04
import Derived.Test.YtjiigabfdigkaaaG11
import Derived.Test.YtjiigabfdigkaaaG15
/- Of a state: no ghosts. -/
namespace Go.Proofs.Ytjiigabfdigkaaa
open Go.RowKit

attribute [local go_sem] store_float
def HfOk (h : Hf) : Prop := (h.st = 1 ∨ h.st = 2) ∧ (0 < h.id ↔ h.st = 2)
/-- Rule 2, of one process. -/
def GhOk (p : Pc) : Prop := (1 ≤ p.st ∧ p.st ≤ 4) ∧ ∀ h ∈ p.links, HfOk h
set_option maxHeartbeats 1000000 in
set_option maxRecDepth 10000 in
theorem ghost_any (w : World) (pa la : Option Addr) (cp cl np nl : Nat) (ps : List Pc) (ls : List Ln) (oa : Option Addr) (no co : Nat) (hs : StIn w pa ps la ls) (hnp : ps.length = np) :
    Calls Try.prog 21 #[stV pa np cp la nl cl oa no co] w (Says (∀ p ∈ ps, GhOk p) w) := by
  have HS := hidb hs
  have HN := hidb hnp
  have h63 : np ≤ 9223372036854775807 := hnp ▸ hs.lp
  clear hs hnp
  have HX0 := hidb (At.new w [.slice pa np cp, .slice la nl cl, .slice oa no co] 26)
  go_enter Try.func21, Try.ntmps21
  go_wp2_with fail
  obtain ⟨W0, hW0⟩ : ∃ W0, w.alloc (.cells #[.slice pa np cp, .slice la nl cl, .slice oa no co] 26) = W0 := ⟨_, rfl⟩
  have HB1 : Hid (Below w.heap.size w W0) := hidb (by rw [← hW0]; exact below_new w _)
  rw [hW0] at HX0 ⊢
  clear hW0
  go_loopw [3] (fun iv wr => ∃ (m : Nat), m ≤ np ∧ iv = .int .i64 m ∧ (∀ (i : Nat) (q : Pc), i < m → ps[i]? = some q → GhOk q) ∧ Below W0.heap.size W0 wr) (fun iv _ => np - (RowKit.intOf iv).toNat)
  case atStart => exact ⟨0, by omega, rfl, fun i q h => by omega, Below.refl _ _⟩
  case round =>
    obtain ⟨m, hm, rfl, hri, hb⟩ := hrel
    have HRI := hidb hri
    have HB := hidb hb
    clear hri hb
    have HX := hidb (HX0.out.keep HB.out)
    obtain ⟨x0, -⟩ := HX.out.1 0 _ rfl
    obtain ⟨x1, -⟩ := HX.out.1 1 _ rfl
    by_cases hml : m < np
    · have hmb : (m : Int) < (np : Int) := by omega
      have hmz : (0 : Int) ≤ (m : Int) := by omega
      have hmw : IntKind.i64.wrap ((m : Int) + 1) = (m : Int) + 1 := by rw [IntKind.wrap_i64]; omega
      obtain ⟨p, b, o, hp, rfl, hlt, hc⟩ := HS.out.procs.at m (by have := HN.out; omega)
      have hq := HB1.out.trans (HB.out.mono HB1.out.size)
      have HPI := hidb ((HS.out.each p (List.mem_of_getElem? hp)).keep hq)
      have cc : ∀ (i : Nat), i < 13 → wr.cell? ⟨b, o + m * 13 + i, none⟩ = (Pc.cells p)[i]? := fun i hi => (hq.cell (p := ⟨b, o + m * 13 + i, none⟩) hlt).trans (hc i hi)
      have c0 : wr.cell? ⟨b, o + m * 13, none⟩ = some (.int .i64 p.pid) := cc 0 (by omega)
      have c1 : wr.cell? ⟨b, o + m * 13 + 1, none⟩ = some (.int .i64 p.st) := cc 1 (by omega)
      have c2 : wr.cell? ⟨b, o + m * 13 + 2, none⟩ = some (.int .i64 p.rk) := cc 2 (by omega)
      have c3 : wr.cell? ⟨b, o + m * 13 + 3, none⟩ = some (.int .i64 p.rn) := cc 3 (by omega)
      have c4 : wr.cell? ⟨b, o + m * 13 + 4, none⟩ = some (.float .f64 p.rf) := cc 4 (by omega)
      have c5 : wr.cell? ⟨b, o + m * 13 + 5, none⟩ = some (.string p.rs) := cc 5 (by omega)
      have c6 : wr.cell? ⟨b, o + m * 13 + 6, none⟩ = some (.slice p.ra p.rl p.rc) := cc 6 (by omega)
      have c7 : wr.cell? ⟨b, o + m * 13 + 7, none⟩ = some (.bool p.trap) := cc 7 (by omega)
      have c8 : wr.cell? ⟨b, o + m * 13 + 8, none⟩ = some (.slice p.ia p.il p.ic) := cc 8 (by omega)
      have c9 : wr.cell? ⟨b, o + m * 13 + 9, none⟩ = some (.slice p.la p.ll p.lc) := cc 9 (by omega)
      have c10 : wr.cell? ⟨b, o + m * 13 + 10, none⟩ = some (.slice p.oa p.ol p.oc) := cc 10 (by omega)
      have c11 : wr.cell? ⟨b, o + m * 13 + 11, none⟩ = some (.slice p.ta p.tl p.tc) := cc 11 (by omega)
      have c12 : wr.cell? ⟨b, o + m * 13 + 12, none⟩ = some (.slice p.na p.nl p.nc) := cc 12 (by omega)
      have HP := hidb hp
      clear hp hc hq cc
      have HX5 := hidb (At.new wr [.int .i64 p.pid, .int .i64 p.st, .int .i64 p.rk, .int .i64 p.rn, .float .f64 p.rf, .string p.rs, .slice p.ra p.rl p.rc, .bool p.trap, .slice p.ia p.il p.ic, .slice p.la p.ll p.lc, .slice p.oa p.ol p.oc, .slice p.ta p.tl p.tc, .slice p.na p.nl p.nc] 45)
      have HB5 : Hid (Below wr.heap.size wr (wr.alloc (.cells #[.int .i64 p.pid, .int .i64 p.st, .int .i64 p.rk, .int .i64 p.rn, .float .f64 p.rf, .string p.rs, .slice p.ra p.rl p.rc, .bool p.trap, .slice p.ia p.il p.ic, .slice p.la p.ll p.lc, .slice p.oa p.ol p.oc, .slice p.ta p.tl p.tc, .slice p.na p.nl p.nc] 45))) := hidb (below_new wr _)
      by_cases hst : 1 ≤ p.st ∧ p.st ≤ 4
      · have hs1 := hst.1
        have hs2 := hst.2
        go_wp2_with fail
        obtain ⟨W5, hW5⟩ : ∃ W5, wr.alloc (.cells #[.int .i64 p.pid, .int .i64 p.st, .int .i64 p.rk, .int .i64 p.rn, .float .f64 p.rf, .string p.rs, .slice p.ra p.rl p.rc, .bool p.trap, .slice p.ia p.il p.ic, .slice p.la p.ll p.lc, .slice p.oa p.ol p.oc, .slice p.ta p.tl p.tc, .slice p.na p.nl p.nc] 45) = W5 := ⟨_, rfl⟩
        rw [hW5] at HB5 ⊢
        have HX5 : Hid (At W5 wr.heap.size [.int .i64 p.pid, .int .i64 p.st, .int .i64 p.rk, .int .i64 p.rn, .float .f64 p.rf, .string p.rs, .slice p.ra p.rl p.rc, .bool p.trap, .slice p.ia p.il p.ic, .slice p.la p.ll p.lc, .slice p.oa p.ol p.oc, .slice p.ta p.tl p.tc, .slice p.na p.nl p.nc]) := hidb (by rw [← hW5]; exact HX5.out)
        clear hW5
        obtain ⟨wo, hwo⟩ : ∃ wo, wo = wr := ⟨_, rfl⟩
        subst hwo
        have HO5 : Hid (∀ W, Below W5.heap.size W5 W → Below W0.heap.size W0 W) := hidb (fun W h => (HB.out.trans (HB5.out.mono HB.out.size)).trans (h.mono (HB.out.trans (HB5.out.mono HB.out.size)).size))
        have HQ5 : Hid (∀ W, Below W5.heap.size W5 W → Below w.heap.size w W) := hidb (fun W h => HB1.out.trans ((HO5.out W h).mono HB1.out.size))
        have h64 : p.ll ≤ 9223372036854775807 := HPI.out.ll.2
        go_loopw [5] (fun iv wr => ∃ (k : Nat), k ≤ p.ll ∧ iv = .int .i64 k ∧ (∀ (i : Nat) (q : Hf), i < k → p.links[i]? = some q → HfOk q) ∧ Below W5.heap.size W5 wr) (fun iv _ => p.ll - (RowKit.intOf iv).toNat)
        case atStart => exact ⟨0, by omega, rfl, fun i q h => by omega, Below.refl _ _⟩
        case round =>
          obtain ⟨k, hm, rfl, hri, hb⟩ := hrel
          have HRJ := hidb hri
          have HC := hidb hb
          clear hri hb
          have HXK := hidb (HX5.out.keep HC.out)
          obtain ⟨y9, -⟩ := HXK.out.1 9 _ rfl
          by_cases hkl : k < p.ll
          · have hkb : (k : Int) < (p.ll : Int) := by omega
            have hkz : (0 : Int) ≤ (k : Int) := by omega
            have hkw : IntKind.i64.wrap ((k : Int) + 1) = (k : Int) + 1 := by rw [IntKind.wrap_i64]; omega
            obtain ⟨x, b2, o2, hx, hla, hlt2, hc2⟩ := HPI.out.links.at k (by have := HPI.out.ll.1; omega)
            rw [hla] at y9
            have hq := HB5.out.trans (HC.out.mono HB5.out.size)
            have d0 : wr.cell? ⟨b2, o2 + k * 3, none⟩ = some (.int .i64 x.pid) := (hq.cell (p := ⟨b2, o2 + k * 3, none⟩) hlt2).trans (hc2 0 (by omega))
            have d1 : wr.cell? ⟨b2, o2 + k * 3 + 1, none⟩ = some (.int .i64 x.st) := (hq.cell (p := ⟨b2, o2 + k * 3 + 1, none⟩) hlt2).trans (hc2 1 (by omega))
            have d2 : wr.cell? ⟨b2, o2 + k * 3 + 2, none⟩ = some (.int .i64 x.id) := (hq.cell (p := ⟨b2, o2 + k * 3 + 2, none⟩) hlt2).trans (hc2 2 (by omega))
            have HPX := hidb hx
            clear hx hc2 hq hla
            have hxm : x ∈ p.links := List.mem_of_getElem? HPX.out
            have hb6 := HC.out.trans ((below_new wr (.cells #[.int .i64 x.pid, .int .i64 x.st, .int .i64 x.id] 61)).mono HC.out.size)
            have HB6 := hidb hb6
            have HXM := hidb hxm
            clear hxm hb6
            by_cases hid : 0 < x.id <;> by_cases hh1 : x.st = 1 <;> by_cases hh2 : x.st = 2
            all_goals try (exfalso; omega)
            all_goals
              have hok := hidb (show HfOk x ∨ ¬ HfOk x from Classical.em _)
              go_wp2_with fail
            all_goals first
              | (go_ret
                 exact ⟨⟨false, rfl, fun h => (by cases h), fun h => absurd ((h p (List.mem_of_getElem? HP.out)).2 x HXM.out) (by unfold HfOk; omega)⟩, HQ5.out _ (HC.out.trans ((below_new wr _).mono HC.out.size))⟩)
              | (go_roundw
                 case rel =>
                   refine ⟨k + 1, by omega, by go_num, fun i q hi hq => ?_, HC.out.trans ((below_new wr _).mono HC.out.size)⟩
                   by_cases hlt : i < k
                   · exact HRJ.out i q hlt hq
                   · obtain rfl : i = k := by omega
                     rw [HPX.out] at hq
                     obtain rfl := Option.some.inj hq
                     unfold HfOk
                     omega
                 case measure => simp [RowKit.intOf]; omega)
          · have hkn : ¬ (k : Int) < (p.ll : Int) := by omega
            go_wp2_with fail
            go_roundw
            case rel =>
              refine ⟨m + 1, by omega, by go_num, fun i q hi hq => ?_, HO5.out _ HC.out⟩
              by_cases hlt : i < m
              · exact HRI.out i q hlt hq
              · obtain rfl : i = m := by omega
                rw [HP.out] at hq
                obtain rfl := Option.some.inj hq
                exact ⟨⟨hs1, hs2⟩, fun h hh => by obtain ⟨i2, hi2⟩ := List.mem_iff_getElem?.1 hh; exact HRJ.out i2 h (by have := (List.getElem?_eq_some_iff.1 hi2).1; have := HPI.out.ll.1; omega) hi2⟩
            case measure => simp [RowKit.intOf]; omega
      · have hs1 : ¬ (1 ≤ p.st ∧ p.st ≤ 4) := hst
        clear hst
        by_cases hs2 : 1 ≤ p.st
        · have hs3 : ¬ p.st ≤ 4 := fun h => hs1 ⟨hs2, h⟩
          clear hs1
          go_wp2_with fail
          go_ret
          exact ⟨⟨false, rfl, fun h => (by cases h), fun h => absurd (h p (List.mem_of_getElem? HP.out)).1 (by omega)⟩, HB1.out.trans ((HB.out.trans (HB5.out.mono HB.out.size)).mono HB1.out.size)⟩
        · clear hs1
          go_wp2_with fail
          go_ret
          exact ⟨⟨false, rfl, fun h => (by cases h), fun h => absurd (h p (List.mem_of_getElem? HP.out)).1 (by omega)⟩, HB1.out.trans ((HB.out.trans (HB5.out.mono HB.out.size)).mono HB1.out.size)⟩
    · have hmn : ¬ (m : Int) < (np : Int) := by omega
      go_wp2_with fail
      go_ret
      refine ⟨⟨true, rfl, fun _ q hq => ?_, fun _ => rfl⟩, HB1.out.trans (HB.out.mono HB1.out.size)⟩
      obtain ⟨i, hi⟩ := List.mem_iff_getElem?.1 hq
      exact HRI.out i q (by have := (List.getElem?_eq_some_iff.1 hi).1; have := HN.out; omega) hi
end Go.Proofs.Ytjiigabfdigkaaa


/- Of a process, as the program asks: unsettled, a ghost, out of life. -/
namespace Go.Proofs.Ytjiigabfdigkaaa
open Go.RowKit

attribute [local go_sem] store_float
def SetL (p : Pc) : Prop := ∀ h ∈ p.links, h.st = 1
set_option maxHeartbeats 4000000 in
set_option maxRecDepth 10000 in
theorem unsettled_any (w : World) (p : Pc) (hp : PcIn w p) : Calls Try.prog 34 #[pcV p] w (Says (¬ SetL p) w) := by
  have HPI := hidb hp
  clear hp
  have h64 : p.ll ≤ 9223372036854775807 := HPI.out.ll.2
  have HX0 := hidb (At.new w [.int .i64 p.pid, .int .i64 p.st, .int .i64 p.rk, .int .i64 p.rn, .float .f64 p.rf, .string p.rs, .slice p.ra p.rl p.rc, .bool p.trap, .slice p.ia p.il p.ic, .slice p.la p.ll p.lc, .slice p.oa p.ol p.oc, .slice p.ta p.tl p.tc, .slice p.na p.nl p.nc] 45)
  go_enter Try.func34, Try.ntmps34
  go_wp2_with fail
  obtain ⟨W0, hW0⟩ : ∃ W0, w.alloc (.cells #[.int .i64 p.pid, .int .i64 p.st, .int .i64 p.rk, .int .i64 p.rn, .float .f64 p.rf, .string p.rs, .slice p.ra p.rl p.rc, .bool p.trap, .slice p.ia p.il p.ic, .slice p.la p.ll p.lc, .slice p.oa p.ol p.oc, .slice p.ta p.tl p.tc, .slice p.na p.nl p.nc] 45) = W0 := ⟨_, rfl⟩
  have HB1 : Hid (Below w.heap.size w W0) := hidb (by rw [← hW0]; exact below_new w _)
  have HX0 : Hid (At W0 w.heap.size [.int .i64 p.pid, .int .i64 p.st, .int .i64 p.rk, .int .i64 p.rn, .float .f64 p.rf, .string p.rs, .slice p.ra p.rl p.rc, .bool p.trap, .slice p.ia p.il p.ic, .slice p.la p.ll p.lc, .slice p.oa p.ol p.oc, .slice p.ta p.tl p.tc, .slice p.na p.nl p.nc]) := hidb (by rw [← hW0]; exact HX0.out)
  rw [hW0]
  clear hW0
  go_loopw [8] (fun iv wr => ∃ (m : Nat), m ≤ p.ll ∧ iv = .int .i64 m ∧ (∀ (i : Nat) (q : Hf), i < m → p.links[i]? = some q → q.st = 1) ∧ Below W0.heap.size W0 wr) (fun iv _ => p.ll - (RowKit.intOf iv).toNat)
  case atStart => exact ⟨0, by omega, rfl, fun i q h => by omega, Below.refl _ _⟩
  case round =>
    obtain ⟨m, hm, rfl, hri, hb⟩ := hrel
    have HRI := hidb hri
    have HB := hidb hb
    clear hri hb
    skip
    by_cases hml : m < p.ll
    · have hmb : (m : Int) < (p.ll : Int) := by omega
      have hmz : (0 : Int) ≤ (m : Int) := by omega
      have hmw : IntKind.i64.wrap ((m : Int) + 1) = (m : Int) + 1 := by rw [IntKind.wrap_i64]; omega
      obtain ⟨x, b2, o2, hx, hla, hlt2, hc2⟩ := HPI.out.links.at m (by have := HPI.out.ll.1; omega)
      have hq := HB1.out.trans (HB.out.mono HB1.out.size)
      have d0 : wr.cell? ⟨b2, o2 + m * 3, none⟩ = some (.int .i64 x.pid) := (hq.cell (p := ⟨b2, o2 + m * 3, none⟩) hlt2).trans (hc2 0 (by omega))
      have d1 : wr.cell? ⟨b2, o2 + m * 3 + 1, none⟩ = some (.int .i64 x.st) := (hq.cell (p := ⟨b2, o2 + m * 3 + 1, none⟩) hlt2).trans (hc2 1 (by omega))
      have d2 : wr.cell? ⟨b2, o2 + m * 3 + 2, none⟩ = some (.int .i64 x.id) := (hq.cell (p := ⟨b2, o2 + m * 3 + 2, none⟩) hlt2).trans (hc2 2 (by omega))
      have HPX := hidb hx
      rw [hla]
      clear hx hc2 hq hla
      have HXM := hidb (List.mem_of_getElem? HPX.out)
      by_cases h1 : x.st = 1
      · have H1 := hidb h1
        go_wp2_with fail
        go_roundw
        case rel =>
          refine ⟨m + 1, by omega, by go_num, fun i q hi hq => ?_, HB.out.trans ((below_new wr _).mono HB.out.size)⟩
          by_cases hlt : i < m
          · exact HRI.out i q hlt hq
          · obtain rfl : i = m := by omega
            rw [HPX.out] at hq
            obtain rfl := Option.some.inj hq
            exact H1.out
        case measure => simp [RowKit.intOf]; omega
      · have H1 := hidb h1
        go_wp2_with fail
        go_ret
        exact ⟨⟨true, rfl, fun _ hh => absurd (hh x HXM.out) H1.out, fun _ => rfl⟩, HB1.out.trans ((HB.out.trans ((below_new wr _).mono HB.out.size)).mono HB1.out.size)⟩
    · have hmn : ¬ (m : Int) < (p.ll : Int) := by omega
      go_wp2_with fail
      go_ret
      exact ⟨⟨false, rfl, fun h => (by cases h), fun h => absurd (fun h hh => by obtain ⟨i2, hi2⟩ := List.mem_iff_getElem?.1 hh; exact HRI.out i2 h (by have := (List.getElem?_eq_some_iff.1 hi2).1; have := HPI.out.ll.1; omega) hi2) h⟩, HB1.out.trans (HB.out.mono HB1.out.size)⟩
set_option maxHeartbeats 4000000 in
set_option maxRecDepth 10000 in
theorem isghost_any (w : World) (p : Pc) (hp : PcIn w p) : Calls Try.prog 31 #[pcV p] w (Says (¬ GhOk p) w) := by
  have HPI := hidb hp
  clear hp
  have h64 : p.ll ≤ 9223372036854775807 := HPI.out.ll.2
  have HX0 := hidb (At.new w [.int .i64 p.pid, .int .i64 p.st, .int .i64 p.rk, .int .i64 p.rn, .float .f64 p.rf, .string p.rs, .slice p.ra p.rl p.rc, .bool p.trap, .slice p.ia p.il p.ic, .slice p.la p.ll p.lc, .slice p.oa p.ol p.oc, .slice p.ta p.tl p.tc, .slice p.na p.nl p.nc] 45)
  go_enter Try.func31, Try.ntmps31
  go_wp2_with fail
  obtain ⟨W0, hW0⟩ : ∃ W0, w.alloc (.cells #[.int .i64 p.pid, .int .i64 p.st, .int .i64 p.rk, .int .i64 p.rn, .float .f64 p.rf, .string p.rs, .slice p.ra p.rl p.rc, .bool p.trap, .slice p.ia p.il p.ic, .slice p.la p.ll p.lc, .slice p.oa p.ol p.oc, .slice p.ta p.tl p.tc, .slice p.na p.nl p.nc] 45) = W0 := ⟨_, rfl⟩
  have HB1 : Hid (Below w.heap.size w W0) := hidb (by rw [← hW0]; exact below_new w _)
  have HX0 : Hid (At W0 w.heap.size [.int .i64 p.pid, .int .i64 p.st, .int .i64 p.rk, .int .i64 p.rn, .float .f64 p.rf, .string p.rs, .slice p.ra p.rl p.rc, .bool p.trap, .slice p.ia p.il p.ic, .slice p.la p.ll p.lc, .slice p.oa p.ol p.oc, .slice p.ta p.tl p.tc, .slice p.na p.nl p.nc]) := hidb (by rw [← hW0]; exact HX0.out)
  rw [hW0]
  clear hW0
  go_loopw [8] (fun iv wr => ∃ (m : Nat), m ≤ p.ll ∧ iv = .int .i64 m ∧ (∀ (i : Nat) (q : Hf), i < m → p.links[i]? = some q → HfOk q) ∧ Below W0.heap.size W0 wr) (fun iv _ => p.ll - (RowKit.intOf iv).toNat)
  case atStart => exact ⟨0, by omega, rfl, fun i q h => by omega, Below.refl _ _⟩
  case round =>
    obtain ⟨m, hm, rfl, hri, hb⟩ := hrel
    have HRI := hidb hri
    have HB := hidb hb
    clear hri hb
    skip
    by_cases hml : m < p.ll
    · have hmb : (m : Int) < (p.ll : Int) := by omega
      have hmz : (0 : Int) ≤ (m : Int) := by omega
      have hmw : IntKind.i64.wrap ((m : Int) + 1) = (m : Int) + 1 := by rw [IntKind.wrap_i64]; omega
      obtain ⟨x, b2, o2, hx, hla, hlt2, hc2⟩ := HPI.out.links.at m (by have := HPI.out.ll.1; omega)
      have hq := HB1.out.trans (HB.out.mono HB1.out.size)
      have d0 : wr.cell? ⟨b2, o2 + m * 3, none⟩ = some (.int .i64 x.pid) := (hq.cell (p := ⟨b2, o2 + m * 3, none⟩) hlt2).trans (hc2 0 (by omega))
      have d1 : wr.cell? ⟨b2, o2 + m * 3 + 1, none⟩ = some (.int .i64 x.st) := (hq.cell (p := ⟨b2, o2 + m * 3 + 1, none⟩) hlt2).trans (hc2 1 (by omega))
      have d2 : wr.cell? ⟨b2, o2 + m * 3 + 2, none⟩ = some (.int .i64 x.id) := (hq.cell (p := ⟨b2, o2 + m * 3 + 2, none⟩) hlt2).trans (hc2 2 (by omega))
      have HPX := hidb hx
      rw [hla]
      clear hx hc2 hq hla
      have HXM := hidb (List.mem_of_getElem? HPX.out)
      by_cases hid : 0 < x.id <;> by_cases hh1 : x.st = 1 <;> by_cases hh2 : x.st = 2
      all_goals try (exfalso; omega)
      all_goals
        have hok := hidb (show HfOk x ∨ ¬ HfOk x from Classical.em _)
        go_wp2_with fail
      all_goals first
        | (go_ret
           exact ⟨⟨true, rfl, fun _ hh => absurd (hh.2 x HXM.out) (by unfold HfOk; omega), fun _ => rfl⟩, HB1.out.trans ((HB.out.trans ((below_new wr _).mono HB.out.size)).mono HB1.out.size)⟩)
        | (go_roundw
           case rel =>
             refine ⟨m + 1, by omega, by go_num, fun i q hi hq => ?_, HB.out.trans ((below_new wr _).mono HB.out.size)⟩
             by_cases hlt : i < m
             · exact HRI.out i q hlt hq
             · obtain rfl : i = m := by omega
               rw [HPX.out] at hq
               obtain rfl := Option.some.inj hq
               unfold HfOk
               omega
           case measure => simp [RowKit.intOf]; omega)
    · have hmn : ¬ (m : Int) < (p.ll : Int) := by omega
      have HAL : Hid (∀ h ∈ p.links, HfOk h) := hidb (fun h hh => by obtain ⟨i2, hi2⟩ := List.mem_iff_getElem?.1 hh; exact HRI.out i2 h (by have := (List.getElem?_eq_some_iff.1 hi2).1; have := HPI.out.ll.1; omega) hi2)
      have HX := hidb (HX0.out.keep HB.out)
      obtain ⟨x0, -⟩ := HX.out.1 0 _ rfl
      obtain ⟨x1, -⟩ := HX.out.1 1 _ rfl
      obtain ⟨x2, -⟩ := HX.out.1 2 _ rfl
      obtain ⟨x3, -⟩ := HX.out.1 3 _ rfl
      obtain ⟨x4, -⟩ := HX.out.1 4 _ rfl
      obtain ⟨x5, -⟩ := HX.out.1 5 _ rfl
      obtain ⟨x6, -⟩ := HX.out.1 6 _ rfl
      obtain ⟨x7, -⟩ := HX.out.1 7 _ rfl
      obtain ⟨x8, -⟩ := HX.out.1 8 _ rfl
      obtain ⟨x9, -⟩ := HX.out.1 9 _ rfl
      obtain ⟨x10, -⟩ := HX.out.1 10 _ rfl
      obtain ⟨x11, -⟩ := HX.out.1 11 _ rfl
      obtain ⟨x12, -⟩ := HX.out.1 12 _ rfl
      go_wp2_with fail
      refine (salive_any _ p).mono ?_
      rintro e w6 ⟨⟨r, rfl, hr⟩, hb6⟩
      have HR := hidb hr
      have HB6 := hidb (HB1.out.trans ((HB.out.trans (hb6.mono HB.out.size)).mono HB1.out.size))
      have HX6 := hidb (HX.out.keep hb6)
      clear hr hb6 x0 x1 x2 x3 x4 x5 x6 x7 x8 x9 x10 x11 x12
      obtain ⟨x1, -⟩ := HX6.out.1 1 _ rfl
      cases r
      · have HNA : Hid (¬ Alv p.st) := hidb (fun h => (by have h9 := HR.out.2 h; cases h9))
        clear HR
        by_cases h3 : p.st = 3
        · have H3 := hidb h3
          go_wp2_with fail
          go_ret
          exact ⟨⟨false, rfl, fun h => (by cases h), fun h => absurd (show GhOk p from ⟨by have := H3.out; omega, HAL.out⟩) h⟩, HB6.out⟩
        · by_cases h4 : p.st = 4
          · have H4 := hidb h4
            go_wp2_with fail
            go_ret
            exact ⟨⟨false, rfl, fun h => (by cases h), fun h => absurd (show GhOk p from ⟨by have := H4.out; omega, HAL.out⟩) h⟩, HB6.out⟩
          · have H34 := hidb (And.intro h3 h4)
            go_wp2_with fail
            go_ret
            exact ⟨⟨_, rfl, fun _ hh => by have h1 := hh.1; have h2 := HNA.out; have h5 := H34.out; unfold Alv at h2; omega, fun _ => by have h5 := H34.out; simp [h5.1, h5.2]⟩, HB6.out⟩
      · have HNA : Hid (Alv p.st) := hidb (HR.out.1 rfl)
        clear HR
        go_wp2_with fail
        go_ret
        exact ⟨⟨false, rfl, fun h => (by cases h), fun h => absurd (show GhOk p from ⟨by have := HNA.out; unfold Alv at this; omega, HAL.out⟩) h⟩, HB6.out⟩
set_option maxHeartbeats 4000000 in
set_option maxRecDepth 10000 in
theorem outlife_any (w : World) (p : Pc) (hp : PcIn w p) : Calls Try.prog 32 #[pcV p] w (Says (¬ LivOk p) w) := by
  have HPI := hidb hp
  clear hp
  go_enter Try.func32, Try.ntmps32
  go_wp2_with fail
  all_goals
    go_ret
    refine ⟨⟨_, rfl, ?_⟩, below_new _ _⟩
    unfold LivOk
    cases htr : p.trap <;> simp_all <;> omega
end Go.Proofs.Ytjiigabfdigkaaa


