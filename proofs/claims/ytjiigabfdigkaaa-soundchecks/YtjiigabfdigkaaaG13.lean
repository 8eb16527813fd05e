import Derived.Test.YtjiigabfdigkaaaG04
import Derived.Test.YtjiigabfdigkaaaG09
import Derived.Test.YtjiigabfdigkaaaG12
/- Of a state: in order. -/
namespace Go.Proofs.Ytjiigabfdigkaaa
open Go.RowKit

attribute [local go_sem] store_float
/-- Rule 1, of the process at a place. -/
def OrP (i : Nat) (p : Pc) : Prop := p.pid = (i : Int) + 1 ∧ Rise (p.origins.map Mn.ref) ∧ Rise (p.targets.map Mn.ref) ∧ Rise (p.links.map Hf.pid)
/-- Rule 1, of the processes. -/
def OrPs (ps : List Pc) : Prop := ∀ (i : Nat) (p : Pc), ps[i]? = some p → OrP i p
/-- Rule 1, of the lane at a place. -/
def OrL (ls : List Ln) (i : Nat) (l : Ln) : Prop := 0 < l.n ∧ (∀ (j : Nat) (l' : Ln), i = j + 1 → ls[j]? = some l' → l'.frm ≤ l.frm ∧ ¬ (l'.frm = l.frm ∧ l.to ≤ l'.to)) ∧ ∀ s ∈ l.sigs, s.frm = l.frm ∧ s.to = l.to
/-- Rule 1, of the lanes. -/
def OrLs (ls : List Ln) : Prop := ∀ (i : Nat) (l : Ln), ls[i]? = some l → OrL ls i l
set_option maxHeartbeats 4000000 in
set_option maxRecDepth 10000 in
theorem order_any (w : World) (pa la : Option Addr) (cp cl np nl : Nat) (ps : List Pc) (ls : List Ln) (oa : Option Addr) (no co : Nat) (hs : StIn w pa ps la ls) (hnp : ps.length = np) (hnl : ls.length = nl) :
    Calls Try.prog 20 #[stV pa np cp la nl cl oa no co] w (Says (OrPs ps ∧ OrLs ls) w) := by
  have HM := hidb hnl
  have h62 : nl ≤ 9223372036854775807 := hnl ▸ hs.ll
  clear hnl
  have HS := hidb hs
  have HN := hidb hnp
  have h63 : np ≤ 9223372036854775807 := hnp ▸ hs.lp
  clear hs hnp
  have HX0 := hidb (At.new w [.slice pa np cp, .slice la nl cl, .slice oa no co] 26)
  go_enter Try.func20, Try.ntmps20
  go_wp2_with fail
  obtain ⟨W0, hW0⟩ : ∃ W0, w.alloc (.cells #[.slice pa np cp, .slice la nl cl, .slice oa no co] 26) = W0 := ⟨_, rfl⟩
  have HB1 : Hid (Below w.heap.size w W0) := hidb (by rw [← hW0]; exact below_new w _)
  rw [hW0] at HX0 ⊢
  clear hW0
  go_loopw [3] (fun iv wr => ∃ (m : Nat), m ≤ np ∧ iv = .int .i64 m ∧ (∀ (i : Nat) (q : Pc), i < m → ps[i]? = some q → OrP i q) ∧ Below W0.heap.size W0 wr) (fun iv _ => np - (RowKit.intOf iv).toNat)
  case atStart => exact ⟨0, by omega, rfl, fun i q h => by omega, Below.refl _ _⟩
  case round =>
    obtain ⟨m, hm, rfl, hri, hb⟩ := hrel
    have HRI := hidb hri
    have HB := hidb hb
    clear hri hb
    have HX := hidb (HX0.out.keep HB.out)
    obtain ⟨x0, -⟩ := HX.out.1 0 _ rfl
    obtain ⟨x1, -⟩ := HX.out.1 1 _ rfl
    by_cases hml : m < np
    · have hmb : (m : Int) < (np : Int) := by omega
      have hmz : (0 : Int) ≤ (m : Int) := by omega
      have hmw : IntKind.i64.wrap ((m : Int) + 1) = (m : Int) + 1 := by rw [IntKind.wrap_i64]; omega
      obtain ⟨p, b, o, hp, rfl, hlt, hc⟩ := HS.out.procs.at m (by have := HN.out; omega)
      have hq := HB1.out.trans (HB.out.mono HB1.out.size)
      have HPI := hidb ((HS.out.each p (List.mem_of_getElem? hp)).keep hq)
      have cc : ∀ (i : Nat), i < 13 → wr.cell? ⟨b, o + m * 13 + i, none⟩ = (Pc.cells p)[i]? := fun i hi => (hq.cell (p := ⟨b, o + m * 13 + i, none⟩) hlt).trans (hc i hi)
      have c0 : wr.cell? ⟨b, o + m * 13, none⟩ = some (.int .i64 p.pid) := cc 0 (by omega)
      have c1 : wr.cell? ⟨b, o + m * 13 + 1, none⟩ = some (.int .i64 p.st) := cc 1 (by omega)
      have c2 : wr.cell? ⟨b, o + m * 13 + 2, none⟩ = some (.int .i64 p.rk) := cc 2 (by omega)
      have c3 : wr.cell? ⟨b, o + m * 13 + 3, none⟩ = some (.int .i64 p.rn) := cc 3 (by omega)
      have c4 : wr.cell? ⟨b, o + m * 13 + 4, none⟩ = some (.float .f64 p.rf) := cc 4 (by omega)
      have c5 : wr.cell? ⟨b, o + m * 13 + 5, none⟩ = some (.string p.rs) := cc 5 (by omega)
      have c6 : wr.cell? ⟨b, o + m * 13 + 6, none⟩ = some (.slice p.ra p.rl p.rc) := cc 6 (by omega)
      have c7 : wr.cell? ⟨b, o + m * 13 + 7, none⟩ = some (.bool p.trap) := cc 7 (by omega)
      have c8 : wr.cell? ⟨b, o + m * 13 + 8, none⟩ = some (.slice p.ia p.il p.ic) := cc 8 (by omega)
      have c9 : wr.cell? ⟨b, o + m * 13 + 9, none⟩ = some (.slice p.la p.ll p.lc) := cc 9 (by omega)
      have c10 : wr.cell? ⟨b, o + m * 13 + 10, none⟩ = some (.slice p.oa p.ol p.oc) := cc 10 (by omega)
      have c11 : wr.cell? ⟨b, o + m * 13 + 11, none⟩ = some (.slice p.ta p.tl p.tc) := cc 11 (by omega)
      have c12 : wr.cell? ⟨b, o + m * 13 + 12, none⟩ = some (.slice p.na p.nl p.nc) := cc 12 (by omega)
      have HP := hidb hp
      clear hp hc hq cc
      have HX5 := hidb (At.new wr [.int .i64 p.pid, .int .i64 p.st, .int .i64 p.rk, .int .i64 p.rn, .float .f64 p.rf, .string p.rs, .slice p.ra p.rl p.rc, .bool p.trap, .slice p.ia p.il p.ic, .slice p.la p.ll p.lc, .slice p.oa p.ol p.oc, .slice p.ta p.tl p.tc, .slice p.na p.nl p.nc] 45)
      have HB5 : Hid (Below wr.heap.size wr (wr.alloc (.cells #[.int .i64 p.pid, .int .i64 p.st, .int .i64 p.rk, .int .i64 p.rn, .float .f64 p.rf, .string p.rs, .slice p.ra p.rl p.rc, .bool p.trap, .slice p.ia p.il p.ic, .slice p.la p.ll p.lc, .slice p.oa p.ol p.oc, .slice p.ta p.tl p.tc, .slice p.na p.nl p.nc] 45))) := hidb (below_new wr _)
      have h64 : p.ll ≤ 9223372036854775807 := HPI.out.ll.2
      by_cases hst : p.pid = (m : Int) + 1
      rotate_left
      · go_wp2_with fail
        go_ret
        exact ⟨⟨false, rfl, fun h => (by cases h), fun h => absurd (h.1 m p HP.out) (fun hh => hst hh.1)⟩, HB1.out.trans ((HB.out.trans (HB5.out.mono HB.out.size)).mono HB1.out.size)⟩
      have HPD := hidb hst
      have cO : Hid (∀ W, Below wr.heap.size wr W → Calls Try.prog 41 #[.slice p.oa p.ol p.oc] W (Says (Rise (p.origins.map Mn.ref)) W)) := hidb (fun W hb => by
        have h := rising_any W p.oa p.oc p.origins (HPI.out.origins.keep hb) (by rw [HPI.out.lo.1]; exact HPI.out.lo.2)
        rw [HPI.out.lo.1] at h
        exact h)
      have cT : Hid (∀ W, Below wr.heap.size wr W → Calls Try.prog 41 #[.slice p.ta p.tl p.tc] W (Says (Rise (p.targets.map Mn.ref)) W)) := hidb (fun W hb => by
        have h := rising_any W p.ta p.tc p.targets (HPI.out.targets.keep hb) (by rw [HPI.out.lt.1]; exact HPI.out.lt.2)
        rw [HPI.out.lt.1] at h
        exact h)
      rw [hst] at c0 HX5 HB5
      go_wp2_with fail
      obtain ⟨W5, hW5⟩ : ∃ W5, wr.alloc (.cells #[.int .i64 ((m : Int) + 1), .int .i64 p.st, .int .i64 p.rk, .int .i64 p.rn, .float .f64 p.rf, .string p.rs, .slice p.ra p.rl p.rc, .bool p.trap, .slice p.ia p.il p.ic, .slice p.la p.ll p.lc, .slice p.oa p.ol p.oc, .slice p.ta p.tl p.tc, .slice p.na p.nl p.nc] 45) = W5 := ⟨_, rfl⟩
      rw [hW5] at HB5 ⊢
      have HX5 : Hid (At W5 wr.heap.size [.int .i64 ((m : Int) + 1), .int .i64 p.st, .int .i64 p.rk, .int .i64 p.rn, .float .f64 p.rf, .string p.rs, .slice p.ra p.rl p.rc, .bool p.trap, .slice p.ia p.il p.ic, .slice p.la p.ll p.lc, .slice p.oa p.ol p.oc, .slice p.ta p.tl p.tc, .slice p.na p.nl p.nc]) := hidb (by rw [← hW5]; exact HX5.out)
      clear hW5
      refine (cO.out _ HB5.out).mono ?_
      rintro e w6 ⟨⟨r, rfl, hr⟩, hb6⟩
      have HR := hidb hr
      have HB6 := hidb hb6
      clear hr hb6 hst c0 c1 c2 c3 c4 c5 c6 c7 c8 c9 c10 c11 c12
      cases r
      · go_wp2_with fail
        go_ret
        exact ⟨⟨false, rfl, fun h => (by cases h), fun h => absurd (h.1 m p HP.out) (fun hh => (by have h9 := HR.out.2 hh.2.1; cases h9))⟩, HB1.out.trans ((HB.out.trans ((HB5.out.trans (HB6.out.mono HB5.out.size)).mono HB.out.size)).mono HB1.out.size)⟩
      have HO := hidb (HR.out.1 rfl)
      have HX6 := hidb (HX5.out.keep HB6.out)
      obtain ⟨z11, -⟩ := HX6.out.1 11 _ rfl
      clear HR
      go_wp2_with fail
      refine (cT.out _ (HB5.out.trans (HB6.out.mono HB5.out.size))).mono ?_
      rintro e w7 ⟨⟨r, rfl, hr⟩, hb7⟩
      have HR := hidb hr
      have HB7 := hidb ((HB5.out.trans (HB6.out.mono HB5.out.size)).trans (hb7.mono (HB5.out.trans (HB6.out.mono HB5.out.size)).size))
      have HX7 := hidb (HX6.out.keep hb7)
      clear hr hb7 z11
      cases r
      · go_wp2_with fail
        go_ret
        exact ⟨⟨false, rfl, fun h => (by cases h), fun h => absurd (h.1 m p HP.out) (fun hh => (by have h9 := HR.out.2 hh.2.2.1; cases h9))⟩, HB1.out.trans ((HB.out.trans (HB7.out.mono HB.out.size)).mono HB1.out.size)⟩
      have HT := hidb (HR.out.1 rfl)
      have HO7 : Hid (∀ W, Below w7.heap.size w7 W → Below W0.heap.size W0 W) := hidb (fun W h => (HB.out.trans (HB7.out.mono HB.out.size)).trans (h.mono (HB.out.trans (HB7.out.mono HB.out.size)).size))
      have HQ7 : Hid (∀ W, Below w7.heap.size w7 W → Below w.heap.size w W) := hidb (fun W h => HB1.out.trans ((HO7.out W h).mono HB1.out.size))
      clear HR cO cT
      go_wp2_with fail
      obtain ⟨wo, hwo⟩ : ∃ wo, wo = wr := ⟨_, rfl⟩
      subst hwo
      go_loopw [5] (fun iv wr => ∃ (k : Nat), 1 ≤ k ∧ (k ≤ p.ll ∨ k = 1) ∧ iv = .int .i64 k ∧ (∀ (i : Nat) (a b : Hf), i + 1 < k → p.links[i]? = some a → p.links[i + 1]? = some b → a.pid < b.pid) ∧ Below w7.heap.size w7 wr) (fun iv _ => p.ll - (RowKit.intOf iv).toNat)
      case atStart => exact ⟨1, by omega, by omega, rfl, fun i a b h => by omega, Below.refl _ _⟩
      case round =>
        obtain ⟨k, hk1, hkm, rfl, hrj, hc⟩ := hrel
        have HRJ := hidb hrj
        have HC := hidb hc
        clear hrj hc
        have hkv : IntKind.i64.wrap ((k : Int) - 1) = ((k - 1 : Nat) : Int) := by rw [IntKind.wrap_i64]; omega
        have HXK := hidb (HX7.out.keep HC.out)
        obtain ⟨y9, -⟩ := HXK.out.1 9 _ rfl
        by_cases hkl : k < p.ll
        · have hkb : (k : Int) < (p.ll : Int) := by omega
          have hkw : IntKind.i64.wrap ((k : Int) + 1) = (k : Int) + 1 := by rw [IntKind.wrap_i64]; omega
          have hkz : (0 : Int) ≤ (k : Int) := by omega
          have hky : ((k - 1 : Nat) : Int) < (p.ll : Int) := by omega
          have hkx : (0 : Int) ≤ ((k - 1 : Nat) : Int) := by omega
          obtain ⟨x, b2, o2, hx, hla, hlt2, hc2⟩ := HPI.out.links.at (k - 1) (by have := HPI.out.ll.1; omega)
          obtain ⟨y, b3, o3, hy, hlb, -, hd2⟩ := HPI.out.links.at k (by have := HPI.out.ll.1; omega)
          obtain ⟨rfl, rfl⟩ : b2 = b3 ∧ o2 = o3 := by rw [hla] at hlb; simpa using hlb
          rw [hla] at y9
          have hq := HB7.out.trans (HC.out.mono HB7.out.size)
          have d0 : wr.cell? ⟨b2, o2 + (k - 1) * 3, none⟩ = some (.int .i64 x.pid) := (hq.cell (p := ⟨b2, o2 + (k - 1) * 3, none⟩) hlt2).trans (hc2 0 (by omega))
          have d1 : wr.cell? ⟨b2, o2 + k * 3, none⟩ = some (.int .i64 y.pid) := (hq.cell (p := ⟨b2, o2 + k * 3, none⟩) hlt2).trans (hd2 0 (by omega))
          have HXY := hidb (And.intro hx hy)
          clear hx hy hla hlb hc2 hd2 hq
          go_wp2_with fail
          go_big_quiet (fail)
          by_cases hle : y.pid ≤ x.pid
          · go_wp2_with fail
            go_ret
            refine ⟨⟨false, rfl, fun h => (by cases h), fun h => ?_⟩, HQ7.out _ (below_drewN HC.out _)⟩
            have := (h.1 m p HP.out).2.2.2 (k - 1) x.pid y.pid (by simp [HXY.out.1]) (by rw [show k - 1 + 1 = k by omega]; simp [HXY.out.2])
            omega
          · go_wp2_with fail
            go_roundw
            case rel =>
              refine ⟨k + 1, by omega, by omega, by go_num, fun i a b h ha hb => ?_, below_drewN HC.out _⟩
              by_cases hi : i + 1 < k
              · exact HRJ.out i a b hi ha hb
              · obtain rfl : i = k - 1 := by omega
                rw [HXY.out.1] at ha
                rw [show k - 1 + 1 = k by omega, HXY.out.2] at hb
                obtain rfl := Option.some.inj ha
                obtain rfl := Option.some.inj hb
                omega
            case measure => simp [RowKit.intOf]; omega
        · have hkn : ¬ (k : Int) < (p.ll : Int) := by omega
          go_wp2_with fail
          go_roundw
          case rel =>
            refine ⟨m + 1, by omega, by go_num, fun i q hi hq => ?_, HO7.out _ HC.out⟩
            by_cases hlt : i < m
            · exact HRI.out i q hlt hq
            · obtain rfl : i = m := by omega
              rw [HP.out] at hq
              obtain rfl := Option.some.inj hq
              exact ⟨HPD.out, HO.out, HT.out, fun i2 a b ha hb => by
                rw [List.getElem?_map] at ha hb
                obtain ⟨x, hx, rfl⟩ := Option.map_eq_some_iff.1 ha
                obtain ⟨y, hy, rfl⟩ := Option.map_eq_some_iff.1 hb
                have hlt := (List.getElem?_eq_some_iff.1 hy).1
                have := HPI.out.ll.1
                exact HRJ.out i2 x y (by omega) hx hy⟩
          case measure => simp [RowKit.intOf]; omega
    · have hmn : ¬ (m : Int) < (np : Int) := by omega
      go_wp2_with fail
      have HPS : Hid (OrPs ps) := hidb (fun i q hq => HRI.out i q (by have := (List.getElem?_eq_some_iff.1 hq).1; have := HN.out; omega) hq)
      have HB1 := hidb (HB1.out.trans (HB.out.mono HB1.out.size))
      have HX0 := hidb (HX0.out.keep HB.out)
      clear HRI HB HX x0 x1 hml hmn
      obtain ⟨W0, hW0⟩ : ∃ W0, W0 = wr := ⟨_, rfl⟩
      subst hW0
      go_loopw [6] (fun iv wr => ∃ (m : Nat), m ≤ nl ∧ iv = .int .i64 m ∧ (∀ (i : Nat) (q : Ln), i < m → ls[i]? = some q → OrL ls i q) ∧ Below W0.heap.size W0 wr) (fun iv _ => nl - (RowKit.intOf iv).toNat)
      case atStart => exact ⟨0, by omega, rfl, fun i q h => by omega, Below.refl _ _⟩
      case round =>
        obtain ⟨m, hm, rfl, hri, hb⟩ := hrel
        have HRI := hidb hri
        have HB := hidb hb
        clear hri hb
        have HX := hidb (HX0.out.keep HB.out)
        obtain ⟨x0, -⟩ := HX.out.1 0 _ rfl
        obtain ⟨x1, -⟩ := HX.out.1 1 _ rfl
        by_cases hml : m < nl
        · have hmb : (m : Int) < (nl : Int) := by omega
          have hmz : (0 : Int) ≤ (m : Int) := by omega
          have hmw : IntKind.i64.wrap ((m : Int) + 1) = (m : Int) + 1 := by rw [IntKind.wrap_i64]; omega
          obtain ⟨l, b, o, hp, rfl, hlt, hc⟩ := HS.out.lanes.at m (by have := HM.out; omega)
          have hq := HB1.out.trans (HB.out.mono HB1.out.size)
          have hsg := HS.out.sigs l (List.mem_of_getElem? hp)
          have HSG := hidb (And.intro (hsg.1.keep hq) hsg.2)
          have h65 : l.n ≤ 9223372036854775807 := hsg.2.2
          have c0 : wr.cell? ⟨b, o + m * 3, none⟩ = some (.int .i64 l.frm) := (hq.cell (p := ⟨b, o + m * 3, none⟩) hlt).trans (hc 0 (by omega))
          have c1 : wr.cell? ⟨b, o + m * 3 + 1, none⟩ = some (.int .i64 l.to) := (hq.cell (p := ⟨b, o + m * 3 + 1, none⟩) hlt).trans (hc 1 (by omega))
          have c2 : wr.cell? ⟨b, o + m * 3 + 2, none⟩ = some (.slice l.a l.n l.c) := (hq.cell (p := ⟨b, o + m * 3 + 2, none⟩) hlt).trans (hc 2 (by omega))
          have HP := hidb hp
          have HLA : Hid (∀ (j : Nat) (l' : Ln), m = j + 1 → ls[j]? = some l' → wr.cell? ⟨b, o + (m - 1) * 3, none⟩ = some (.int .i64 l'.frm) ∧ wr.cell? ⟨b, o + (m - 1) * 3 + 1, none⟩ = some (.int .i64 l'.to) ∧ b < wr.heap.size) := hidb (fun j l' hj hl' => by
            obtain ⟨b2, o2, h1, h2, h3⟩ := HS.out.lanes j l' hl'
            obtain ⟨rfl, rfl⟩ : b = b2 ∧ o = o2 := by simpa using h1
            rw [show m - 1 = j by omega]
            exact ⟨(hq.cell (p := ⟨b, o + j * 3, none⟩) h2).trans (h3 0 (by omega)), (hq.cell (p := ⟨b, o + j * 3 + 1, none⟩) h2).trans (h3 1 (by omega)), Nat.lt_of_lt_of_le h2 hq.size⟩)
          clear hp hc hq hsg
          have HX5 := hidb (At.new wr [.int .i64 l.frm, .int .i64 l.to, .slice l.a l.n l.c] 49)
          have HB5 : Hid (Below wr.heap.size wr (wr.alloc (.cells #[.int .i64 l.frm, .int .i64 l.to, .slice l.a l.n l.c] 49))) := hidb (below_new wr _)
          have HO5 : Hid (∀ W, Below (wr.alloc (.cells #[.int .i64 l.frm, .int .i64 l.to, .slice l.a l.n l.c] 49)).heap.size (wr.alloc (.cells #[.int .i64 l.frm, .int .i64 l.to, .slice l.a l.n l.c] 49)) W → Below W0.heap.size W0 W) := hidb (fun W h => (HB.out.trans (HB5.out.mono HB.out.size)).trans (h.mono (HB.out.trans (HB5.out.mono HB.out.size)).size))
          have HQ5 : Hid (∀ W, Below (wr.alloc (.cells #[.int .i64 l.frm, .int .i64 l.to, .slice l.a l.n l.c] 49)).heap.size (wr.alloc (.cells #[.int .i64 l.frm, .int .i64 l.to, .slice l.a l.n l.c] 49)) W → Below w.heap.size w W) := hidb (fun W h => HB1.out.trans ((HO5.out W h).mono HB1.out.size))
          by_cases hn0 : l.n = 0
          · have hn1 : (l.n : Int) = 0 := by omega
            go_wp2_with fail
            go_ret
            exact ⟨⟨false, rfl, fun h => (by cases h), fun h => absurd (h.2 m l HP.out).1 (by omega)⟩, by have := HQ5.out _ (Below.refl _ _); rw [hn0] at this; exact this⟩
          have hn1 : ¬ (l.n : Int) = 0 := by omega
          have HN0 := hidb (Nat.pos_of_ne_zero hn0)
          clear hn0
          by_cases hm0 : m = 0
          · subst hm0
            rw [show o + 0 * 3 = o by omega] at c0 c1 c2
            have HAF : Hid (∀ (j : Nat) (l' : Ln), 0 = j + 1 → ls[j]? = some l' → l'.frm ≤ l.frm ∧ ¬ (l'.frm = l.frm ∧ l.to ≤ l'.to)) := hidb (fun j l' h => by omega)
            clear HLA
            go_wp2_with fail
            obtain ⟨W5, hW5⟩ : ∃ W5, wr.alloc (.cells #[.int .i64 l.frm, .int .i64 l.to, .slice l.a l.n l.c] 49) = W5 := ⟨_, rfl⟩
            have HX5 : Hid (At W5 wr.heap.size [.int .i64 l.frm, .int .i64 l.to, .slice l.a l.n l.c]) := hidb (by rw [← hW5]; exact HX5.out)
            rw [hW5] at HB5 HO5 HQ5 ⊢
            clear hW5
            go_big_quiet (fail)
            go_wp2_with fail
            obtain ⟨wo, hwo⟩ : ∃ wo, wo = wr := ⟨_, rfl⟩
            subst hwo
            go_loopw [8] (fun iv wr => ∃ (k : Nat), k ≤ l.n ∧ iv = .int .i64 k ∧ (∀ (i : Nat) (q : Sg), i < k → l.sigs[i]? = some q → q.frm = l.frm ∧ q.to = l.to) ∧ Below W5.heap.size W5 wr) (fun iv _ => l.n - (RowKit.intOf iv).toNat)
            case atStart => exact ⟨0, by omega, rfl, fun i q h => by omega, below_drewN (Below.refl _ _) _⟩
            case round =>
              obtain ⟨k, hm, rfl, hri, hb⟩ := hrel
              have HRJ := hidb hri
              have HC := hidb hb
              clear hri hb
              have HXK := hidb (HX5.out.keep HC.out)
              obtain ⟨y0, -⟩ := HXK.out.1 0 _ rfl
              obtain ⟨y1, -⟩ := HXK.out.1 1 _ rfl
              obtain ⟨y2, -⟩ := HXK.out.1 2 _ rfl
              by_cases hkl : k < l.n
              · have hkb : (k : Int) < (l.n : Int) := by omega
                have hkz : (0 : Int) ≤ (k : Int) := by omega
                have hkw : IntKind.i64.wrap ((k : Int) + 1) = (k : Int) + 1 := by rw [IntKind.wrap_i64]; omega
                obtain ⟨x, b2, o2, hx, hla, hlt2, hc2⟩ := HSG.out.1.at k (by have := HSG.out.2.1; omega)
                rw [hla] at y2
                have hq := HB5.out.trans (HC.out.mono HB5.out.size)
                have d0 : wr.cell? ⟨b2, o2 + k * 12, none⟩ = some (.int .i64 x.frm) := (hq.cell (p := ⟨b2, o2 + k * 12, none⟩) hlt2).trans (hc2 0 (by omega))
                have d1 : wr.cell? ⟨b2, o2 + k * 12 + 1, none⟩ = some (.int .i64 x.to) := (hq.cell (p := ⟨b2, o2 + k * 12 + 1, none⟩) hlt2).trans (hc2 1 (by omega))
                have HPX := hidb hx
                clear hx hc2 hq hla
                by_cases hf : x.frm = l.frm
                · by_cases ht : x.to = l.to
                  · have HFT := hidb (And.intro hf ht)
                    clear hf ht
                    go_wp2_with fail
                    have G1 : (x.frm != l.frm) = false := by simpa using HFT.out.1
                    have G2 : (x.to != l.to) = false := by simpa using HFT.out.2
                    have G3 : (x.frm == l.frm) = true := by simpa using HFT.out.1
                    have G4 : (x.to == l.to) = true := by simpa using HFT.out.2
                    go_big_quiet (fail)
                    clear G1 G2 G3 G4
                    go_wp2_with fail
                    go_roundw
                    case rel =>
                      refine ⟨k + 1, by omega, by go_num, fun i q hi hq => ?_, below_drewN HC.out _⟩
                      by_cases hlt : i < k
                      · exact HRJ.out i q hlt hq
                      · obtain rfl : i = k := by omega
                        rw [HPX.out] at hq
                        obtain rfl := Option.some.inj hq
                        exact HFT.out
                    case measure => simp [RowKit.intOf]; omega
                  · have F := hidb (List.mem_of_getElem? HPX.out)
                    go_wp2_with fail
                    have G1 : (x.to != l.to) = true := by simpa using ht
                    have G2 : (x.to == l.to) = false := by simpa using ht
                    go_big_quiet (fail)
                    clear G1 G2
                    go_wp2_with fail
                    go_ret
                    exact ⟨⟨false, rfl, fun h => (by cases h), fun h => absurd ((h.2 0 l HP.out).2.2 x F.out).2 ht⟩, HQ5.out _ (below_drewN HC.out _)⟩
                · have F := hidb (List.mem_of_getElem? HPX.out)
                  go_wp2_with fail
                  have G1 : (x.frm != l.frm) = true := by simpa using hf
                  have G2 : (x.frm == l.frm) = false := by simpa using hf
                  go_big_quiet (fail)
                  clear G1 G2
                  go_wp2_with fail
                  go_ret
                  exact ⟨⟨false, rfl, fun h => (by cases h), fun h => absurd ((h.2 0 l HP.out).2.2 x F.out).1 hf⟩, HQ5.out _ (below_drewN HC.out _)⟩
              · have hkn : ¬ (k : Int) < (l.n : Int) := by omega
                go_wp2_with fail
                go_roundw
                case rel =>
                  refine ⟨0 + 1, by omega, by go_num, fun i q hi hq => ?_, HO5.out _ HC.out⟩
                  by_cases hlt : i < 0
                  · exact HRI.out i q hlt hq
                  · obtain rfl : i = 0 := by omega
                    rw [HP.out] at hq
                    obtain rfl := Option.some.inj hq
                    exact ⟨HN0.out, HAF.out, fun s hs => by
                      obtain ⟨i2, hi2⟩ := List.mem_iff_getElem?.1 hs
                      exact HRJ.out i2 s (by have := (List.getElem?_eq_some_iff.1 hi2).1; have := HSG.out.2.1; omega) hi2⟩
                case measure => simp [RowKit.intOf]; omega
          · have hi0 : (0 : Int) < (m : Int) := by omega
            have hmv : IntKind.i64.wrap ((m : Int) - 1) = ((m - 1 : Nat) : Int) := by rw [IntKind.wrap_i64]; omega
            obtain ⟨l', hl'⟩ : ∃ l', ls[m - 1]? = some l' := ⟨_, List.getElem?_eq_getElem (by have := HM.out; omega)⟩
            have HLE := hidb (HLA.out (m - 1) l' (by omega) hl')
            have HPL := hidb hl'
            have HM0 := hidb hm0
            clear hl' HLA hm0
            go_wp2_with fail
            obtain ⟨W5, hW5⟩ : ∃ W5, wr.alloc (.cells #[.int .i64 l.frm, .int .i64 l.to, .slice l.a l.n l.c] 49) = W5 := ⟨_, rfl⟩
            have HX5 : Hid (At W5 wr.heap.size [.int .i64 l.frm, .int .i64 l.to, .slice l.a l.n l.c]) := hidb (by rw [← hW5]; exact HX5.out)
            rw [hW5] at HB5 HO5 HQ5 ⊢
            clear hW5
            have hmy : ((m - 1 : Nat) : Int) < (nl : Int) := by omega
            have hmx : (0 : Int) ≤ ((m - 1 : Nat) : Int) := by omega
            have E0 : 0 < m := by have := HM0.out; omega
            have HXS := hidb ((HX0.out.keep HB.out).keep HB5.out)
            obtain ⟨s1, -⟩ := HXS.out.1 1 _ rfl
            obtain ⟨y0, -⟩ := HX5.out.1 0 _ rfl
            obtain ⟨y1, -⟩ := HX5.out.1 1 _ rfl
            have e0 : W5.cell? ⟨b, o + (m - 1) * 3, none⟩ = some (.int .i64 l'.frm) := (HB5.out.cell (p := ⟨b, o + (m - 1) * 3, none⟩) HLE.out.2.2).trans HLE.out.1
            have e1 : W5.cell? ⟨b, o + (m - 1) * 3 + 1, none⟩ = some (.int .i64 l'.to) := (HB5.out.cell (p := ⟨b, o + (m - 1) * 3 + 1, none⟩) HLE.out.2.2).trans HLE.out.2.1
            by_cases hg1 : l.frm < l'.frm
            · have E1 := decide_eq_true hg1
              go_big_quiet (fail)
              go_wp2_with fail
              go_ret
              exact ⟨⟨false, rfl, fun h => (by cases h), fun h => absurd ((h.2 m l HP.out).2.1 (m - 1) l' (by have := HM0.out; omega) HPL.out).1 (by omega)⟩, below_drewN (HQ5.out _ (Below.refl _ _)) _⟩
            have E1 := decide_eq_false hg1
            by_cases hg2 : l'.frm = l.frm
            · have E2 : (l'.frm == l.frm) = true := by simpa using hg2
              have E2' := decide_eq_true hg2
              by_cases hg3 : l.to ≤ l'.to
              · have E3 := decide_eq_true hg3
                go_big_quiet (fail)
                go_wp2_with fail
                go_ret
                exact ⟨⟨false, rfl, fun h => (by cases h), fun h => absurd ((h.2 m l HP.out).2.1 (m - 1) l' (by have := HM0.out; omega) HPL.out).2 (fun hh => hh ⟨hg2, hg3⟩)⟩, below_drewN (HQ5.out _ (Below.refl _ _)) _⟩
              · have E3 := decide_eq_false hg3
                have HAF : Hid (∀ (j : Nat) (l'' : Ln), m = j + 1 → ls[j]? = some l'' → l''.frm ≤ l.frm ∧ ¬ (l''.frm = l.frm ∧ l.to ≤ l''.to)) := hidb (fun j l'' h hl => by
                  obtain rfl : j = m - 1 := by omega
                  rw [HPL.out] at hl
                  obtain rfl := Option.some.inj hl
                  exact ⟨Int.not_lt.1 hg1, fun hh => hg3 hh.2⟩)
                clear hg1 hg2 hg3
                go_big_quiet (fail)
                clear E0 E1 E2 E2' E3 hi0 hmv hmy hmx s1 y0 y1 e0 e1 x0 x1 c0 c1 c2
                go_wp2_with fail
                obtain ⟨wo, hwo⟩ : ∃ wo, wo = wr := ⟨_, rfl⟩
                subst hwo
                go_loopw [8] (fun iv wr => ∃ (k : Nat), k ≤ l.n ∧ iv = .int .i64 k ∧ (∀ (i : Nat) (q : Sg), i < k → l.sigs[i]? = some q → q.frm = l.frm ∧ q.to = l.to) ∧ Below W5.heap.size W5 wr) (fun iv _ => l.n - (RowKit.intOf iv).toNat)
                case atStart => exact ⟨0, by omega, rfl, fun i q h => by omega, below_drewN (Below.refl _ _) _⟩
                case round =>
                  obtain ⟨k, hm, rfl, hri, hb⟩ := hrel
                  have HRJ := hidb hri
                  have HC := hidb hb
                  clear hri hb
                  have HXK := hidb (HX5.out.keep HC.out)
                  obtain ⟨y0, -⟩ := HXK.out.1 0 _ rfl
                  obtain ⟨y1, -⟩ := HXK.out.1 1 _ rfl
                  obtain ⟨y2, -⟩ := HXK.out.1 2 _ rfl
                  by_cases hkl : k < l.n
                  · have hkb : (k : Int) < (l.n : Int) := by omega
                    have hkz : (0 : Int) ≤ (k : Int) := by omega
                    have hkw : IntKind.i64.wrap ((k : Int) + 1) = (k : Int) + 1 := by rw [IntKind.wrap_i64]; omega
                    obtain ⟨x, b2, o2, hx, hla, hlt2, hc2⟩ := HSG.out.1.at k (by have := HSG.out.2.1; omega)
                    rw [hla] at y2
                    have hq := HB5.out.trans (HC.out.mono HB5.out.size)
                    have d0 : wr.cell? ⟨b2, o2 + k * 12, none⟩ = some (.int .i64 x.frm) := (hq.cell (p := ⟨b2, o2 + k * 12, none⟩) hlt2).trans (hc2 0 (by omega))
                    have d1 : wr.cell? ⟨b2, o2 + k * 12 + 1, none⟩ = some (.int .i64 x.to) := (hq.cell (p := ⟨b2, o2 + k * 12 + 1, none⟩) hlt2).trans (hc2 1 (by omega))
                    have HPX := hidb hx
                    clear hx hc2 hq hla
                    by_cases hf : x.frm = l.frm
                    · by_cases ht : x.to = l.to
                      · have HFT := hidb (And.intro hf ht)
                        clear hf ht
                        go_wp2_with fail
                        have G1 : (x.frm != l.frm) = false := by simpa using HFT.out.1
                        have G2 : (x.to != l.to) = false := by simpa using HFT.out.2
                        have G3 : (x.frm == l.frm) = true := by simpa using HFT.out.1
                        have G4 : (x.to == l.to) = true := by simpa using HFT.out.2
                        go_big_quiet (fail)
                        clear G1 G2 G3 G4
                        go_wp2_with fail
                        go_roundw
                        case rel =>
                          refine ⟨k + 1, by omega, by go_num, fun i q hi hq => ?_, below_drewN HC.out _⟩
                          by_cases hlt : i < k
                          · exact HRJ.out i q hlt hq
                          · obtain rfl : i = k := by omega
                            rw [HPX.out] at hq
                            obtain rfl := Option.some.inj hq
                            exact HFT.out
                        case measure => simp [RowKit.intOf]; omega
                      · have F := hidb (List.mem_of_getElem? HPX.out)
                        go_wp2_with fail
                        have G1 : (x.to != l.to) = true := by simpa using ht
                        have G2 : (x.to == l.to) = false := by simpa using ht
                        go_big_quiet (fail)
                        clear G1 G2
                        go_wp2_with fail
                        go_ret
                        exact ⟨⟨false, rfl, fun h => (by cases h), fun h => absurd ((h.2 m l HP.out).2.2 x F.out).2 ht⟩, HQ5.out _ (below_drewN HC.out _)⟩
                    · have F := hidb (List.mem_of_getElem? HPX.out)
                      go_wp2_with fail
                      have G1 : (x.frm != l.frm) = true := by simpa using hf
                      have G2 : (x.frm == l.frm) = false := by simpa using hf
                      go_big_quiet (fail)
                      clear G1 G2
                      go_wp2_with fail
                      go_ret
                      exact ⟨⟨false, rfl, fun h => (by cases h), fun h => absurd ((h.2 m l HP.out).2.2 x F.out).1 hf⟩, HQ5.out _ (below_drewN HC.out _)⟩
                  · have hkn : ¬ (k : Int) < (l.n : Int) := by omega
                    go_wp2_with fail
                    go_roundw
                    case rel =>
                      refine ⟨m + 1, by omega, by go_num, fun i q hi hq => ?_, HO5.out _ HC.out⟩
                      by_cases hlt : i < m
                      · exact HRI.out i q hlt hq
                      · obtain rfl : i = m := by omega
                        rw [HP.out] at hq
                        obtain rfl := Option.some.inj hq
                        exact ⟨HN0.out, HAF.out, fun s hs => by
                          obtain ⟨i2, hi2⟩ := List.mem_iff_getElem?.1 hs
                          exact HRJ.out i2 s (by have := (List.getElem?_eq_some_iff.1 hi2).1; have := HSG.out.2.1; omega) hi2⟩
                    case measure => simp [RowKit.intOf]; omega
            · have E2 : (l'.frm == l.frm) = false := by simpa using hg2
              have E2' := decide_eq_false hg2
              have HAF : Hid (∀ (j : Nat) (l'' : Ln), m = j + 1 → ls[j]? = some l'' → l''.frm ≤ l.frm ∧ ¬ (l''.frm = l.frm ∧ l.to ≤ l''.to)) := hidb (fun j l'' h hl => by
                obtain rfl : j = m - 1 := by omega
                rw [HPL.out] at hl
                obtain rfl := Option.some.inj hl
                exact ⟨Int.not_lt.1 hg1, fun hh => hg2 hh.1⟩)
              clear hg1 hg2
              go_big_quiet (fail)
              clear E0 E1 E2 E2' hi0 hmv hmy hmx s1 y0 y1 e0 e1 x0 x1 c0 c1 c2
              go_wp2_with fail
              obtain ⟨wo, hwo⟩ : ∃ wo, wo = wr := ⟨_, rfl⟩
              subst hwo
              go_loopw [8] (fun iv wr => ∃ (k : Nat), k ≤ l.n ∧ iv = .int .i64 k ∧ (∀ (i : Nat) (q : Sg), i < k → l.sigs[i]? = some q → q.frm = l.frm ∧ q.to = l.to) ∧ Below W5.heap.size W5 wr) (fun iv _ => l.n - (RowKit.intOf iv).toNat)
              case atStart => exact ⟨0, by omega, rfl, fun i q h => by omega, below_drewN (Below.refl _ _) _⟩
              case round =>
                obtain ⟨k, hm, rfl, hri, hb⟩ := hrel
                have HRJ := hidb hri
                have HC := hidb hb
                clear hri hb
                have HXK := hidb (HX5.out.keep HC.out)
                obtain ⟨y0, -⟩ := HXK.out.1 0 _ rfl
                obtain ⟨y1, -⟩ := HXK.out.1 1 _ rfl
                obtain ⟨y2, -⟩ := HXK.out.1 2 _ rfl
                by_cases hkl : k < l.n
                · have hkb : (k : Int) < (l.n : Int) := by omega
                  have hkz : (0 : Int) ≤ (k : Int) := by omega
                  have hkw : IntKind.i64.wrap ((k : Int) + 1) = (k : Int) + 1 := by rw [IntKind.wrap_i64]; omega
                  obtain ⟨x, b2, o2, hx, hla, hlt2, hc2⟩ := HSG.out.1.at k (by have := HSG.out.2.1; omega)
                  rw [hla] at y2
                  have hq := HB5.out.trans (HC.out.mono HB5.out.size)
                  have d0 : wr.cell? ⟨b2, o2 + k * 12, none⟩ = some (.int .i64 x.frm) := (hq.cell (p := ⟨b2, o2 + k * 12, none⟩) hlt2).trans (hc2 0 (by omega))
                  have d1 : wr.cell? ⟨b2, o2 + k * 12 + 1, none⟩ = some (.int .i64 x.to) := (hq.cell (p := ⟨b2, o2 + k * 12 + 1, none⟩) hlt2).trans (hc2 1 (by omega))
                  have HPX := hidb hx
                  clear hx hc2 hq hla
                  by_cases hf : x.frm = l.frm
                  · by_cases ht : x.to = l.to
                    · have HFT := hidb (And.intro hf ht)
                      clear hf ht
                      go_wp2_with fail
                      have G1 : (x.frm != l.frm) = false := by simpa using HFT.out.1
                      have G2 : (x.to != l.to) = false := by simpa using HFT.out.2
                      have G3 : (x.frm == l.frm) = true := by simpa using HFT.out.1
                      have G4 : (x.to == l.to) = true := by simpa using HFT.out.2
                      go_big_quiet (fail)
                      clear G1 G2 G3 G4
                      go_wp2_with fail
                      go_roundw
                      case rel =>
                        refine ⟨k + 1, by omega, by go_num, fun i q hi hq => ?_, below_drewN HC.out _⟩
                        by_cases hlt : i < k
                        · exact HRJ.out i q hlt hq
                        · obtain rfl : i = k := by omega
                          rw [HPX.out] at hq
                          obtain rfl := Option.some.inj hq
                          exact HFT.out
                      case measure => simp [RowKit.intOf]; omega
                    · have F := hidb (List.mem_of_getElem? HPX.out)
                      go_wp2_with fail
                      have G1 : (x.to != l.to) = true := by simpa using ht
                      have G2 : (x.to == l.to) = false := by simpa using ht
                      go_big_quiet (fail)
                      clear G1 G2
                      go_wp2_with fail
                      go_ret
                      exact ⟨⟨false, rfl, fun h => (by cases h), fun h => absurd ((h.2 m l HP.out).2.2 x F.out).2 ht⟩, HQ5.out _ (below_drewN HC.out _)⟩
                  · have F := hidb (List.mem_of_getElem? HPX.out)
                    go_wp2_with fail
                    have G1 : (x.frm != l.frm) = true := by simpa using hf
                    have G2 : (x.frm == l.frm) = false := by simpa using hf
                    go_big_quiet (fail)
                    clear G1 G2
                    go_wp2_with fail
                    go_ret
                    exact ⟨⟨false, rfl, fun h => (by cases h), fun h => absurd ((h.2 m l HP.out).2.2 x F.out).1 hf⟩, HQ5.out _ (below_drewN HC.out _)⟩
                · have hkn : ¬ (k : Int) < (l.n : Int) := by omega
                  go_wp2_with fail
                  go_roundw
                  case rel =>
                    refine ⟨m + 1, by omega, by go_num, fun i q hi hq => ?_, HO5.out _ HC.out⟩
                    by_cases hlt : i < m
                    · exact HRI.out i q hlt hq
                    · obtain rfl : i = m := by omega
                      rw [HP.out] at hq
                      obtain rfl := Option.some.inj hq
                      exact ⟨HN0.out, HAF.out, fun s hs => by
                        obtain ⟨i2, hi2⟩ := List.mem_iff_getElem?.1 hs
                        exact HRJ.out i2 s (by have := (List.getElem?_eq_some_iff.1 hi2).1; have := HSG.out.2.1; omega) hi2⟩
                  case measure => simp [RowKit.intOf]; omega
        · have hmn : ¬ (m : Int) < (nl : Int) := by omega
          go_wp2_with fail
          go_ret
          exact ⟨⟨true, rfl, fun _ => ⟨HPS.out, fun i l hl => HRI.out i l (by have := (List.getElem?_eq_some_iff.1 hl).1; have := HM.out; omega) hl⟩, fun _ => rfl⟩, HB1.out.trans (HB.out.mono HB1.out.size)⟩
end Go.Proofs.Ytjiigabfdigkaaa


/- Whether the lanes are in order, as the program asks. -/
namespace Go.Proofs.Ytjiigabfdigkaaa
open Go.RowKit Go.Shelf
attribute [local go_sem] store_float Oper.semAt_some

def SigOk (ls : List Ln) (x : Spt) : Prop := ∀ l, ls[x.i]? = some l → x.s.frm = l.frm ∧ x.s.to = l.to
def LnOk (ls : List Ln) : Prop := (∀ l ∈ ls, 0 < l.n) ∧ (∀ x ∈ allS ls, SigOk ls x) ∧ RiseE ls
set_option maxHeartbeats 4000000 in
set_option maxRecDepth 10000 in
theorem inorder_any (w : World) (la : Option Addr) (cl nl : Nat) (ls : List Ln) (hs : LnIn w la ls) (hnl : ls.length = nl) :
    Calls Try.prog 17 #[.slice la nl cl] w (Says (LnOk ls) w) := by
  have HM := hidb hnl
  have HS := hidb hs
  have h63 : nl ≤ 9223372036854775807 := hnl ▸ hs.ll
  clear hs hnl
  refine calls_marks Try.func17 rfl ?_
  simp only [Try.ntmps17, List.size_toArray, List.length_cons, List.length_nil, Nat.reduceAdd, Nat.reduceSub, Array.replicate_succ, Array.replicate_zero, List.push_toArray, List.append_toArray, List.nil_append, List.cons_append]
  go_wp2_with fail
  obtain ⟨W0, hW0⟩ : ∃ W0, (w.alloc (.cells #[.slice la nl cl] 23)).alloc (.cells #[.bool false] 4) = W0 := ⟨_, rfl⟩
  have HB0 : Hid (Below w.heap.size w W0) := hidb (by rw [← hW0]; exact (below_new w _).alloc (by simp) _)
  have HU0 : Hid (At W0 w.heap.size [.slice la nl cl]) := hidb (by rw [← hW0]; exact (At.new w [.slice la nl cl] 23).keep (below_new _ _))
  obtain ⟨rb, hrb⟩ : ∃ rb, w.heap.size + 1 = rb := ⟨_, rfl⟩
  have HR0 : Hid (At W0 rb [.bool false]) := hidb (by
    have h := At.new (w.alloc (.cells #[.slice la nl cl] 23)) [.bool false] 4
    rw [World.size_alloc, hrb] at h
    rw [← hW0]
    exact h)
  have HRB : Hid (w.heap.size + 1 = rb) := hidb hrb
  rw [hrb, hW0]
  clear hrb hW0
  go_loopw [10] (fun iv wr => ∃ (m : Nat), m ≤ nl ∧ iv = .int .i64 m ∧ (∀ (i : Nat) (q : Ln), i < m → ls[i]? = some q → 0 < q.n) ∧ Below W0.heap.size W0 wr) (fun iv _ => nl - (RowKit.intOf iv).toNat)
  case atStart => exact ⟨0, by omega, rfl, fun i q h => by omega, Below.refl _ _⟩
  case round =>
    obtain ⟨m, hm, rfl, hri, hb⟩ := hrel
    have HRI := hidb hri
    have HB := hidb hb
    have HRC : Hid (wr.cell? ⟨rb, 0, none⟩ = some (.bool false) ∧ wr.frozen? ⟨rb, 0, none⟩ = false) := hidb (by have h := HR0.out.keep hb; exact h.1 0 _ rfl)
    clear hri hb
    by_cases hml : m < nl
    · have hmb : (m : Int) < (nl : Int) := by omega
      have hmz : (0 : Int) ≤ (m : Int) := by omega
      have hmw : IntKind.i64.wrap ((m : Int) + 1) = (m : Int) + 1 := by rw [IntKind.wrap_i64]; omega
      obtain ⟨l, b, o, hl, hla, hlt, hc⟩ := (HS.out.keep (HB0.out.trans (HB.out.mono HB0.out.size))).lanes.at m (by have := HM.out; omega)
      have c0 : wr.cell? ⟨b, o + m * 3, none⟩ = some (.int .i64 l.frm) := hc 0 (by omega)
      have c1 : wr.cell? ⟨b, o + m * 3 + 1, none⟩ = some (.int .i64 l.to) := hc 1 (by omega)
      have c2 : wr.cell? ⟨b, o + m * 3 + 2, none⟩ = some (.slice l.a l.n l.c) := hc 2 (by omega)
      have HLL := hidb hl
      have HLM := hidb (List.mem_of_getElem? hl)
      rw [hla]
      clear hl hla hc
      have hrlt : rb < wr.heap.size := World.block_lt_of_cell? _ _ HRC.out.1
      obtain ⟨r0, r1⟩ := HRC.out
      by_cases he : l.n = 0
      · have HE := hidb he
        have he2 : ((l.n : Int) == 0) = true := by simp [he]
        clear he
        go_wp2_with fail
        have hb9 : But (fun k => k = rb) W0 ((wr.setCell ⟨rb, 0, none⟩ (.bool false)).alloc (.cells #[.int .i64 l.frm, .int .i64 l.to, .slice l.a l.n l.c] 49)) := ((But.of_below (S := fun k => k = rb) HB.out).setCell (p := ⟨rb, 0, none⟩) (fun _ => rfl) _).alloc _
        have hc9 : ((wr.setCell ⟨rb, 0, none⟩ (.bool false)).alloc (.cells #[.int .i64 l.frm, .int .i64 l.to, .slice l.a l.n l.c] 49)).cell? ⟨rb, 0, none⟩ = some (.bool false) := by
          have h : (wr.setCell ⟨rb, 0, none⟩ (.bool false)).cell? ⟨rb, 0, none⟩ = some (.bool false) := World.cell?_setCell_same _ _ _ HRC.out.1
          exact ((below_new (wr.setCell ⟨rb, 0, none⟩ (.bool false)) _).cell (p := ⟨rb, 0, none⟩) (World.block_lt_of_cell? _ _ h)).trans h
        generalize (wr.setCell ⟨rb, 0, none⟩ (.bool false)).alloc (.cells #[.int .i64 l.frm, .int .i64 l.to, .slice l.a l.n l.c] 49) = W9 at hb9 hc9 ⊢
        have hz4 := HRB.out

        refine retM [] rfl (fun E hE => by simp at hE) (by simp) (fun W' hb => ?_)
        have hc' : W'.cell? ⟨rb, 0, none⟩ = some (.bool false) := (hb.cell (p := ⟨rb, 0, none⟩) (World.block_lt_of_cell? _ _ hc9) (by simp)).trans hc9
        exact ⟨.bool false, by simp [results, Try.results17, go_sem, hc'], ⟨false, rfl, fun h => (by cases h), fun h => absurd (h.1 l HLM.out) (by have := HE.out; omega)⟩, (HB0.out.trans (hb9.below HB0.out.size (fun k hk => by omega))).trans (hb.below (Nat.le_trans HB0.out.size hb9.size) (fun k hk => by simp at hk))⟩
      · have HE := hidb he
        have he2 : ((l.n : Int) == 0) = false := by simpa using he
        clear he
        go_wp2_with fail
        go_roundw
        case rel =>
          refine ⟨m + 1, by omega, by go_num, fun i q hi hq => ?_, HB.out.trans ((below_new wr _).mono HB.out.size)⟩
          by_cases hlt : i < m
          · exact HRI.out i q hlt hq
          · obtain rfl : i = m := by omega
            rw [HLL.out] at hq
            obtain rfl := Option.some.inj hq
            have := HE.out
            omega
        case measure => simp [RowKit.intOf]; omega
    · have hmn : ¬ (m : Int) < (nl : Int) := by omega
      have HPOS : Hid (∀ l ∈ ls, 0 < l.n) := hidb (fun l hl => by
        obtain ⟨i2, hi2⟩ := List.mem_iff_getElem?.1 hl
        exact HRI.out i2 l (by have := (List.getElem?_eq_some_iff.1 hi2).1; have := HM.out; omega) hi2)
      have u0 := ((HU0.out.keep HB.out).1 0 _ rfl).1
      go_wp2_with fail
      refine (under_any _ la nl cl).mono ?_
      rintro e w7 ⟨rfl, hw7⟩
      have HU7 : Hid (At w7 wr.heap.size [.slice la nl cl]) := hidb (by rw [hw7]; exact At.new wr [.slice la nl cl] 23)
      have HB7 : Hid (Below wr.heap.size wr w7) := hidb (by rw [hw7]; exact below_new wr _)
      have HRC7 : Hid (At w7 rb [.bool false]) := hidb ((HR0.out.keep HB.out).keep HB7.out)
      have HUC7 : Hid (At w7 w.heap.size [.slice la nl cl]) := hidb ((HU0.out.keep HB.out).keep HB7.out)
      have HBW : Hid (Below w.heap.size w w7) := hidb ((HB0.out.trans (HB.out.mono HB0.out.size)).trans (HB7.out.mono (Nat.le_trans HB0.out.size HB.out.size)))
      obtain ⟨ub, hub⟩ : ∃ ub, wr.heap.size = ub := ⟨_, rfl⟩
      rw [hub] at HU7 ⊢
      clear hub hw7 HRC u0 HRI
      have hseq := under_o (cl := cl) HS.out HBW.out (u := ub) (by rw [HM.out]; exact (HU7.out.1 0 _ rfl).1)
      have HSQ := hidb hseq
      clear hseq hmn hml
      go_wp2_with fail
      have hrl : rb < w7.heap.size := HRC7.out.lt
      have HRL := hidb hrl
      have HRC7' := hidb (HRC7.out.1 0 _ rfl)
      refine range_q (w := w7) (gf := 26) (lb := #[.pointer (some ⟨ub, 0, none⟩)]) rfl (enters_of Try.func26 (by kernel_rfl) rfl) HSQ.out (fun k hk => Nat.le_trans HBW.out.size hk) (Below.refl _ _) (fun _ => rfl)
        (fun pre W => (∀ x ∈ pre, SigOk ls x) ∧ (But (fun k => k = rb) w7 W ∧ (W.cell? ⟨rb, 0, none⟩ = some (.bool false) ∧ W.frozen? ⟨rb, 0, none⟩ = false)))
        (fun c pre W => (c = .ret ∧ ¬ ∀ x ∈ pre, SigOk ls x) ∧ (But (fun k => k = rb) w7 W ∧ (W.cell? ⟨rb, 0, none⟩ = some (.bool false) ∧ W.frozen? ⟨rb, 0, none⟩ = false)))
        (OwnFrom.and (ownFrom_true _) (OwnFrom.and (OwnFrom.but (Nat.le_refl _)) (OwnFrom.cells _ (fun _ => .bool false))))
        (fun c => OwnFrom.and (ownFrom_true _) (OwnFrom.and (OwnFrom.but (Nat.le_refl _)) (OwnFrom.cells _ (fun _ => .bool false))))
        ⟨fun x h => (by cases h), But.refl _ _, HRC7'.out⟩
        (fun s W => ∃ B, (s.2.2.tmps[5]? = some (.pointer (some ⟨B, 0, none⟩)) ∧ s.2.2.tmps[6]? = some (.pointer (some ⟨B + 1, 0, none⟩)) ∧ ∀ x ∈ s.1, SigOk ls x) ∧ (But (fun k => k = rb) w7 W ∧ (W.cell? ⟨rb, 0, none⟩ = some (.bool false) ∧ W.frozen? ⟨rb, 0, none⟩ = false)) ∧ (W.cell? ⟨B, 0, none⟩ = some (.int .i64 (s.2.1.i : Int)) ∧ W.frozen? ⟨B, 0, none⟩ = false) ∧ (W.cell? ⟨B + 1, 0, none⟩ = some (.int .i64 s.2.1.s.frm) ∧ W.frozen? ⟨B + 1, 0, none⟩ = false) ∧ (W.cell? ⟨B + 1, 1, none⟩ = some (.int .i64 s.2.1.s.to) ∧ W.frozen? ⟨B + 1, 1, none⟩ = false))
        ?hH ?round ?done ?stop
      case hH =>
        rintro s A C row ⟨B, h0, ⟨h1, h2⟩, h3, h4, h5⟩ hg hr
        exact ⟨B, h0, ⟨OwnFrom.but (β := Unit) (Nat.le_refl _) () A C row h1 hg hr, OwnFrom.cells _ (fun _ : Unit => .bool false) () A C row h2 hg hr⟩, OwnFrom.cells _ (fun _ : Unit => .int .i64 (s.2.1.i : Int)) () A C row h3 hg hr, OwnFrom.cells _ (fun _ : Unit => .int .i64 s.2.1.s.frm) () A C row h4 hg hr, OwnFrom.cells _ (fun _ : Unit => .int .i64 s.2.1.s.to) () A C row h5 hg hr⟩
      case round =>
        intro l2 pre x W hok hlen hI hsz
        obtain ⟨hpre, hbt, hcc⟩ := hI
        have HOK := hidb (And.intro hok hlen)
        have HPRE := hidb hpre
        have HBT := hidb hbt
        have HCC := hidb hcc
        clear hok hlen hpre hbt hcc
        gi_wp2
        have hbn : Below W.heap.size W ((W.alloc (.cells #[.int .i64 (x.i : Int), .int .i64 (x.k : Int)] 66)).alloc (.cells #[.int .i64 x.s.frm, .int .i64 x.s.to, .int .i64 x.s.k, .int .i64 x.s.id, .int .i64 x.s.ref, .bool x.s.link, .string x.s.name, .int .i64 x.s.tk, .int .i64 x.s.tn, .float .f64 x.s.tf, .string x.s.ts, .slice x.s.ta x.s.tl x.s.tc] 64)) := (below_new W _).alloc (by simp) _
        have A1 := (At.new W [.int .i64 (x.i : Int), .int .i64 (x.k : Int)] 66).keep (below_new _ (.cells #[.int .i64 x.s.frm, .int .i64 x.s.to, .int .i64 x.s.k, .int .i64 x.s.id, .int .i64 x.s.ref, .bool x.s.link, .string x.s.name, .int .i64 x.s.tk, .int .i64 x.s.tn, .float .f64 x.s.tf, .string x.s.ts, .slice x.s.ta x.s.tl x.s.tc] 64))
        have A2 := At.new (W.alloc (.cells #[.int .i64 (x.i : Int), .int .i64 (x.k : Int)] 66)) [.int .i64 x.s.frm, .int .i64 x.s.to, .int .i64 x.s.k, .int .i64 x.s.id, .int .i64 x.s.ref, .bool x.s.link, .string x.s.name, .int .i64 x.s.tk, .int .i64 x.s.tn, .float .f64 x.s.tf, .string x.s.ts, .slice x.s.ta x.s.tl x.s.tc] 64
        rw [World.size_alloc] at A2
        have hrw : rb < W.heap.size := World.block_lt_of_cell? _ _ HCC.out.1
        refine ⟨hbn, ⟨W.heap.size, ⟨rfl, rfl, HPRE.out⟩, ⟨HBT.out.trans (But.of_below hbn), (hbn.cell (p := ⟨rb, 0, none⟩) hrw).trans HCC.out.1, (hbn.frozen (p := ⟨rb, 0, none⟩) hrw).trans HCC.out.2⟩, A1.1 0 _ rfl, A2.1 0 _ rfl, A2.1 1 _ rfl⟩, ?_⟩
        clear A1 A2 hbn hrw HPRE HBT HCC
        rintro W1 ⟨B, ⟨hB5, hB6, hpre⟩, ⟨hbt, hcc⟩, h3, h4, h5⟩ hsz1
        obtain rfl : W.heap.size = B := by simpa using hB5
        have HPRE := hidb hpre
        have HBT := hidb hbt
        have HCC := hidb hcc
        obtain ⟨l, hl, hls⟩ := allS_mem HOK.out.1
        have hil := (List.getElem?_eq_some_iff.1 hl).1
        have hbw1 : Below w.heap.size w W1 := HBW.out.trans (hbt.below HBW.out.size (fun k hk => by have := HRB.out; omega))
        obtain ⟨b, o, hla, hlt, hc⟩ := (HS.out.keep hbw1).lanes x.i l hl
        have c0 : W1.cell? ⟨b, o + x.i * 3, none⟩ = some (.int .i64 l.frm) := hc 0 (by omega)
        have c1 : W1.cell? ⟨b, o + x.i * 3 + 1, none⟩ = some (.int .i64 l.to) := hc 1 (by omega)
        have c2 : W1.cell? ⟨b, o + x.i * 3 + 2, none⟩ = some (.slice l.a l.n l.c) := hc 2 (by omega)
        have u0 : W1.cell? ⟨w.heap.size, 0, none⟩ = some (.slice la nl cl) := (hbt.cell (p := ⟨w.heap.size, 0, none⟩) HUC7.out.lt (show ¬ w.heap.size = rb by have := HRB.out; omega)).trans (HUC7.out.1 0 _ rfl).1
        have hxb : (x.i : Int) < (nl : Int) := by have := HM.out; omega
        have hxz : (0 : Int) ≤ (x.i : Int) := by omega
        obtain ⟨s0, -⟩ := h3
        obtain ⟨g0, -⟩ := h4
        obtain ⟨g1, -⟩ := h5
        have hr1 : rb < W1.heap.size := World.block_lt_of_cell? _ _ hcc.1
        have hw1 : W.heap.size < W1.heap.size := World.block_lt_of_cell? _ _ s0
        have hw2 : W.heap.size + 1 < W1.heap.size := World.block_lt_of_cell? _ _ g0
        obtain ⟨r0, r1⟩ := hcc
        have HXO : Hid (SigOk ls x ↔ (x.s.frm = l.frm ∧ x.s.to = l.to)) := hidb ⟨fun h => h l hl, fun h l' hl' => by rw [hl] at hl'; obtain rfl := Option.some.inj hl'; exact h⟩
        have HLA := hidb hla
        rw [hla] at u0
        clear hpre hbt hl hls hil hbw1 hla hc hB5 hB6 hsz hsz1
        refine wpIn_block ?_
        by_cases e1 : x.s.frm = l.frm
        · by_cases e2 : x.s.to = l.to
          · have HE := hidb (HXO.out.2 ⟨e1, e2⟩)
            have b1 : (x.s.frm != l.frm) = false := by simpa using e1
            have b2 : (x.s.to != l.to) = false := by simpa using e2
            clear e1 e2
            gi_wp2_with fail
            have hbn := below_new W1 (.cells #[.int .i64 l.frm, .int .i64 l.to, .slice l.a l.n l.c] 49)
            refine ⟨But.of_below hbn, fun y hy => ?_, HBT.out.trans (But.of_below hbn), (hbn.cell (p := ⟨rb, 0, none⟩) (World.block_lt_of_cell? _ _ HCC.out.1)).trans HCC.out.1, (hbn.frozen (p := ⟨rb, 0, none⟩) (World.block_lt_of_cell? _ _ HCC.out.1)).trans HCC.out.2⟩
            rcases List.mem_append.1 hy with h | h
            · exact HPRE.out y h
            · rw [List.mem_singleton.1 h]; exact HE.out
          · have HE : Hid (¬ SigOk ls x) := hidb (fun h => e2 (HXO.out.1 h).2)
            have b1 : (x.s.frm != l.frm) = false := by simpa using e1
            have b2 : (x.s.to != l.to) = true := by simpa using e2
            clear e1 e2
            gi_wp2_with fail
            have hb1 : But (fun k => k = rb) W1 (W1.setCell ⟨rb, 0, none⟩ (.bool false)) := (But.refl (fun k => k = rb) _).setCell (p := ⟨rb, 0, none⟩) (fun _ => rfl) _
            have hs1 : (W1.setCell ⟨rb, 0, none⟩ (.bool false)).cell? ⟨rb, 0, none⟩ = some (.bool false) := World.cell?_setCell_same _ _ _ HCC.out.1
            have hf1 : (W1.setCell ⟨rb, 0, none⟩ (.bool false)).frozen? ⟨rb, 0, none⟩ = false := by rw [World.frozen?_setCell]; exact HCC.out.2
            have hbn := below_new (W1.setCell ⟨rb, 0, none⟩ (.bool false)) (.cells #[.int .i64 l.frm, .int .i64 l.to, .slice l.a l.n l.c] 49)
            have hb2 := hb1.trans (But.of_below hbn)
            refine ⟨hb2.mono (fun k _ hk => ⟨by have := HRB.out; omega, .inl (by have := HRL.out; omega)⟩), ⟨rfl, fun h => HE.out (h x (by simp))⟩, HBT.out.trans hb2, (hbn.cell (p := ⟨rb, 0, none⟩) (World.block_lt_of_cell? _ _ hs1)).trans hs1, (hbn.frozen (p := ⟨rb, 0, none⟩) (World.block_lt_of_cell? _ _ hs1)).trans hf1⟩
        · have HE : Hid (¬ SigOk ls x) := hidb (fun h => e1 (HXO.out.1 h).1)
          have b1 : (x.s.frm != l.frm) = true := by simpa using e1
          clear e1
          gi_wp2_with fail
          have hb1 : But (fun k => k = rb) W1 (W1.setCell ⟨rb, 0, none⟩ (.bool false)) := (But.refl (fun k => k = rb) _).setCell (p := ⟨rb, 0, none⟩) (fun _ => rfl) _
          have hs1 : (W1.setCell ⟨rb, 0, none⟩ (.bool false)).cell? ⟨rb, 0, none⟩ = some (.bool false) := World.cell?_setCell_same _ _ _ HCC.out.1
          have hf1 : (W1.setCell ⟨rb, 0, none⟩ (.bool false)).frozen? ⟨rb, 0, none⟩ = false := by rw [World.frozen?_setCell]; exact HCC.out.2
          have hbn := below_new (W1.setCell ⟨rb, 0, none⟩ (.bool false)) (.cells #[.int .i64 l.frm, .int .i64 l.to, .slice l.a l.n l.c] 49)
          have hb2 := hb1.trans (But.of_below hbn)
          refine ⟨hb2.mono (fun k _ hk => ⟨by have := HRB.out; omega, .inl (by have := HRL.out; omega)⟩), ⟨rfl, fun h => HE.out (h x (by simp))⟩, HBT.out.trans hb2, (hbn.cell (p := ⟨rb, 0, none⟩) (World.block_lt_of_cell? _ _ hs1)).trans hs1, (hbn.frozen (p := ⟨rb, 0, none⟩) (World.block_lt_of_cell? _ _ hs1)).trans hf1⟩
      case stop =>
        rintro D c pre W hD hp ⟨⟨rfl, hne⟩, hbt, hc, hf⟩ hK
        have HNE := hidb (And.intro hne hp)
        have HBT := hidb hbt
        have HDK := hidb (And.intro hD hK)
        clear hne hp hbt hD hK hf
        go_wp2_with fail
        have hz1 := HDK.out.1
        have hz2 := HRL.out
        have hz3 := HBW.out.size
        have hz4 := HRB.out
        refine retM [D] rfl (fun E hE => by simp at hE; rw [hE]; exact HDK.out.2) (by simp) (fun W' hb => ?_)
        have hc' : W'.cell? ⟨rb, 0, none⟩ = some (.bool false) := (hb.cell (p := ⟨rb, 0, none⟩) (World.block_lt_of_cell? _ _ hc) (by simp; omega)).trans hc
        refine ⟨.bool false, by simp [results, Try.results17, go_sem, hc'], ⟨false, rfl, fun h => (by cases h), fun h => ?_⟩, ?_⟩
        · exact absurd (fun x hx => h.2.1 x (HNE.out.2.subset hx)) HNE.out.1
        · exact below_taken (HBW.out.trans (HBT.out.below HBW.out.size (fun k hk => by omega))) hb (by omega)
      case done =>
        intro D xs W hD hS hI hK
        obtain ⟨hall, hbt, hc, hf⟩ := hI
        have HAL : Hid (∀ x ∈ allS ls, SigOk ls x) := hidb (by rw [← show xs = allS ls from hS]; exact hall)
        have HBT := hidb hbt
        have HDK := hidb (And.intro hD hK)
        have HFF := hidb (And.intro hc hf)
        have HBX : Hid (Below w.heap.size w W) := hidb (HBW.out.trans (hbt.below HBW.out.size (fun k hk => by have := HRB.out; omega)))
        have u0 : W.cell? ⟨w.heap.size, 0, none⟩ = some (.slice la nl cl) := (hbt.cell (p := ⟨w.heap.size, 0, none⟩) HUC7.out.lt (show ¬ w.heap.size = rb by have := HRB.out; omega)).trans (HUC7.out.1 0 _ rfl).1
        clear hall hbt hD hK hS hc hf
        go_wp2_with fail
        refine (risingL_any W la cl nl ls (HS.out.keep HBX.out).lanes HM.out h63).mono ?_
        rintro e w9 ⟨⟨r, rfl, hr⟩, hb9⟩
        have HR9 := hidb hr
        have HB9 := hidb hb9
        have r0 : w9.cell? ⟨rb, 0, none⟩ = some (.bool false) := (hb9.cell (p := ⟨rb, 0, none⟩) (World.block_lt_of_cell? _ _ HFF.out.1)).trans HFF.out.1
        have r1 : w9.frozen? ⟨rb, 0, none⟩ = false := (hb9.frozen (p := ⟨rb, 0, none⟩) (World.block_lt_of_cell? _ _ HFF.out.1)).trans HFF.out.2
        have HR0 := hidb r0
        clear hr hb9 u0
        go_wp2_with fail
        have hb9 : But (fun k => k = rb) W (w9.setCell ⟨rb, 0, none⟩ (.bool r)) := (But.of_below (S := fun k => k = rb) HB9.out).setCell (p := ⟨rb, 0, none⟩) (fun _ => rfl) _
        have hc9 : (w9.setCell ⟨rb, 0, none⟩ (.bool r)).cell? ⟨rb, 0, none⟩ = some (.bool r) := World.cell?_setCell_same _ _ _ HR0.out
        generalize w9.setCell ⟨rb, 0, none⟩ (.bool r) = W9 at hb9 hc9 ⊢
        have hz1 := HDK.out.1
        have hz2 := HRL.out
        have hz3 := HBW.out.size
        have hz4 := HRB.out
        refine retM [D] rfl (fun E hE => by simp at hE; rw [hE]; exact held_at hb9 HDK.out.2 (by omega)) (by simp) (fun W' hb => ?_)
        have hc' : W'.cell? ⟨rb, 0, none⟩ = some (.bool r) := (hb.cell (p := ⟨rb, 0, none⟩) (World.block_lt_of_cell? _ _ hc9) (by simp; omega)).trans hc9
        exact ⟨.bool r, by simp [results, Try.results17, go_sem, hc'], ⟨r, rfl, fun h => ⟨HPOS.out, HAL.out, HR9.out.1 h⟩, fun h => HR9.out.2 h.2.2⟩, below_taken (HBX.out.trans (hb9.below HBX.out.size (fun k hk => by omega))) hb (by omega)⟩
end Go.Proofs.Ytjiigabfdigkaaa


