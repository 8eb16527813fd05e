import Derived.Test.YtjiigabfdigkaaaG11
import Derived.Test.YtjiigabfdigkaaaG10
/- Of a state: whether halves are on both sides. -/
namespace Go.Proofs.Ytjiigabfdigkaaa
open Go.RowKit

attribute [local go_sem] store_float
def AllL (p : Pc) : Prop := ∀ h ∈ p.links, h.st = 1
def MutL (ps : List Pc) (p : Pc) : Prop := Alv p.st → ∀ h ∈ p.links, Holds ps h.pid p.pid
/-- What is told of halves on both sides. -/
def LkSays (ps : List Pc) (w : World) (e : Ending) (w' : World) : Prop := (∃ al mu : Bool, e = .returned (.tuple #[.bool al, .bool mu]) ∧ (al = true ↔ ∀ p ∈ ps, AllL p) ∧ (mu = true ↔ ∀ p ∈ ps, MutL ps p)) ∧ Below w.heap.size w w'
set_option maxHeartbeats 4000000 in
set_option maxRecDepth 10000 in
theorem linked_any (w : World) (pa la : Option Addr) (cp cl np nl : Nat) (ps : List Pc) (ls : List Ln) (oa : Option Addr) (no co : Nat) (hs : StIn w pa ps la ls) (hnp : ps.length = np) :
    Calls Try.prog 19 #[stV pa np cp la nl cl oa no co] w (LkSays ps w) := by
  have HS := hidb hs
  have HN := hidb hnp
  have h63 : np ≤ 9223372036854775807 := hnp ▸ hs.lp
  clear hs hnp
  have HX0 := hidb (At.new w [.slice pa np cp, .slice la nl cl, .slice oa no co] 26)
  go_enter Try.func19, Try.ntmps19
  go_wp2_with fail
  obtain ⟨W0, hW0⟩ : ∃ W0, w.alloc (.cells #[.slice pa np cp, .slice la nl cl, .slice oa no co] 26) = W0 := ⟨_, rfl⟩
  have HB1 : Hid (Below w.heap.size w W0) := hidb (by rw [← hW0]; exact below_new w _)
  rw [hW0] at HX0 ⊢
  clear hW0
  go_loopw [4, 5, 6] (fun av bv iv wr => ∃ (m : Nat) (al mu : Bool), m ≤ np ∧ av = .bool al ∧ bv = .bool mu ∧ iv = .int .i64 m ∧ ((al = true ↔ ∀ (i : Nat) (q : Pc), i < m → ps[i]? = some q → AllL q) ∧ (mu = true ↔ ∀ (i : Nat) (q : Pc), i < m → ps[i]? = some q → MutL ps q)) ∧ Below W0.heap.size W0 wr) (fun _ _ iv _ => np - (RowKit.intOf iv).toNat)
  case atStart => exact ⟨0, true, true, by omega, rfl, rfl, rfl, ⟨by rw [all_zero]; simp, by rw [all_zero]; simp⟩, Below.refl _ _⟩
  case round =>
    obtain ⟨m, al, mu, hm, rfl, rfl, rfl, hri, hb⟩ := hrel
    have HRI := hidb hri
    have HB := hidb hb
    clear hri hb
    have HX := hidb (HX0.out.keep HB.out)
    obtain ⟨x0, -⟩ := HX.out.1 0 _ rfl
    obtain ⟨x1, -⟩ := HX.out.1 1 _ rfl
    by_cases hml : m < np
    · have hmb : (m : Int) < (np : Int) := by omega
      have hmz : (0 : Int) ≤ (m : Int) := by omega
      have hmw : IntKind.i64.wrap ((m : Int) + 1) = (m : Int) + 1 := by rw [IntKind.wrap_i64]; omega
      obtain ⟨p, b, o, hp, rfl, hlt, hc⟩ := HS.out.procs.at m (by have := HN.out; omega)
      have hq := HB1.out.trans (HB.out.mono HB1.out.size)
      have HPI := hidb ((HS.out.each p (List.mem_of_getElem? hp)).keep hq)
      have cc : ∀ (i : Nat), i < 13 → wr.cell? ⟨b, o + m * 13 + i, none⟩ = (Pc.cells p)[i]? := fun i hi => (hq.cell (p := ⟨b, o + m * 13 + i, none⟩) hlt).trans (hc i hi)
      have c0 : wr.cell? ⟨b, o + m * 13, none⟩ = some (.int .i64 p.pid) := cc 0 (by omega)
      have c1 : wr.cell? ⟨b, o + m * 13 + 1, none⟩ = some (.int .i64 p.st) := cc 1 (by omega)
      have c2 : wr.cell? ⟨b, o + m * 13 + 2, none⟩ = some (.int .i64 p.rk) := cc 2 (by omega)
      have c3 : wr.cell? ⟨b, o + m * 13 + 3, none⟩ = some (.int .i64 p.rn) := cc 3 (by omega)
      have c4 : wr.cell? ⟨b, o + m * 13 + 4, none⟩ = some (.float .f64 p.rf) := cc 4 (by omega)
      have c5 : wr.cell? ⟨b, o + m * 13 + 5, none⟩ = some (.string p.rs) := cc 5 (by omega)
      have c6 : wr.cell? ⟨b, o + m * 13 + 6, none⟩ = some (.slice p.ra p.rl p.rc) := cc 6 (by omega)
      have c7 : wr.cell? ⟨b, o + m * 13 + 7, none⟩ = some (.bool p.trap) := cc 7 (by omega)
      have c8 : wr.cell? ⟨b, o + m * 13 + 8, none⟩ = some (.slice p.ia p.il p.ic) := cc 8 (by omega)
      have c9 : wr.cell? ⟨b, o + m * 13 + 9, none⟩ = some (.slice p.la p.ll p.lc) := cc 9 (by omega)
      have c10 : wr.cell? ⟨b, o + m * 13 + 10, none⟩ = some (.slice p.oa p.ol p.oc) := cc 10 (by omega)
      have c11 : wr.cell? ⟨b, o + m * 13 + 11, none⟩ = some (.slice p.ta p.tl p.tc) := cc 11 (by omega)
      have c12 : wr.cell? ⟨b, o + m * 13 + 12, none⟩ = some (.slice p.na p.nl p.nc) := cc 12 (by omega)
      have HP := hidb hp
      clear hp hc hq cc
      have HX5 := hidb (At.new wr [.int .i64 p.pid, .int .i64 p.st, .int .i64 p.rk, .int .i64 p.rn, .float .f64 p.rf, .string p.rs, .slice p.ra p.rl p.rc, .bool p.trap, .slice p.ia p.il p.ic, .slice p.la p.ll p.lc, .slice p.oa p.ol p.oc, .slice p.ta p.tl p.tc, .slice p.na p.nl p.nc] 45)
      have HB5 : Hid (Below wr.heap.size wr (wr.alloc (.cells #[.int .i64 p.pid, .int .i64 p.st, .int .i64 p.rk, .int .i64 p.rn, .float .f64 p.rf, .string p.rs, .slice p.ra p.rl p.rc, .bool p.trap, .slice p.ia p.il p.ic, .slice p.la p.ll p.lc, .slice p.oa p.ol p.oc, .slice p.ta p.tl p.tc, .slice p.na p.nl p.nc] 45))) := hidb (below_new wr _)
      go_wp2_with fail
      obtain ⟨W5, hW5⟩ : ∃ W5, wr.alloc (.cells #[.int .i64 p.pid, .int .i64 p.st, .int .i64 p.rk, .int .i64 p.rn, .float .f64 p.rf, .string p.rs, .slice p.ra p.rl p.rc, .bool p.trap, .slice p.ia p.il p.ic, .slice p.la p.ll p.lc, .slice p.oa p.ol p.oc, .slice p.ta p.tl p.tc, .slice p.na p.nl p.nc] 45) = W5 := ⟨_, rfl⟩
      rw [hW5] at HB5 ⊢
      have HX5 : Hid (At W5 wr.heap.size [.int .i64 p.pid, .int .i64 p.st, .int .i64 p.rk, .int .i64 p.rn, .float .f64 p.rf, .string p.rs, .slice p.ra p.rl p.rc, .bool p.trap, .slice p.ia p.il p.ic, .slice p.la p.ll p.lc, .slice p.oa p.ol p.oc, .slice p.ta p.tl p.tc, .slice p.na p.nl p.nc]) := hidb (by rw [← hW5]; exact HX5.out)
      clear hW5
      obtain ⟨wo, hwo⟩ : ∃ wo, wo = wr := ⟨_, rfl⟩
      subst hwo
      have HO5 : Hid (∀ W, Below W5.heap.size W5 W → Below W0.heap.size W0 W) := hidb (fun W h => (HB.out.trans (HB5.out.mono HB.out.size)).trans (h.mono (HB.out.trans (HB5.out.mono HB.out.size)).size))
      have HQ5 : Hid (∀ W, Below W5.heap.size W5 W → Below w.heap.size w W) := hidb (fun W h => HB1.out.trans ((HO5.out W h).mono HB1.out.size))
      have h64 : p.ll ≤ 9223372036854775807 := HPI.out.ll.2
      clear c0 c1 c2 c3 c4 c5 c6 c7 c8 c9 c10 c11 c12 x0 x1
      go_loopw [4, 5, 8] (fun av bv iv wr => ∃ (k : Nat) (al mu : Bool), k ≤ p.ll ∧ av = .bool al ∧ bv = .bool mu ∧ iv = .int .i64 k ∧ ((al = true ↔ (∀ (i : Nat) (q : Pc), i < m → ps[i]? = some q → AllL q) ∧ ∀ (i : Nat) (q : Hf), i < k → p.links[i]? = some q → q.st = 1) ∧ (mu = true ↔ (∀ (i : Nat) (q : Pc), i < m → ps[i]? = some q → MutL ps q) ∧ (Alv p.st → ∀ (i : Nat) (q : Hf), i < k → p.links[i]? = some q → Holds ps q.pid p.pid))) ∧ Below W5.heap.size W5 wr) (fun _ _ iv _ => p.ll - (RowKit.intOf iv).toNat)
      case atStart => exact ⟨0, _, _, by omega, rfl, rfl, rfl, ⟨by rw [all_zero, and_true]; exact HRI.out.1, by rw [all_zero]; simpa using HRI.out.2⟩, Below.refl _ _⟩
      case round =>
        obtain ⟨k, al, mu, hkm, rfl, rfl, rfl, hrj, hc⟩ := hrel
        have HRJ := hidb hrj
        have HC := hidb hc
        clear hrj hc
        have HXK := hidb (HX5.out.keep HC.out)
        have HXS := hidb ((HX0.out.keep (HO5.out _ (Below.refl _ _))).keep HC.out)
        obtain ⟨y0, -⟩ := HXK.out.1 0 _ rfl
        obtain ⟨y1, -⟩ := HXK.out.1 1 _ rfl
        obtain ⟨y2, -⟩ := HXK.out.1 2 _ rfl
        obtain ⟨y3, -⟩ := HXK.out.1 3 _ rfl
        obtain ⟨y4, -⟩ := HXK.out.1 4 _ rfl
        obtain ⟨y5, -⟩ := HXK.out.1 5 _ rfl
        obtain ⟨y6, -⟩ := HXK.out.1 6 _ rfl
        obtain ⟨y7, -⟩ := HXK.out.1 7 _ rfl
        obtain ⟨y8, -⟩ := HXK.out.1 8 _ rfl
        obtain ⟨y9, -⟩ := HXK.out.1 9 _ rfl
        obtain ⟨y10, -⟩ := HXK.out.1 10 _ rfl
        obtain ⟨y11, -⟩ := HXK.out.1 11 _ rfl
        obtain ⟨y12, -⟩ := HXK.out.1 12 _ rfl
        obtain ⟨x0, -⟩ := HXS.out.1 0 _ rfl
        obtain ⟨x1, -⟩ := HXS.out.1 1 _ rfl
        obtain ⟨x2, -⟩ := HXS.out.1 2 _ rfl
        by_cases hkl : k < p.ll
        · have hkb : (k : Int) < (p.ll : Int) := by omega
          have hkz : (0 : Int) ≤ (k : Int) := by omega
          have hkw : IntKind.i64.wrap ((k : Int) + 1) = (k : Int) + 1 := by rw [IntKind.wrap_i64]; omega
          obtain ⟨x, b2, o2, hx, hla, hlt2, hc2⟩ := HPI.out.links.at k (by have := HPI.out.ll.1; omega)
          rw [hla] at y9
          have hq := HB5.out.trans (HC.out.mono HB5.out.size)
          have d0 : wr.cell? ⟨b2, o2 + k * 3, none⟩ = some (.int .i64 x.pid) := (hq.cell (p := ⟨b2, o2 + k * 3, none⟩) hlt2).trans (hc2 0 (by omega))
          have d1 : wr.cell? ⟨b2, o2 + k * 3 + 1, none⟩ = some (.int .i64 x.st) := (hq.cell (p := ⟨b2, o2 + k * 3 + 1, none⟩) hlt2).trans (hc2 1 (by omega))
          have HPX := hidb hx
          have HD0 := hidb (And.intro (show b2 < wr.heap.size from Nat.lt_of_lt_of_le hlt2 hq.size) d0)
          have HST := hidb (show ((x.st == 1) = true ↔ x.st = 1) by simp)
          clear hx hc2 hq hla
          cases al <;> cases mu
          all_goals
            go_wp2_with fail
            refine (ralive_is _ _ _ _ _ _ _ _ _ _ _ _ _ _ _ _ _ _ _ _ _ _ _ _ _ _).mono ?_
            rintro e w6 ⟨⟨r, rfl, hr⟩, hb6⟩
            have HR := hidb hr
            have HC6 := hidb (HC.out.trans (hb6.mono HC.out.size))
            have y9' := (hb6.cell (World.block_lt_of_cell? _ _ y9)).trans y9
            have y0' := (hb6.cell (World.block_lt_of_cell? _ _ y0)).trans y0
            have d0' := (hb6.cell (p := ⟨b2, o2 + k * 3, none⟩) HD0.out.1).trans HD0.out.2
            have x0' := (hb6.cell (World.block_lt_of_cell? _ _ x0)).trans x0
            have x1' := (hb6.cell (World.block_lt_of_cell? _ _ x1)).trans x1
            have x2' := (hb6.cell (World.block_lt_of_cell? _ _ x2)).trans x2
            clear hr hb6 y0 y1 y2 y3 y4 y5 y6 y7 y8 y9 y10 y11 y12 x0 x1 x2 d0 d1
            cases r
            · go_wp2_with fail
              go_roundw
              case rel => exact ⟨k + 1, _, _, by omega, rfl, rfl, by go_num, ⟨by rw [all_step HPX.out]; first | exact and_T HRJ.out.1 HST.out | exact and_F HRJ.out.1, by first | exact off_T (fun h => (by have := HR.out.2 h; cases this)) HRJ.out.2 | exact off_F (fun h => (by have := HR.out.2 h; cases this)) HRJ.out.2⟩, HC6.out⟩
              case measure => simp [RowKit.intOf]; omega
            · have HSA : Hid (∀ W9, Below w6.heap.size w6 W9 → W9.cell? ⟨w.heap.size, 0, none⟩ = some (.slice (some ⟨b, o, none⟩) np cp) ∧ W9.cell? ⟨w.heap.size, 1, none⟩ = some (.slice la nl cl) ∧ W9.cell? ⟨w.heap.size, 2, none⟩ = some (.slice oa no co) ∧ W9.cell? ⟨wo.heap.size, 9, none⟩ = some (.slice (some ⟨b2, o2, none⟩) p.ll p.lc) ∧ W9.cell? ⟨wo.heap.size, 0, none⟩ = some (.int .i64 p.pid) ∧ W9.cell? ⟨b2, o2 + k * 3, none⟩ = some (.int .i64 x.pid)) := hidb (fun W9 hb => by
                have cl : ∀ (p : Addr) (v : Value), w6.cell? p = some v → W9.cell? p = some v := fun p v hv => (hb.cell (World.block_lt_of_cell? _ _ hv)).trans hv
                exact ⟨cl _ _ x0', cl _ _ x1', cl _ _ x2', cl _ _ y9', cl _ _ y0', cl _ _ d0'⟩)
              clear x0' x1' x2' y9' y0' d0'
              go_wp2_with fail
              refine Code.wp_mono (fun ex a9 w7 hr7 => ?_) (lkReg _ (HS.out.keep (HQ5.out _ HC6.out)) HN.out HSA hkb hkz)
              obtain ⟨rfl, r2, u40, u41, u42, u43, u44, u45, u46, u47, u48, u49, u50, u51, u52, rfl, hb7, hf7, ht7⟩ := hr7
              have HC7 := hidb (HC6.out.trans (hb7.mono HC6.out.size))
              have HF7 := hidb hf7
              have HT7 := hidb ht7
              clear hb7 hf7 ht7 HSA
              go_wp2_with fail
              go_roundw
              case rel =>
                refine ⟨k + 1, _, _, by omega, rfl, rfl, by go_num, ⟨by rw [all_step HPX.out]; first | exact and_T HRJ.out.1 HST.out | exact and_F HRJ.out.1, ?_⟩, HC7.out⟩
                first
                  | exact on_T (HR.out.1 (by simp)) HRJ.out.2 (HT7.out (by simp)) (all_step HPX.out)
                  | (rw [HF7.out (by simp)]; exact on_F HRJ.out.2 (all_step HPX.out))
              case measure => simp [RowKit.intOf]; omega
        · have hkn : ¬ (k : Int) < (p.ll : Int) := by omega
          go_wp2_with fail
          go_roundw
          case rel =>
            obtain rfl : k = p.ll := by omega
            refine ⟨m + 1, _, _, by omega, rfl, rfl, by go_num, ⟨?_, ?_⟩, HO5.out _ HC.out⟩
            · rw [all_step HP.out]
              refine HRJ.out.1.trans ?_
              unfold AllL
              rw [all_mem HPI.out.ll.1]
            · rw [all_step HP.out]
              refine HRJ.out.2.trans ?_
              unfold MutL
              rw [all_mem HPI.out.ll.1]
          case measure => simp [RowKit.intOf]; omega
    · have hmn : ¬ (m : Int) < (np : Int) := by omega
      go_wp2_with fail
      refine bodyPost_ret (v := .tuple #[.bool al, .bool mu]) (by simp [results, Try.results19, go_sem]) rfl ?_
      exact ⟨⟨al, mu, rfl, HRI.out.1.trans (by obtain rfl : m = np := (by omega); rw [all_mem HN.out]), HRI.out.2.trans (by obtain rfl : m = np := (by omega); rw [all_mem HN.out])⟩, HB1.out.trans (HB.out.mono HB1.out.size)⟩
end Go.Proofs.Ytjiigabfdigkaaa


/- Of a state: nobody hangs on who is gone. -/
namespace Go.Proofs.Ytjiigabfdigkaaa
open Go.RowKit

attribute [local go_sem] store_float
theorem ent_gone : Ent 42 := by
  intro args w
  kernel_rfl
/-- Rule 7, of one process. -/
def DeadOk (ps : List Pc) (p : Pc) : Prop := Alv p.st → (∀ h ∈ p.links, ¬ Gone ps h.pid) ∧ (∀ m ∈ p.origins, m.pid ≠ 0 → ¬ Gone ps m.pid) ∧ ∀ m ∈ p.targets, ¬ Gone ps m.pid
set_option maxHeartbeats 4000000 in
set_option maxRecDepth 10000 in
theorem dead_any (w : World) (pa la : Option Addr) (cp cl np nl : Nat) (ps : List Pc) (ls : List Ln) (oa : Option Addr) (no co : Nat) (hs : StIn w pa ps la ls) (hnp : ps.length = np) :
    Calls Try.prog 24 #[stV pa np cp la nl cl oa no co] w (Says (∀ p ∈ ps, DeadOk ps p) w) := by
  have HS := hidb hs
  have HN := hidb hnp
  have h63 : np ≤ 9223372036854775807 := hnp ▸ hs.lp
  clear hs hnp
  have HX0 := hidb (At.new w [.slice pa np cp, .slice la nl cl, .slice oa no co] 26)
  go_enter Try.func24, Try.ntmps24
  go_wp2_with fail
  obtain ⟨W0, hW0⟩ : ∃ W0, w.alloc (.cells #[.slice pa np cp, .slice la nl cl, .slice oa no co] 26) = W0 := ⟨_, rfl⟩
  have HB1 : Hid (Below w.heap.size w W0) := hidb (by rw [← hW0]; exact below_new w _)
  rw [hW0] at HX0 ⊢
  clear hW0
  go_loopw [3] (fun iv wr => ∃ (m : Nat), m ≤ np ∧ iv = .int .i64 m ∧ (∀ (i : Nat) (q : Pc), i < m → ps[i]? = some q → DeadOk ps q) ∧ Below W0.heap.size W0 wr) (fun iv _ => np - (RowKit.intOf iv).toNat)
  case atStart => exact ⟨0, by omega, rfl, fun i q h => by omega, Below.refl _ _⟩
  case round =>
    obtain ⟨m, hm, rfl, hri, hb⟩ := hrel
    have HRI := hidb hri
    have HB := hidb hb
    clear hri hb
    have HX := hidb (HX0.out.keep HB.out)
    obtain ⟨x0, -⟩ := HX.out.1 0 _ rfl
    obtain ⟨x1, -⟩ := HX.out.1 1 _ rfl
    by_cases hml : m < np
    · have hmb : (m : Int) < (np : Int) := by omega
      have hmz : (0 : Int) ≤ (m : Int) := by omega
      have hmw : IntKind.i64.wrap ((m : Int) + 1) = (m : Int) + 1 := by rw [IntKind.wrap_i64]; omega
      obtain ⟨p, b, o, hp, rfl, hlt, hc⟩ := HS.out.procs.at m (by have := HN.out; omega)
      have hq := HB1.out.trans (HB.out.mono HB1.out.size)
      have HPI := hidb ((HS.out.each p (List.mem_of_getElem? hp)).keep hq)
      have cc : ∀ (i : Nat), i < 13 → wr.cell? ⟨b, o + m * 13 + i, none⟩ = (Pc.cells p)[i]? := fun i hi => (hq.cell (p := ⟨b, o + m * 13 + i, none⟩) hlt).trans (hc i hi)
      have c0 : wr.cell? ⟨b, o + m * 13, none⟩ = some (.int .i64 p.pid) := cc 0 (by omega)
      have c1 : wr.cell? ⟨b, o + m * 13 + 1, none⟩ = some (.int .i64 p.st) := cc 1 (by omega)
      have c2 : wr.cell? ⟨b, o + m * 13 + 2, none⟩ = some (.int .i64 p.rk) := cc 2 (by omega)
      have c3 : wr.cell? ⟨b, o + m * 13 + 3, none⟩ = some (.int .i64 p.rn) := cc 3 (by omega)
      have c4 : wr.cell? ⟨b, o + m * 13 + 4, none⟩ = some (.float .f64 p.rf) := cc 4 (by omega)
      have c5 : wr.cell? ⟨b, o + m * 13 + 5, none⟩ = some (.string p.rs) := cc 5 (by omega)
      have c6 : wr.cell? ⟨b, o + m * 13 + 6, none⟩ = some (.slice p.ra p.rl p.rc) := cc 6 (by omega)
      have c7 : wr.cell? ⟨b, o + m * 13 + 7, none⟩ = some (.bool p.trap) := cc 7 (by omega)
      have c8 : wr.cell? ⟨b, o + m * 13 + 8, none⟩ = some (.slice p.ia p.il p.ic) := cc 8 (by omega)
      have c9 : wr.cell? ⟨b, o + m * 13 + 9, none⟩ = some (.slice p.la p.ll p.lc) := cc 9 (by omega)
      have c10 : wr.cell? ⟨b, o + m * 13 + 10, none⟩ = some (.slice p.oa p.ol p.oc) := cc 10 (by omega)
      have c11 : wr.cell? ⟨b, o + m * 13 + 11, none⟩ = some (.slice p.ta p.tl p.tc) := cc 11 (by omega)
      have c12 : wr.cell? ⟨b, o + m * 13 + 12, none⟩ = some (.slice p.na p.nl p.nc) := cc 12 (by omega)
      have HP := hidb hp
      clear hp hc hq cc
      have HX5 := hidb (At.new wr [.int .i64 p.pid, .int .i64 p.st, .int .i64 p.rk, .int .i64 p.rn, .float .f64 p.rf, .string p.rs, .slice p.ra p.rl p.rc, .bool p.trap, .slice p.ia p.il p.ic, .slice p.la p.ll p.lc, .slice p.oa p.ol p.oc, .slice p.ta p.tl p.tc, .slice p.na p.nl p.nc] 45)
      have HB5 : Hid (Below wr.heap.size wr (wr.alloc (.cells #[.int .i64 p.pid, .int .i64 p.st, .int .i64 p.rk, .int .i64 p.rn, .float .f64 p.rf, .string p.rs, .slice p.ra p.rl p.rc, .bool p.trap, .slice p.ia p.il p.ic, .slice p.la p.ll p.lc, .slice p.oa p.ol p.oc, .slice p.ta p.tl p.tc, .slice p.na p.nl p.nc] 45))) := hidb (below_new wr _)
      go_wp2_with fail
      obtain ⟨W5, hW5⟩ : ∃ W5, wr.alloc (.cells #[.int .i64 p.pid, .int .i64 p.st, .int .i64 p.rk, .int .i64 p.rn, .float .f64 p.rf, .string p.rs, .slice p.ra p.rl p.rc, .bool p.trap, .slice p.ia p.il p.ic, .slice p.la p.ll p.lc, .slice p.oa p.ol p.oc, .slice p.ta p.tl p.tc, .slice p.na p.nl p.nc] 45) = W5 := ⟨_, rfl⟩
      rw [hW5] at HB5 ⊢
      have HX5 : Hid (At W5 wr.heap.size [.int .i64 p.pid, .int .i64 p.st, .int .i64 p.rk, .int .i64 p.rn, .float .f64 p.rf, .string p.rs, .slice p.ra p.rl p.rc, .bool p.trap, .slice p.ia p.il p.ic, .slice p.la p.ll p.lc, .slice p.oa p.ol p.oc, .slice p.ta p.tl p.tc, .slice p.na p.nl p.nc]) := hidb (by rw [← hW5]; exact HX5.out)
      clear hW5
      refine (ralive_is _ _ _ _ _ _ _ _ _ _ _ _ _ _ _ _ _ _ _ _ _ _ _ _ _ _).mono ?_
      rintro e w6 ⟨⟨r, rfl, hr⟩, hb6⟩
      have HR := hidb hr
      have HB6 := hidb (HB5.out.trans (hb6.mono HB5.out.size))
      have HX6 := hidb (HX5.out.keep hb6)
      clear hr hb6 HX5 HB5 c0 c1 c2 c3 c4 c5 c6 c7 c8 c9 c10 c11 c12 x0 x1
      have HO6 : Hid (∀ W, Below w6.heap.size w6 W → Below W0.heap.size W0 W) := hidb (fun W h => (HB.out.trans (HB6.out.mono HB.out.size)).trans (h.mono (HB.out.trans (HB6.out.mono HB.out.size)).size))
      have HQ6 : Hid (∀ W, Below w6.heap.size w6 W → Below w.heap.size w W) := hidb (fun W h => HB1.out.trans ((HO6.out W h).mono HB1.out.size))
      cases r
      · have HNA : Hid (¬ Alv p.st) := hidb (fun h => (by have h9 := HR.out.2 h; cases h9))
        clear HR
        go_wp2_with fail
        go_roundw
        case rel =>
          refine ⟨m + 1, by omega, by go_num, fun i q hi hq => ?_, HO6.out _ (Below.refl _ _)⟩
          by_cases hlt : i < m
          · exact HRI.out i q hlt hq
          · obtain rfl : i = m := by omega
            rw [HP.out] at hq
            obtain rfl := Option.some.inj hq
            exact fun h => absurd h HNA.out
        case measure => simp [RowKit.intOf]; omega
      have HAL : Hid (Alv p.st) := hidb (HR.out.1 (by simp))
      clear HR
      have h64 : p.ll ≤ 9223372036854775807 := HPI.out.ll.2
      have h65 : p.ol ≤ 9223372036854775807 := HPI.out.lo.2
      have h66 : p.tl ≤ 9223372036854775807 := HPI.out.lt.2
      go_wp2_with fail
      obtain ⟨wo, hwo⟩ : ∃ wo, wo = wr := ⟨_, rfl⟩
      subst hwo
      go_loopw [5] (fun iv wr => ∃ (k : Nat), k ≤ p.ll ∧ iv = .int .i64 k ∧ (∀ (i : Nat) (q : Hf), i < k → p.links[i]? = some q → ¬ Gone ps q.pid) ∧ Below w6.heap.size w6 wr) (fun iv _ => p.ll - (RowKit.intOf iv).toNat)
      case atStart => exact ⟨0, by omega, rfl, fun i q h => by omega, Below.refl _ _⟩
      case round =>
        obtain ⟨k, hm, rfl, hri, hb⟩ := hrel
        have HRJ := hidb hri
        have HC := hidb hb
        clear hri hb
        have HXK := hidb (HX6.out.keep HC.out)
        have HXS := hidb ((HX0.out.keep (HO6.out _ (Below.refl _ _))).keep HC.out)
        obtain ⟨y9, -⟩ := HXK.out.1 9 _ rfl
        obtain ⟨s0, -⟩ := HXS.out.1 0 _ rfl
        obtain ⟨s1, -⟩ := HXS.out.1 1 _ rfl
        obtain ⟨s2, -⟩ := HXS.out.1 2 _ rfl
        by_cases hkl : k < p.ll
        · have hkb : (k : Int) < (p.ll : Int) := by omega
          have hkz : (0 : Int) ≤ (k : Int) := by omega
          have hkw : IntKind.i64.wrap ((k : Int) + 1) = (k : Int) + 1 := by rw [IntKind.wrap_i64]; omega
          obtain ⟨x, b2, o2, hx, hla, hlt2, hc2⟩ := HPI.out.links.at k (by have := HPI.out.ll.1; omega)
          rw [hla] at y9
          have hq := HB6.out.trans (HC.out.mono HB6.out.size)
          have d0 : wr.cell? ⟨b2, o2 + k * 3, none⟩ = some (.int .i64 x.pid) := (hq.cell (p := ⟨b2, o2 + k * 3, none⟩) hlt2).trans (hc2 0 (by omega))
          have HPX := hidb hx
          clear hx hc2 hq hla
          go_wp2_with fail
          have HSAa : Hid (∀ W9, Below wr.heap.size wr W9 → W9.cell? ⟨w.heap.size, 0, none⟩ = some (.slice (some ⟨b, o, none⟩) np cp) ∧ W9.cell? ⟨w.heap.size, 1, none⟩ = some (.slice la nl cl) ∧ W9.cell? ⟨w.heap.size, 2, none⟩ = some (.slice oa no co) ∧ W9.cell? ⟨wo.heap.size, 9, none⟩ = some (.slice (some ⟨b2, o2, none⟩) p.ll p.lc) ∧ W9.cell? ⟨b2, o2 + k * 3, none⟩ = some (.int .i64 x.pid)) := hidb (fun W9 hb => by
            have cl : ∀ (p : Addr) (v : Value), wr.cell? p = some v → W9.cell? p = some v := fun p v hv => (hb.cell (World.block_lt_of_cell? _ _ hv)).trans hv
            exact ⟨cl _ _ s0, cl _ _ s1, cl _ _ s2, cl _ _ y9, cl _ _ d0⟩)
          clear s0 s1 s2 y9 d0
          refine wp_region_D (fun W9 => W9.cell? ⟨w.heap.size, 0, none⟩ = some (.slice (some ⟨b, o, none⟩) np cp) ∧ W9.cell? ⟨w.heap.size, 1, none⟩ = some (.slice la nl cl) ∧ W9.cell? ⟨w.heap.size, 2, none⟩ = some (.slice oa no co) ∧ W9.cell? ⟨wo.heap.size, 9, none⟩ = some (.slice (some ⟨b2, o2, none⟩) p.ll p.lc) ∧ W9.cell? ⟨b2, o2 + k * 3, none⟩ = some (.int .i64 x.pid)) [] (by kernel_rfl) ?_
          have hbd : Below wr.heap.size wr wr.drew := (Below.refl _ _).drew
          generalize wr.drew = wd at hbd ⊢
          have HDa := hidb hbd
          have HTa := hidb (HSAa.out wd hbd)
          clear hbd
          refine wpAnyD_takeL (i := 0) (v := ?vv0a) rfl (by kernel_rfl) (by kernel_rfl) (by kernel_rfl) (by kernel_rfl) (fun _ _ _ h => h) HTa.out rfl ?hy0a ?_
          case hy0a => intro wy hSw; obtain ⟨q0, q1, q2, q3, q4⟩ := hSw; go_simp; try with_reducible rfl
          simp only [Act.put, List.setIfInBounds_toArray, List.set_cons_zero, List.set_cons_succ]
          refine wpAnyD_takeL (i := 1) (v := ?vv1a) rfl (by kernel_rfl) (by kernel_rfl) (by kernel_rfl) (by kernel_rfl) (fun _ _ _ h => h) HTa.out rfl ?hy1a ?_
          case hy1a => intro wy hSw; obtain ⟨q0, q1, q2, q3, q4⟩ := hSw; go_simp; try with_reducible rfl
          simp only [Act.put, List.setIfInBounds_toArray, List.set_cons_zero, List.set_cons_succ]
          refine wpAnyD_takeL (i := 2) (v := ?vv2a) rfl (by kernel_rfl) (by kernel_rfl) (by kernel_rfl) (by kernel_rfl) (fun _ _ _ h => h) HTa.out rfl ?hy2a ?_
          case hy2a => intro wy hSw; obtain ⟨q0, q1, q2, q3, q4⟩ := hSw; go_simp; try with_reducible rfl
          simp only [Act.put, List.setIfInBounds_toArray, List.set_cons_zero, List.set_cons_succ]
          refine wpAnyD_takeL (i := 3) (v := ?vv3a) rfl (by kernel_rfl) (by kernel_rfl) (by kernel_rfl) (by kernel_rfl) (fun _ _ _ h => h) HTa.out rfl ?hy3a ?_
          case hy3a => intro wy hSw; obtain ⟨q0, q1, q2, q3, q4⟩ := hSw; go_simp; try with_reducible rfl
          simp only [Act.put, List.setIfInBounds_toArray, List.set_cons_zero, List.set_cons_succ]
          refine wpAnyD_takeL (i := 4) (v := ?vv4a) rfl (by kernel_rfl) (by kernel_rfl) (by kernel_rfl) (by kernel_rfl) (fun _ _ _ h => h) HTa.out rfl ?hy4a ?_
          case hy4a => intro wy hSw; obtain ⟨q0, q1, q2, q3, q4⟩ := hSw; go_simp; try with_reducible rfl
          simp only [Act.put, List.setIfInBounds_toArray, List.set_cons_zero, List.set_cons_succ]
          refine wpAnyD_takeL (i := 5) (v := ?vv5a) rfl (by kernel_rfl) (by kernel_rfl) (by kernel_rfl) (by kernel_rfl) (fun _ _ _ h => h) HTa.out rfl ?hy5a ?_
          case hy5a => intro wy hSw; obtain ⟨q0, q1, q2, q3, q4⟩ := hSw; go_simp; try with_reducible rfl
          simp only [Act.put, List.setIfInBounds_toArray, List.set_cons_zero, List.set_cons_succ]
          refine wpAnyD_takeL (i := 6) (v := ?vv6a) rfl (by kernel_rfl) (by kernel_rfl) (by kernel_rfl) (by kernel_rfl) (fun _ _ _ h => h) HTa.out rfl ?hy6a ?_
          case hy6a => intro wy hSw; obtain ⟨q0, q1, q2, q3, q4⟩ := hSw; go_simp; try with_reducible rfl
          simp only [Act.put, List.setIfInBounds_toArray, List.set_cons_zero, List.set_cons_succ]
          refine wpAnyD_stepL (i := 7) (by kernel_rfl) rfl (fun K hK => ?_)
          refine step_call rfl (run_call ent_gone #[.tmp 30, .tmp 36] _ rfl #[stV (some ⟨b, o, none⟩) np cp la nl cl oa no co, .int .i64 x.pid] rfl) (gone_any wd _ la cp cl np nl ps ls oa no co x.pid (HS.out.keep ((HQ6.out _ HC.out).trans (HDa.out.mono (HQ6.out _ HC.out).size))) HN.out) ?_
          rintro e w7 ⟨⟨r, rfl, hr⟩, hb7⟩
          have HE7 := hidb (HDa.out.trans (hb7.mono HDa.out.size))
          have HC7 := hidb (HC.out.trans (HE7.out.mono HC.out.size))
          have HR := hidb hr
          refine hK _ _ (fun _ => HSAa.out _ HE7.out) ?_
          clear hK K hb7 hr
          simp only [Act.put, List.setIfInBounds_toArray, List.set_cons_zero, List.set_cons_succ]
          refine wpAnyD_done (by kernel_rfl) ?_ _
          cases r
          · have HG := hidb (fun hg => (by have h9 := HR.out.2 hg; cases h9) : ¬ Gone ps x.pid)
            clear HR
            go_wp2_with fail
            go_roundw
            case rel =>
              refine ⟨k + 1, by omega, by go_num, fun i q hi hq => ?_, HC7.out⟩
              by_cases hlt : i < k
              · exact HRJ.out i q hlt hq
              · obtain rfl : i = k := by omega
                rw [HPX.out] at hq
                obtain rfl := Option.some.inj hq
                exact HG.out
            case measure => simp [RowKit.intOf]; omega
          · have HG : Hid (Gone ps x.pid) := hidb (HR.out.1 rfl)
            clear HR
            go_wp2_with fail
            go_ret
            exact ⟨⟨false, rfl, fun h => (by cases h), fun h => absurd HG.out ((h p (List.mem_of_getElem? HP.out) HAL.out).1 x (List.mem_of_getElem? HPX.out))⟩, HQ6.out _ HC7.out⟩
        · have hkn : ¬ (k : Int) < (p.ll : Int) := by omega
          go_wp2_with fail
          have HLS : Hid (∀ h ∈ p.links, ¬ Gone ps h.pid) := hidb (fun h hh => by
            obtain ⟨i2, hi2⟩ := List.mem_iff_getElem?.1 hh
            exact HRJ.out i2 h (by have := (List.getElem?_eq_some_iff.1 hi2).1; have := HPI.out.ll.1; omega) hi2)
          have HB6 := hidb (HB6.out.trans (HC.out.mono HB6.out.size))
          have HX6 := hidb (HX6.out.keep HC.out)
          clear HRJ HC HXK HXS y9 s0 s1 s2 hkl hkn HO6 HQ6
          obtain ⟨w6, hw6⟩ : ∃ w6, w6 = wr := ⟨_, rfl⟩
          subst hw6
          have HO6 : Hid (∀ W, Below w6.heap.size w6 W → Below W0.heap.size W0 W) := hidb (fun W h => (HB.out.trans (HB6.out.mono HB.out.size)).trans (h.mono (HB.out.trans (HB6.out.mono HB.out.size)).size))
          have HQ6 : Hid (∀ W, Below w6.heap.size w6 W → Below w.heap.size w W) := hidb (fun W h => HB1.out.trans ((HO6.out W h).mono HB1.out.size))
          go_loopw [6] (fun iv wr => ∃ (k : Nat), k ≤ p.ol ∧ iv = .int .i64 k ∧ (∀ (i : Nat) (q : Mn), i < k → p.origins[i]? = some q → q.pid ≠ 0 → ¬ Gone ps q.pid) ∧ Below w6.heap.size w6 wr) (fun iv _ => p.ol - (RowKit.intOf iv).toNat)
          case atStart => exact ⟨0, by omega, rfl, fun i q h => by omega, Below.refl _ _⟩
          case round =>
            obtain ⟨k, hm, rfl, hri, hb⟩ := hrel
            have HRJ := hidb hri
            have HC := hidb hb
            clear hri hb
            have HXK := hidb (HX6.out.keep HC.out)
            have HXS := hidb ((HX0.out.keep (HO6.out _ (Below.refl _ _))).keep HC.out)
            obtain ⟨y9, -⟩ := HXK.out.1 10 _ rfl
            obtain ⟨s0, -⟩ := HXS.out.1 0 _ rfl
            obtain ⟨s1, -⟩ := HXS.out.1 1 _ rfl
            obtain ⟨s2, -⟩ := HXS.out.1 2 _ rfl
            by_cases hkl : k < p.ol
            · have hkb : (k : Int) < (p.ol : Int) := by omega
              have hkz : (0 : Int) ≤ (k : Int) := by omega
              have hkw : IntKind.i64.wrap ((k : Int) + 1) = (k : Int) + 1 := by rw [IntKind.wrap_i64]; omega
              obtain ⟨x, b2, o2, hx, hla, hlt2, hc2⟩ := HPI.out.origins.at k (by have := HPI.out.lo.1; omega)
              rw [hla] at y9
              have hq := HB6.out.trans (HC.out.mono HB6.out.size)
              have d0 : wr.cell? ⟨b2, o2 + k * 3 + 1, none⟩ = some (.int .i64 x.pid) := (hq.cell (p := ⟨b2, o2 + k * 3 + 1, none⟩) hlt2).trans (hc2 1 (by omega))
              have HPX := hidb hx
              clear hx hc2 hq hla
              go_wp2_with fail
              have HSAb : Hid (∀ W9, Below wr.heap.size wr W9 → W9.cell? ⟨w.heap.size, 0, none⟩ = some (.slice (some ⟨b, o, none⟩) np cp) ∧ W9.cell? ⟨w.heap.size, 1, none⟩ = some (.slice la nl cl) ∧ W9.cell? ⟨w.heap.size, 2, none⟩ = some (.slice oa no co) ∧ W9.cell? ⟨wo.heap.size, 10, none⟩ = some (.slice (some ⟨b2, o2, none⟩) p.ol p.oc) ∧ W9.cell? ⟨b2, o2 + k * 3 + 1, none⟩ = some (.int .i64 x.pid)) := hidb (fun W9 hb => by
                have cl : ∀ (p : Addr) (v : Value), wr.cell? p = some v → W9.cell? p = some v := fun p v hv => (hb.cell (World.block_lt_of_cell? _ _ hv)).trans hv
                exact ⟨cl _ _ s0, cl _ _ s1, cl _ _ s2, cl _ _ y9, cl _ _ d0⟩)
              clear s0 s1 s2 y9 d0
              refine wp_region_D (fun W9 => W9.cell? ⟨w.heap.size, 0, none⟩ = some (.slice (some ⟨b, o, none⟩) np cp) ∧ W9.cell? ⟨w.heap.size, 1, none⟩ = some (.slice la nl cl) ∧ W9.cell? ⟨w.heap.size, 2, none⟩ = some (.slice oa no co) ∧ W9.cell? ⟨wo.heap.size, 10, none⟩ = some (.slice (some ⟨b2, o2, none⟩) p.ol p.oc) ∧ W9.cell? ⟨b2, o2 + k * 3 + 1, none⟩ = some (.int .i64 x.pid)) [] (by kernel_rfl) ?_
              have hbd : Below wr.heap.size wr wr.drew := (Below.refl _ _).drew
              generalize wr.drew = wd at hbd ⊢
              have HDb := hidb hbd
              have HTb := hidb (HSAb.out wd hbd)
              clear hbd
              refine wpAnyD_takeL (i := 0) (v := ?vv0b) rfl (by kernel_rfl) (by kernel_rfl) (by kernel_rfl) (by kernel_rfl) (fun _ _ _ h => h) HTb.out rfl ?hy0b ?_
              case hy0b => intro wy hSw; obtain ⟨q0, q1, q2, q3, q4⟩ := hSw; go_simp; try with_reducible rfl
              simp only [Act.put, List.setIfInBounds_toArray, List.set_cons_zero, List.set_cons_succ]
              refine wpAnyD_takeL (i := 1) (v := ?vv1b) rfl (by kernel_rfl) (by kernel_rfl) (by kernel_rfl) (by kernel_rfl) (fun _ _ _ h => h) HTb.out rfl ?hy1b ?_
              case hy1b => intro wy hSw; obtain ⟨q0, q1, q2, q3, q4⟩ := hSw; go_simp; try with_reducible rfl
              simp only [Act.put, List.setIfInBounds_toArray, List.set_cons_zero, List.set_cons_succ]
              refine wpAnyD_takeL (i := 2) (v := ?vv2b) rfl (by kernel_rfl) (by kernel_rfl) (by kernel_rfl) (by kernel_rfl) (fun _ _ _ h => h) HTb.out rfl ?hy2b ?_
              case hy2b => intro wy hSw; obtain ⟨q0, q1, q2, q3, q4⟩ := hSw; go_simp; try with_reducible rfl
              simp only [Act.put, List.setIfInBounds_toArray, List.set_cons_zero, List.set_cons_succ]
              refine wpAnyD_takeL (i := 3) (v := ?vv3b) rfl (by kernel_rfl) (by kernel_rfl) (by kernel_rfl) (by kernel_rfl) (fun _ _ _ h => h) HTb.out rfl ?hy3b ?_
              case hy3b => intro wy hSw; obtain ⟨q0, q1, q2, q3, q4⟩ := hSw; go_simp; try with_reducible rfl
              simp only [Act.put, List.setIfInBounds_toArray, List.set_cons_zero, List.set_cons_succ]
              refine wpAnyD_takeL (i := 4) (v := ?vv4b) rfl (by kernel_rfl) (by kernel_rfl) (by kernel_rfl) (by kernel_rfl) (fun _ _ _ h => h) HTb.out rfl ?hy4b ?_
              case hy4b => intro wy hSw; obtain ⟨q0, q1, q2, q3, q4⟩ := hSw; go_simp; try with_reducible rfl
              simp only [Act.put, List.setIfInBounds_toArray, List.set_cons_zero, List.set_cons_succ]
              refine wpAnyD_takeL (i := 5) (v := ?vv5b) rfl (by kernel_rfl) (by kernel_rfl) (by kernel_rfl) (by kernel_rfl) (fun _ _ _ h => h) HTb.out rfl ?hy5b ?_
              case hy5b => intro wy hSw; obtain ⟨q0, q1, q2, q3, q4⟩ := hSw; go_simp; try with_reducible rfl
              simp only [Act.put, List.setIfInBounds_toArray, List.set_cons_zero, List.set_cons_succ]
              by_cases h0 : x.pid = 0
              · refine wpAnyD_takeL (i := 6) (v := .bool false) rfl (by kernel_rfl) (by kernel_rfl) (by kernel_rfl) (by kernel_rfl) (fun _ _ _ h => h) HTb.out rfl ?cc6z ?_
                case cc6z => intro wy hSw; go_simp; first | done | simp [h0]
                simp only [Act.put, List.setIfInBounds_toArray, List.set_cons_zero, List.set_cons_succ]
                refine wpAnyD_takeL (i := 7) (v := ?vv7bz) rfl (by kernel_rfl) (by kernel_rfl) (by kernel_rfl) (by kernel_rfl) (fun _ _ _ h => h) HTb.out rfl ?hy7bz ?_
                case hy7bz => intro wy hSw; obtain ⟨q0, q1, q2, q3, q4⟩ := hSw; go_simp; try with_reducible rfl
                simp only [Act.put, List.setIfInBounds_toArray, List.set_cons_zero, List.set_cons_succ]
                refine wpAnyD_skipG (i := 8) rfl (by kernel_rfl) (by kernel_rfl) (by kernel_rfl) (by kernel_rfl) (fun _ _ _ h => h) HTb.out (by simp [Region.wanted, yielded]) ?_
                simp only [Act.put, List.setIfInBounds_toArray, List.set_cons_zero, List.set_cons_succ]
                refine wpAnyD_skipG (i := 9) rfl (by kernel_rfl) (by kernel_rfl) (by kernel_rfl) (by kernel_rfl) (fun _ _ _ h => h) HTb.out (by simp [Region.wanted, yielded]) ?_
                simp only [Act.put, List.setIfInBounds_toArray, List.set_cons_zero, List.set_cons_succ]
                refine wpAnyD_skipG (i := 10) rfl (by kernel_rfl) (by kernel_rfl) (by kernel_rfl) (by kernel_rfl) (fun _ _ _ h => h) HTb.out (by simp [Region.wanted, yielded]) ?_
                simp only [Act.put, List.setIfInBounds_toArray, List.set_cons_zero, List.set_cons_succ]
                refine wpAnyD_skipG (i := 11) rfl (by kernel_rfl) (by kernel_rfl) (by kernel_rfl) (by kernel_rfl) (fun _ _ _ h => h) HTb.out (by simp [Region.wanted, yielded]) ?_
                simp only [Act.put, List.setIfInBounds_toArray, List.set_cons_zero, List.set_cons_succ]
                refine wpAnyD_skipG (i := 12) rfl (by kernel_rfl) (by kernel_rfl) (by kernel_rfl) (by kernel_rfl) (fun _ _ _ h => h) HTb.out (by simp [Region.wanted, yielded]) ?_
                simp only [Act.put, List.setIfInBounds_toArray, List.set_cons_zero, List.set_cons_succ]
                refine wpAnyD_skipG (i := 13) rfl (by kernel_rfl) (by kernel_rfl) (by kernel_rfl) (by kernel_rfl) (fun _ _ _ h => h) HTb.out (by simp [Region.wanted, yielded]) ?_
                simp only [Act.put, List.setIfInBounds_toArray, List.set_cons_zero, List.set_cons_succ]
                refine wpAnyD_skipG (i := 14) rfl (by kernel_rfl) (by kernel_rfl) (by kernel_rfl) (by kernel_rfl) (fun _ _ _ h => h) HTb.out (by simp [Region.wanted, yielded]) ?_
                simp only [Act.put, List.setIfInBounds_toArray, List.set_cons_zero, List.set_cons_succ]
                refine wpAnyD_skipG (i := 15) rfl (by kernel_rfl) (by kernel_rfl) (by kernel_rfl) (by kernel_rfl) (fun _ _ _ h => h) HTb.out (by simp [Region.wanted, yielded]) ?_
                simp only [Act.put, List.setIfInBounds_toArray, List.set_cons_zero, List.set_cons_succ]
                refine wpAnyD_takeL (i := 16) (v := ?vv16bz) rfl (by kernel_rfl) (by kernel_rfl) (by kernel_rfl) (by kernel_rfl) (fun _ _ _ h => h) HTb.out rfl ?hy16bz ?_
                case hy16bz => intro wy hSw; obtain ⟨q0, q1, q2, q3, q4⟩ := hSw; go_simp; try with_reducible rfl
                simp only [Act.put, List.setIfInBounds_toArray, List.set_cons_zero, List.set_cons_succ]
                refine wpAnyD_done (by kernel_rfl) ?_ _
                have H0 := hidb h0
                clear h0
                go_wp2_with fail
                go_roundw
                case rel =>
                  refine ⟨k + 1, by omega, by go_num, fun i q hi hq => ?_, HC.out.trans (HDb.out.mono HC.out.size)⟩
                  by_cases hlt : i < k
                  · exact HRJ.out i q hlt hq
                  · obtain rfl : i = k := by omega
                    rw [HPX.out] at hq
                    obtain rfl := Option.some.inj hq
                    exact fun hne => absurd H0.out hne
                case measure => simp [RowKit.intOf]; omega
              · refine wpAnyD_takeL (i := 6) (v := .bool true) rfl (by kernel_rfl) (by kernel_rfl) (by kernel_rfl) (by kernel_rfl) (fun _ _ _ h => h) HTb.out rfl ?cc6n ?_
                case cc6n => intro wy hSw; go_simp; first | done | simp [h0]
                simp only [Act.put, List.setIfInBounds_toArray, List.set_cons_zero, List.set_cons_succ]
                refine wpAnyD_takeL (i := 7) (v := ?vv7bn) rfl (by kernel_rfl) (by kernel_rfl) (by kernel_rfl) (by kernel_rfl) (fun _ _ _ h => h) HTb.out rfl ?hy7bn ?_
                case hy7bn => intro wy hSw; obtain ⟨q0, q1, q2, q3, q4⟩ := hSw; go_simp; try with_reducible rfl
                simp only [Act.put, List.setIfInBounds_toArray, List.set_cons_zero, List.set_cons_succ]
                refine wpAnyD_takeG (i := 8) (v := ?vv8bn) rfl (by kernel_rfl) (by kernel_rfl) (by kernel_rfl) (by kernel_rfl) (fun _ _ _ h => h) HTb.out (by simp [Region.wanted, yielded]) ?hy8bn ?_
                case hy8bn => intro wy hSw; obtain ⟨q0, q1, q2, q3, q4⟩ := hSw; go_simp; try with_reducible rfl
                simp only [Act.put, List.setIfInBounds_toArray, List.set_cons_zero, List.set_cons_succ]
                refine wpAnyD_takeG (i := 9) (v := ?vv9bn) rfl (by kernel_rfl) (by kernel_rfl) (by kernel_rfl) (by kernel_rfl) (fun _ _ _ h => h) HTb.out (by simp [Region.wanted, yielded]) ?hy9bn ?_
                case hy9bn => intro wy hSw; obtain ⟨q0, q1, q2, q3, q4⟩ := hSw; go_simp; try with_reducible rfl
                simp only [Act.put, List.setIfInBounds_toArray, List.set_cons_zero, List.set_cons_succ]
                refine wpAnyD_takeG (i := 10) (v := ?vv10bn) rfl (by kernel_rfl) (by kernel_rfl) (by kernel_rfl) (by kernel_rfl) (fun _ _ _ h => h) HTb.out (by simp [Region.wanted, yielded]) ?hy10bn ?_
                case hy10bn => intro wy hSw; obtain ⟨q0, q1, q2, q3, q4⟩ := hSw; go_simp; try with_reducible rfl
                simp only [Act.put, List.setIfInBounds_toArray, List.set_cons_zero, List.set_cons_succ]
                refine wpAnyD_takeG (i := 11) (v := ?vv11bn) rfl (by kernel_rfl) (by kernel_rfl) (by kernel_rfl) (by kernel_rfl) (fun _ _ _ h => h) HTb.out (by simp [Region.wanted, yielded]) ?hy11bn ?_
                case hy11bn => intro wy hSw; obtain ⟨q0, q1, q2, q3, q4⟩ := hSw; go_simp; try with_reducible rfl
                simp only [Act.put, List.setIfInBounds_toArray, List.set_cons_zero, List.set_cons_succ]
                refine wpAnyD_takeG (i := 12) (v := ?vv12bn) rfl (by kernel_rfl) (by kernel_rfl) (by kernel_rfl) (by kernel_rfl) (fun _ _ _ h => h) HTb.out (by simp [Region.wanted, yielded]) ?hy12bn ?_
                case hy12bn => intro wy hSw; obtain ⟨q0, q1, q2, q3, q4⟩ := hSw; go_simp; try with_reducible rfl
                simp only [Act.put, List.setIfInBounds_toArray, List.set_cons_zero, List.set_cons_succ]
                refine wpAnyD_takeG (i := 13) (v := ?vv13bn) rfl (by kernel_rfl) (by kernel_rfl) (by kernel_rfl) (by kernel_rfl) (fun _ _ _ h => h) HTb.out (by simp [Region.wanted, yielded]) ?hy13bn ?_
                case hy13bn => intro wy hSw; obtain ⟨q0, q1, q2, q3, q4⟩ := hSw; go_simp; try with_reducible rfl
                simp only [Act.put, List.setIfInBounds_toArray, List.set_cons_zero, List.set_cons_succ]
                refine wpAnyD_takeG (i := 14) (v := ?vv14bn) rfl (by kernel_rfl) (by kernel_rfl) (by kernel_rfl) (by kernel_rfl) (fun _ _ _ h => h) HTb.out (by simp [Region.wanted, yielded]) ?hy14bn ?_
                case hy14bn => intro wy hSw; obtain ⟨q0, q1, q2, q3, q4⟩ := hSw; go_simp; try with_reducible rfl
                simp only [Act.put, List.setIfInBounds_toArray, List.set_cons_zero, List.set_cons_succ]
                refine wpAnyD_stepL (i := 15) (by kernel_rfl) rfl (fun K hK => ?_)
                refine step_call (by simp [Region.wanted, yielded]) (run_call ent_gone #[.tmp 53, .tmp 59] _ rfl #[stV (some ⟨b, o, none⟩) np cp la nl cl oa no co, .int .i64 x.pid] rfl) (gone_any wd _ la cp cl np nl ps ls oa no co x.pid (HS.out.keep ((HQ6.out _ HC.out).trans (HDb.out.mono (HQ6.out _ HC.out).size))) HN.out) ?_
                rintro e w7 ⟨⟨r, rfl, hr⟩, hb7⟩
                have HE7 := hidb (HDb.out.trans (hb7.mono HDb.out.size))
                have HC7 := hidb (HC.out.trans (HE7.out.mono HC.out.size))
                have HR := hidb hr
                refine hK _ _ (fun _ => HSAb.out _ HE7.out) ?_
                clear hK K hb7 hr HTb
                have HTb := hidb (HSAb.out _ HE7.out)
                simp only [Act.put, List.setIfInBounds_toArray, List.set_cons_zero, List.set_cons_succ]
                refine wpAnyD_takeL (i := 16) (v := ?vv16bm) rfl (by kernel_rfl) (by kernel_rfl) (by kernel_rfl) (by kernel_rfl) (fun _ _ _ h => h) HTb.out rfl ?hy16bm ?_
                case hy16bm => intro wy hSw; obtain ⟨q0, q1, q2, q3, q4⟩ := hSw; go_simp; try with_reducible rfl
                simp only [Act.put, List.setIfInBounds_toArray, List.set_cons_zero, List.set_cons_succ]
                refine wpAnyD_done (by kernel_rfl) ?_ _
                have H0 := hidb h0
                clear h0
                cases r
                · have HG := hidb (fun hg => (by have h9 := HR.out.2 hg; cases h9) : ¬ Gone ps x.pid)
                  clear HR
                  go_wp2_with fail
                  go_roundw
                  case rel =>
                    refine ⟨k + 1, by omega, by go_num, fun i q hi hq => ?_, HC7.out⟩
                    by_cases hlt : i < k
                    · exact HRJ.out i q hlt hq
                    · obtain rfl : i = k := by omega
                      rw [HPX.out] at hq
                      obtain rfl := Option.some.inj hq
                      exact fun _ => HG.out
                  case measure => simp [RowKit.intOf]; omega
                · have HG : Hid (Gone ps x.pid) := hidb (HR.out.1 rfl)
                  clear HR
                  go_wp2_with fail
                  go_ret
                  exact ⟨⟨false, rfl, fun h => (by cases h), fun h => absurd HG.out ((h p (List.mem_of_getElem? HP.out) HAL.out).2.1 x (List.mem_of_getElem? HPX.out) H0.out)⟩, HQ6.out _ HC7.out⟩
            · have hkn : ¬ (k : Int) < (p.ol : Int) := by omega
              go_wp2_with fail
              have HOS : Hid (∀ h ∈ p.origins, h.pid ≠ 0 → ¬ Gone ps h.pid) := hidb (fun h hh => by
                obtain ⟨i2, hi2⟩ := List.mem_iff_getElem?.1 hh
                exact HRJ.out i2 h (by have := (List.getElem?_eq_some_iff.1 hi2).1; have := HPI.out.lo.1; omega) hi2)
              have HB6 := hidb (HB6.out.trans (HC.out.mono HB6.out.size))
              have HX6 := hidb (HX6.out.keep HC.out)
              clear HRJ HC HXK HXS y9 s0 s1 s2 hkl hkn HO6 HQ6
              obtain ⟨w6, hw6⟩ : ∃ w6, w6 = wr := ⟨_, rfl⟩
              subst hw6
              have HO6 : Hid (∀ W, Below w6.heap.size w6 W → Below W0.heap.size W0 W) := hidb (fun W h => (HB.out.trans (HB6.out.mono HB.out.size)).trans (h.mono (HB.out.trans (HB6.out.mono HB.out.size)).size))
              have HQ6 : Hid (∀ W, Below w6.heap.size w6 W → Below w.heap.size w W) := hidb (fun W h => HB1.out.trans ((HO6.out W h).mono HB1.out.size))
              go_loopw [7] (fun iv wr => ∃ (k : Nat), k ≤ p.tl ∧ iv = .int .i64 k ∧ (∀ (i : Nat) (q : Mn), i < k → p.targets[i]? = some q → ¬ Gone ps q.pid) ∧ Below w6.heap.size w6 wr) (fun iv _ => p.tl - (RowKit.intOf iv).toNat)
              case atStart => exact ⟨0, by omega, rfl, fun i q h => by omega, Below.refl _ _⟩
              case round =>
                obtain ⟨k, hm, rfl, hri, hb⟩ := hrel
                have HRJ := hidb hri
                have HC := hidb hb
                clear hri hb
                have HXK := hidb (HX6.out.keep HC.out)
                have HXS := hidb ((HX0.out.keep (HO6.out _ (Below.refl _ _))).keep HC.out)
                obtain ⟨y9, -⟩ := HXK.out.1 11 _ rfl
                obtain ⟨s0, -⟩ := HXS.out.1 0 _ rfl
                obtain ⟨s1, -⟩ := HXS.out.1 1 _ rfl
                obtain ⟨s2, -⟩ := HXS.out.1 2 _ rfl
                by_cases hkl : k < p.tl
                · have hkb : (k : Int) < (p.tl : Int) := by omega
                  have hkz : (0 : Int) ≤ (k : Int) := by omega
                  have hkw : IntKind.i64.wrap ((k : Int) + 1) = (k : Int) + 1 := by rw [IntKind.wrap_i64]; omega
                  obtain ⟨x, b2, o2, hx, hla, hlt2, hc2⟩ := HPI.out.targets.at k (by have := HPI.out.lt.1; omega)
                  rw [hla] at y9
                  have hq := HB6.out.trans (HC.out.mono HB6.out.size)
                  have d0 : wr.cell? ⟨b2, o2 + k * 3 + 1, none⟩ = some (.int .i64 x.pid) := (hq.cell (p := ⟨b2, o2 + k * 3 + 1, none⟩) hlt2).trans (hc2 1 (by omega))
                  have HPX := hidb hx
                  clear hx hc2 hq hla
                  go_wp2_with fail
                  have HSAc : Hid (∀ W9, Below wr.heap.size wr W9 → W9.cell? ⟨w.heap.size, 0, none⟩ = some (.slice (some ⟨b, o, none⟩) np cp) ∧ W9.cell? ⟨w.heap.size, 1, none⟩ = some (.slice la nl cl) ∧ W9.cell? ⟨w.heap.size, 2, none⟩ = some (.slice oa no co) ∧ W9.cell? ⟨wo.heap.size, 11, none⟩ = some (.slice (some ⟨b2, o2, none⟩) p.tl p.tc) ∧ W9.cell? ⟨b2, o2 + k * 3 + 1, none⟩ = some (.int .i64 x.pid)) := hidb (fun W9 hb => by
                    have cl : ∀ (p : Addr) (v : Value), wr.cell? p = some v → W9.cell? p = some v := fun p v hv => (hb.cell (World.block_lt_of_cell? _ _ hv)).trans hv
                    exact ⟨cl _ _ s0, cl _ _ s1, cl _ _ s2, cl _ _ y9, cl _ _ d0⟩)
                  clear s0 s1 s2 y9 d0
                  refine wp_region_D (fun W9 => W9.cell? ⟨w.heap.size, 0, none⟩ = some (.slice (some ⟨b, o, none⟩) np cp) ∧ W9.cell? ⟨w.heap.size, 1, none⟩ = some (.slice la nl cl) ∧ W9.cell? ⟨w.heap.size, 2, none⟩ = some (.slice oa no co) ∧ W9.cell? ⟨wo.heap.size, 11, none⟩ = some (.slice (some ⟨b2, o2, none⟩) p.tl p.tc) ∧ W9.cell? ⟨b2, o2 + k * 3 + 1, none⟩ = some (.int .i64 x.pid)) [] (by kernel_rfl) ?_
                  have hbd : Below wr.heap.size wr wr.drew := (Below.refl _ _).drew
                  generalize wr.drew = wd at hbd ⊢
                  have HDc := hidb hbd
                  have HTc := hidb (HSAc.out wd hbd)
                  clear hbd
                  refine wpAnyD_takeL (i := 0) (v := ?vv0c) rfl (by kernel_rfl) (by kernel_rfl) (by kernel_rfl) (by kernel_rfl) (fun _ _ _ h => h) HTc.out rfl ?hy0c ?_
                  case hy0c => intro wy hSw; obtain ⟨q0, q1, q2, q3, q4⟩ := hSw; go_simp; try with_reducible rfl
                  simp only [Act.put, List.setIfInBounds_toArray, List.set_cons_zero, List.set_cons_succ]
                  refine wpAnyD_takeL (i := 1) (v := ?vv1c) rfl (by kernel_rfl) (by kernel_rfl) (by kernel_rfl) (by kernel_rfl) (fun _ _ _ h => h) HTc.out rfl ?hy1c ?_
                  case hy1c => intro wy hSw; obtain ⟨q0, q1, q2, q3, q4⟩ := hSw; go_simp; try with_reducible rfl
                  simp only [Act.put, List.setIfInBounds_toArray, List.set_cons_zero, List.set_cons_succ]
                  refine wpAnyD_takeL (i := 2) (v := ?vv2c) rfl (by kernel_rfl) (by kernel_rfl) (by kernel_rfl) (by kernel_rfl) (fun _ _ _ h => h) HTc.out rfl ?hy2c ?_
                  case hy2c => intro wy hSw; obtain ⟨q0, q1, q2, q3, q4⟩ := hSw; go_simp; try with_reducible rfl
                  simp only [Act.put, List.setIfInBounds_toArray, List.set_cons_zero, List.set_cons_succ]
                  refine wpAnyD_takeL (i := 3) (v := ?vv3c) rfl (by kernel_rfl) (by kernel_rfl) (by kernel_rfl) (by kernel_rfl) (fun _ _ _ h => h) HTc.out rfl ?hy3c ?_
                  case hy3c => intro wy hSw; obtain ⟨q0, q1, q2, q3, q4⟩ := hSw; go_simp; try with_reducible rfl
                  simp only [Act.put, List.setIfInBounds_toArray, List.set_cons_zero, List.set_cons_succ]
                  refine wpAnyD_takeL (i := 4) (v := ?vv4c) rfl (by kernel_rfl) (by kernel_rfl) (by kernel_rfl) (by kernel_rfl) (fun _ _ _ h => h) HTc.out rfl ?hy4c ?_
                  case hy4c => intro wy hSw; obtain ⟨q0, q1, q2, q3, q4⟩ := hSw; go_simp; try with_reducible rfl
                  simp only [Act.put, List.setIfInBounds_toArray, List.set_cons_zero, List.set_cons_succ]
                  refine wpAnyD_takeL (i := 5) (v := ?vv5c) rfl (by kernel_rfl) (by kernel_rfl) (by kernel_rfl) (by kernel_rfl) (fun _ _ _ h => h) HTc.out rfl ?hy5c ?_
                  case hy5c => intro wy hSw; obtain ⟨q0, q1, q2, q3, q4⟩ := hSw; go_simp; try with_reducible rfl
                  simp only [Act.put, List.setIfInBounds_toArray, List.set_cons_zero, List.set_cons_succ]
                  refine wpAnyD_takeL (i := 6) (v := ?vv6c) rfl (by kernel_rfl) (by kernel_rfl) (by kernel_rfl) (by kernel_rfl) (fun _ _ _ h => h) HTc.out rfl ?hy6c ?_
                  case hy6c => intro wy hSw; obtain ⟨q0, q1, q2, q3, q4⟩ := hSw; go_simp; try with_reducible rfl
                  simp only [Act.put, List.setIfInBounds_toArray, List.set_cons_zero, List.set_cons_succ]
                  refine wpAnyD_stepL (i := 7) (by kernel_rfl) rfl (fun K hK => ?_)
                  refine step_call rfl (run_call ent_gone #[.tmp 69, .tmp 75] _ rfl #[stV (some ⟨b, o, none⟩) np cp la nl cl oa no co, .int .i64 x.pid] rfl) (gone_any wd _ la cp cl np nl ps ls oa no co x.pid (HS.out.keep ((HQ6.out _ HC.out).trans (HDc.out.mono (HQ6.out _ HC.out).size))) HN.out) ?_
                  rintro e w7 ⟨⟨r, rfl, hr⟩, hb7⟩
                  have HE7 := hidb (HDc.out.trans (hb7.mono HDc.out.size))
                  have HC7 := hidb (HC.out.trans (HE7.out.mono HC.out.size))
                  have HR := hidb hr
                  refine hK _ _ (fun _ => HSAc.out _ HE7.out) ?_
                  clear hK K hb7 hr
                  simp only [Act.put, List.setIfInBounds_toArray, List.set_cons_zero, List.set_cons_succ]
                  refine wpAnyD_done (by kernel_rfl) ?_ _
                  cases r
                  · have HG := hidb (fun hg => (by have h9 := HR.out.2 hg; cases h9) : ¬ Gone ps x.pid)
                    clear HR
                    go_wp2_with fail
                    go_roundw
                    case rel =>
                      refine ⟨k + 1, by omega, by go_num, fun i q hi hq => ?_, HC7.out⟩
                      by_cases hlt : i < k
                      · exact HRJ.out i q hlt hq
                      · obtain rfl : i = k := by omega
                        rw [HPX.out] at hq
                        obtain rfl := Option.some.inj hq
                        exact HG.out
                    case measure => simp [RowKit.intOf]; omega
                  · have HG : Hid (Gone ps x.pid) := hidb (HR.out.1 rfl)
                    clear HR
                    go_wp2_with fail
                    go_ret
                    exact ⟨⟨false, rfl, fun h => (by cases h), fun h => absurd HG.out ((h p (List.mem_of_getElem? HP.out) HAL.out).2.2 x (List.mem_of_getElem? HPX.out))⟩, HQ6.out _ HC7.out⟩
                · have hkn : ¬ (k : Int) < (p.tl : Int) := by omega
                  go_wp2_with fail
                  go_roundw
                  case rel =>
                    refine ⟨m + 1, by omega, by go_num, fun i q hi hq => ?_, HO6.out _ HC.out⟩
                    by_cases hlt : i < m
                    · exact HRI.out i q hlt hq
                    · obtain rfl : i = m := by omega
                      rw [HP.out] at hq
                      obtain rfl := Option.some.inj hq
                      exact fun _ => ⟨HLS.out, HOS.out, fun h hh => by obtain ⟨i2, hi2⟩ := List.mem_iff_getElem?.1 hh; exact HRJ.out i2 h (by have := (List.getElem?_eq_some_iff.1 hi2).1; have := HPI.out.lt.1; omega) hi2⟩
                  case measure => simp [RowKit.intOf]; omega
    · have hmn : ¬ (m : Int) < (np : Int) := by omega
      go_wp2_with fail
      go_ret
      refine ⟨⟨true, rfl, fun _ q hq => ?_, fun _ => rfl⟩, HB1.out.trans (HB.out.mono HB1.out.size)⟩
      obtain ⟨i, hi⟩ := List.mem_iff_getElem?.1 hq
      exact HRI.out i q (by have := (List.getElem?_eq_some_iff.1 hi).1; have := HN.out; omega) hi
end Go.Proofs.Ytjiigabfdigkaaa


