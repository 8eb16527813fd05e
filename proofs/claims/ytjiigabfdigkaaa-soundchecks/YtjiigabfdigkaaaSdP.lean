import Derived.Test.YtjiigabfdigkaaaG25
import Derived.Test.YtjiigabfdigkaaaG10
/- Of a state: halves of monitors are in pairs. -/
namespace Go.Proofs.Ytjiigabfdigkaaa
open Go.RowKit

attribute [local go_sem] store_float
theorem ent_has : Ent 44 := by
  intro args w
  kernel_rfl
/-- There is the half of a monitor that answers to this one. -/
def OrgOk (ps : List Pc) (pid : Int) (m : Mn) : Prop := ∃ (i : Nat) (q : Pc), fi ps m.pid = (i : Int) ∧ ps[i]? = some q ∧ Has q.targets m.ref pid
def TgtOk (ps : List Pc) (pid : Int) (m : Mn) : Prop := ∃ (i : Nat) (q : Pc), fi ps m.pid = (i : Int) ∧ ps[i]? = some q ∧ Has q.origins m.ref pid
/-- Rule 8, of one process. -/
def PairOk (ps : List Pc) (p : Pc) : Prop := Alv p.st → (∀ m ∈ p.origins, m.pid ≠ 0 → OrgOk ps p.pid m) ∧ ∀ m ∈ p.targets, TgtOk ps p.pid m
set_option maxHeartbeats 4000000 in
set_option maxRecDepth 10000 in
theorem paired_any (w : World) (pa la : Option Addr) (cp cl np nl : Nat) (ps : List Pc) (ls : List Ln) (oa : Option Addr) (no co : Nat) (hs : StIn w pa ps la ls) (hnp : ps.length = np) :
    Calls Try.prog 25 #[stV pa np cp la nl cl oa no co] w (Says (∀ p ∈ ps, PairOk ps p) w) := by
  have HS := hidb hs
  have HN := hidb hnp
  have h63 : np ≤ 9223372036854775807 := hnp ▸ hs.lp
  clear hs hnp
  have HX0 := hidb (At.new w [.slice pa np cp, .slice la nl cl, .slice oa no co] 26)
  go_enter Try.func25, Try.ntmps25
  go_wp2_with fail
  obtain ⟨W0, hW0⟩ : ∃ W0, w.alloc (.cells #[.slice pa np cp, .slice la nl cl, .slice oa no co] 26) = W0 := ⟨_, rfl⟩
  have HB1 : Hid (Below w.heap.size w W0) := hidb (by rw [← hW0]; exact below_new w _)
  rw [hW0] at HX0 ⊢
  clear hW0
  go_loopw [3] (fun iv wr => ∃ (m : Nat), m ≤ np ∧ iv = .int .i64 m ∧ (∀ (i : Nat) (q : Pc), i < m → ps[i]? = some q → PairOk ps q) ∧ Below W0.heap.size W0 wr) (fun iv _ => np - (RowKit.intOf iv).toNat)
  case atStart => exact ⟨0, by omega, rfl, fun i q h => by omega, Below.refl _ _⟩
  case round =>
    obtain ⟨m, hm, rfl, hri, hb⟩ := hrel
    have HRI := hidb hri
    have HB := hidb hb
    clear hri hb
    have HX := hidb (HX0.out.keep HB.out)
    obtain ⟨x0, -⟩ := HX.out.1 0 _ rfl
    obtain ⟨x1, -⟩ := HX.out.1 1 _ rfl
    by_cases hml : m < np
    · have hmb : (m : Int) < (np : Int) := by omega
      have hmz : (0 : Int) ≤ (m : Int) := by omega
      have hmw : IntKind.i64.wrap ((m : Int) + 1) = (m : Int) + 1 := by rw [IntKind.wrap_i64]; omega
      obtain ⟨p, b, o, hp, rfl, hlt, hc⟩ := HS.out.procs.at m (by have := HN.out; omega)
      have hq := HB1.out.trans (HB.out.mono HB1.out.size)
      have HPI := hidb ((HS.out.each p (List.mem_of_getElem? hp)).keep hq)
      have cc : ∀ (i : Nat), i < 13 → wr.cell? ⟨b, o + m * 13 + i, none⟩ = (Pc.cells p)[i]? := fun i hi => (hq.cell (p := ⟨b, o + m * 13 + i, none⟩) hlt).trans (hc i hi)
      have c0 : wr.cell? ⟨b, o + m * 13, none⟩ = some (.int .i64 p.pid) := cc 0 (by omega)
      have c1 : wr.cell? ⟨b, o + m * 13 + 1, none⟩ = some (.int .i64 p.st) := cc 1 (by omega)
      have c2 : wr.cell? ⟨b, o + m * 13 + 2, none⟩ = some (.int .i64 p.rk) := cc 2 (by omega)
      have c3 : wr.cell? ⟨b, o + m * 13 + 3, none⟩ = some (.int .i64 p.rn) := cc 3 (by omega)
      have c4 : wr.cell? ⟨b, o + m * 13 + 4, none⟩ = some (.float .f64 p.rf) := cc 4 (by omega)
      have c5 : wr.cell? ⟨b, o + m * 13 + 5, none⟩ = some (.string p.rs) := cc 5 (by omega)
      have c6 : wr.cell? ⟨b, o + m * 13 + 6, none⟩ = some (.slice p.ra p.rl p.rc) := cc 6 (by omega)
      have c7 : wr.cell? ⟨b, o + m * 13 + 7, none⟩ = some (.bool p.trap) := cc 7 (by omega)
      have c8 : wr.cell? ⟨b, o + m * 13 + 8, none⟩ = some (.slice p.ia p.il p.ic) := cc 8 (by omega)
      have c9 : wr.cell? ⟨b, o + m * 13 + 9, none⟩ = some (.slice p.la p.ll p.lc) := cc 9 (by omega)
      have c10 : wr.cell? ⟨b, o + m * 13 + 10, none⟩ = some (.slice p.oa p.ol p.oc) := cc 10 (by omega)
      have c11 : wr.cell? ⟨b, o + m * 13 + 11, none⟩ = some (.slice p.ta p.tl p.tc) := cc 11 (by omega)
      have c12 : wr.cell? ⟨b, o + m * 13 + 12, none⟩ = some (.slice p.na p.nl p.nc) := cc 12 (by omega)
      have HP := hidb hp
      clear hp hc hq cc
      have HX5 := hidb (At.new wr [.int .i64 p.pid, .int .i64 p.st, .int .i64 p.rk, .int .i64 p.rn, .float .f64 p.rf, .string p.rs, .slice p.ra p.rl p.rc, .bool p.trap, .slice p.ia p.il p.ic, .slice p.la p.ll p.lc, .slice p.oa p.ol p.oc, .slice p.ta p.tl p.tc, .slice p.na p.nl p.nc] 45)
      have HB5 : Hid (Below wr.heap.size wr (wr.alloc (.cells #[.int .i64 p.pid, .int .i64 p.st, .int .i64 p.rk, .int .i64 p.rn, .float .f64 p.rf, .string p.rs, .slice p.ra p.rl p.rc, .bool p.trap, .slice p.ia p.il p.ic, .slice p.la p.ll p.lc, .slice p.oa p.ol p.oc, .slice p.ta p.tl p.tc, .slice p.na p.nl p.nc] 45))) := hidb (below_new wr _)
      go_wp2_with fail
      obtain ⟨W5, hW5⟩ : ∃ W5, wr.alloc (.cells #[.int .i64 p.pid, .int .i64 p.st, .int .i64 p.rk, .int .i64 p.rn, .float .f64 p.rf, .string p.rs, .slice p.ra p.rl p.rc, .bool p.trap, .slice p.ia p.il p.ic, .slice p.la p.ll p.lc, .slice p.oa p.ol p.oc, .slice p.ta p.tl p.tc, .slice p.na p.nl p.nc] 45) = W5 := ⟨_, rfl⟩
      rw [hW5] at HB5 ⊢
      have HX5 : Hid (At W5 wr.heap.size [.int .i64 p.pid, .int .i64 p.st, .int .i64 p.rk, .int .i64 p.rn, .float .f64 p.rf, .string p.rs, .slice p.ra p.rl p.rc, .bool p.trap, .slice p.ia p.il p.ic, .slice p.la p.ll p.lc, .slice p.oa p.ol p.oc, .slice p.ta p.tl p.tc, .slice p.na p.nl p.nc]) := hidb (by rw [← hW5]; exact HX5.out)
      clear hW5
      refine (ralive_is _ _ _ _ _ _ _ _ _ _ _ _ _ _ _ _ _ _ _ _ _ _ _ _ _ _).mono ?_
      rintro e w6 ⟨⟨r, rfl, hr⟩, hb6⟩
      have HR := hidb hr
      have HB6 := hidb (HB5.out.trans (hb6.mono HB5.out.size))
      have HX6 := hidb (HX5.out.keep hb6)
      clear hr hb6 HX5 HB5 c0 c1 c2 c3 c4 c5 c6 c7 c8 c9 c10 c11 c12 x0 x1
      have HO6 : Hid (∀ W, Below w6.heap.size w6 W → Below W0.heap.size W0 W) := hidb (fun W h => (HB.out.trans (HB6.out.mono HB.out.size)).trans (h.mono (HB.out.trans (HB6.out.mono HB.out.size)).size))
      have HQ6 : Hid (∀ W, Below w6.heap.size w6 W → Below w.heap.size w W) := hidb (fun W h => HB1.out.trans ((HO6.out W h).mono HB1.out.size))
      cases r
      · have HNA : Hid (¬ Alv p.st) := hidb (fun h => (by have h9 := HR.out.2 h; cases h9))
        clear HR
        go_wp2_with fail
        go_roundw
        case rel =>
          refine ⟨m + 1, by omega, by go_num, fun i q hi hq => ?_, HO6.out _ (Below.refl _ _)⟩
          by_cases hlt : i < m
          · exact HRI.out i q hlt hq
          · obtain rfl : i = m := by omega
            rw [HP.out] at hq
            obtain rfl := Option.some.inj hq
            exact fun h => absurd h HNA.out
        case measure => simp [RowKit.intOf]; omega
      have HAL : Hid (Alv p.st) := hidb (HR.out.1 (by simp))
      clear HR
      have h64 : p.ll ≤ 9223372036854775807 := HPI.out.ll.2
      have h65 : p.ol ≤ 9223372036854775807 := HPI.out.lo.2
      have h66 : p.tl ≤ 9223372036854775807 := HPI.out.lt.2
      go_wp2_with fail
      obtain ⟨wo, hwo⟩ : ∃ wo, wo = wr := ⟨_, rfl⟩
      subst hwo
      go_loopw [5] (fun iv wr => ∃ (k : Nat), k ≤ p.ol ∧ iv = .int .i64 k ∧ (∀ (i : Nat) (q : Mn), i < k → p.origins[i]? = some q → q.pid ≠ 0 → OrgOk ps p.pid q) ∧ Below w6.heap.size w6 wr) (fun iv _ => p.ol - (RowKit.intOf iv).toNat)
      case atStart => exact ⟨0, by omega, rfl, fun i q h => by omega, Below.refl _ _⟩
      case round =>
        obtain ⟨k, hm, rfl, hri, hb⟩ := hrel
        have HRJ := hidb hri
        have HC := hidb hb
        clear hri hb
        have HXK := hidb (HX6.out.keep HC.out)
        have HXS := hidb ((HX0.out.keep (HO6.out _ (Below.refl _ _))).keep HC.out)
        obtain ⟨y9, -⟩ := HXK.out.1 10 _ rfl
        obtain ⟨s0, -⟩ := HXS.out.1 0 _ rfl
        obtain ⟨s1, -⟩ := HXS.out.1 1 _ rfl
        obtain ⟨s2, -⟩ := HXS.out.1 2 _ rfl
        by_cases hkl : k < p.ol
        · have hkb : (k : Int) < (p.ol : Int) := by omega
          have hkz : (0 : Int) ≤ (k : Int) := by omega
          have hkw : IntKind.i64.wrap ((k : Int) + 1) = (k : Int) + 1 := by rw [IntKind.wrap_i64]; omega
          obtain ⟨x, b2, o2, hx, hla, hlt2, hc2⟩ := HPI.out.origins.at k (by have := HPI.out.lo.1; omega)
          rw [hla] at y9
          have hq := HB6.out.trans (HC.out.mono HB6.out.size)
          have d0 : wr.cell? ⟨b2, o2 + k * 3, none⟩ = some (.int .i64 x.ref) := (hq.cell (p := ⟨b2, o2 + k * 3, none⟩) hlt2).trans (hc2 0 (by omega))
          have d1 : wr.cell? ⟨b2, o2 + k * 3 + 1, none⟩ = some (.int .i64 x.pid) := (hq.cell (p := ⟨b2, o2 + k * 3 + 1, none⟩) hlt2).trans (hc2 1 (by omega))
          have d2 : wr.cell? ⟨b2, o2 + k * 3 + 2, none⟩ = some (.string x.name) := (hq.cell (p := ⟨b2, o2 + k * 3 + 2, none⟩) hlt2).trans (hc2 2 (by omega))
          have HPX := hidb hx
          clear hx hc2 hq hla
          have HX8 := hidb (At.new wr [.int .i64 x.ref, .int .i64 x.pid, .string x.name] 81)
          have HB8 : Hid (Below wr.heap.size wr (wr.alloc (.cells #[.int .i64 x.ref, .int .i64 x.pid, .string x.name] 81))) := hidb (below_new wr _)
          have s0' := (HB8.out.cell (World.block_lt_of_cell? _ _ s0)).trans s0
          have s1' := (HB8.out.cell (World.block_lt_of_cell? _ _ s1)).trans s1
          have s2' := (HB8.out.cell (World.block_lt_of_cell? _ _ s2)).trans s2
          by_cases h0 : x.pid = 0
          · have H0 := hidb h0
            clear s0 s1 s2 s0' s1' s2'
            rw [h0] at d1 HX8 HB8
            go_wp2_with fail
            go_wp2_with fail
            go_roundw
            case rel =>
              refine ⟨k + 1, by omega, by go_num, fun i q hi hq => ?_, HC.out.trans (HB8.out.mono HC.out.size)⟩
              by_cases hlt : i < k
              · exact HRJ.out i q hlt hq
              · obtain rfl : i = k := by omega
                rw [HPX.out] at hq
                obtain rfl := Option.some.inj hq
                exact fun hne => absurd H0.out hne
            case measure => simp [RowKit.intOf]; omega
          have H0 := hidb h0
          go_wp2_with fail
          refine (find_any _ _ la cp cl np nl ps ls oa no co x.pid (HS.out.keep (HQ6.out _ (HC.out.trans (HB8.out.mono HC.out.size)))) HN.out).mono ?_
          rintro e w9 ⟨rfl, hb9⟩
          have HB9 := hidb (HB8.out.trans (hb9.mono HB8.out.size))
          have HX9 := hidb (HX8.out.keep hb9)
          have HC9 := hidb (HC.out.trans (HB9.out.mono HC.out.size))
          have HXS9 := hidb (HXS.out.keep HB9.out)
          have HXP9 := hidb (HXK.out.keep HB9.out)
          clear hb9 HX8 HB8 s0 s1 s2 s0' s1' s2' d0 d1 d2 y9
          obtain ⟨n, hn⟩ : ∃ n, fi ps x.pid = n := ⟨_, rfl⟩
          have HFI := hidb hn
          rw [hn]
          clear hn
          go_wp2_with fail
          clear h0
          rcases fi_cases ps x.pid with ⟨hf1, hf2⟩ | ⟨i0, qq, hf1, hq0, hf3, hf4⟩
          · obtain rfl : n = -1 := by have := HFI.out; omega
            refine wp_region_D (fun W9 => True) [] (by kernel_rfl) ?_
            have hbd : Below w9.heap.size w9 w9.drew := (Below.refl _ _).drew
            generalize w9.drew = wd at hbd ⊢
            have HDz := hidb hbd
            clear hbd
            refine wpAnyD_takeL (i := 0) (v := ?vv0dz) rfl (by kernel_rfl) (by kernel_rfl) (by kernel_rfl) (by kernel_rfl) (fun _ _ _ h => h) trivial rfl ?hy0dz ?_
            case hy0dz => intro wy hSw; go_simp; try with_reducible rfl
            simp only [Act.put, List.setIfInBounds_toArray, List.set_cons_zero, List.set_cons_succ]
            refine wpAnyD_takeL (i := 1) (v := .bool true) rfl (by kernel_rfl) (by kernel_rfl) (by kernel_rfl) (by kernel_rfl) (fun _ _ _ h => h) trivial rfl ?cc1dz ?_
            case cc1dz => intro wy hSw; go_simp; first | done | simp [] | omega
            simp only [Act.put, List.setIfInBounds_toArray, List.set_cons_zero, List.set_cons_succ]
            refine wpAnyD_takeL (i := 2) (v := ?vv2dz) rfl (by kernel_rfl) (by kernel_rfl) (by kernel_rfl) (by kernel_rfl) (fun _ _ _ h => h) trivial rfl ?hy2dz ?_
            case hy2dz => intro wy hSw; go_simp; try with_reducible rfl
            simp only [Act.put, List.setIfInBounds_toArray, List.set_cons_zero, List.set_cons_succ]
            refine wpAnyD_skipG (i := 3) rfl (by kernel_rfl) (by kernel_rfl) (by kernel_rfl) (by kernel_rfl) (fun _ _ _ h => h) trivial (by simp [Region.wanted, yielded]) ?_
            simp only [Act.put, List.setIfInBounds_toArray, List.set_cons_zero, List.set_cons_succ]
            refine wpAnyD_skipG (i := 4) rfl (by kernel_rfl) (by kernel_rfl) (by kernel_rfl) (by kernel_rfl) (fun _ _ _ h => h) trivial (by simp [Region.wanted, yielded]) ?_
            simp only [Act.put, List.setIfInBounds_toArray, List.set_cons_zero, List.set_cons_succ]
            refine wpAnyD_skipG (i := 5) rfl (by kernel_rfl) (by kernel_rfl) (by kernel_rfl) (by kernel_rfl) (fun _ _ _ h => h) trivial (by simp [Region.wanted, yielded]) ?_
            simp only [Act.put, List.setIfInBounds_toArray, List.set_cons_zero, List.set_cons_succ]
            refine wpAnyD_skipG (i := 6) rfl (by kernel_rfl) (by kernel_rfl) (by kernel_rfl) (by kernel_rfl) (fun _ _ _ h => h) trivial (by simp [Region.wanted, yielded]) ?_
            simp only [Act.put, List.setIfInBounds_toArray, List.set_cons_zero, List.set_cons_succ]
            refine wpAnyD_skipG (i := 7) rfl (by kernel_rfl) (by kernel_rfl) (by kernel_rfl) (by kernel_rfl) (fun _ _ _ h => h) trivial (by simp [Region.wanted, yielded]) ?_
            simp only [Act.put, List.setIfInBounds_toArray, List.set_cons_zero, List.set_cons_succ]
            refine wpAnyD_skipG (i := 8) rfl (by kernel_rfl) (by kernel_rfl) (by kernel_rfl) (by kernel_rfl) (fun _ _ _ h => h) trivial (by simp [Region.wanted, yielded]) ?_
            simp only [Act.put, List.setIfInBounds_toArray, List.set_cons_zero, List.set_cons_succ]
            refine wpAnyD_skipG (i := 9) rfl (by kernel_rfl) (by kernel_rfl) (by kernel_rfl) (by kernel_rfl) (fun _ _ _ h => h) trivial (by simp [Region.wanted, yielded]) ?_
            simp only [Act.put, List.setIfInBounds_toArray, List.set_cons_zero, List.set_cons_succ]
            refine wpAnyD_skipG (i := 10) rfl (by kernel_rfl) (by kernel_rfl) (by kernel_rfl) (by kernel_rfl) (fun _ _ _ h => h) trivial (by simp [Region.wanted, yielded]) ?_
            simp only [Act.put, List.setIfInBounds_toArray, List.set_cons_zero, List.set_cons_succ]
            refine wpAnyD_skipG (i := 11) rfl (by kernel_rfl) (by kernel_rfl) (by kernel_rfl) (by kernel_rfl) (fun _ _ _ h => h) trivial (by simp [Region.wanted, yielded]) ?_
            simp only [Act.put, List.setIfInBounds_toArray, List.set_cons_zero, List.set_cons_succ]
            refine wpAnyD_skipG (i := 12) rfl (by kernel_rfl) (by kernel_rfl) (by kernel_rfl) (by kernel_rfl) (fun _ _ _ h => h) trivial (by simp [Region.wanted, yielded]) ?_
            simp only [Act.put, List.setIfInBounds_toArray, List.set_cons_zero, List.set_cons_succ]
            refine wpAnyD_skipG (i := 13) rfl (by kernel_rfl) (by kernel_rfl) (by kernel_rfl) (by kernel_rfl) (fun _ _ _ h => h) trivial (by simp [Region.wanted, yielded]) ?_
            simp only [Act.put, List.setIfInBounds_toArray, List.set_cons_zero, List.set_cons_succ]
            refine wpAnyD_skipG (i := 14) rfl (by kernel_rfl) (by kernel_rfl) (by kernel_rfl) (by kernel_rfl) (fun _ _ _ h => h) trivial (by simp [Region.wanted, yielded]) ?_
            simp only [Act.put, List.setIfInBounds_toArray, List.set_cons_zero, List.set_cons_succ]
            refine wpAnyD_takeL (i := 15) (v := ?vv15dz) rfl (by kernel_rfl) (by kernel_rfl) (by kernel_rfl) (by kernel_rfl) (fun _ _ _ h => h) trivial rfl ?hy15dz ?_
            case hy15dz => intro wy hSw; go_simp; try with_reducible rfl
            simp only [Act.put, List.setIfInBounds_toArray, List.set_cons_zero, List.set_cons_succ]
            refine wpAnyD_done (by kernel_rfl) ?_ _
            have HF9 := hidb hf1
            clear hf1 hf2
            go_wp2_with fail
            go_ret
            exact ⟨⟨false, rfl, fun h => (by cases h), fun h => absurd ((h p (List.mem_of_getElem? HP.out) HAL.out).1 x (List.mem_of_getElem? HPX.out) H0.out) (fun ⟨i, q, h1, _⟩ => by have := HF9.out; omega)⟩, HQ6.out _ (HC9.out.trans (HDz.out.mono HC9.out.size))⟩
          · obtain rfl : n = (i0 : Int) := by have := HFI.out; omega
            have hil : i0 < np := by have h1 := (List.getElem?_eq_some_iff.1 hq0).1; have h2 := HN.out; omega
            have hil1 : (i0 : Int) < (np : Int) := by omega
            have hil2 : (0 : Int) ≤ (i0 : Int) := by omega
            have hwq := HQ6.out _ HC9.out
            have HQI := hidb (HS.out.each qq (List.mem_of_getElem? hq0))
            have hcq : w9.cell? ⟨b, o + i0 * 13 + 11, none⟩ = some (.slice qq.ta qq.tl qq.tc) := by
              obtain ⟨b3, o3, h1, h2, h3⟩ := HS.out.procs i0 qq hq0
              obtain ⟨rfl, rfl⟩ : b = b3 ∧ o = o3 := by simpa using h1
              exact (hwq.cell (p := ⟨b, o + i0 * 13 + 11, none⟩) h2).trans (h3 11 (by omega))
            have HF9 := hidb (And.intro hf1 hq0)
            have HSAd : Hid (∀ W9, Below w9.heap.size w9 W9 → W9.cell? ⟨w.heap.size, 0, none⟩ = some (.slice (some ⟨b, o, none⟩) np cp) ∧ W9.cell? ⟨b, o + i0 * 13 + 11, none⟩ = some (.slice qq.ta qq.tl qq.tc) ∧ W9.cell? ⟨wr.heap.size, 0, none⟩ = some (.int .i64 x.ref) ∧ W9.cell? ⟨wo.heap.size, 0, none⟩ = some (.int .i64 p.pid)) := hidb (fun W9 hb => by
              have cl : ∀ (p : Addr) (v : Value), w9.cell? p = some v → W9.cell? p = some v := fun p v hv => (hb.cell (World.block_lt_of_cell? _ _ hv)).trans hv
              exact ⟨cl _ _ (HXS9.out.1 0 _ rfl).1, cl _ _ hcq, cl _ _ (HX9.out.1 0 _ rfl).1, cl _ _ (HXP9.out.1 0 _ rfl).1⟩)
            clear hcq hwq hf1 hq0 hf3 hf4 hil
            refine wp_region_D (fun W9 => W9.cell? ⟨w.heap.size, 0, none⟩ = some (.slice (some ⟨b, o, none⟩) np cp) ∧ W9.cell? ⟨b, o + i0 * 13 + 11, none⟩ = some (.slice qq.ta qq.tl qq.tc) ∧ W9.cell? ⟨wr.heap.size, 0, none⟩ = some (.int .i64 x.ref) ∧ W9.cell? ⟨wo.heap.size, 0, none⟩ = some (.int .i64 p.pid)) [] (by kernel_rfl) ?_
            have hbd : Below w9.heap.size w9 w9.drew := (Below.refl _ _).drew
            generalize w9.drew = wd at hbd ⊢
            have HDd := hidb hbd
            have HTd := hidb (HSAd.out wd hbd)
            clear hbd
            refine wpAnyD_takeL (i := 0) (v := ?vv0dn) rfl (by kernel_rfl) (by kernel_rfl) (by kernel_rfl) (by kernel_rfl) (fun _ _ _ h => h) HTd.out rfl ?hy0dn ?_
            case hy0dn => intro wy hSw; obtain ⟨q0, q1, q2, q3⟩ := hSw; go_simp; try with_reducible rfl
            simp only [Act.put, List.setIfInBounds_toArray, List.set_cons_zero, List.set_cons_succ]
            refine wpAnyD_takeL (i := 1) (v := .bool false) rfl (by kernel_rfl) (by kernel_rfl) (by kernel_rfl) (by kernel_rfl) (fun _ _ _ h => h) HTd.out rfl ?cc1dn ?_
            case cc1dn => intro wy hSw; go_simp; first | done | simp [] | omega
            simp only [Act.put, List.setIfInBounds_toArray, List.set_cons_zero, List.set_cons_succ]
            refine wpAnyD_takeL (i := 2) (v := ?vv2dn) rfl (by kernel_rfl) (by kernel_rfl) (by kernel_rfl) (by kernel_rfl) (fun _ _ _ h => h) HTd.out rfl ?hy2dn ?_
            case hy2dn => intro wy hSw; obtain ⟨q0, q1, q2, q3⟩ := hSw; go_simp; try with_reducible rfl
            simp only [Act.put, List.setIfInBounds_toArray, List.set_cons_zero, List.set_cons_succ]
            refine wpAnyD_takeG (i := 3) (v := ?vv3dn) rfl (by kernel_rfl) (by kernel_rfl) (by kernel_rfl) (by kernel_rfl) (fun _ _ _ h => h) HTd.out (by simp [Region.wanted, yielded]) ?hy3dn ?_
            case hy3dn => intro wy hSw; obtain ⟨q0, q1, q2, q3⟩ := hSw; go_simp; try with_reducible rfl
            simp only [Act.put, List.setIfInBounds_toArray, List.set_cons_zero, List.set_cons_succ]
            refine wpAnyD_takeG (i := 4) (v := ?vv4dn) rfl (by kernel_rfl) (by kernel_rfl) (by kernel_rfl) (by kernel_rfl) (fun _ _ _ h => h) HTd.out (by simp [Region.wanted, yielded]) ?hy4dn ?_
            case hy4dn => intro wy hSw; obtain ⟨q0, q1, q2, q3⟩ := hSw; go_simp; try with_reducible rfl
            simp only [Act.put, List.setIfInBounds_toArray, List.set_cons_zero, List.set_cons_succ]
            refine wpAnyD_takeG (i := 5) (v := ?vv5dn) rfl (by kernel_rfl) (by kernel_rfl) (by kernel_rfl) (by kernel_rfl) (fun _ _ _ h => h) HTd.out (by simp [Region.wanted, yielded]) ?hy5dn ?_
            case hy5dn => intro wy hSw; obtain ⟨q0, q1, q2, q3⟩ := hSw; go_simp; try with_reducible rfl
            simp only [Act.put, List.setIfInBounds_toArray, List.set_cons_zero, List.set_cons_succ]
            refine wpAnyD_takeG (i := 6) (v := ?vv6dn) rfl (by kernel_rfl) (by kernel_rfl) (by kernel_rfl) (by kernel_rfl) (fun _ _ _ h => h) HTd.out (by simp [Region.wanted, yielded]) ?hy6dn ?_
            case hy6dn => intro wy hSw; obtain ⟨q0, q1, q2, q3⟩ := hSw; go_simp; try with_reducible rfl
            simp only [Act.put, List.setIfInBounds_toArray, List.set_cons_zero, List.set_cons_succ]
            refine wpAnyD_takeG (i := 7) (v := ?vv7dn) rfl (by kernel_rfl) (by kernel_rfl) (by kernel_rfl) (by kernel_rfl) (fun _ _ _ h => h) HTd.out (by simp [Region.wanted, yielded]) ?hy7dn ?_
            case hy7dn => intro wy hSw; obtain ⟨q0, q1, q2, q3⟩ := hSw; go_simp; try with_reducible rfl
            simp only [Act.put, List.setIfInBounds_toArray, List.set_cons_zero, List.set_cons_succ]
            refine wpAnyD_takeG (i := 8) (v := ?vv8dn) rfl (by kernel_rfl) (by kernel_rfl) (by kernel_rfl) (by kernel_rfl) (fun _ _ _ h => h) HTd.out (by simp [Region.wanted, yielded]) ?hy8dn ?_
            case hy8dn => intro wy hSw; obtain ⟨q0, q1, q2, q3⟩ := hSw; go_simp; try with_reducible rfl
            simp only [Act.put, List.setIfInBounds_toArray, List.set_cons_zero, List.set_cons_succ]
            refine wpAnyD_takeG (i := 9) (v := ?vv9dn) rfl (by kernel_rfl) (by kernel_rfl) (by kernel_rfl) (by kernel_rfl) (fun _ _ _ h => h) HTd.out (by simp [Region.wanted, yielded]) ?hy9dn ?_
            case hy9dn => intro wy hSw; obtain ⟨q0, q1, q2, q3⟩ := hSw; go_simp; try with_reducible rfl
            simp only [Act.put, List.setIfInBounds_toArray, List.set_cons_zero, List.set_cons_succ]
            refine wpAnyD_takeG (i := 10) (v := ?vv10dn) rfl (by kernel_rfl) (by kernel_rfl) (by kernel_rfl) (by kernel_rfl) (fun _ _ _ h => h) HTd.out (by simp [Region.wanted, yielded]) ?hy10dn ?_
            case hy10dn => intro wy hSw; obtain ⟨q0, q1, q2, q3⟩ := hSw; go_simp; try with_reducible rfl
            simp only [Act.put, List.setIfInBounds_toArray, List.set_cons_zero, List.set_cons_succ]
            refine wpAnyD_takeG (i := 11) (v := ?vv11dn) rfl (by kernel_rfl) (by kernel_rfl) (by kernel_rfl) (by kernel_rfl) (fun _ _ _ h => h) HTd.out (by simp [Region.wanted, yielded]) ?hy11dn ?_
            case hy11dn => intro wy hSw; obtain ⟨q0, q1, q2, q3⟩ := hSw; go_simp; try with_reducible rfl
            simp only [Act.put, List.setIfInBounds_toArray, List.set_cons_zero, List.set_cons_succ]
            refine wpAnyD_takeG (i := 12) (v := ?vv12dn) rfl (by kernel_rfl) (by kernel_rfl) (by kernel_rfl) (by kernel_rfl) (fun _ _ _ h => h) HTd.out (by simp [Region.wanted, yielded]) ?hy12dn ?_
            case hy12dn => intro wy hSw; obtain ⟨q0, q1, q2, q3⟩ := hSw; go_simp; try with_reducible rfl
            simp only [Act.put, List.setIfInBounds_toArray, List.set_cons_zero, List.set_cons_succ]
            refine wpAnyD_stepL (i := 13) (by kernel_rfl) rfl (fun K hK => ?_)
            refine step_call (by simp [Region.wanted, yielded]) (run_call ent_has #[.tmp 53, .tmp 55, .tmp 57] _ rfl #[.slice qq.ta qq.tl qq.tc, .int .i64 x.ref, .int .i64 p.pid] rfl) (has_any wd qq.ta qq.tc qq.tl qq.targets x.ref p.pid (HQI.out.targets.keep ((HQ6.out _ HC9.out).trans (HDd.out.mono (HQ6.out _ HC9.out).size))) HQI.out.lt.1 HQI.out.lt.2) ?_
            rintro e w7 ⟨⟨r, rfl, hr⟩, hb7⟩
            have HE7 := hidb (HDd.out.trans (hb7.mono HDd.out.size))
            have HC7 := hidb (HC9.out.trans (HE7.out.mono HC9.out.size))
            have HR := hidb hr
            refine hK _ _ (fun _ => HSAd.out _ HE7.out) ?_
            clear hK K hb7 hr HTd
            have HTd := hidb (HSAd.out _ HE7.out)
            simp only [Act.put, List.setIfInBounds_toArray, List.set_cons_zero, List.set_cons_succ]
            refine wpAnyD_takeG (i := 14) (v := ?vv14dm) rfl (by kernel_rfl) (by kernel_rfl) (by kernel_rfl) (by kernel_rfl) (fun _ _ _ h => h) HTd.out (by simp [Region.wanted, yielded]) ?hy14dm ?_
            case hy14dm => intro wy hSw; obtain ⟨q0, q1, q2, q3⟩ := hSw; go_simp; try with_reducible rfl
            simp only [Act.put, List.setIfInBounds_toArray, List.set_cons_zero, List.set_cons_succ]
            refine wpAnyD_takeL (i := 15) (v := ?vv15dm) rfl (by kernel_rfl) (by kernel_rfl) (by kernel_rfl) (by kernel_rfl) (fun _ _ _ h => h) HTd.out rfl ?hy15dm ?_
            case hy15dm => intro wy hSw; obtain ⟨q0, q1, q2, q3⟩ := hSw; go_simp; try with_reducible rfl
            simp only [Act.put, List.setIfInBounds_toArray, List.set_cons_zero, List.set_cons_succ]
            refine wpAnyD_done (by kernel_rfl) ?_ _
            cases r
            · have HG := hidb (fun hg => (by have h9 := HR.out.2 hg; cases h9) : ¬ Has qq.targets x.ref p.pid)
              clear HR
              go_wp2_with fail
              go_ret
              exact ⟨⟨false, rfl, fun h => (by cases h), fun h => absurd ((h p (List.mem_of_getElem? HP.out) HAL.out).1 x (List.mem_of_getElem? HPX.out) H0.out) (fun ⟨i, q, h1, h2, h3⟩ => by
                obtain rfl : i = i0 := by have := HF9.out.1; omega
                rw [HF9.out.2] at h2
                obtain rfl := Option.some.inj h2
                exact HG.out h3)⟩, HQ6.out _ HC7.out⟩
            · have HG : Hid (Has qq.targets x.ref p.pid) := hidb (HR.out.1 rfl)
              clear HR
              go_wp2_with fail
              go_roundw
              case rel =>
                refine ⟨k + 1, by omega, by go_num, fun i q hi hq => ?_, HC7.out⟩
                by_cases hlt : i < k
                · exact HRJ.out i q hlt hq
                · obtain rfl : i = k := by omega
                  rw [HPX.out] at hq
                  obtain rfl := Option.some.inj hq
                  exact fun _ => ⟨i0, qq, HF9.out.1, HF9.out.2, HG.out⟩
              case measure => simp [RowKit.intOf]; omega
        · have hkn : ¬ (k : Int) < (p.ol : Int) := by omega
          go_wp2_with fail
          have HOS : Hid (∀ h ∈ p.origins, h.pid ≠ 0 → OrgOk ps p.pid h) := hidb (fun h hh => by
            obtain ⟨i2, hi2⟩ := List.mem_iff_getElem?.1 hh
            exact HRJ.out i2 h (by have := (List.getElem?_eq_some_iff.1 hi2).1; have := HPI.out.lo.1; omega) hi2)
          have HB6 := hidb (HB6.out.trans (HC.out.mono HB6.out.size))
          have HX6 := hidb (HX6.out.keep HC.out)
          clear HRJ HC HXK HXS y9 s0 s1 s2 hkl hkn HO6 HQ6
          obtain ⟨w6, hw6⟩ : ∃ w6, w6 = wr := ⟨_, rfl⟩
          subst hw6
          have HO6 : Hid (∀ W, Below w6.heap.size w6 W → Below W0.heap.size W0 W) := hidb (fun W h => (HB.out.trans (HB6.out.mono HB.out.size)).trans (h.mono (HB.out.trans (HB6.out.mono HB.out.size)).size))
          have HQ6 : Hid (∀ W, Below w6.heap.size w6 W → Below w.heap.size w W) := hidb (fun W h => HB1.out.trans ((HO6.out W h).mono HB1.out.size))
          go_loopw [8] (fun iv wr => ∃ (k : Nat), k ≤ p.tl ∧ iv = .int .i64 k ∧ (∀ (i : Nat) (q : Mn), i < k → p.targets[i]? = some q → TgtOk ps p.pid q) ∧ Below w6.heap.size w6 wr) (fun iv _ => p.tl - (RowKit.intOf iv).toNat)
          case atStart => exact ⟨0, by omega, rfl, fun i q h => by omega, Below.refl _ _⟩
          case round =>
            obtain ⟨k, hm, rfl, hri, hb⟩ := hrel
            have HRJ := hidb hri
            have HC := hidb hb
            clear hri hb
            have HXK := hidb (HX6.out.keep HC.out)
            have HXS := hidb ((HX0.out.keep (HO6.out _ (Below.refl _ _))).keep HC.out)
            obtain ⟨y9, -⟩ := HXK.out.1 11 _ rfl
            obtain ⟨s0, -⟩ := HXS.out.1 0 _ rfl
            obtain ⟨s1, -⟩ := HXS.out.1 1 _ rfl
            obtain ⟨s2, -⟩ := HXS.out.1 2 _ rfl
            by_cases hkl : k < p.tl
            · have hkb : (k : Int) < (p.tl : Int) := by omega
              have hkz : (0 : Int) ≤ (k : Int) := by omega
              have hkw : IntKind.i64.wrap ((k : Int) + 1) = (k : Int) + 1 := by rw [IntKind.wrap_i64]; omega
              obtain ⟨x, b2, o2, hx, hla, hlt2, hc2⟩ := HPI.out.targets.at k (by have := HPI.out.lt.1; omega)
              rw [hla] at y9
              have hq := HB6.out.trans (HC.out.mono HB6.out.size)
              have d0 : wr.cell? ⟨b2, o2 + k * 3, none⟩ = some (.int .i64 x.ref) := (hq.cell (p := ⟨b2, o2 + k * 3, none⟩) hlt2).trans (hc2 0 (by omega))
              have d1 : wr.cell? ⟨b2, o2 + k * 3 + 1, none⟩ = some (.int .i64 x.pid) := (hq.cell (p := ⟨b2, o2 + k * 3 + 1, none⟩) hlt2).trans (hc2 1 (by omega))
              have d2 : wr.cell? ⟨b2, o2 + k * 3 + 2, none⟩ = some (.string x.name) := (hq.cell (p := ⟨b2, o2 + k * 3 + 2, none⟩) hlt2).trans (hc2 2 (by omega))
              have HPX := hidb hx
              clear hx hc2 hq hla
              have HX8 := hidb (At.new wr [.int .i64 x.ref, .int .i64 x.pid, .string x.name] 81)
              have HB8 : Hid (Below wr.heap.size wr (wr.alloc (.cells #[.int .i64 x.ref, .int .i64 x.pid, .string x.name] 81))) := hidb (below_new wr _)
              have s0' := (HB8.out.cell (World.block_lt_of_cell? _ _ s0)).trans s0
              have s1' := (HB8.out.cell (World.block_lt_of_cell? _ _ s1)).trans s1
              have s2' := (HB8.out.cell (World.block_lt_of_cell? _ _ s2)).trans s2
              go_wp2_with fail
              refine (find_any _ _ la cp cl np nl ps ls oa no co x.pid (HS.out.keep (HQ6.out _ (HC.out.trans (HB8.out.mono HC.out.size)))) HN.out).mono ?_
              rintro e w9 ⟨rfl, hb9⟩
              have HB9 := hidb (HB8.out.trans (hb9.mono HB8.out.size))
              have HX9 := hidb (HX8.out.keep hb9)
              have HC9 := hidb (HC.out.trans (HB9.out.mono HC.out.size))
              have HXS9 := hidb (HXS.out.keep HB9.out)
              have HXP9 := hidb (HXK.out.keep HB9.out)
              clear hb9 HX8 HB8 s0 s1 s2 s0' s1' s2' d0 d1 d2 y9
              obtain ⟨n, hn⟩ : ∃ n, fi ps x.pid = n := ⟨_, rfl⟩
              have HFI := hidb hn
              rw [hn]
              clear hn
              go_wp2_with fail
              rcases fi_cases ps x.pid with ⟨hf1, hf2⟩ | ⟨i0, qq, hf1, hq0, hf3, hf4⟩
              · obtain rfl : n = -1 := by have := HFI.out; omega
                refine wp_region_D (fun W9 => True) [] (by kernel_rfl) ?_
                have hbd : Below w9.heap.size w9 w9.drew := (Below.refl _ _).drew
                generalize w9.drew = wd at hbd ⊢
                have HDz := hidb hbd
                clear hbd
                refine wpAnyD_takeL (i := 0) (v := ?vv0ez) rfl (by kernel_rfl) (by kernel_rfl) (by kernel_rfl) (by kernel_rfl) (fun _ _ _ h => h) trivial rfl ?hy0ez ?_
                case hy0ez => intro wy hSw; go_simp; try with_reducible rfl
                simp only [Act.put, List.setIfInBounds_toArray, List.set_cons_zero, List.set_cons_succ]
                refine wpAnyD_takeL (i := 1) (v := .bool true) rfl (by kernel_rfl) (by kernel_rfl) (by kernel_rfl) (by kernel_rfl) (fun _ _ _ h => h) trivial rfl ?cc1ez ?_
                case cc1ez => intro wy hSw; go_simp; first | done | simp [] | omega
                simp only [Act.put, List.setIfInBounds_toArray, List.set_cons_zero, List.set_cons_succ]
                refine wpAnyD_takeL (i := 2) (v := ?vv2ez) rfl (by kernel_rfl) (by kernel_rfl) (by kernel_rfl) (by kernel_rfl) (fun _ _ _ h => h) trivial rfl ?hy2ez ?_
                case hy2ez => intro wy hSw; go_simp; try with_reducible rfl
                simp only [Act.put, List.setIfInBounds_toArray, List.set_cons_zero, List.set_cons_succ]
                refine wpAnyD_skipG (i := 3) rfl (by kernel_rfl) (by kernel_rfl) (by kernel_rfl) (by kernel_rfl) (fun _ _ _ h => h) trivial (by simp [Region.wanted, yielded]) ?_
                simp only [Act.put, List.setIfInBounds_toArray, List.set_cons_zero, List.set_cons_succ]
                refine wpAnyD_skipG (i := 4) rfl (by kernel_rfl) (by kernel_rfl) (by kernel_rfl) (by kernel_rfl) (fun _ _ _ h => h) trivial (by simp [Region.wanted, yielded]) ?_
                simp only [Act.put, List.setIfInBounds_toArray, List.set_cons_zero, List.set_cons_succ]
                refine wpAnyD_skipG (i := 5) rfl (by kernel_rfl) (by kernel_rfl) (by kernel_rfl) (by kernel_rfl) (fun _ _ _ h => h) trivial (by simp [Region.wanted, yielded]) ?_
                simp only [Act.put, List.setIfInBounds_toArray, List.set_cons_zero, List.set_cons_succ]
                refine wpAnyD_skipG (i := 6) rfl (by kernel_rfl) (by kernel_rfl) (by kernel_rfl) (by kernel_rfl) (fun _ _ _ h => h) trivial (by simp [Region.wanted, yielded]) ?_
                simp only [Act.put, List.setIfInBounds_toArray, List.set_cons_zero, List.set_cons_succ]
                refine wpAnyD_skipG (i := 7) rfl (by kernel_rfl) (by kernel_rfl) (by kernel_rfl) (by kernel_rfl) (fun _ _ _ h => h) trivial (by simp [Region.wanted, yielded]) ?_
                simp only [Act.put, List.setIfInBounds_toArray, List.set_cons_zero, List.set_cons_succ]
                refine wpAnyD_skipG (i := 8) rfl (by kernel_rfl) (by kernel_rfl) (by kernel_rfl) (by kernel_rfl) (fun _ _ _ h => h) trivial (by simp [Region.wanted, yielded]) ?_
                simp only [Act.put, List.setIfInBounds_toArray, List.set_cons_zero, List.set_cons_succ]
                refine wpAnyD_skipG (i := 9) rfl (by kernel_rfl) (by kernel_rfl) (by kernel_rfl) (by kernel_rfl) (fun _ _ _ h => h) trivial (by simp [Region.wanted, yielded]) ?_
                simp only [Act.put, List.setIfInBounds_toArray, List.set_cons_zero, List.set_cons_succ]
                refine wpAnyD_skipG (i := 10) rfl (by kernel_rfl) (by kernel_rfl) (by kernel_rfl) (by kernel_rfl) (fun _ _ _ h => h) trivial (by simp [Region.wanted, yielded]) ?_
                simp only [Act.put, List.setIfInBounds_toArray, List.set_cons_zero, List.set_cons_succ]
                refine wpAnyD_skipG (i := 11) rfl (by kernel_rfl) (by kernel_rfl) (by kernel_rfl) (by kernel_rfl) (fun _ _ _ h => h) trivial (by simp [Region.wanted, yielded]) ?_
                simp only [Act.put, List.setIfInBounds_toArray, List.set_cons_zero, List.set_cons_succ]
                refine wpAnyD_skipG (i := 12) rfl (by kernel_rfl) (by kernel_rfl) (by kernel_rfl) (by kernel_rfl) (fun _ _ _ h => h) trivial (by simp [Region.wanted, yielded]) ?_
                simp only [Act.put, List.setIfInBounds_toArray, List.set_cons_zero, List.set_cons_succ]
                refine wpAnyD_skipG (i := 13) rfl (by kernel_rfl) (by kernel_rfl) (by kernel_rfl) (by kernel_rfl) (fun _ _ _ h => h) trivial (by simp [Region.wanted, yielded]) ?_
                simp only [Act.put, List.setIfInBounds_toArray, List.set_cons_zero, List.set_cons_succ]
                refine wpAnyD_skipG (i := 14) rfl (by kernel_rfl) (by kernel_rfl) (by kernel_rfl) (by kernel_rfl) (fun _ _ _ h => h) trivial (by simp [Region.wanted, yielded]) ?_
                simp only [Act.put, List.setIfInBounds_toArray, List.set_cons_zero, List.set_cons_succ]
                refine wpAnyD_takeL (i := 15) (v := ?vv15ez) rfl (by kernel_rfl) (by kernel_rfl) (by kernel_rfl) (by kernel_rfl) (fun _ _ _ h => h) trivial rfl ?hy15ez ?_
                case hy15ez => intro wy hSw; go_simp; try with_reducible rfl
                simp only [Act.put, List.setIfInBounds_toArray, List.set_cons_zero, List.set_cons_succ]
                refine wpAnyD_done (by kernel_rfl) ?_ _
                have HF9 := hidb hf1
                clear hf1 hf2
                go_wp2_with fail
                go_ret
                exact ⟨⟨false, rfl, fun h => (by cases h), fun h => absurd ((h p (List.mem_of_getElem? HP.out) HAL.out).2 x (List.mem_of_getElem? HPX.out)) (fun ⟨i, q, h1, _⟩ => by have := HF9.out; omega)⟩, HQ6.out _ (HC9.out.trans (HDz.out.mono HC9.out.size))⟩
              · obtain rfl : n = (i0 : Int) := by have := HFI.out; omega
                have hil : i0 < np := by have h1 := (List.getElem?_eq_some_iff.1 hq0).1; have h2 := HN.out; omega
                have hil1 : (i0 : Int) < (np : Int) := by omega
                have hil2 : (0 : Int) ≤ (i0 : Int) := by omega
                have hwq := HQ6.out _ HC9.out
                have HQI := hidb (HS.out.each qq (List.mem_of_getElem? hq0))
                have hcq : w9.cell? ⟨b, o + i0 * 13 + 10, none⟩ = some (.slice qq.oa qq.ol qq.oc) := by
                  obtain ⟨b3, o3, h1, h2, h3⟩ := HS.out.procs i0 qq hq0
                  obtain ⟨rfl, rfl⟩ : b = b3 ∧ o = o3 := by simpa using h1
                  exact (hwq.cell (p := ⟨b, o + i0 * 13 + 10, none⟩) h2).trans (h3 10 (by omega))
                have HF9 := hidb (And.intro hf1 hq0)
                have HSAe : Hid (∀ W9, Below w9.heap.size w9 W9 → W9.cell? ⟨w.heap.size, 0, none⟩ = some (.slice (some ⟨b, o, none⟩) np cp) ∧ W9.cell? ⟨b, o + i0 * 13 + 10, none⟩ = some (.slice qq.oa qq.ol qq.oc) ∧ W9.cell? ⟨wr.heap.size, 0, none⟩ = some (.int .i64 x.ref) ∧ W9.cell? ⟨wo.heap.size, 0, none⟩ = some (.int .i64 p.pid)) := hidb (fun W9 hb => by
                  have cl : ∀ (p : Addr) (v : Value), w9.cell? p = some v → W9.cell? p = some v := fun p v hv => (hb.cell (World.block_lt_of_cell? _ _ hv)).trans hv
                  exact ⟨cl _ _ (HXS9.out.1 0 _ rfl).1, cl _ _ hcq, cl _ _ (HX9.out.1 0 _ rfl).1, cl _ _ (HXP9.out.1 0 _ rfl).1⟩)
                clear hcq hwq hf1 hq0 hf3 hf4 hil
                refine wp_region_D (fun W9 => W9.cell? ⟨w.heap.size, 0, none⟩ = some (.slice (some ⟨b, o, none⟩) np cp) ∧ W9.cell? ⟨b, o + i0 * 13 + 10, none⟩ = some (.slice qq.oa qq.ol qq.oc) ∧ W9.cell? ⟨wr.heap.size, 0, none⟩ = some (.int .i64 x.ref) ∧ W9.cell? ⟨wo.heap.size, 0, none⟩ = some (.int .i64 p.pid)) [] (by kernel_rfl) ?_
                have hbd : Below w9.heap.size w9 w9.drew := (Below.refl _ _).drew
                generalize w9.drew = wd at hbd ⊢
                have HDe := hidb hbd
                have HTe := hidb (HSAe.out wd hbd)
                clear hbd
                refine wpAnyD_takeL (i := 0) (v := ?vv0en) rfl (by kernel_rfl) (by kernel_rfl) (by kernel_rfl) (by kernel_rfl) (fun _ _ _ h => h) HTe.out rfl ?hy0en ?_
                case hy0en => intro wy hSw; obtain ⟨q0, q1, q2, q3⟩ := hSw; go_simp; try with_reducible rfl
                simp only [Act.put, List.setIfInBounds_toArray, List.set_cons_zero, List.set_cons_succ]
                refine wpAnyD_takeL (i := 1) (v := .bool false) rfl (by kernel_rfl) (by kernel_rfl) (by kernel_rfl) (by kernel_rfl) (fun _ _ _ h => h) HTe.out rfl ?cc1en ?_
                case cc1en => intro wy hSw; go_simp; first | done | simp [] | omega
                simp only [Act.put, List.setIfInBounds_toArray, List.set_cons_zero, List.set_cons_succ]
                refine wpAnyD_takeL (i := 2) (v := ?vv2en) rfl (by kernel_rfl) (by kernel_rfl) (by kernel_rfl) (by kernel_rfl) (fun _ _ _ h => h) HTe.out rfl ?hy2en ?_
                case hy2en => intro wy hSw; obtain ⟨q0, q1, q2, q3⟩ := hSw; go_simp; try with_reducible rfl
                simp only [Act.put, List.setIfInBounds_toArray, List.set_cons_zero, List.set_cons_succ]
                refine wpAnyD_takeG (i := 3) (v := ?vv3en) rfl (by kernel_rfl) (by kernel_rfl) (by kernel_rfl) (by kernel_rfl) (fun _ _ _ h => h) HTe.out (by simp [Region.wanted, yielded]) ?hy3en ?_
                case hy3en => intro wy hSw; obtain ⟨q0, q1, q2, q3⟩ := hSw; go_simp; try with_reducible rfl
                simp only [Act.put, List.setIfInBounds_toArray, List.set_cons_zero, List.set_cons_succ]
                refine wpAnyD_takeG (i := 4) (v := ?vv4en) rfl (by kernel_rfl) (by kernel_rfl) (by kernel_rfl) (by kernel_rfl) (fun _ _ _ h => h) HTe.out (by simp [Region.wanted, yielded]) ?hy4en ?_
                case hy4en => intro wy hSw; obtain ⟨q0, q1, q2, q3⟩ := hSw; go_simp; try with_reducible rfl
                simp only [Act.put, List.setIfInBounds_toArray, List.set_cons_zero, List.set_cons_succ]
                refine wpAnyD_takeG (i := 5) (v := ?vv5en) rfl (by kernel_rfl) (by kernel_rfl) (by kernel_rfl) (by kernel_rfl) (fun _ _ _ h => h) HTe.out (by simp [Region.wanted, yielded]) ?hy5en ?_
                case hy5en => intro wy hSw; obtain ⟨q0, q1, q2, q3⟩ := hSw; go_simp; try with_reducible rfl
                simp only [Act.put, List.setIfInBounds_toArray, List.set_cons_zero, List.set_cons_succ]
                refine wpAnyD_takeG (i := 6) (v := ?vv6en) rfl (by kernel_rfl) (by kernel_rfl) (by kernel_rfl) (by kernel_rfl) (fun _ _ _ h => h) HTe.out (by simp [Region.wanted, yielded]) ?hy6en ?_
                case hy6en => intro wy hSw; obtain ⟨q0, q1, q2, q3⟩ := hSw; go_simp; try with_reducible rfl
                simp only [Act.put, List.setIfInBounds_toArray, List.set_cons_zero, List.set_cons_succ]
                refine wpAnyD_takeG (i := 7) (v := ?vv7en) rfl (by kernel_rfl) (by kernel_rfl) (by kernel_rfl) (by kernel_rfl) (fun _ _ _ h => h) HTe.out (by simp [Region.wanted, yielded]) ?hy7en ?_
                case hy7en => intro wy hSw; obtain ⟨q0, q1, q2, q3⟩ := hSw; go_simp; try with_reducible rfl
                simp only [Act.put, List.setIfInBounds_toArray, List.set_cons_zero, List.set_cons_succ]
                refine wpAnyD_takeG (i := 8) (v := ?vv8en) rfl (by kernel_rfl) (by kernel_rfl) (by kernel_rfl) (by kernel_rfl) (fun _ _ _ h => h) HTe.out (by simp [Region.wanted, yielded]) ?hy8en ?_
                case hy8en => intro wy hSw; obtain ⟨q0, q1, q2, q3⟩ := hSw; go_simp; try with_reducible rfl
                simp only [Act.put, List.setIfInBounds_toArray, List.set_cons_zero, List.set_cons_succ]
                refine wpAnyD_takeG (i := 9) (v := ?vv9en) rfl (by kernel_rfl) (by kernel_rfl) (by kernel_rfl) (by kernel_rfl) (fun _ _ _ h => h) HTe.out (by simp [Region.wanted, yielded]) ?hy9en ?_
                case hy9en => intro wy hSw; obtain ⟨q0, q1, q2, q3⟩ := hSw; go_simp; try with_reducible rfl
                simp only [Act.put, List.setIfInBounds_toArray, List.set_cons_zero, List.set_cons_succ]
                refine wpAnyD_takeG (i := 10) (v := ?vv10en) rfl (by kernel_rfl) (by kernel_rfl) (by kernel_rfl) (by kernel_rfl) (fun _ _ _ h => h) HTe.out (by simp [Region.wanted, yielded]) ?hy10en ?_
                case hy10en => intro wy hSw; obtain ⟨q0, q1, q2, q3⟩ := hSw; go_simp; try with_reducible rfl
                simp only [Act.put, List.setIfInBounds_toArray, List.set_cons_zero, List.set_cons_succ]
                refine wpAnyD_takeG (i := 11) (v := ?vv11en) rfl (by kernel_rfl) (by kernel_rfl) (by kernel_rfl) (by kernel_rfl) (fun _ _ _ h => h) HTe.out (by simp [Region.wanted, yielded]) ?hy11en ?_
                case hy11en => intro wy hSw; obtain ⟨q0, q1, q2, q3⟩ := hSw; go_simp; try with_reducible rfl
                simp only [Act.put, List.setIfInBounds_toArray, List.set_cons_zero, List.set_cons_succ]
                refine wpAnyD_takeG (i := 12) (v := ?vv12en) rfl (by kernel_rfl) (by kernel_rfl) (by kernel_rfl) (by kernel_rfl) (fun _ _ _ h => h) HTe.out (by simp [Region.wanted, yielded]) ?hy12en ?_
                case hy12en => intro wy hSw; obtain ⟨q0, q1, q2, q3⟩ := hSw; go_simp; try with_reducible rfl
                simp only [Act.put, List.setIfInBounds_toArray, List.set_cons_zero, List.set_cons_succ]
                refine wpAnyD_stepL (i := 13) (by kernel_rfl) rfl (fun K hK => ?_)
                refine step_call (by simp [Region.wanted, yielded]) (run_call ent_has #[.tmp 85, .tmp 87, .tmp 89] _ rfl #[.slice qq.oa qq.ol qq.oc, .int .i64 x.ref, .int .i64 p.pid] rfl) (has_any wd qq.oa qq.oc qq.ol qq.origins x.ref p.pid (HQI.out.origins.keep ((HQ6.out _ HC9.out).trans (HDe.out.mono (HQ6.out _ HC9.out).size))) HQI.out.lo.1 HQI.out.lo.2) ?_
                rintro e w7 ⟨⟨r, rfl, hr⟩, hb7⟩
                have HE7 := hidb (HDe.out.trans (hb7.mono HDe.out.size))
                have HC7 := hidb (HC9.out.trans (HE7.out.mono HC9.out.size))
                have HR := hidb hr
                refine hK _ _ (fun _ => HSAe.out _ HE7.out) ?_
                clear hK K hb7 hr HTe
                have HTe := hidb (HSAe.out _ HE7.out)
                simp only [Act.put, List.setIfInBounds_toArray, List.set_cons_zero, List.set_cons_succ]
                refine wpAnyD_takeG (i := 14) (v := ?vv14em) rfl (by kernel_rfl) (by kernel_rfl) (by kernel_rfl) (by kernel_rfl) (fun _ _ _ h => h) HTe.out (by simp [Region.wanted, yielded]) ?hy14em ?_
                case hy14em => intro wy hSw; obtain ⟨q0, q1, q2, q3⟩ := hSw; go_simp; try with_reducible rfl
                simp only [Act.put, List.setIfInBounds_toArray, List.set_cons_zero, List.set_cons_succ]
                refine wpAnyD_takeL (i := 15) (v := ?vv15em) rfl (by kernel_rfl) (by kernel_rfl) (by kernel_rfl) (by kernel_rfl) (fun _ _ _ h => h) HTe.out rfl ?hy15em ?_
                case hy15em => intro wy hSw; obtain ⟨q0, q1, q2, q3⟩ := hSw; go_simp; try with_reducible rfl
                simp only [Act.put, List.setIfInBounds_toArray, List.set_cons_zero, List.set_cons_succ]
                refine wpAnyD_done (by kernel_rfl) ?_ _
                cases r
                · have HG := hidb (fun hg => (by have h9 := HR.out.2 hg; cases h9) : ¬ Has qq.origins x.ref p.pid)
                  clear HR
                  go_wp2_with fail
                  go_ret
                  exact ⟨⟨false, rfl, fun h => (by cases h), fun h => absurd ((h p (List.mem_of_getElem? HP.out) HAL.out).2 x (List.mem_of_getElem? HPX.out)) (fun ⟨i, q, h1, h2, h3⟩ => by
                    obtain rfl : i = i0 := by have := HF9.out.1; omega
                    rw [HF9.out.2] at h2
                    obtain rfl := Option.some.inj h2
                    exact HG.out h3)⟩, HQ6.out _ HC7.out⟩
                · have HG : Hid (Has qq.origins x.ref p.pid) := hidb (HR.out.1 rfl)
                  clear HR
                  go_wp2_with fail
                  go_roundw
                  case rel =>
                    refine ⟨k + 1, by omega, by go_num, fun i q hi hq => ?_, HC7.out⟩
                    by_cases hlt : i < k
                    · exact HRJ.out i q hlt hq
                    · obtain rfl : i = k := by omega
                      rw [HPX.out] at hq
                      obtain rfl := Option.some.inj hq
                      exact ⟨i0, qq, HF9.out.1, HF9.out.2, HG.out⟩
                  case measure => simp [RowKit.intOf]; omega
            · have hkn : ¬ (k : Int) < (p.tl : Int) := by omega
              go_wp2_with fail
              go_roundw
              case rel =>
                refine ⟨m + 1, by omega, by go_num, fun i q hi hq => ?_, HO6.out _ HC.out⟩
                by_cases hlt : i < m
                · exact HRI.out i q hlt hq
                · obtain rfl : i = m := by omega
                  rw [HP.out] at hq
                  obtain rfl := Option.some.inj hq
                  exact fun _ => ⟨HOS.out, fun h hh => by obtain ⟨i2, hi2⟩ := List.mem_iff_getElem?.1 hh; exact HRJ.out i2 h (by have := (List.getElem?_eq_some_iff.1 hi2).1; have := HPI.out.lt.1; omega) hi2⟩
              case measure => simp [RowKit.intOf]; omega
    · have hmn : ¬ (m : Int) < (np : Int) := by omega
      go_wp2_with fail
      go_ret
      refine ⟨⟨true, rfl, fun _ q hq => ?_, fun _ => rfl⟩, HB1.out.trans (HB.out.mono HB1.out.size)⟩
      obtain ⟨i, hi⟩ := List.mem_iff_getElem?.1 hq
      exact HRI.out i q (by have := (List.getElem?_eq_some_iff.1 hi).1; have := HN.out; omega) hi
end Go.Proofs.Ytjiigabfdigkaaa


