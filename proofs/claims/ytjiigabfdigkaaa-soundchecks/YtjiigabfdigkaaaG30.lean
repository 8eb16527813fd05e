import Derived.Test.YtjiigabfdigkaaaG06
import Derived.Deep.LoopGhost
import Derived.Test.YtjiigabfdigkaaaG04
import Derived.BigQuiet
/- Of a state: whether it is small; whether rules are numbers. -/
namespace Go.Proofs.Ytjiigabfdigkaaa
open Go.RowKit

attribute [local go_sem] store_float
/-- What of a process is counted. -/
def wgt (p : Pc) : Nat := p.ll + p.ol + p.tl + p.nl + p.il
def FewOk (ps : List Pc) (ls : List Ln) : Prop := ps.length ≤ 300 ∧ ls.length ≤ 300 ∧ tot wgt ps + tot Ln.n ls ≤ 5 * 300
set_option maxHeartbeats 4000000 in
set_option maxRecDepth 10000 in
theorem few_any (w : World) (pa la : Option Addr) (cp cl np nl : Nat) (ps : List Pc) (ls : List Ln) (oa : Option Addr) (no co : Nat) (hs : StIn w pa ps la ls) (hnp : ps.length = np) (hnl : ls.length = nl) (ht : tot wgt ps + tot Ln.n ls ≤ 9000000000000000000) :
    Calls Try.prog 5 #[stV pa np cp la nl cl oa no co] w (Says (FewOk ps ls) w) := by
  have HM := hidb hnl
  have HT := hidb ht
  have h62 : nl ≤ 9223372036854775807 := hnl ▸ hs.ll
  clear hnl ht
  have HS := hidb hs
  have HN := hidb hnp
  have h63 : np ≤ 9223372036854775807 := hnp ▸ hs.lp
  clear hs hnp
  have HX0 := hidb (At.new w [.slice pa np cp, .slice la nl cl, .slice oa no co] 26)
  have HB1 : Hid (Below w.heap.size w (w.alloc (.cells #[.slice pa np cp, .slice la nl cl, .slice oa no co] 26))) := hidb (below_new w _)
  by_cases z1 : np ≤ 300
  rotate_left
  · have z2 : (300 : Int) < (np : Int) := by omega
    have HZ := hidb z1
    go_enter Try.func5, Try.ntmps5
    go_wp2_with fail
    go_ret
    exact ⟨⟨false, rfl, fun h => (by cases h), fun h => absurd h.1 (by have := HZ.out; have := HN.out; omega)⟩, HB1.out⟩
  have z2 : ¬ (300 : Int) < (np : Int) := by omega
  by_cases y1 : nl ≤ 300
  rotate_left
  · have y2 : (300 : Int) < (nl : Int) := by omega
    have HZ := hidb y1
    go_enter Try.func5, Try.ntmps5
    go_wp2_with fail
    go_ret
    exact ⟨⟨false, rfl, fun h => (by cases h), fun h => absurd h.2.1 (by have := HZ.out; have := HM.out; omega)⟩, HB1.out⟩
  have y2 : ¬ (300 : Int) < (nl : Int) := by omega
  have HSZ := hidb (And.intro z1 y1)
  clear HB1
  go_enter Try.func5, Try.ntmps5
  go_wp2_with fail
  obtain ⟨W0, hW0⟩ : ∃ W0, w.alloc (.cells #[.slice pa np cp, .slice la nl cl, .slice oa no co] 26) = W0 := ⟨_, rfl⟩
  have HB1 : Hid (Below w.heap.size w W0) := hidb (by rw [← hW0]; exact below_new w _)
  rw [hW0] at HX0 ⊢
  clear hW0 z2 y2
  go_loopw [3, 4] (fun av iv wr => ∃ (m : Nat) , m ≤ np ∧ av = .int .i64 (tot wgt (ps.take m) : Nat) ∧ iv = .int .i64 m ∧ (True) ∧ Below W0.heap.size W0 wr) (fun _ iv _ => np - (RowKit.intOf iv).toNat)
  case atStart => exact ⟨0, by omega, rfl, rfl, trivial, Below.refl _ _⟩
  case round =>
    obtain ⟨m, hm, rfl, rfl, -, hb⟩ := hrel
    have HB := hidb hb
    clear hb
    have HX := hidb (HX0.out.keep HB.out)
    obtain ⟨x0, -⟩ := HX.out.1 0 _ rfl
    obtain ⟨x1, -⟩ := HX.out.1 1 _ rfl
    by_cases hml : m < np
    · have hmb : (m : Int) < (np : Int) := by omega
      have hmz : (0 : Int) ≤ (m : Int) := by omega
      have hmw : IntKind.i64.wrap ((m : Int) + 1) = (m : Int) + 1 := by rw [IntKind.wrap_i64]; omega
      obtain ⟨p, b, o, hp, rfl, hlt, hc⟩ := HS.out.procs.at m (by have := HN.out; omega)
      have hq := HB1.out.trans (HB.out.mono HB1.out.size)
      have HPI := hidb ((HS.out.each p (List.mem_of_getElem? hp)).keep hq)
      have cc : ∀ (i : Nat), i < 13 → wr.cell? ⟨b, o + m * 13 + i, none⟩ = (Pc.cells p)[i]? := fun i hi => (hq.cell (p := ⟨b, o + m * 13 + i, none⟩) hlt).trans (hc i hi)
      have c0 : wr.cell? ⟨b, o + m * 13, none⟩ = some (.int .i64 p.pid) := cc 0 (by omega)
      have c1 : wr.cell? ⟨b, o + m * 13 + 1, none⟩ = some (.int .i64 p.st) := cc 1 (by omega)
      have c2 : wr.cell? ⟨b, o + m * 13 + 2, none⟩ = some (.int .i64 p.rk) := cc 2 (by omega)
      have c3 : wr.cell? ⟨b, o + m * 13 + 3, none⟩ = some (.int .i64 p.rn) := cc 3 (by omega)
      have c4 : wr.cell? ⟨b, o + m * 13 + 4, none⟩ = some (.float .f64 p.rf) := cc 4 (by omega)
      have c5 : wr.cell? ⟨b, o + m * 13 + 5, none⟩ = some (.string p.rs) := cc 5 (by omega)
      have c6 : wr.cell? ⟨b, o + m * 13 + 6, none⟩ = some (.slice p.ra p.rl p.rc) := cc 6 (by omega)
      have c7 : wr.cell? ⟨b, o + m * 13 + 7, none⟩ = some (.bool p.trap) := cc 7 (by omega)
      have c8 : wr.cell? ⟨b, o + m * 13 + 8, none⟩ = some (.slice p.ia p.il p.ic) := cc 8 (by omega)
      have c9 : wr.cell? ⟨b, o + m * 13 + 9, none⟩ = some (.slice p.la p.ll p.lc) := cc 9 (by omega)
      have c10 : wr.cell? ⟨b, o + m * 13 + 10, none⟩ = some (.slice p.oa p.ol p.oc) := cc 10 (by omega)
      have c11 : wr.cell? ⟨b, o + m * 13 + 11, none⟩ = some (.slice p.ta p.tl p.tc) := cc 11 (by omega)
      have c12 : wr.cell? ⟨b, o + m * 13 + 12, none⟩ = some (.slice p.na p.nl p.nc) := cc 12 (by omega)
      have HP := hidb hp
      clear hp hc hq cc
      have hp := HP.out
      have hst := tot_step (g := wgt) hp
      have hle := tot_le wgt ps (m + 1)
      have hbo := HT.out
      obtain ⟨T0, hT0⟩ : ∃ T, tot wgt (ps.take m) = T := ⟨_, rfl⟩
      obtain ⟨T1, hT1⟩ : ∃ T, tot wgt (ps.take (m + 1)) = T := ⟨_, rfl⟩
      rw [hT0, hT1] at hst
      rw [hT1] at hle
      rw [hT0]
      have HT1 := hidb hT1
      have hw : wgt p = p.ll + p.ol + p.tl + p.nl + p.il := rfl
      have w1 : IntKind.i64.wrap ((T0 : Int) + (p.ll : Int)) = (T0 : Int) + (p.ll : Int) := by rw [IntKind.wrap_i64]; omega
      have w2 : IntKind.i64.wrap ((T0 : Int) + (p.ll : Int) + (p.ol : Int)) = (T0 : Int) + (p.ll : Int) + (p.ol : Int) := by rw [IntKind.wrap_i64]; omega
      have w3 : IntKind.i64.wrap ((T0 : Int) + (p.ll : Int) + (p.ol : Int) + (p.tl : Int)) = (T0 : Int) + (p.ll : Int) + (p.ol : Int) + (p.tl : Int) := by rw [IntKind.wrap_i64]; omega
      have w4 : IntKind.i64.wrap ((T0 : Int) + (p.ll : Int) + (p.ol : Int) + (p.tl : Int) + (p.nl : Int)) = (T0 : Int) + (p.ll : Int) + (p.ol : Int) + (p.tl : Int) + (p.nl : Int) := by rw [IntKind.wrap_i64]; omega
      have w5 : IntKind.i64.wrap ((T0 : Int) + (p.ll : Int) + (p.ol : Int) + (p.tl : Int) + (p.nl : Int) + (p.il : Int)) = (T1 : Int) := by rw [IntKind.wrap_i64]; omega
      clear hp hst hle hbo hT0 hT1 hw
      go_wp2_with fail
      go_roundw
      case rel => exact ⟨m + 1, by omega, by rw [HT1.out], by go_num, trivial, HB.out.trans ((below_new wr _).mono HB.out.size)⟩
      case measure => simp [RowKit.intOf]; omega
    · have hmn : ¬ (m : Int) < (np : Int) := by omega
      obtain rfl : m = np := by omega
      rw [tot_all HN.out]
      go_wp2_with fail
      have HB1 := hidb (HB1.out.trans (HB.out.mono HB1.out.size))
      have HX0 := hidb (HX0.out.keep HB.out)
      clear HB HX x0 x1 hml hmn
      obtain ⟨W0, hW0⟩ : ∃ W0, W0 = wr := ⟨_, rfl⟩
      subst hW0
      obtain ⟨F, hF⟩ : ∃ F, tot wgt ps = F := ⟨_, rfl⟩
      have HF := hidb hF
      rw [hF]
      clear hF
      go_loopw [3, 6] (fun av iv wr => ∃ (m : Nat) , m ≤ nl ∧ av = .int .i64 (F + tot Ln.n (ls.take m) : Nat) ∧ iv = .int .i64 m ∧ (True) ∧ Below W0.heap.size W0 wr) (fun _ iv _ => nl - (RowKit.intOf iv).toNat)
      case atStart => exact ⟨0, by omega, by simp [tot], rfl, trivial, Below.refl _ _⟩
      case round =>
        obtain ⟨m, hm, rfl, rfl, -, hb⟩ := hrel
        have HB := hidb hb
        clear hb
        have HX := hidb (HX0.out.keep HB.out)
        obtain ⟨x0, -⟩ := HX.out.1 0 _ rfl
        obtain ⟨x1, -⟩ := HX.out.1 1 _ rfl
        by_cases hml : m < nl
        · have hmb : (m : Int) < (nl : Int) := by omega
          have hmz : (0 : Int) ≤ (m : Int) := by omega
          have hmw : IntKind.i64.wrap ((m : Int) + 1) = (m : Int) + 1 := by rw [IntKind.wrap_i64]; omega
          obtain ⟨l, b, o, hp, rfl, hlt, hc⟩ := HS.out.lanes.at m (by have := HM.out; omega)
          have hq := HB1.out.trans (HB.out.mono HB1.out.size)
          have c2 : wr.cell? ⟨b, o + m * 3 + 2, none⟩ = some (.slice l.a l.n l.c) := (hq.cell (p := ⟨b, o + m * 3 + 2, none⟩) hlt).trans (hc 2 (by omega))
          have HP := hidb hp
          have hst := tot_step (g := Ln.n) hp
          have hle := tot_le Ln.n ls (m + 1)
          have hbo := HT.out
          have hF := HF.out
          have hwf : IntKind.i64.wrap (((F + tot Ln.n (ls.take m) : Nat) : Int) + (l.n : Int)) = ((F + tot Ln.n (ls.take (m + 1)) : Nat) : Int) := by rw [IntKind.wrap_i64]; omega
          obtain ⟨T0, hT0⟩ : ∃ T, F + tot Ln.n (ls.take m) = T := ⟨_, rfl⟩
          obtain ⟨T1, hT1⟩ : ∃ T, F + tot Ln.n (ls.take (m + 1)) = T := ⟨_, rfl⟩
          rw [hT0, hT1] at hwf
          have HT1 := hidb hT1
          rw [hT0]
          clear hp hc hq hst hle hbo hT0 hT1 hF
          go_wp2_with fail
          go_roundw
          case rel => exact ⟨m + 1, by omega, by rw [HT1.out], by go_num, trivial, HB.out⟩
          case measure => simp [RowKit.intOf]; omega
        · have hmn : ¬ (m : Int) < (nl : Int) := by omega
          obtain rfl : m = nl := by omega
          rw [tot_all HM.out]
          obtain ⟨G, hG⟩ : ∃ G, F + tot Ln.n ls = G := ⟨_, rfl⟩
          have HG := hidb hG
          rw [hG]
          clear hG
          by_cases hle : G ≤ 5 * 300
          · have hle2 : (G : Int) ≤ 1500 := by omega
            go_wp2_with fail
            go_ret
            exact ⟨⟨true, rfl, fun _ => ⟨by have := HSZ.out.1; have := HN.out; omega, by have := HSZ.out.2; have := HM.out; omega, by have := HG.out; have := HF.out; omega⟩, fun _ => rfl⟩, HB1.out.trans (HB.out.mono HB1.out.size)⟩
          · have hle2 : ¬ (G : Int) ≤ 1500 := by omega
            have HLE := hidb hle
            go_wp2_with fail
            go_ret
            exact ⟨⟨false, rfl, fun h => (by cases h), fun h => absurd h.2.2 (by have := HG.out; have := HF.out; have := HLE.out; omega)⟩, HB1.out.trans (HB.out.mono HB1.out.size)⟩
end Go.Proofs.Ytjiigabfdigkaaa


/- Rules and numbers: are they the same. -/
namespace Go.Proofs.Ytjiigabfdigkaaa
open Go.RowKit
attribute [local go_sem] store_float

abbrev RowI (w : World) (q : Option Addr) (l : List Int) : Prop := RowC 1 (fun x : Int => [Value.int .i64 x]) w q l
set_option maxHeartbeats 1000000 in
set_option maxRecDepth 10000 in
theorem alike_any (w : World) (qa qb : Option Addr) (ca cb na nb : Nat) (la lb : List Int) (ha : RowI w qa la) (hb : RowI w qb lb) (hna : la.length = na) (hnb : lb.length = nb) (h63 : na ≤ 9223372036854775807) :
    Calls Try.prog 8 #[.slice qa na ca, .slice qb nb cb] w (Says (la = lb) w) := by
  have HA := hidb ha
  have HB := hidb hb
  have HNA := hidb hna
  have HNB := hidb hnb
  clear ha hb hna hnb
  by_cases hne : na = nb
  rotate_left
  · have h1 : ¬ (na : Int) = (nb : Int) := by omega
    have HNE := hidb hne
    go_enter Try.func8, Try.ntmps8
    go_wp2_with fail
    go_ret
    exact ⟨⟨false, rfl, fun h => (by cases h), fun h => absurd (show na = nb by rw [← HNA.out, ← HNB.out, h]) HNE.out⟩, Below.refl _ _⟩
  subst hne
  go_enter Try.func8, Try.ntmps8
  go_wp2_with fail
  go_loopw [5] (fun iv wr => ∃ (m : Nat), m ≤ na ∧ iv = .int .i64 m ∧ (∀ (i : Nat) (a b : Int), i < m → la[i]? = some a → lb[i]? = some b → a = b) ∧ Below w.heap.size w wr) (fun iv _ => na - (RowKit.intOf iv).toNat)
  case atStart => exact ⟨0, by omega, rfl, fun i a b h => by omega, Below.refl _ _⟩
  case round =>
    obtain ⟨m, hm, rfl, hri, hb⟩ := hrel
    have HRI := hidb hri
    have HW := hidb hb
    clear hri hb
    by_cases hml : m < na
    · have hmb : (m : Int) < (na : Int) := by omega
      have hmz : (0 : Int) ≤ (m : Int) := by omega
      have hmw : IntKind.i64.wrap ((m : Int) + 1) = (m : Int) + 1 := by rw [IntKind.wrap_i64]; omega
      obtain ⟨x, b1, o1, hx, rfl, hlt, hc⟩ := (HA.out.keep HW.out).at m (by have := HNA.out; omega)
      obtain ⟨y, b2, o2, hy, rfl, hlt2, hd⟩ := (HB.out.keep HW.out).at m (by have := HNB.out; omega)
      have c0 : wr.cell? ⟨b1, o1 + m, none⟩ = some (.int .i64 x) := by have := hc 0 (by omega); simpa using this
      have d0 : wr.cell? ⟨b2, o2 + m, none⟩ = some (.int .i64 y) := by have := hd 0 (by omega); simpa using this
      have HXY := hidb (And.intro hx hy)
      clear hx hy hc hd hlt hlt2
      by_cases he : x = y
      · have HE := hidb he
        have G1 : (x != y) = false := by simpa using he
        go_wp2_with fail
        go_big_quiet (fail)
        clear G1
        go_wp2_with fail
        go_roundw
        case rel =>
          refine ⟨m + 1, by omega, by go_num, fun i a b h ha hb => ?_, below_drewN HW.out _⟩
          by_cases hi : i < m
          · exact HRI.out i a b hi ha hb
          · obtain rfl : i = m := by omega
            rw [HXY.out.1] at ha
            rw [HXY.out.2] at hb
            exact (Option.some.inj ha).symm.trans (HE.out.trans (Option.some.inj hb))
        case measure => simp [RowKit.intOf]; omega
      · have HE := hidb he
        go_wp2_with fail
        have G1 : (x != y) = true := by simpa using HE.out
        go_big_quiet (fail)
        clear G1
        go_wp2_with fail
        go_ret
        exact ⟨⟨false, rfl, fun h => (by cases h), fun h => absurd (Option.some.inj (HXY.out.1.symm.trans ((congrArg (·[m]?) h).trans HXY.out.2))) HE.out⟩, below_drewN HW.out _⟩
    · have hmn : ¬ (m : Int) < (na : Int) := by omega
      go_wp2_with fail
      go_ret
      refine ⟨⟨true, rfl, fun _ => ?_, fun _ => rfl⟩, HW.out⟩
      apply List.ext_getElem?
      intro i
      have h1 := HNA.out
      have h2 := HNB.out
      by_cases hi : i < na
      · obtain ⟨a, ha⟩ : ∃ a, la[i]? = some a := ⟨_, List.getElem?_eq_getElem (by omega)⟩
        obtain ⟨b, hb⟩ : ∃ b, lb[i]? = some b := ⟨_, List.getElem?_eq_getElem (by omega)⟩
        rw [ha, hb, HRI.out i a b (by omega) ha hb]
      · rw [List.getElem?_eq_none (by omega), List.getElem?_eq_none (by omega)]
end Go.Proofs.Ytjiigabfdigkaaa


