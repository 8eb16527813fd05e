import Derived.Test.YtjiigabfdigkaaaG05
import Derived.Test.YtjiigabfdigkaaaG04
/- Signals under way, as the program goes over them. -/
namespace Go.Proofs.Ytjiigabfdigkaaa
open Go.RowKit
attribute [local go_sem] store_float
theorem under_any (w : World) (la : Option Addr) (nl cl : Nat) :
    Calls Try.prog 15 #[.slice la nl cl] w fun e w' => e = .returned (.func (.func 26) #[] #[.pointer (some ⟨w.heap.size, 0, none⟩)]) ∧ w' = w.alloc (.cells #[.slice la nl cl] 23) := by
  go_enter Try.func15, Try.ntmps15
  go_wp2_with fail
  go_ret
  exact ⟨rfl, rfl⟩
end Go.Proofs.Ytjiigabfdigkaaa


/- Of a state: how much there is. -/
namespace Go.Proofs.Ytjiigabfdigkaaa
open Go.RowKit

attribute [local go_sem] store_float
def tot {α : Type} (g : α → Nat) (l : List α) : Nat := (l.map g).sum
theorem tot_step {α : Type} {g : α → Nat} {l : List α} {k : Nat} {x : α} (hx : l[k]? = some x) : tot g (l.take (k + 1)) = tot g (l.take k) + g x := by
  unfold tot
  rw [List.take_add_one, hx]
  simp
theorem tot_le {α : Type} (g : α → Nat) (l : List α) (k : Nat) : tot g (l.take k) ≤ tot g l := by
  have h : tot g l = tot g (l.take k) + tot g (l.drop k) := by unfold tot; rw [← List.sum_append, ← List.map_append, List.take_append_drop]
  omega
theorem tot_all {α : Type} {g : α → Nat} {l : List α} {n : Nat} (h : l.length = n) : tot g (l.take n) = tot g l := by
  rw [← h, List.take_length]
def onN (g : Pc → Nat) (p : Pc) : Nat := if p.st = 4 then 0 else g p
/-- What is counted. -/
def CtSays (ps : List Pc) (ls : List Ln) (w : World) (e : Ending) (w' : World) : Prop :=
  e = .returned (.tuple #[.int .i64 (tot Ln.n ls : Nat), .int .i64 (tot (onN Pc.ll) ps : Nat), .int .i64 (tot (onN Pc.tl) ps : Nat), .int .i64 (tot (onN Pc.ol) ps : Nat)]) ∧ Below w.heap.size w w'
set_option maxHeartbeats 4000000 in
set_option maxRecDepth 10000 in
theorem rcount_any (w : World) (pa la : Option Addr) (cp cl np nl : Nat) (ps : List Pc) (ls : List Ln) (oa : Option Addr) (no co : Nat) (hs : StIn w pa ps la ls) (hnp : ps.length = np) (hnl : ls.length = nl) (ht : tot Ln.n ls ≤ 1000000000 ∧ tot (onN Pc.ll) ps ≤ 1000000000 ∧ tot (onN Pc.tl) ps ≤ 1000000000 ∧ tot (onN Pc.ol) ps ≤ 1000000000) :
    Calls Try.prog 7 #[stV pa np cp la nl cl oa no co] w (CtSays ps ls w) := by
  have HM := hidb hnl
  have HT := hidb ht
  have h62 : nl ≤ 9223372036854775807 := hnl ▸ hs.ll
  clear hnl ht
  have HS := hidb hs
  have HN := hidb hnp
  have h63 : np ≤ 9223372036854775807 := hnp ▸ hs.lp
  clear hs hnp
  have HX0 := hidb (At.new w [.slice pa np cp, .slice la nl cl, .slice oa no co] 26)
  go_enter Try.func7, Try.ntmps7
  go_wp2_with fail
  obtain ⟨W0, hW0⟩ : ∃ W0, w.alloc (.cells #[.slice pa np cp, .slice la nl cl, .slice oa no co] 26) = W0 := ⟨_, rfl⟩
  have HB1 : Hid (Below w.heap.size w W0) := hidb (by rw [← hW0]; exact below_new w _)
  rw [hW0] at HX0 ⊢
  clear hW0
  go_loopw [6, 7] (fun av iv wr => ∃ (m : Nat) , m ≤ nl ∧ av = .int .i64 (tot Ln.n (ls.take m) : Nat) ∧ iv = .int .i64 m ∧ (True) ∧ Below W0.heap.size W0 wr) (fun _ iv _ => nl - (RowKit.intOf iv).toNat)
  case atStart => exact ⟨0, by omega, rfl, rfl, trivial, Below.refl _ _⟩
  case round =>
    obtain ⟨m, hm, rfl, rfl, -, hb⟩ := hrel
    have HB := hidb hb
    clear hb
    have HX := hidb (HX0.out.keep HB.out)
    obtain ⟨x0, -⟩ := HX.out.1 0 _ rfl
    obtain ⟨x1, -⟩ := HX.out.1 1 _ rfl
    by_cases hml : m < nl
    · have hmb : (m : Int) < (nl : Int) := by omega
      have hmz : (0 : Int) ≤ (m : Int) := by omega
      have hmw : IntKind.i64.wrap ((m : Int) + 1) = (m : Int) + 1 := by rw [IntKind.wrap_i64]; omega
      obtain ⟨l, b, o, hp, rfl, hlt, hc⟩ := HS.out.lanes.at m (by have := HM.out; omega)
      have hq := HB1.out.trans (HB.out.mono HB1.out.size)
      have c2 : wr.cell? ⟨b, o + m * 3 + 2, none⟩ = some (.slice l.a l.n l.c) := (hq.cell (p := ⟨b, o + m * 3 + 2, none⟩) hlt).trans (hc 2 (by omega))
      have HP := hidb hp
      have hst := tot_step (g := Ln.n) hp
      have hle := tot_le Ln.n ls (m + 1)
      have hbo := HT.out.1
      have hwf : IntKind.i64.wrap (((tot Ln.n (ls.take m) : Nat) : Int) + (l.n : Int)) = ((tot Ln.n (ls.take (m + 1)) : Nat) : Int) := by rw [IntKind.wrap_i64]; omega
      obtain ⟨T0, hT0⟩ : ∃ T, tot Ln.n (ls.take m) = T := ⟨_, rfl⟩
      obtain ⟨T1, hT1⟩ : ∃ T, tot Ln.n (ls.take (m + 1)) = T := ⟨_, rfl⟩
      rw [hT0, hT1] at hwf
      have HT1 := hidb hT1
      rw [hT0]
      clear hp hc hq hst hle hbo hT0 hT1
      go_wp2_with fail
      go_roundw
      case rel => exact ⟨m + 1, by omega, by rw [HT1.out], by go_num, trivial, HB.out⟩
      case measure => simp [RowKit.intOf]; omega
    · have hmn : ¬ (m : Int) < (nl : Int) := by omega
      obtain rfl : m = nl := by omega
      rw [tot_all HM.out]
      go_wp2_with fail
      have HB1 := hidb (HB1.out.trans (HB.out.mono HB1.out.size))
      have HX0 := hidb (HX0.out.keep HB.out)
      clear HB HX x0 x1 hml hmn
      obtain ⟨W0, hW0⟩ : ∃ W0, W0 = wr := ⟨_, rfl⟩
      subst hW0
      obtain ⟨F, hF⟩ : ∃ F, tot Ln.n ls = F := ⟨_, rfl⟩
      have HF := hidb hF
      rw [hF]
      clear hF
      go_loopw [8, 9, 10, 11] (fun av bv cv iv wr => ∃ (m : Nat) , m ≤ np ∧ av = .int .i64 (tot (onN Pc.ll) (ps.take m) : Nat) ∧ bv = .int .i64 (tot (onN Pc.tl) (ps.take m) : Nat) ∧ cv = .int .i64 (tot (onN Pc.ol) (ps.take m) : Nat) ∧ iv = .int .i64 m ∧ (True) ∧ Below W0.heap.size W0 wr) (fun _ _ _ iv _ => np - (RowKit.intOf iv).toNat)
      case atStart => exact ⟨0, by omega, rfl, rfl, rfl, rfl, trivial, Below.refl _ _⟩
      case round =>
        obtain ⟨m, hm, rfl, rfl, rfl, rfl, -, hb⟩ := hrel
        have HB := hidb hb
        clear hb
        have HX := hidb (HX0.out.keep HB.out)
        obtain ⟨x0, -⟩ := HX.out.1 0 _ rfl
        obtain ⟨x1, -⟩ := HX.out.1 1 _ rfl
        by_cases hml : m < np
        · have hmb : (m : Int) < (np : Int) := by omega
          have hmz : (0 : Int) ≤ (m : Int) := by omega
          have hmw : IntKind.i64.wrap ((m : Int) + 1) = (m : Int) + 1 := by rw [IntKind.wrap_i64]; omega
          obtain ⟨p, b, o, hp, rfl, hlt, hc⟩ := HS.out.procs.at m (by have := HN.out; omega)
          have hq := HB1.out.trans (HB.out.mono HB1.out.size)
          have HPI := hidb ((HS.out.each p (List.mem_of_getElem? hp)).keep hq)
          have cc : ∀ (i : Nat), i < 13 → wr.cell? ⟨b, o + m * 13 + i, none⟩ = (Pc.cells p)[i]? := fun i hi => (hq.cell (p := ⟨b, o + m * 13 + i, none⟩) hlt).trans (hc i hi)
          have c0 : wr.cell? ⟨b, o + m * 13, none⟩ = some (.int .i64 p.pid) := cc 0 (by omega)
          have c1 : wr.cell? ⟨b, o + m * 13 + 1, none⟩ = some (.int .i64 p.st) := cc 1 (by omega)
          have c2 : wr.cell? ⟨b, o + m * 13 + 2, none⟩ = some (.int .i64 p.rk) := cc 2 (by omega)
          have c3 : wr.cell? ⟨b, o + m * 13 + 3, none⟩ = some (.int .i64 p.rn) := cc 3 (by omega)
          have c4 : wr.cell? ⟨b, o + m * 13 + 4, none⟩ = some (.float .f64 p.rf) := cc 4 (by omega)
          have c5 : wr.cell? ⟨b, o + m * 13 + 5, none⟩ = some (.string p.rs) := cc 5 (by omega)
          have c6 : wr.cell? ⟨b, o + m * 13 + 6, none⟩ = some (.slice p.ra p.rl p.rc) := cc 6 (by omega)
          have c7 : wr.cell? ⟨b, o + m * 13 + 7, none⟩ = some (.bool p.trap) := cc 7 (by omega)
          have c8 : wr.cell? ⟨b, o + m * 13 + 8, none⟩ = some (.slice p.ia p.il p.ic) := cc 8 (by omega)
          have c9 : wr.cell? ⟨b, o + m * 13 + 9, none⟩ = some (.slice p.la p.ll p.lc) := cc 9 (by omega)
          have c10 : wr.cell? ⟨b, o + m * 13 + 10, none⟩ = some (.slice p.oa p.ol p.oc) := cc 10 (by omega)
          have c11 : wr.cell? ⟨b, o + m * 13 + 11, none⟩ = some (.slice p.ta p.tl p.tc) := cc 11 (by omega)
          have c12 : wr.cell? ⟨b, o + m * 13 + 12, none⟩ = some (.slice p.na p.nl p.nc) := cc 12 (by omega)
          have HP := hidb hp
          clear hp hc hq cc
          have hbo := HT.out.2
          have hp := HP.out
          have hstL := tot_step (g := onN Pc.ll) hp
          have hleL := tot_le (onN Pc.ll) ps (m + 1)
          obtain ⟨L0, hL0⟩ : ∃ T, tot (onN Pc.ll) (ps.take m) = T := ⟨_, rfl⟩
          obtain ⟨L1, hL1⟩ : ∃ T, tot (onN Pc.ll) (ps.take (m + 1)) = T := ⟨_, rfl⟩
          rw [hL0, hL1] at hstL
          rw [hL1] at hleL
          rw [hL0]
          have HL1 := hidb hL1
          clear hL0 hL1
          have hstT := tot_step (g := onN Pc.tl) hp
          have hleT := tot_le (onN Pc.tl) ps (m + 1)
          obtain ⟨T0, hT0⟩ : ∃ T, tot (onN Pc.tl) (ps.take m) = T := ⟨_, rfl⟩
          obtain ⟨T1, hT1⟩ : ∃ T, tot (onN Pc.tl) (ps.take (m + 1)) = T := ⟨_, rfl⟩
          rw [hT0, hT1] at hstT
          rw [hT1] at hleT
          rw [hT0]
          have HT1 := hidb hT1
          clear hT0 hT1
          have hstO := tot_step (g := onN Pc.ol) hp
          have hleO := tot_le (onN Pc.ol) ps (m + 1)
          obtain ⟨O0, hO0⟩ : ∃ T, tot (onN Pc.ol) (ps.take m) = T := ⟨_, rfl⟩
          obtain ⟨O1, hO1⟩ : ∃ T, tot (onN Pc.ol) (ps.take (m + 1)) = T := ⟨_, rfl⟩
          rw [hO0, hO1] at hstO
          rw [hO1] at hleO
          rw [hO0]
          have HO1 := hidb hO1
          clear hO0 hO1
          by_cases h4 : p.st = 4
          · have hL : L1 = L0 := by rw [hstL]; unfold onN; rw [if_pos h4]; omega
            have hT : T1 = T0 := by rw [hstT]; unfold onN; rw [if_pos h4]; omega
            have hO : O1 = O0 := by rw [hstO]; unfold onN; rw [if_pos h4]; omega
            have KL := hidb hL
            have KT := hidb hT
            have KO := hidb hO
            clear hp hbo hstL hleL hL hstT hleT hT hstO hleO hO
            go_wp2_with fail
            go_roundw
            case rel => exact ⟨m + 1, by omega, by rw [HL1.out, KL.out], by rw [HT1.out, KT.out], by rw [HO1.out, KO.out], by go_num, trivial, HB.out.trans ((below_new wr _).mono HB.out.size)⟩
            case measure => simp [RowKit.intOf]; omega
          · have hL : L1 = L0 + p.ll := by rw [hstL]; unfold onN; rw [if_neg h4]
            have wL : IntKind.i64.wrap ((L0 : Int) + (p.ll : Int)) = (L1 : Int) := by rw [IntKind.wrap_i64]; omega
            have hT : T1 = T0 + p.tl := by rw [hstT]; unfold onN; rw [if_neg h4]
            have wT : IntKind.i64.wrap ((T0 : Int) + (p.tl : Int)) = (T1 : Int) := by rw [IntKind.wrap_i64]; omega
            have hO : O1 = O0 + p.ol := by rw [hstO]; unfold onN; rw [if_neg h4]
            have wO : IntKind.i64.wrap ((O0 : Int) + (p.ol : Int)) = (O1 : Int) := by rw [IntKind.wrap_i64]; omega
            have KL := hidb hL
            have KT := hidb hT
            have KO := hidb hO
            clear hp hbo hstL hleL hL hstT hleT hT hstO hleO hO
            go_wp2_with fail
            go_roundw
            case rel => exact ⟨m + 1, by omega, by rw [HL1.out], by rw [HT1.out], by rw [HO1.out], by go_num, trivial, HB.out.trans ((below_new wr _).mono HB.out.size)⟩
            case measure => simp [RowKit.intOf]; omega
        · have hmn : ¬ (m : Int) < (np : Int) := by omega
          obtain rfl : m = np := by omega
          rw [tot_all HN.out, tot_all HN.out, tot_all HN.out]
          obtain ⟨L0, hL0⟩ : ∃ T, tot (onN Pc.ll) ps = T := ⟨_, rfl⟩
          obtain ⟨T0, hT0⟩ : ∃ T, tot (onN Pc.tl) ps = T := ⟨_, rfl⟩
          obtain ⟨O0, hO0⟩ : ∃ T, tot (onN Pc.ol) ps = T := ⟨_, rfl⟩
          have HE := hidb (And.intro hL0 (And.intro hT0 hO0))
          rw [hL0, hT0, hO0]
          clear hL0 hT0 hO0
          go_wp2_with fail
          refine bodyPost_ret (v := .tuple #[.int .i64 (F : Int), .int .i64 (L0 : Int), .int .i64 (T0 : Int), .int .i64 (O0 : Int)]) (by simp [results, Try.results7, go_sem]) rfl ?_
          exact ⟨by rw [HF.out, HE.out.1, HE.out.2.1, HE.out.2.2], HB1.out.trans (HB.out.mono HB1.out.size)⟩
end Go.Proofs.Ytjiigabfdigkaaa


