import Derived.Test.YtjiigabfdigkaaaG09
import Derived.Test.YtjiigabfdigkaaaG06
/- How much there is, as the program counts. -/
namespace Go.Proofs.Ytjiigabfdigkaaa
open Go.RowKit Go.Shelf
attribute [local go_sem] store_float Oper.semAt_some

theorem allS_len (ls : List Ln) (h : ∀ l ∈ ls, l.sigs.length = l.n) : (allS ls).length = tot Ln.n ls := by
  have H : ∀ (k : Nat) (l : List Ln), (∀ x ∈ l, x.sigs.length = x.n) → ((l.zipIdx k).flatMap (fun x => sgs x.2 x.1)).length = tot Ln.n l := by
    intro k l
    induction l generalizing k with
    | nil => intro _; rfl
    | cons x r ih =>
      intro hx
      rw [List.zipIdx_cons, List.flatMap_cons, List.length_append, sgs_len, ih (k + 1) (fun y hy => hx y (by simp [hy]))]
      have := hx x (by simp)
      simp only [tot, List.map_cons, List.sum_cons] at *
      omega
  exact H 0 ls h

set_option maxHeartbeats 4000000 in
set_option maxRecDepth 10000 in
theorem count_any (w : World) (pa la : Option Addr) (cp cl np nl : Nat) (ps : List Pc) (ls : List Ln) (oa : Option Addr) (no co : Nat) (hs : StIn w pa ps la ls) (hnp : ps.length = np) (hnl : ls.length = nl) (ht : tot Ln.n ls ≤ 1000000000 ∧ tot (onN Pc.ll) ps ≤ 1000000000 ∧ tot (onN Pc.tl) ps ≤ 1000000000 ∧ tot (onN Pc.ol) ps ≤ 1000000000) :
    Calls Try.prog 6 #[stV pa np cp la nl cl oa no co] w (CtSays ps ls w) := by
  have HT := hidb ht
  have HM := hidb hnl
  have HS := hidb hs
  have HN := hidb hnp
  have h63 : np ≤ 9223372036854775807 := hnp ▸ hs.lp
  clear hs hnp hnl ht
  have HX0 := hidb (At.new w [.slice pa np cp, .slice la nl cl, .slice oa no co] 26)
  refine calls_marks Try.func6 rfl ?_
  simp only [Try.ntmps6, List.size_toArray, List.length_cons, List.length_nil, Nat.reduceAdd, Nat.reduceSub, Array.replicate_succ, Array.replicate_zero, List.push_toArray, List.append_toArray, List.nil_append, List.cons_append]
  go_wp2_with fail
  refine (under_any _ la nl cl).mono ?_
  rintro e w1 ⟨rfl, hw1⟩
  have HX1 := hidb ((HX0.out.keep (below_new _ (.cells #[.int .i64 0] 3))).keep (below_new _ (.cells #[.slice la nl cl] 23)))
  have HR1 := hidb ((At.new (w.alloc (.cells #[.slice pa np cp, .slice la nl cl, .slice oa no co] 26)) [.int .i64 0] 3).keep (below_new _ (.cells #[.slice la nl cl] 23)))
  have HU1 := hidb (At.new ((w.alloc (.cells #[.slice pa np cp, .slice la nl cl, .slice oa no co] 26)).alloc (.cells #[.int .i64 0] 3)) [.slice la nl cl] 23)
  have HB1 : Hid (Below w.heap.size w w1) := hidb (by rw [hw1]; exact ((below_new w _).alloc (by simp) _).alloc (by simp; omega) _)
  rw [← hw1] at HX1 HR1 HU1
  rw [show (w.alloc (.cells #[.slice pa np cp, .slice la nl cl, .slice oa no co] 26)).heap.size = w.heap.size + 1 by simp] at HR1
  obtain ⟨ub, hub⟩ : ∃ ub, ((w.alloc (.cells #[.slice pa np cp, .slice la nl cl, .slice oa no co] 26)).alloc (.cells #[.int .i64 0] 3)).heap.size = ub := ⟨_, rfl⟩
  rw [hub] at HU1 ⊢
  clear hub hw1 HX0
  obtain ⟨rb, hrb⟩ : ∃ rb, w.heap.size + 1 = rb := ⟨_, rfl⟩
  have HRB : Hid (w.heap.size + 1 = rb) := hidb hrb
  rw [hrb] at HR1 ⊢
  clear hrb
  have hseq := under_o (cl := cl) HS.out.lns HB1.out (u := ub) (by rw [HM.out]; exact (HU1.out.1 0 _ rfl).1)
  have HSQ := hidb hseq
  clear hseq
  have HLE : Hid ((allS ls).length = tot Ln.n ls) := hidb (allS_len ls (fun l hl => (HS.out.sigs l hl).2.1))
  go_wp2_with fail
  have hrl : rb < w1.heap.size := HR1.out.lt
  have HRL := hidb hrl
  refine range_p (gf := 26) (lb := #[.pointer (some ⟨ub, 0, none⟩)]) rfl (enters_of Try.func26 (by kernel_rfl) rfl) HSQ.out (fun k hk => Nat.le_trans HB1.out.size hk) (Below.refl _ _) (fun _ => rfl)
    (fun pre W => But (fun k => k = rb) w1 W ∧ (W.cell? ⟨rb, 0, none⟩ = some (.int .i64 (pre.length : Nat)) ∧ W.frozen? ⟨rb, 0, none⟩ = false))
    (fun c pre W => False)
    (OwnFrom.and (OwnFrom.but (Nat.le_refl _)) (OwnFrom.cells _ (fun s : List Spt => .int .i64 (s.length : Nat))))
    (fun c => ownFrom_true _)
    ⟨But.refl _ _, (HR1.out.1 0 _ rfl).1, (HR1.out.1 0 _ rfl).2⟩ ?round ?done ?stop
  case stop => intro D c pre W _ _ hf; exact hf.elim
  case round =>
    intro l pre x W hok hlen
    gi_wp2
    refine ⟨trivial, fun W1 hI hsz => ?_⟩
    obtain ⟨hbt, hc, hf⟩ := hI
    have HBT := hidb hbt
    have HFF := hidb (And.intro hc hf)
    have hw : IntKind.i64.wrap ((pre.length : Int) + 1) = (pre.length : Int) + 1 := by
      have h1 := HLE.out
      have h2 := HT.out.1
      have h3 : pre.length < (allS ls).length := hlen
      rw [IntKind.wrap_i64]
      omega
    have hw' : wrap64 ((pre.length : Int) + 1) = (pre.length : Int) + 1 := by
      have h1 := HLE.out
      have h2 := HT.out.1
      have h3 : pre.length < (allS ls).length := hlen
      unfold wrap64
      omega
    clear hbt hsz hok hlen
    refine wpIn_block ?_
    gi_wp2
    refine ⟨(But.refl _ _).setCell (p := ⟨rb, 0, none⟩) (fun _ => ⟨show w.heap.size ≤ rb by have := HRB.out; omega, .inl hrl⟩) _, HBT.out.setCell (p := ⟨rb, 0, none⟩) (fun _ => rfl) _, ?_⟩
    rw [World.frozen?_setCell]
    exact ⟨by rw [World.cell?_setCell_same _ _ _ HFF.out.1]; simp, HFF.out.2⟩
  case done =>
    intro D xs W hD hS hI hK
    obtain ⟨hbt, hc, hf⟩ := hI
    have HBT := hidb hbt
    have HDK := hidb (And.intro hD hK)
    rw [show xs = allS ls from hS, HLE.out] at hc
    have HFF := hidb (And.intro hc hf)
    have HX2 := hidb (HX1.out.but hbt (fun e => by have := HRB.out; omega))
    have HBW : Hid (Below w.heap.size w W) := hidb (HB1.out.trans (hbt.below HB1.out.size (fun k hk => by have := HRB.out; omega)))
    obtain ⟨x0, -⟩ := HX2.out.1 0 _ rfl
    clear hbt hD hK hS hc hf
    obtain ⟨F, hF⟩ : ∃ F, tot Ln.n ls = F := ⟨_, rfl⟩
    have HF := hidb hF
    rw [hF] at HFF
    clear hF
    go_wp2_with fail
    clear x0
    go_loopw [3, 4, 5, 18] (fun av bv cv iv wr => ∃ (m : Nat) , m ≤ np ∧ av = .int .i64 (tot (onN Pc.ll) (ps.take m) : Nat) ∧ bv = .int .i64 (tot (onN Pc.tl) (ps.take m) : Nat) ∧ cv = .int .i64 (tot (onN Pc.ol) (ps.take m) : Nat) ∧ iv = .int .i64 m ∧ (True) ∧ Below W.heap.size W wr) (fun _ _ _ iv _ => np - (RowKit.intOf iv).toNat)
    case atStart => exact ⟨0, by omega, rfl, rfl, rfl, rfl, trivial, Below.refl _ _⟩
    case round =>
      obtain ⟨m, hm, rfl, rfl, rfl, rfl, -, hb⟩ := hrel
      have HB := hidb hb
      clear hb
      by_cases hml : m < np
      · have hmb : (m : Int) < (np : Int) := by omega
        have hmz : (0 : Int) ≤ (m : Int) := by omega
        have hmw : IntKind.i64.wrap ((m : Int) + 1) = (m : Int) + 1 := by rw [IntKind.wrap_i64]; omega
        obtain ⟨p, b, o, hp, rfl, hlt, hc⟩ := HS.out.procs.at m (by have := HN.out; omega)
        have hq := HBW.out.trans (HB.out.mono HBW.out.size)
        have HPI := hidb ((HS.out.each p (List.mem_of_getElem? hp)).keep hq)
        have cc : ∀ (i : Nat), i < 13 → wr.cell? ⟨b, o + m * 13 + i, none⟩ = (Pc.cells p)[i]? := fun i hi => (hq.cell (p := ⟨b, o + m * 13 + i, none⟩) hlt).trans (hc i hi)
        have c0 : wr.cell? ⟨b, o + m * 13, none⟩ = some (.int .i64 p.pid) := cc 0 (by omega)
        have c1 : wr.cell? ⟨b, o + m * 13 + 1, none⟩ = some (.int .i64 p.st) := cc 1 (by omega)
        have c2 : wr.cell? ⟨b, o + m * 13 + 2, none⟩ = some (.int .i64 p.rk) := cc 2 (by omega)
        have c3 : wr.cell? ⟨b, o + m * 13 + 3, none⟩ = some (.int .i64 p.rn) := cc 3 (by omega)
        have c4 : wr.cell? ⟨b, o + m * 13 + 4, none⟩ = some (.float .f64 p.rf) := cc 4 (by omega)
        have c5 : wr.cell? ⟨b, o + m * 13 + 5, none⟩ = some (.string p.rs) := cc 5 (by omega)
        have c6 : wr.cell? ⟨b, o + m * 13 + 6, none⟩ = some (.slice p.ra p.rl p.rc) := cc 6 (by omega)
        have c7 : wr.cell? ⟨b, o + m * 13 + 7, none⟩ = some (.bool p.trap) := cc 7 (by omega)
        have c8 : wr.cell? ⟨b, o + m * 13 + 8, none⟩ = some (.slice p.ia p.il p.ic) := cc 8 (by omega)
        have c9 : wr.cell? ⟨b, o + m * 13 + 9, none⟩ = some (.slice p.la p.ll p.lc) := cc 9 (by omega)
        have c10 : wr.cell? ⟨b, o + m * 13 + 10, none⟩ = some (.slice p.oa p.ol p.oc) := cc 10 (by omega)
        have c11 : wr.cell? ⟨b, o + m * 13 + 11, none⟩ = some (.slice p.ta p.tl p.tc) := cc 11 (by omega)
        have c12 : wr.cell? ⟨b, o + m * 13 + 12, none⟩ = some (.slice p.na p.nl p.nc) := cc 12 (by omega)
        have HP := hidb hp
        clear hp hc hq cc
        have hbo := HT.out.2
        have hp := HP.out
        have hstL := tot_step (g := onN Pc.ll) hp
        have hleL := tot_le (onN Pc.ll) ps (m + 1)
        obtain ⟨L0, hL0⟩ : ∃ T, tot (onN Pc.ll) (ps.take m) = T := ⟨_, rfl⟩
        obtain ⟨L1, hL1⟩ : ∃ T, tot (onN Pc.ll) (ps.take (m + 1)) = T := ⟨_, rfl⟩
        rw [hL0, hL1] at hstL
        rw [hL1] at hleL
        rw [hL0]
        have HL1 := hidb hL1
        clear hL0 hL1
        have hstT := tot_step (g := onN Pc.tl) hp
        have hleT := tot_le (onN Pc.tl) ps (m + 1)
        obtain ⟨T0, hT0⟩ : ∃ T, tot (onN Pc.tl) (ps.take m) = T := ⟨_, rfl⟩
        obtain ⟨T1, hT1⟩ : ∃ T, tot (onN Pc.tl) (ps.take (m + 1)) = T := ⟨_, rfl⟩
        rw [hT0, hT1] at hstT
        rw [hT1] at hleT
        rw [hT0]
        have HT1 := hidb hT1
        clear hT0 hT1
        have hstO := tot_step (g := onN Pc.ol) hp
        have hleO := tot_le (onN Pc.ol) ps (m + 1)
        obtain ⟨O0, hO0⟩ : ∃ T, tot (onN Pc.ol) (ps.take m) = T := ⟨_, rfl⟩
        obtain ⟨O1, hO1⟩ : ∃ T, tot (onN Pc.ol) (ps.take (m + 1)) = T := ⟨_, rfl⟩
        rw [hO0, hO1] at hstO
        rw [hO1] at hleO
        rw [hO0]
        have HO1 := hidb hO1
        clear hO0 hO1
        by_cases h4 : p.st = 4
        · have hL : L1 = L0 := by rw [hstL]; unfold onN; rw [if_pos h4]; omega
          have hT : T1 = T0 := by rw [hstT]; unfold onN; rw [if_pos h4]; omega
          have hO : O1 = O0 := by rw [hstO]; unfold onN; rw [if_pos h4]; omega
          have KL := hidb hL
          have KT := hidb hT
          have KO := hidb hO
          clear hp hbo hstL hleL hL hstT hleT hT hstO hleO hO
          go_wp2_with fail
          go_roundw
          case rel => exact ⟨m + 1, by omega, by rw [HL1.out, KL.out], by rw [HT1.out, KT.out], by rw [HO1.out, KO.out], by go_num, trivial, HB.out.trans ((below_new wr _).mono HB.out.size)⟩
          case measure => simp [RowKit.intOf]; omega
        · have hL : L1 = L0 + p.ll := by rw [hstL]; unfold onN; rw [if_neg h4]
          have wL : IntKind.i64.wrap ((L0 : Int) + (p.ll : Int)) = (L1 : Int) := by rw [IntKind.wrap_i64]; omega
          have hT : T1 = T0 + p.tl := by rw [hstT]; unfold onN; rw [if_neg h4]
          have wT : IntKind.i64.wrap ((T0 : Int) + (p.tl : Int)) = (T1 : Int) := by rw [IntKind.wrap_i64]; omega
          have hO : O1 = O0 + p.ol := by rw [hstO]; unfold onN; rw [if_neg h4]
          have wO : IntKind.i64.wrap ((O0 : Int) + (p.ol : Int)) = (O1 : Int) := by rw [IntKind.wrap_i64]; omega
          have KL := hidb hL
          have KT := hidb hT
          have KO := hidb hO
          clear hp hbo hstL hleL hL hstT hleT hT hstO hleO hO
          go_wp2_with fail
          go_roundw
          case rel => exact ⟨m + 1, by omega, by rw [HL1.out], by rw [HT1.out], by rw [HO1.out], by go_num, trivial, HB.out.trans ((below_new wr _).mono HB.out.size)⟩
          case measure => simp [RowKit.intOf]; omega
      · have hmn : ¬ (m : Int) < (np : Int) := by omega
        obtain rfl : m = np := by omega
        rw [tot_all HN.out, tot_all HN.out, tot_all HN.out]
        obtain ⟨L0, hL0⟩ : ∃ T, tot (onN Pc.ll) ps = T := ⟨_, rfl⟩
        obtain ⟨T0, hT0⟩ : ∃ T, tot (onN Pc.tl) ps = T := ⟨_, rfl⟩
        obtain ⟨O0, hO0⟩ : ∃ T, tot (onN Pc.ol) ps = T := ⟨_, rfl⟩
        have HE := hidb (And.intro hL0 (And.intro hT0 hO0))
        rw [hL0, hT0, hO0]
        clear hL0 hT0 hO0
        have r0 : wr.cell? ⟨rb, 0, none⟩ = some (.int .i64 (F : Int)) := (HB.out.cell (p := ⟨rb, 0, none⟩) (World.block_lt_of_cell? _ _ HFF.out.1)).trans HFF.out.1
        have r1 : wr.frozen? ⟨rb, 0, none⟩ = false := (HB.out.frozen (p := ⟨rb, 0, none⟩) (World.block_lt_of_cell? _ _ HFF.out.1)).trans HFF.out.2
        have HR0 := hidb r0
        go_wp2_with fail
        have hb9 : But (fun k => k = rb) W (wr.setCell ⟨rb, 0, none⟩ (.int .i64 (F : Int))) := (But.of_below (S := fun k => k = rb) HB.out).setCell (p := ⟨rb, 0, none⟩) (fun _ => rfl) _
        have hc9 : (wr.setCell ⟨rb, 0, none⟩ (.int .i64 (F : Int))).cell? ⟨rb, 0, none⟩ = some (.int .i64 (F : Int)) := World.cell?_setCell_same _ _ _ HR0.out
        generalize wr.setCell ⟨rb, 0, none⟩ (.int .i64 (F : Int)) = W9 at hb9 hc9 ⊢
        have hz1 := HDK.out.1
        have hz2 := HRL.out
        have hz3 := HB1.out.size
        have hz4 := HRB.out
        refine retM [D] rfl (fun E hE => by simp at hE; rw [hE]; exact held_at hb9 HDK.out.2 (by omega)) (by simp) (fun W' hb => ?_)
        have hc' : W'.cell? ⟨rb, 0, none⟩ = some (.int .i64 (F : Int)) := (hb.cell (p := ⟨rb, 0, none⟩) (World.block_lt_of_cell? _ _ hc9) (by simp; omega)).trans hc9
        exact ⟨.tuple #[.int .i64 (F : Int), .int .i64 (L0 : Int), .int .i64 (T0 : Int), .int .i64 (O0 : Int)], by simp [results, Try.results6, go_sem, hc'], by rw [HF.out, HE.out.1, HE.out.2.1, HE.out.2.2], below_taken (HBW.out.trans (hb9.below HBW.out.size (fun k hk => by omega))) hb (by omega)⟩
end Go.Proofs.Ytjiigabfdigkaaa


/- How many deliveries there can be, as the program says. -/
namespace Go.Proofs.Ytjiigabfdigkaaa
open Go.RowKit
attribute [local go_sem] store_float
set_option maxHeartbeats 4000000 in
set_option maxRecDepth 10000 in
theorem bound_any (w : World) (pa la : Option Addr) (cp cl np nl : Nat) (ps : List Pc) (ls : List Ln) (oa : Option Addr) (no co : Nat) (hs : StIn w pa ps la ls) (hnp : ps.length = np) (hnl : ls.length = nl) (ht : tot Ln.n ls ≤ 1000000000 ∧ tot (onN Pc.ll) ps ≤ 1000000000 ∧ tot (onN Pc.tl) ps ≤ 1000000000 ∧ tot (onN Pc.ol) ps ≤ 1000000000) :
    Calls Try.prog 13 #[stV pa np cp la nl cl oa no co] w (fun e w' => e = .returned (.int .i64 (2 * (tot Ln.n ls : Nat) + (tot (onN Pc.ll) ps : Nat) + (tot (onN Pc.tl) ps : Nat) + (tot (onN Pc.ol) ps : Nat) : Int)) ∧ Below w.heap.size w w') := by
  have HT := hidb ht
  have HM := hidb hnl
  have HS := hidb hs
  have HN := hidb hnp
  clear hs hnp hnl ht
  obtain ⟨F, hF⟩ : ∃ F, tot Ln.n ls = F := ⟨_, rfl⟩
  obtain ⟨L, hL⟩ : ∃ F, tot (onN Pc.ll) ps = F := ⟨_, rfl⟩
  obtain ⟨T, hT⟩ : ∃ F, tot (onN Pc.tl) ps = F := ⟨_, rfl⟩
  obtain ⟨O, hO⟩ : ∃ F, tot (onN Pc.ol) ps = F := ⟨_, rfl⟩
  have HE := hidb (And.intro hF (And.intro hL (And.intro hT hO)))
  rw [hF, hL, hT, hO]
  have hw1 : IntKind.i64.wrap (2 * (F : Int)) = 2 * (F : Int) := by have := HT.out; rw [hF] at this; rw [IntKind.wrap_i64]; omega
  have hw2 : IntKind.i64.wrap (2 * (F : Int) + (L : Int)) = 2 * (F : Int) + (L : Int) := by have := HT.out; rw [hF, hL] at this; rw [IntKind.wrap_i64]; omega
  have hw3 : IntKind.i64.wrap (2 * (F : Int) + (L : Int) + (T : Int)) = 2 * (F : Int) + (L : Int) + (T : Int) := by have := HT.out; rw [hF, hL, hT] at this; rw [IntKind.wrap_i64]; omega
  have hw4 : IntKind.i64.wrap (2 * (F : Int) + (L : Int) + (T : Int) + (O : Int)) = 2 * (F : Int) + (L : Int) + (T : Int) + (O : Int) := by have := HT.out; rw [hF, hL, hT, hO] at this; rw [IntKind.wrap_i64]; omega
  have HT2 : Hid (tot Ln.n ls ≤ 1000000000 ∧ tot (onN Pc.ll) ps ≤ 1000000000 ∧ tot (onN Pc.tl) ps ≤ 1000000000 ∧ tot (onN Pc.ol) ps ≤ 1000000000) := HT
  have HX0 := hidb (At.new w [.slice pa np cp, .slice la nl cl, .slice oa no co] 26)
  clear hF hL hT hO
  go_enter Try.func13, Try.ntmps13
  go_wp2_with fail
  refine (count_any _ pa la cp cl np nl ps ls oa no co (HS.out.keep (below_new w _)) HN.out HM.out HT.out).mono ?_
  rintro e w1 ⟨rfl, hb1⟩
  rw [HE.out.1, HE.out.2.1, HE.out.2.2.1, HE.out.2.2.2]
  have HB1 := hidb ((below_new w (.cells #[.slice pa np cp, .slice la nl cl, .slice oa no co] 26)).trans (hb1.mono (by simp)))
  clear hb1
  go_wp2_with fail
  go_ret
  exact ⟨rfl, HB1.out⟩
end Go.Proofs.Ytjiigabfdigkaaa


