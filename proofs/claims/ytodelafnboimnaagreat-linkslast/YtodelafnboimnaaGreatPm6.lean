/- Two processes' tables and the ether between: a move; LinksAgree, walked. -/
import Derived.Test.YtodelafnboimnaaGreatPm5
namespace Go.Proofs.YtodelafnboimnaaGreat
open Go.RowKit Go.Lib
open HV (Hf hf0 getL insL delL Rise Wfk TB Nw Rst)
open PR (Sd Sig Inv cnt)
attribute [local go_sem] store_float f64bits
attribute [local go_sem ↓] Go.wp_at_zero Go.wp_at_succ

/-- How the two stand behind i moves. -/
def StP (w1 w : World) (i : Nat) : Prop := ∃ A B p q N, PM w1 w (w1.heap.size + 1) (.pointer (some ⟨w1.heap.size + 2, 0, none⟩)) (.pointer (some ⟨w1.heap.size + 3, 0, none⟩)) (w1.heap.size + 2) (w1.heap.size + 3) w1.heap.size 1 2 A B p q N ∧ Inv A B p q ∧ N ≤ 2 * i ∧ p.length + q.length ≤ i ∧ A.last ≤ i ∧ B.last ≤ i

theorem StP.start (w1 : World) {w : World} (h : PM w1 w (w1.heap.size + 1) (.pointer (some ⟨w1.heap.size + 2, 0, none⟩)) (.pointer (some ⟨w1.heap.size + 3, 0, none⟩)) (w1.heap.size + 2) (w1.heap.size + 3) w1.heap.size 1 2 ⟨0, 0, 0⟩ ⟨0, 0, 0⟩ [] [] 0) : StP w1 w 0 := ⟨_, _, _, _, _, h, PR.inv_start, by omega, by simp, by simp, by simp⟩
theorem StP.keep {w1 w w' : World} {i : Nat} (h : StP w1 w i) (hb : Below w.heap.size w w') : StP w1 w' i := by
  obtain ⟨A, B, p, q, N, h1, h2⟩ := h
  exact ⟨A, B, p, q, N, h1.keep hb, h2⟩
theorem StP.below {w1 w : World} {i : Nat} (h : StP w1 w i) : Below w1.heap.size w1 w := by
  obtain ⟨A, B, p, q, N, h1, h2⟩ := h
  exact h1.below

/-- A call. -/
theorem StP.call {w1 w : World} {i : Nat} (h : StP w1 w i) (hi : i ≤ 3000) {z op : Int} (hz : z = 0 ∨ z = 1) (ho : op = 1 ∨ op = 2) :
    Calls Tryz.prog 8 #[.pointer (some ⟨w1.heap.size + 1, 0, none⟩), .int .i64 z, .int .i64 op] w fun e w' => e = .returned (.tuple #[]) ∧ StP w1 w' (i + 1) := by
  obtain ⟨A, B, p, q, N, h1, h2, h3, h4, h5, h6⟩ := h
  have fA : ∀ op w', CallsR w1 (w1.heap.size + 1) (.pointer (some ⟨w1.heap.size + 2, 0, none⟩)) (.pointer (some ⟨w1.heap.size + 3, 0, none⟩)) (w1.heap.size + 2) (w1.heap.size + 3) w1.heap.size 1 2 A B p q N op w' → StP w1 w' (i + 1) := by
    rintro op w' ⟨A', p', N', g1, g2, g3, g4, g5, -⟩
    exact ⟨A', B, p', q, N', g1, g2, by omega, by omega, by omega, by omega⟩
  have fB : ∀ op w', CallsR w1 (w1.heap.size + 1) (.pointer (some ⟨w1.heap.size + 2, 0, none⟩)) (.pointer (some ⟨w1.heap.size + 3, 0, none⟩)) (w1.heap.size + 3) (w1.heap.size + 2) w1.heap.size 2 1 B A q p N op w' → StP w1 w' (i + 1) := by
    rintro op w' ⟨A', p', N', g1, g2, g3, g4, g5, -⟩
    exact ⟨A, A', p, p', N', g1.swap, g2.swap, by omega, by omega, by omega, by omega⟩
  rcases hz with rfl | rfl <;> rcases ho with rfl | rfl
  · exact (callL0 h1 h2 (by omega) (by omega)).mono (fun e w' h => ⟨h.1, fA _ _ h.2⟩)
  · exact (callU0 h1 h2 (by omega) (by omega) (by omega)).mono (fun e w' h => ⟨h.1, fA _ _ h.2⟩)
  · exact (callL1 h1.swap h2.swap (by omega) (by omega)).mono (fun e w' h => ⟨h.1, fB _ _ h.2⟩)
  · exact (callU1 h1.swap h2.swap (by omega) (by omega) (by omega)).mono (fun e w' h => ⟨h.1, fB _ _ h.2⟩)

theorem ans_len (s : Sig) : (PR.ans s).length ≤ 1 := by unfold PR.ans; split <;> simp

/-- A delivery. -/
theorem StP.take {w1 w : World} {i : Nat} (h : StP w1 w i) (hi : i ≤ 3000) {z : Int} (hz : z = 0 ∨ z = 1) :
    Calls Tryz.prog 9 #[.pointer (some ⟨w1.heap.size + 1, 0, none⟩), .int .i64 z] w fun e w' => ∃ b, e = .returned (.bool b) ∧ StP w1 w' (i + 1) := by
  obtain ⟨A, B, p, q, N, h1, h2, h3, h4, h5, h6⟩ := h
  rcases hz with rfl | rfl
  · cases q with
    | nil => exact (takeN0 h1).mono (by rintro e w' ⟨rfl, g⟩; exact ⟨_, rfl, A, B, p, [], N, g, h2, by omega, by omega, by omega, by omega⟩)
    | cons s r =>
      refine (takeS0 h1 (by omega) (by simp at h4; omega) (h2.hb.wf s (by simp))).mono ?_
      rintro e w' ⟨rfl, N2, g1, g2⟩
      have := ans_len s
      exact ⟨_, rfl, _, _, _, _, N2, g1, h2.take, by omega, by simp at h4 ⊢; omega, by rw [PR.rcv_last]; omega, by omega⟩
  · cases p with
    | nil => exact (takeN1 h1.swap).mono (by rintro e w' ⟨rfl, g⟩; exact ⟨_, rfl, A, B, [], q, N, g.swap, h2, by omega, by omega, by omega, by omega⟩)
    | cons s r =>
      refine (takeS1 h1.swap (by omega) (by simp at h4; omega) (h2.swap.hb.wf s (by simp))).mono ?_
      rintro e w' ⟨rfl, N2, g1, g2⟩
      have := ans_len s
      exact ⟨_, rfl, _, _, _, _, N2, g1.swap, (Inv.take h2.swap).swap, by omega, by simp at h4 ⊢; omega, by omega, by rw [PR.rcv_last]; omega⟩

/-- All is delivered. -/
theorem drained_any {w1 w : World} {A B : Sd} {p q : List Sig} {N : Nat} (h : PM w1 w (w1.heap.size + 1) (.pointer (some ⟨w1.heap.size + 2, 0, none⟩)) (.pointer (some ⟨w1.heap.size + 3, 0, none⟩)) (w1.heap.size + 2) (w1.heap.size + 3) w1.heap.size 1 2 A B p q N) (hi : Inv A B p q) (hN : N + 2 * cnt p q ≤ 80000) (hL : cnt p q ≤ 40000) {z : Int} (hz : z = 0 ∨ z = 1) :
    Calls Tryz.prog 11 #[.pointer (some ⟨w1.heap.size + 1, 0, none⟩), .int .i64 z] w fun e w9 => e = .returned (.int .i64 (cnt p q : Int)) ∧ ∃ A2 B2 N2, PM w1 w9 (w1.heap.size + 1) (.pointer (some ⟨w1.heap.size + 2, 0, none⟩)) (.pointer (some ⟨w1.heap.size + 3, 0, none⟩)) (w1.heap.size + 2) (w1.heap.size + 3) w1.heap.size 1 2 A2 B2 [] [] N2 ∧ A2.st = fin A p q ∧ B2.st = fin A p q ∧ (fin A p q = 0 ∨ fin A p q = 1) := by
  rcases hz with rfl | rfl
  · exact drained0 h hi hN hL
  · refine (drained1 h.swap hi.swap (by rw [PR.cnt_swap]; exact hN) (by rw [PR.cnt_swap]; exact hL)).mono ?_
    rintro e w9 ⟨rfl, A2, B2, N2, g1, g2, g3, g4⟩
    rw [fin_swap hi] at g2 g3 g4
    exact ⟨by rw [PR.cnt_swap], B2, A2, N2, g1.swap, g3, g2, g4⟩

theorem getA {w0 w : World} {pb tA tB eb N : Nat} {v0 v1 : Value} {x y : Int} {A B : Sd} {p q : List Sig} (h : PM w0 w pb v0 v1 tA tB eb x y A B p q N) :
    Calls Tryz.prog 12 #[.pointer (some ⟨tA, 0, none⟩), .int .i64 y] w fun e w' => ∃ va vc, e = .returned (.tuple #[.agg #[.int .i64 va, .int .i64 A.st, .int .i64 vc], .bool (!(A.st == 0))]) ∧ Below w.heap.size w w' := by
  obtain ⟨D, hD⟩ := h.tab
  refine (lget_any hD y).mono ?_
  rintro e w' ⟨rfl, hb⟩
  refine ⟨(stL y (Lof y A)).a, (stL y (Lof y A)).c, ?_, hb⟩
  rw [lof_st]
  congr 3
  rw [lof_get]
  by_cases e : A.st = 0 <;> simp [e]

/-- A row of moves. -/
def MC (w : World) (v : Value) (l : List (Int × Int)) : Prop :=
  ∃ q c, v = .slice q l.length c ∧ ∀ (j : Nat) x, l[j]? = some x → ∃ b o, q = some ⟨b, o, none⟩ ∧ w.cell? ⟨b, o + j * 2, none⟩ = some (.int .i64 x.1) ∧ w.cell? ⟨b, o + j * 2 + 1, none⟩ = some (.int .i64 x.2)

set_option maxRecDepth 100000 in
set_option maxHeartbeats 16000000 in
theorem linksAgree_walk (v0 : Value) (l : List (Int × Int)) (first : Int) (w : World) (hl1 : MC w v0 l) :
    Calls Tryz.prog 3 #[v0, .int .i64 first] w fun e w' => e = .returned (.bool true) ∧ Below w.heap.size w w' := by
  obtain ⟨q1, c1, rfl, hcl1⟩ := hl1
  have HC1 := hidb hcl1
  clear hcl1
  by_cases z1 : l.length > 2000
  · have e1 : (2000 : Int) < (l.length : Int) := by omega
    go_enter Tryz.func3, Tryz.ntmps3
    go_wp2_with (go_at_call 5; refine (known14_any _).mono ?_; rintro e w1 ⟨rfl, hb1⟩; have HB1 := hidb hb1; clear hb1)
    go_ret
    exact ⟨rfl, HB1.out⟩
  have e1 : ¬ (2000 : Int) < (l.length : Int) := by omega
  have HZ : Hid (l.length ≤ 2000) := hidb (by omega)
  clear z1
  go_enter Tryz.func3, Tryz.ntmps3
  go_wp2_with (first
    | (go_at_call 5; refine (known14_any _).mono ?_; rintro e w1 ⟨rfl, hb1⟩; have HB1 := hidb hb1; clear hb1)
    | (go_at_call 6; refine (begun_any _).mono ?_; rintro e w2 ⟨rfl, hbg⟩; have HBG := hidb hbg; clear hbg))
  go_loopw [6] (fun iv wr => ∃ (i : Nat), iv = .int .i64 (i : Int) ∧ i ≤ l.length ∧ StP w1 wr i) (fun iv _ => l.length - (intOf iv).toNat)
  case atStart => exact ⟨0, rfl, by omega, StP.start w1 HBG.out⟩
  case round =>
  obtain ⟨i, rfl, hi, hST⟩ := hrel
  have HST := hidb hST
  have HI := hidb hi
  clear hi hST HBG
  by_cases hlt : i < l.length
  · have hlt' : (i : Int) < (l.length : Int) := by omega
    obtain ⟨x0, x1, hx⟩ : ∃ x0 x1 : Int, l[i]? = some (x0, x1) := ⟨_, _, List.getElem?_eq_getElem hlt⟩
    obtain ⟨b, o, rfl, y0, y1⟩ := HC1.out i _ hx
    have hbw : b < w.heap.size := World.block_lt_of_cell? _ _ y0
    have hbr := HB1.out.trans (HST.out.below.mono HB1.out.size)
    have m0 := (hbr.cell (p := ⟨b, o + i * 2, none⟩) hbw).trans y0
    have m1 := (hbr.cell (p := ⟨b, o + i * 2 + 1, none⟩) hbw).trans y1
    simp only at m0 m1
    have s0 : (0 : Int) ≤ (i : Int) := by omega
    have HW : Hid (wrap64 ((i : Int) + 1) = ((i + 1 : Nat) : Int)) := hidb (by have := HZ.out; unfold wrap64; omega)
    have hz5 := HZ.out
    have hi5 := HI.out
    have HSD := hidb (side_any x0)
    have CC : Hid (∀ z op : Int, z = 0 ∨ z = 1 → op = 1 ∨ op = 2 → Calls Tryz.prog 8 #[.pointer (some ⟨w1.heap.size + 1, 0, none⟩), .int .i64 z, .int .i64 op] wr fun e w' => e = .returned (.tuple #[]) ∧ StP w1 w' (i + 1)) := hidb (fun z op h1 h2 => HST.out.call (by omega) h1 h2)
    have CT : Hid (∀ z : Int, z = 0 ∨ z = 1 → Calls Tryz.prog 9 #[.pointer (some ⟨w1.heap.size + 1, 0, none⟩), .int .i64 z] wr fun e w' => ∃ b, e = .returned (.bool b) ∧ StP w1 w' (i + 1)) := hidb (fun z h1 => HST.out.take (by omega) h1)
    clear hx y0 y1 hbw hbr hz5 hi5 hlt
    by_cases o1 : x1 = 1
    · subst o1
      go_wp2_with (first
        | (go_at_call 7; refine (HSD.out _).mono ?_; clear HSD; rintro e w5 ⟨z, rfl, hw5, hz⟩; (have hw6 := hw5.symm); clear hw5; subst hw6; have HZZ := hidb hz; clear hz)
        | (go_at_call 8; refine (CC.out _ _ HZZ.out (.inl rfl)).mono ?_; clear CC; rintro e w6 ⟨rfl, hR⟩; have HR := hidb hR; clear hR))
      go_roundw
      case rel => exact ⟨i + 1, by first | rfl | (rw [HW.out]), by omega, HR.out⟩
      case measure =>
        try rw [HW.out]
        simp only [RowKit.intOf]
        omega
    · have d1 : (x1 == 1) = false := by simpa using o1
      by_cases o2 : x1 = 2
      · subst o2
        go_wp2_with (first
          | (go_at_call 7; refine (HSD.out _).mono ?_; clear HSD; rintro e w5 ⟨z, rfl, hw5, hz⟩; (have hw6 := hw5.symm); clear hw5; subst hw6; have HZZ := hidb hz; clear hz)
          | (go_at_call 8; refine (CC.out _ _ HZZ.out (.inr rfl)).mono ?_; clear CC; rintro e w6 ⟨rfl, hR⟩; have HR := hidb hR; clear hR))
        go_roundw
        case rel => exact ⟨i + 1, by first | rfl | (rw [HW.out]), by omega, HR.out⟩
        case measure =>
          try rw [HW.out]
          simp only [RowKit.intOf]
          omega
      · have d2 : (x1 == 2) = false := by simpa using o2
        clear o1 o2
        go_wp2_with (first
          | (go_at_call 7; refine (HSD.out _).mono ?_; clear HSD; rintro e w5 ⟨z, rfl, hw5, hz⟩; (have hw6 := hw5.symm); clear hw5; subst hw6; have HZZ := hidb hz; clear hz)
          | (go_at_call 9; refine (CT.out _ HZZ.out).mono ?_; clear CT; rintro e w6 ⟨bb, rfl, hR⟩; have HR := hidb hR; clear hR))
        go_roundw
        case rel => exact ⟨i + 1, by first | rfl | (rw [HW.out]), by omega, HR.out⟩
        case measure =>
          try rw [HW.out]
          simp only [RowKit.intOf]
          omega
  · have hlt' : ¬ (i : Int) < (l.length : Int) := by omega
    obtain ⟨A, B, p, q, N, hP, hV, hN, hlen, -, -⟩ := HST.out
    have hz5 := HZ.out
    have hi5 := HI.out
    have hcn := PR.cnt_le p q
    have k2 := hP.box.c2
    have HCN := hidb hP.count
    obtain ⟨m, hm⟩ : ∃ m, p.length + q.length = m := ⟨_, rfl⟩
    rw [hm] at HCN hcn
    have CD : Hid (∀ z : Int, z = 0 ∨ z = 1 → Calls Tryz.prog 11 #[.pointer (some ⟨w1.heap.size + 1, 0, none⟩), .int .i64 z] wr fun e w9 => ∃ K : Nat, e = .returned (.int .i64 (K : Int)) ∧ K ≤ 2 * m ∧ w9.cell? ⟨w1.heap.size + 1, 0, none⟩ = some (.pointer (some ⟨w1.heap.size + 2, 0, none⟩)) ∧ w9.cell? ⟨w1.heap.size + 1, 1, none⟩ = some (.pointer (some ⟨w1.heap.size + 3, 0, none⟩)) ∧ ∃ v : Int, (v = 0 ∨ v = 1) ∧ Hid (Calls Tryz.prog 12 #[.pointer (some ⟨w1.heap.size + 2, 0, none⟩), .int .i64 2] w9 fun e w10 => ∃ va vc, e = .returned (.tuple #[.agg #[.int .i64 va, .int .i64 v, .int .i64 vc], .bool (!(v == 0))]) ∧ (w10.alloc (.cells #[.int .i64 va, .int .i64 v, .int .i64 vc] 38)).cell? ⟨w1.heap.size + 1, 1, none⟩ = some (.pointer (some ⟨w1.heap.size + 3, 0, none⟩)) ∧ Hid (Calls Tryz.prog 12 #[.pointer (some ⟨w1.heap.size + 3, 0, none⟩), .int .i64 1] (w10.alloc (.cells #[.int .i64 va, .int .i64 v, .int .i64 vc] 38)) fun e w11 => ∃ vb vd, e = .returned (.tuple #[.agg #[.int .i64 vb, .int .i64 v, .int .i64 vd], .bool (!(v == 0))]) ∧ Tri (w11.alloc (.cells #[.int .i64 vb, .int .i64 v, .int .i64 vd] 38)) w10.heap.size (.int .i64 va) (.int .i64 v) (.int .i64 vc) ∧ Hid (Below w.heap.size w w11)))) := by
      refine hidb (fun z hz => (drained_any hP hV (by omega) (by omega) hz).mono ?_)
      rintro e w9 ⟨rfl, A2, B2, N2, g1, g2, g3, g4⟩
      refine ⟨_, rfl, hcn, g1.box.c0, g1.box.c1, fin A p q, g4, hidb ((getA g1).mono ?_)⟩
      rintro e w10 ⟨va, vc, rfl, hb10⟩
      rw [g2]
      have hb10' : Below w9.heap.size w9 (w10.alloc (.cells #[.int .i64 va, .int .i64 (fin A p q), .int .i64 vc] 38)) := hb10.alloc hb10.size _
      have g10 := g1.keep hb10'
      refine ⟨va, vc, rfl, g10.box.c1, hidb ((getA g10.swap).mono ?_)⟩
      rintro e w11 ⟨vb, vd, rfl, hb11⟩
      rw [g3]
      refine ⟨vb, vd, rfl, ((Tri.new w10 _ _ _ _).keep hb11).keep (below_new _ _), hidb ?_⟩
      exact HB1.out.trans ((g10.keep hb11).below.mono HB1.out.size)
    have HSD := hidb (side_any first)
    have HM : Hid (m ≤ 4000) := hidb (by omega)
    have e2 : wrap64 (2 * (m : Int)) = 2 * (m : Int) := by unfold wrap64; omega
    clear hP hV hN hlen hz5 hi5 hcn hm hlt HST
    go_wp2_with (first
      | (go_at_call 10; refine HCN.out.mono ?_; clear HCN; rintro e w5 ⟨rfl, hw5⟩; (have hw6 := hw5.symm); clear hw5; subst hw6)
      | (go_at_call 7; refine (HSD.out _).mono ?_; clear HSD; rintro e w5 ⟨z, rfl, hw5, hz⟩; (have hw6 := hw5.symm); clear hw5; subst hw6; have HZZ := hidb hz; clear hz)
      | (go_at_call 11; refine (CD.out _ HZZ.out).mono ?_; clear CD; rintro e w9 ⟨K, rfl, hK, n0, n1, v, hv, CG⟩; have e3 : ¬ 2 * (m : Int) < (K : Int) := (by omega); have HV := hidb hv; clear hv)
      | (go_at_call 12; refine CG.out.mono ?_; clear CG; rintro e w10 ⟨va, vc, rfl, n2, CH⟩)
      | (go_at_call 12; refine CH.out.mono ?_; clear CH; rintro e w11 ⟨vb, vd, rfl, P9, HB⟩; have r0 := P9.c0; have r1 := P9.c1; have r2 := P9.c2; rcases HV.out with rfl | rfl))
    all_goals go_ret
    all_goals exact ⟨rfl, HB.out.alloc HB.out.size _⟩

end Go.Proofs.YtodelafnboimnaaGreat
