/- LinksDeaf, walked. -/
import Derived.Test.YtodelafnboimnaaLs1
namespace Go.Proofs.Ytodelafnboimnaa
open Go.RowKit Go.Lib
open HV (Hf hf0 getL insL delL Rise Wfk TB Nw Rst RT RU)
attribute [local go_sem ↓] Go.wp_at_zero Go.wp_at_succ

/-- A row of acts. -/
def AC (w : World) (v : Value) (l : List (Int × Int × Int)) : Prop :=
  ∃ q c, v = .slice q l.length c ∧ ∀ (j : Nat) x, l[j]? = some x → ∃ b o, q = some ⟨b, o, none⟩ ∧ w.cell? ⟨b, o + j * 3, none⟩ = some (.int .i64 x.1) ∧ w.cell? ⟨b, o + j * 3 + 1, none⟩ = some (.int .i64 x.2.1) ∧ w.cell? ⟨b, o + j * 3 + 2, none⟩ = some (.int .i64 x.2.2)

theorem RT.start (w : World) : RT (w.alloc (.cells #[.slice none 0 0, .int .i64 0] 29)) w.heap.size (fun _ => False) [] 0 :=
  ⟨.slice none 0 0, Duo.new _ _ _ _, World.ownsRow_nil _ _ _ _, fun g h => by simp [Value.ownBlock] at h⟩

theorem PL.start {w1 w2 : World} (h1 : LT w2 w1.heap.size (fun _ => False) [] 0) (hb : Below w1.heap.size w1 w2) (hs : w2.heap.size = w1.heap.size + 1) :
    PL w1 (w2.alloc (.cells #[.slice none 0 0, .int .i64 0] 29)) w1.heap.size (w1.heap.size + 1) [] 0 := by
  have hbn := below_new w2 (.cells #[.slice none 0 0, .int .i64 0] 29)
  refine ⟨fun _ => False, fun _ => False, h1.keep hbn, by rw [← hs]; exact RT.start w2, fun _ h => h.elim, fun _ h => h.elim, Nat.le_refl _, by omega, by omega, hb.trans (hbn.mono hb.size)⟩

/-- A method of the program's table that leaves half-links as they are. -/
theorem PL.alone {w0 w : World} {tb rb : Nat} {L : List HV.KV} {n : Int} (h : PL w0 w tb rb L n) {f : Nat} {args : Array Value} {R : Ending → Prop} (hc : ∀ D, LT w tb D L n → Calls Try.prog f args w fun e w' => R e ∧ LU w w' tb D L n) :
    Calls Try.prog f args w fun e w' => R e ∧ PL w0 w' tb rb L n ∧ (∀ b v0 v1 v2, Tri w b v0 v1 v2 → ¬ b = tb → Tri w' b v0 v1 v2) := by
  obtain ⟨D, E, h1, h2, h3, h4⟩ := h.both
  refine (hc D h1).mono ?_
  rintro e w' ⟨hr, hu⟩
  obtain ⟨g1, g2, g3, g4⟩ := h4 w' _ _ hu w' (Below.refl _ _)
  exact ⟨hr, (g4 w' (RU.same g1 (Below.refl _ _))).1, g3⟩

theorem PL.ltt {w0 w : World} {tb rb : Nat} {L : List HV.KV} {n : Int} (h : PL w0 w tb rb L n) : ∃ D, LT w tb D L n := by obtain ⟨D, _, h, _⟩ := h; exact ⟨D, h⟩

set_option maxRecDepth 100000 in
set_option maxHeartbeats 16000000 in
theorem linksDeaf_walk (v0 v2 : Value) (pid : Int) (l1 l2 : List (Int × Int × Int)) (w : World) (hl1 : AC w v0 l1) (hl2 : AC w v2 l2) :
    Calls Try.prog 4 #[v0, .int .i64 pid, v2] w fun e w' => e = .returned (.bool true) ∧ Below w.heap.size w w' := by
  obtain ⟨q1, c1, rfl, hcl1⟩ := hl1
  obtain ⟨q2, c2, rfl, hcl2⟩ := hl2
  have HC1 := hidb hcl1
  have HC2 := hidb hcl2
  clear hcl1 hcl2
  by_cases z1 : l1.length > 2000
  · have e1 : (2000 : Int) < (l1.length : Int) := by omega
    go_enter Try.func4, Try.ntmps4
    go_wp2_with (go_at_call 5; refine (known14_any _).mono ?_; rintro e w1 ⟨rfl, hb1⟩; have HB1 := hidb hb1; clear hb1)
    go_ret
    exact ⟨rfl, HB1.out⟩
  have e1 : ¬ (2000 : Int) < (l1.length : Int) := by omega
  by_cases z2 : l2.length > 2000
  · have e2 : (2000 : Int) < (l2.length : Int) := by omega
    go_enter Try.func4, Try.ntmps4
    go_wp2_with (go_at_call 5; refine (known14_any _).mono ?_; rintro e w1 ⟨rfl, hb1⟩; have HB1 := hidb hb1; clear hb1)
    go_ret
    exact ⟨rfl, HB1.out⟩
  have e2 : ¬ (2000 : Int) < (l2.length : Int) := by omega
  by_cases z3 : pid < 1
  · go_enter Try.func4, Try.ntmps4
    go_wp2_with (go_at_call 5; refine (known14_any _).mono ?_; rintro e w1 ⟨rfl, hb1⟩; have HB1 := hidb hb1; clear hb1)
    go_ret
    exact ⟨rfl, HB1.out⟩
  have HZ : Hid (l1.length ≤ 2000 ∧ l2.length ≤ 2000 ∧ 1 ≤ pid) := hidb (by omega)
  clear z1 z2
  go_enter Try.func4, Try.ntmps4
  go_wp2_with (first
    | (go_at_call 5; refine (known14_any _).mono ?_; rintro e w1 ⟨rfl, hb1⟩; have HB1 := hidb hb1; clear hb1)
    | (go_at_call 6; refine (lnew_any _).mono ?_; rintro e w2 ⟨rfl, ht2, hb2, hs2⟩; have HT2 := hidb ht2; have HB2 := hidb hb2; have HS2 := hidb hs2; clear ht2 hb2))
  clear hs2
  go_loopw [9] (fun iv wr => ∃ (i : Nat) (L : List HV.KV) (n : Int), iv = .int .i64 (i : Int) ∧ i ≤ l1.length ∧ PL w1 wr w1.heap.size (w1.heap.size + 1) L n ∧ L.length ≤ i ∧ 0 ≤ n ∧ n ≤ i) (fun iv _ => l1.length - (intOf iv).toNat)
  case atStart => exact ⟨0, [], 0, rfl, by omega, PL.start HT2.out HB2.out HS2.out, by simp, by omega, by omega⟩
  case round =>
  obtain ⟨i, L, n, rfl, hi, hP, hLi, hn0, hn1⟩ := hrel
  have HP := hidb hP
  have HI := hidb (⟨hi, hLi, hn0, hn1⟩ : i ≤ l1.length ∧ L.length ≤ i ∧ 0 ≤ n ∧ n ≤ i)
  clear hi hP hLi hn0 hn1 HT2 HB2 HS2
  by_cases hlt : i < l1.length
  · have hlt' : (i : Int) < (l1.length : Int) := by omega
    obtain ⟨x0, x1, x2, hx⟩ : ∃ x0 x1 x2 : Int, l1[i]? = some (x0, x1, x2) := ⟨_, _, _, List.getElem?_eq_getElem hlt⟩
    obtain ⟨b, o, rfl, y0, y1, y2⟩ := HC1.out i _ hx
    have hbw : b < w.heap.size := World.block_lt_of_cell? _ _ y0
    have m0 := ((HB1.out.trans (HP.out.below.mono HB1.out.size)).cell (p := ⟨b, o + i * 3, none⟩) hbw).trans y0
    have m1 := ((HB1.out.trans (HP.out.below.mono HB1.out.size)).cell (p := ⟨b, o + i * 3 + 1, none⟩) hbw).trans y1
    have m2 := ((HB1.out.trans (HP.out.below.mono HB1.out.size)).cell (p := ⟨b, o + i * 3 + 2, none⟩) hbw).trans y2
    simp only at m0 m1 m2
    have s0 : (0 : Int) ≤ (i : Int) := by omega
    have HW : Hid (wrap64 ((i : Int) + 1) = ((i + 1 : Nat) : Int)) := hidb (by have := HZ.out; unfold wrap64; omega)
    by_cases hx1 : 1 ≤ x1
    · have HST : Hid (Calls Try.prog 7 #[.pointer (some ⟨w1.heap.size, 0, none⟩), .pointer (some ⟨w1.heap.size + 1, 0, none⟩), .agg #[.int .i64 x0, .int .i64 x1, .int .i64 x2]] wr fun e w5 => e = .returned (.bool true) ∧ Hid (∃ L' n', PL w1 w5 w1.heap.size (w1.heap.size + 1) L' n' ∧ L'.length ≤ i + 1 ∧ 0 ≤ n' ∧ n' ≤ ((i + 1 : Nat) : Int))) := hidb ((step_any HP.out x0 x1 x2 hx1 (by have := HI.out; have := HZ.out; omega) (by have := HI.out; have := HZ.out; omega)).mono (by
        rintro e w5 ⟨rfl, hp5⟩
        have hi5 := HI.out
        have h6 := stp_len (op := x0) (p := x1) (id := x2) (n := n) HP.out.lts.2.2.1
        have h7 := stp_n (op := x0) (p := x1) (n := n) (L := L)
        exact ⟨rfl, hidb ⟨_, _, hp5, by omega, by omega, by omega⟩⟩))
      clear hx y0 y1 y2 hbw hlt
      go_wp2_with (go_at_call 7; refine HST.out.mono ?_; clear HST; rintro e w5 ⟨rfl, HR⟩)
      go_roundw
      case rel =>
        obtain ⟨L', n', r1, r2, r3, r4⟩ := HR.out
        exact ⟨i + 1, L', n', by first | rfl | (rw [HW.out]), by omega, r1, r2, r3, r4⟩
      case measure =>
        try rw [HW.out]
        simp only [RowKit.intOf]
        omega
    · clear hx y0 y1 y2 hbw hlt
      go_wp2_with fail
      go_roundw
      case rel =>
        have := HI.out
        exact ⟨i + 1, L, n, by first | rfl | (rw [HW.out]), by omega, HP.out, by omega, by omega, by omega⟩
      case measure =>
        try rw [HW.out]
        simp only [RowKit.intOf]
        omega
  · have hlt' : ¬ (i : Int) < (l1.length : Int) := by omega
    have CU : Hid (Calls Try.prog 13 #[.pointer (some ⟨w1.heap.size, 0, none⟩), .int .i64 pid] wr fun e w3 => ∃ za zb, e = .returned (.tuple #[.int .i64 za, .bool zb]) ∧ Hid (Calls Try.prog 14 #[.pointer (some ⟨w1.heap.size + 1, 0, none⟩), .int .i64 pid] w3 fun e w4 => ∃ ya yb, e = .returned (.tuple #[.int .i64 ya, .bool yb]) ∧ Hid (∃ L' n', PL w1 w4 w1.heap.size (w1.heap.size + 1) L' n' ∧ L'.length ≤ 2001 ∧ 0 ≤ n' ∧ n' ≤ 2001 ∧ isLk pid L' = false))) := by
      obtain ⟨D, E, h1, h2, h3, h4⟩ := HP.out.both
      have hi5 := HI.out
      have hz5 := HZ.out
      have hll := HP.out.lts
      refine hidb ((lunlink_any h1 (by omega) pid (by omega) (by omega)).mono ?_)
      rintro e w3 ⟨rfl, hu⟩
      obtain ⟨g1, g2, g3, g4⟩ := h4 w3 _ _ hu w3 (Below.refl _ _)
      refine ⟨_, _, rfl, hidb ((HV.runlink_any g1 hll.2.2.1 hll.2.2.2 pid (by omega) (by omega)).mono ?_)⟩
      rintro e w4 ⟨rfl, hru⟩
      have h6 := ulk_len (p := pid) (n := n) hll.2.2.1
      have h7 := ulk_n (p := pid) (n := n) (L := L)
      exact ⟨_, _, rfl, hidb ⟨_, _, (g4 w4 hru).1, by omega, by omega, by omega, ulk_deaf⟩⟩
    clear hlt
    go_wp2_with (first
      | (go_at_call 13; refine CU.out.mono ?_; clear CU; rintro e w3 ⟨za, zb, rfl, CR⟩)
      | (go_at_call 14; refine CR.out.mono ?_; clear CR; rintro e w4 ⟨ya, yb, rfl, HR⟩))
    clear HP HI hlt'
    go_loopw [10] (fun iv wr => ∃ (i : Nat) (L : List HV.KV) (n : Int), iv = .int .i64 (i : Int) ∧ i ≤ l2.length ∧ PL w1 wr w1.heap.size (w1.heap.size + 1) L n ∧ L.length ≤ 2001 + i ∧ 0 ≤ n ∧ n ≤ 2001 + i ∧ isLk pid L = false) (fun iv _ => l2.length - (intOf iv).toNat)
    case atStart =>
      obtain ⟨L', n', r1, r2, r3, r4, r5⟩ := HR.out
      exact ⟨0, L', n', rfl, by omega, r1, by omega, r3, by omega, r5⟩
    case round =>
    rename World => wr
    obtain ⟨i, L, n, rfl, hi, hP, hLi, hn0, hn1, hdf⟩ := hrel
    have HP := hidb hP
    have HI := hidb (⟨hi, hLi, hn0, hn1, hdf⟩ : i ≤ l2.length ∧ L.length ≤ 2001 + i ∧ 0 ≤ n ∧ n ≤ 2001 + i ∧ isLk pid L = false)
    clear hi hP hLi hn0 hn1 hdf HR
    by_cases hlt : i < l2.length
    · have hlt' : (i : Int) < (l2.length : Int) := by omega
      obtain ⟨x0, x1, x2, hx⟩ : ∃ x0 x1 x2 : Int, l2[i]? = some (x0, x1, x2) := ⟨_, _, _, List.getElem?_eq_getElem hlt⟩
      obtain ⟨b, o, rfl, y0, y1, y2⟩ := HC2.out i _ hx
      have hbw : b < w.heap.size := World.block_lt_of_cell? _ _ y0
      have m0 := ((HB1.out.trans (HP.out.below.mono HB1.out.size)).cell (p := ⟨b, o + i * 3, none⟩) hbw).trans y0
      have m1 := ((HB1.out.trans (HP.out.below.mono HB1.out.size)).cell (p := ⟨b, o + i * 3 + 1, none⟩) hbw).trans y1
      have m2 := ((HB1.out.trans (HP.out.below.mono HB1.out.size)).cell (p := ⟨b, o + i * 3 + 2, none⟩) hbw).trans y2
      simp only at m0 m1 m2
      have s0 : (0 : Int) ≤ (i : Int) := by omega
      have HW : Hid (wrap64 ((i : Int) + 1) = ((i + 1 : Nat) : Int)) := hidb (by have := HZ.out; unfold wrap64; omega)
      have HPA : Hid (PL w1 (wr.alloc (.cells #[.int .i64 x0, .int .i64 x1, .int .i64 x2] 31)) w1.heap.size (w1.heap.size + 1) L n) := hidb (HP.out.keep (below_new _ _))
      have P0 : Tri (wr.alloc (.cells #[.int .i64 x0, .int .i64 x1, .int .i64 x2] 31)) wr.heap.size (.int .i64 x0) (.int .i64 x1) (.int .i64 x2) := Tri.new _ _ _ _ _
      clear hx y0 y1 y2 hbw hlt
      by_cases k1 : x1 < 1
      · have p0 := P0.c0; have p1 := P0.c1; have p2 := P0.c2
        go_wp2_with fail
        go_roundw
        case rel =>
          have := HI.out
          exact ⟨i + 1, L, n, by first | rfl | (rw [HW.out]), by omega, HPA.out, by omega, by omega, by omega, this.2.2.2.2⟩
        case measure =>
          try rw [HW.out]
          simp only [RowKit.intOf]
          omega
      have CS : ¬ (x1 = pid ∧ (x0 = 1 ∨ x0 = 3 ∨ x0 = 7)) → Hid (Calls Try.prog 7 #[.pointer (some ⟨w1.heap.size, 0, none⟩), .pointer (some ⟨w1.heap.size + 1, 0, none⟩), .agg #[.int .i64 x0, .int .i64 x1, .int .i64 x2]] (wr.alloc (.cells #[.int .i64 x0, .int .i64 x1, .int .i64 x2] 31)) fun e w5 => e = .returned (.bool true) ∧ ∃ va vb vc z, Hid (Calls Try.prog 8 #[.pointer (some ⟨w1.heap.size, 0, none⟩), .int .i64 pid] w5 fun e w6 => e = .returned (.tuple #[.agg #[.int .i64 va, .int .i64 vb, .int .i64 vc], .bool z]) ∧ Hid (Calls Try.prog 15 #[.pointer (some ⟨w1.heap.size, 0, none⟩), .int .i64 pid] (w6.alloc (.cells #[.int .i64 va, .int .i64 vb, .int .i64 vc] 34)) fun e w7 => e = .returned (.bool false) ∧ Hid (Calls Try.prog 8 #[.pointer (some ⟨w1.heap.size, 0, none⟩), .int .i64 pid] w7 fun e w8 => e = .returned (.tuple #[.agg #[.int .i64 va, .int .i64 vb, .int .i64 vc], .bool z]) ∧ Tri w8 w6.heap.size (.int .i64 va) (.int .i64 vb) (.int .i64 vc) ∧ Hid (∃ L' n', PL w1 w8 w1.heap.size (w1.heap.size + 1) L' n' ∧ L'.length ≤ 2001 + (i + 1) ∧ 0 ≤ n' ∧ n' ≤ 2001 + ((i + 1 : Nat) : Int) ∧ isLk pid L' = false))))) := by
        intro hns
        have hi5 := HI.out
        have hz5 := HZ.out
        refine hidb ((step_any HPA.out x0 x1 x2 (by omega) (by omega) (by omega)).mono ?_)
        rintro e w5 ⟨rfl, hp5⟩
        have h6 := stp_len (op := x0) (p := x1) (id := x2) (n := n) HP.out.lts.2.2.1
        have h7 := stp_n (op := x0) (p := x1) (n := n) (L := L)
        have h8 := stp_deaf (q := pid) (op := x0) (p := x1) (id := x2) (n := n) HP.out.lts.2.2.1 hi5.2.2.2.2 hns
        generalize stpL x0 x1 x2 n L = L' at *
        generalize stpN x0 x1 n L = n' at *
        obtain ⟨D5, ht5⟩ := hp5.ltt
        refine ⟨rfl, (stL pid L').a, (stL pid L').b, (stL pid L').c, (getL pid L').isSome, hidb ((lget_any ht5 pid).mono ?_)⟩
        rintro e w6 ⟨rfl, hb6⟩
        refine ⟨rfl, hidb ?_⟩
        have hb6' : Below w5.heap.size w5 (w6.alloc (.cells #[.int .i64 (stL pid L').a, .int .i64 (stL pid L').b, .int .i64 (stL pid L').c] 34)) := hb6.alloc hb6.size _
        have hp6 := hp5.keep hb6'
        refine Calls.mono (PL.alone (R := fun e => e = .returned (.bool false)) hp6 (fun D hD => (lonexit_any hD (by omega) pid).mono (by rintro e w7 ⟨rfl, hu⟩; exact ⟨by rw [h8], by rw [show dlL pid L' = L' by simp [dlL, h8]] at hu; exact hu⟩))) ?_
        rintro e w7 ⟨rfl, hp7, hT7⟩
        refine ⟨rfl, hidb ?_⟩
        obtain ⟨D7, ht7⟩ := hp7.ltt
        refine (lget_any ht7 pid).mono ?_
        rintro e w8 ⟨rfl, hb8⟩
        have hlt5 := hp5.lts.1
        have hs6 := hb6.size
        exact ⟨rfl, (hT7 w6.heap.size _ _ _ (Tri.new w6 _ _ _ _) (by omega)).keep hb8, hidb ⟨L', n', hp7.keep hb8, by omega, by omega, by omega, h8⟩⟩
      by_cases k2 : x1 = pid
      · have k3 : (x1 == pid) = true := by simpa using k2
        by_cases j1 : x0 = 1
        · subst j1
          clear CS k2
          have p0 := P0.c0; have p1 := P0.c1; have p2 := P0.c2
          go_wp2_with fail
          go_roundw
          case rel =>
            have := HI.out
            exact ⟨i + 1, L, n, by first | rfl | (rw [HW.out]), by omega, HPA.out, by omega, by omega, by omega, this.2.2.2.2⟩
          case measure =>
            try rw [HW.out]
            simp only [RowKit.intOf]
            omega
        by_cases j3 : x0 = 3
        · subst j3
          clear CS k2
          have p0 := P0.c0; have p1 := P0.c1; have p2 := P0.c2
          go_wp2_with fail
          go_roundw
          case rel =>
            have := HI.out
            exact ⟨i + 1, L, n, by first | rfl | (rw [HW.out]), by omega, HPA.out, by omega, by omega, by omega, this.2.2.2.2⟩
          case measure =>
            try rw [HW.out]
            simp only [RowKit.intOf]
            omega
        by_cases j7 : x0 = 7
        · subst j7
          clear CS k2
          have p0 := P0.c0; have p1 := P0.c1; have p2 := P0.c2
          go_wp2_with fail
          go_roundw
          case rel =>
            have := HI.out
            exact ⟨i + 1, L, n, by first | rfl | (rw [HW.out]), by omega, HPA.out, by omega, by omega, by omega, this.2.2.2.2⟩
          case measure =>
            try rw [HW.out]
            simp only [RowKit.intOf]
            omega
        have CT := CS (by omega)
        have d1 : (x0 == 1) = false := by simpa using j1
        have d3 : (x0 == 3) = false := by simpa using j3
        have d7 : (x0 == 7) = false := by simpa using j7
        clear CS k2 j1 j3 j7
        have p0 := P0.c0; have p1 := P0.c1; have p2 := P0.c2
        go_wp2_with (first
          | (go_at_call 7; refine CT.out.mono ?_; clear CT; rintro e w5 ⟨rfl, va, vb, vc, z, CG⟩)
          | (go_at_call 8; refine CG.out.mono ?_; clear CG; rintro e w6 ⟨rfl, CO⟩)
          | (go_at_call 15; refine CO.out.mono ?_; clear CO; rintro e w7 ⟨rfl, CH⟩)
          | (go_at_call 8; refine CH.out.mono ?_; clear CH; rintro e w8 ⟨rfl, P8, HR⟩; have P9 := P8.keep (below_new w8 (.cells #[.int .i64 va, .int .i64 vb, .int .i64 vc] 34)); have q0 := P9.c0; have q1 := P9.c1; have q2 := P9.c2))
        go_roundw
        case rel =>
          obtain ⟨L', n', r1, r2, r3, r4, r5⟩ := HR.out
          exact ⟨i + 1, L', n', by first | rfl | (rw [HW.out]), by omega, r1.keep (below_new _ _), by omega, r3, by omega, r5⟩
        case measure =>
          try rw [HW.out]
          simp only [RowKit.intOf]
          omega
      · have CT := CS (by omega)
        have k3 : (x1 == pid) = false := by simpa using k2
        clear CS k2
        have p0 := P0.c0; have p1 := P0.c1; have p2 := P0.c2
        go_wp2_with (first
          | (go_at_call 7; refine CT.out.mono ?_; clear CT; rintro e w5 ⟨rfl, va, vb, vc, z, CG⟩)
          | (go_at_call 8; refine CG.out.mono ?_; clear CG; rintro e w6 ⟨rfl, CO⟩)
          | (go_at_call 15; refine CO.out.mono ?_; clear CO; rintro e w7 ⟨rfl, CH⟩)
          | (go_at_call 8; refine CH.out.mono ?_; clear CH; rintro e w8 ⟨rfl, P8, HR⟩; have P9 := P8.keep (below_new w8 (.cells #[.int .i64 va, .int .i64 vb, .int .i64 vc] 34)); have q0 := P9.c0; have q1 := P9.c1; have q2 := P9.c2))
        go_roundw
        case rel =>
          obtain ⟨L', n', r1, r2, r3, r4, r5⟩ := HR.out
          exact ⟨i + 1, L', n', by first | rfl | (rw [HW.out]), by omega, r1.keep (below_new _ _), by omega, r3, by omega, r5⟩
        case measure =>
          try rw [HW.out]
          simp only [RowKit.intOf]
          omega
    · have hlt' : ¬ (i : Int) < (l2.length : Int) := by omega
      go_wp2_with fail
      go_ret
      exact ⟨rfl, HB1.out.trans (HP.out.below.mono HB1.out.size)⟩

end Go.Proofs.Ytodelafnboimnaa
