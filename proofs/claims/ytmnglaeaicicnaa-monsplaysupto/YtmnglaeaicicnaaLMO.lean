/- MonsOnce, walked. -/
import Derived.Test.YtmnglaeaicicnaaMp0
namespace Go.Proofs.Ytmnglaeaicicnaa
open Go.RowKit Go.Lib
open MV (Hf hf0 getL insL delL Rise Wfk TB Nw Rst KV)
attribute [local go_sem ↓] Go.wp_at_zero Go.wp_at_succ

/-- An act: what, a reference, a pid, a name. -/
structure Act4 where (op ref pid : Int) (nm : ByteArray)

/-- A row of acts. -/
def AC (w : World) (v : Value) (l : List Act4) : Prop :=
  ∃ q c, v = .slice q l.length c ∧ ∀ (j : Nat) x, l[j]? = some x → ∃ b o, q = some ⟨b, o, none⟩ ∧ w.cell? ⟨b, o + j * 4, none⟩ = some (.int .i64 x.op) ∧ w.cell? ⟨b, o + j * 4 + 1, none⟩ = some (.int .i64 x.ref) ∧ w.cell? ⟨b, o + j * 4 + 2, none⟩ = some (.int .i64 x.pid) ∧ w.cell? ⟨b, o + j * 4 + 3, none⟩ = some (.string x.nm)

/-- Four cells of a block. -/
structure Qua (w : World) (b : Nat) (v0 v1 v2 v3 : Value) : Prop where
  c0 : w.cell? ⟨b, 0, none⟩ = some v0
  c1 : w.cell? ⟨b, 1, none⟩ = some v1
  c2 : w.cell? ⟨b, 2, none⟩ = some v2
  c3 : w.cell? ⟨b, 3, none⟩ = some v3
  lt : b < w.heap.size
theorem Qua.new (w : World) (t : TypeId) (v0 v1 v2 v3 : Value) : Qua (w.alloc (.cells #[v0, v1, v2, v3] t)) w.heap.size v0 v1 v2 v3 :=
  ⟨by rw [World.cell?_alloc_new]; rfl, by rw [World.cell?_alloc_new]; rfl, by rw [World.cell?_alloc_new]; rfl, by rw [World.cell?_alloc_new]; rfl, by simp⟩
theorem Qua.but {S : Nat → Prop} {w w' : World} {b : Nat} {v0 v1 v2 v3 : Value} (h : Qua w b v0 v1 v2 v3) (hb : But S w w') (hs : ¬ S b) : Qua w' b v0 v1 v2 v3 :=
  ⟨(hb.cell h.lt hs).trans h.c0, (hb.cell h.lt hs).trans h.c1, (hb.cell h.lt hs).trans h.c2, (hb.cell h.lt hs).trans h.c3, Nat.lt_of_lt_of_le h.lt hb.size⟩

theorem KM.call {w0 w : World} {tb : Nat} {O T O' T' : List KV} (h : KM w0 w tb O T) {f : Nat} {args : Array Value} {R : Ending → Prop} (hc : ∀ D, MT w tb D O T → Calls Try.prog f args w fun e w' => R e ∧ MU w w' tb D O' T') :
    Calls Try.prog f args w fun e w' => R e ∧ KM w0 w' tb O' T' ∧ But (fun k => k = tb) w w' := by
  obtain ⟨D, h1, h2, h3⟩ := h
  exact (hc D h1).mono (by rintro e w' ⟨hr, hu⟩; exact ⟨hr, KM.step h2 h3 hu, hu.bt⟩)


set_option maxRecDepth 100000 in
set_option maxHeartbeats 16000000 in
theorem monsOnce_walk (v0 : Value) (n : Int) (l : List Act4) (w : World) (hl : AC w v0 l) (hs : ∀ x ∈ l, x.nm.size ≤ 281474976710656) :
    Calls Try.prog 4 #[v0, .int .i64 n] w fun e w' => e = .returned (.bool true) ∧ Below w.heap.size w w' := by
  obtain ⟨q1, c1, rfl, hcl1⟩ := hl
  have HC1 := hidb hcl1
  have HS := hidb hs
  clear hcl1 hs
  by_cases z1 : l.length > 2000
  · have e1 : (2000 : Int) < (l.length : Int) := by omega
    go_enter Try.func4, Try.ntmps4
    go_wp2_with (go_at_call 5; refine (known15_any _).mono ?_; rintro e w1 ⟨rfl, hb1⟩; have HB1 := hidb hb1; clear hb1)
    go_ret
    exact ⟨rfl, HB1.out⟩
  have e1 : ¬ (2000 : Int) < (l.length : Int) := by omega
  have HZ : Hid (l.length ≤ 2000) := hidb (by omega)
  clear z1
  go_enter Try.func4, Try.ntmps4
  go_wp2_with (first
    | (go_at_call 5; refine (known15_any _).mono ?_; rintro e w1 ⟨rfl, hb1⟩; have HB1 := hidb hb1; clear hb1)
    | (go_at_call 6; refine (mnew_any _).mono ?_; rintro e w2 ⟨rfl, ht2, hb2, hs2⟩; have HT2 := hidb ht2; have HB2 := hidb hb2; have HS2 := hidb hs2; clear ht2 hb2 hs2))
  go_loopw [6, 7] (fun ov iv wr => ∃ (i : Nat) (O T : List KV), iv = .int .i64 (i : Int) ∧ ov = .bool (getL n O).isSome ∧ i ≤ l.length ∧ KM w1 wr w1.heap.size O T ∧ O.length ≤ i ∧ T.length ≤ i) (fun _ iv _ => l.length - (RowKit.intOf iv).toNat)
  case atStart => exact ⟨0, [], [], rfl, rfl, by omega, ⟨_, HT2.out, HB2.out, Nat.le_refl _⟩, by simp, by simp⟩
  case round =>
  obtain ⟨i, O, T, rfl, rfl, hi, hP, hLO, hLT⟩ := hrel
  have HP := hidb hP
  have HI := hidb (⟨hi, hLO, hLT⟩ : i ≤ l.length ∧ O.length ≤ i ∧ T.length ≤ i)
  clear hi hP hLO hLT HT2 HB2 HS2
  by_cases hlt : i < l.length
  · have hlt' : (i : Int) < (l.length : Int) := by omega
    obtain ⟨xo, xr, xp, xn, hx⟩ : ∃ (xo xr xp : Int) (xn : ByteArray), l[i]? = some ⟨xo, xr, xp, xn⟩ := ⟨_, _, _, _, List.getElem?_eq_getElem hlt⟩
    have HN := hidb (HS.out _ (List.mem_of_getElem? hx))
    obtain ⟨b, o, rfl, y0, y1, y2, y3⟩ := HC1.out i _ hx
    have hbw : b < w.heap.size := World.block_lt_of_cell? _ _ y0
    have m0 := ((HB1.out.trans (HP.out.low.mono HB1.out.size)).cell (p := ⟨b, o + i * 4, none⟩) hbw).trans y0
    have m1 := ((HB1.out.trans (HP.out.low.mono HB1.out.size)).cell (p := ⟨b, o + i * 4 + 1, none⟩) hbw).trans y1
    have m2 := ((HB1.out.trans (HP.out.low.mono HB1.out.size)).cell (p := ⟨b, o + i * 4 + 2, none⟩) hbw).trans y2
    have m3 := ((HB1.out.trans (HP.out.low.mono HB1.out.size)).cell (p := ⟨b, o + i * 4 + 3, none⟩) hbw).trans y3
    simp only at m0 m1 m2 m3 HN
    have s0 : (0 : Int) ≤ (i : Int) := by omega
    have HW : Hid (wrap64 ((i : Int) + 1) = ((i + 1 : Nat) : Int)) := hidb (by have := HZ.out; unfold wrap64; omega)
    have HPA : Hid (KM w1 (wr.alloc (.cells #[.int .i64 xo, .int .i64 xr, .int .i64 xp, .string xn] 34)) w1.heap.size O T) := hidb (HP.out.keep (below_new _ _))
    have Q0 : Qua (wr.alloc (.cells #[.int .i64 xo, .int .i64 xr, .int .i64 xp, .string xn] 34)) wr.heap.size (.int .i64 xo) (.int .i64 xr) (.int .i64 xp) (.string xn) := Qua.new _ _ _ _ _ _
    have hNO : O.length < 10000000 := by have := HI.out; have := HZ.out; omega
    have hNT : T.length < 10000000 := by have := HI.out; have := HZ.out; omega
    clear hx y0 y1 y2 y3 hbw hlt
    by_cases k7 : xo = 7
    · subst k7
      clear Q0 hNO hNT
      go_wp2_with fail
      go_roundw
      case rel =>
        have hi5 := HI.out
        have hz5 := HZ.out
        have hr5 := HP.out.rises
        exact ⟨i + 1, O, T, by first | rfl | (rw [HW.out]), rfl, by omega, HPA.out, by omega, by omega⟩
      case measure =>
        try rw [HW.out]
        simp only [RowKit.intOf]
        omega
    have d7 : (xo == 7) = false := by simpa using k7
    by_cases k1 : xo = 1
    · subst k1
      have CW : Hid (Calls Try.prog 12 #[.pointer (some ⟨w1.heap.size, 0, none⟩), .int .i64 xr, .int .i64 xp, .string xn] (wr.alloc (.cells #[.int .i64 1, .int .i64 xr, .int .i64 xp, .string xn] 34)) fun e w5 => e = .returned (.int .i64 (putE 0 ⟨xr, xp, xn⟩ O)) ∧ Qua w5 wr.heap.size (.int .i64 1) (.int .i64 xr) (.int .i64 xp) (.string xn) ∧ Hid (KM w1 w5 w1.heap.size (putL 0 ⟨xr, xp, xn⟩ O) T)) := hidb ((KM.call (O' := (putL 0 ⟨xr, xp, xn⟩ O)) (T' := T) HPA.out (R := fun e => e = .returned (.int .i64 (putE 0 ⟨xr, xp, xn⟩ O))) (fun D hD => (mwatch_any hD hNO xr xp xn HN.out).mono (by rintro e w' ⟨rfl, hu⟩; exact ⟨rfl, hu⟩))).mono (by
        rintro e w5 ⟨rfl, hk5, hbt⟩
        have hlt5 := HP.out.tl
        exact ⟨rfl, Q0.but hbt (by omega), hidb hk5⟩))
      clear Q0 hNO hNT k7 d7
      have HLL := hidb (put_len 0 ⟨xr, xp, xn⟩ HP.out.rises.1)
      by_cases kr : xr = n
      · subst kr
        have HGE := hidb (put_get 0 ⟨xr, xp, xn⟩ O)
        obtain ⟨b0, hb0⟩ : ∃ b0, (getL xr O).isSome = b0 := ⟨_, rfl⟩
        have HOP : Hid ((getL xr O).isSome = b0) := hidb hb0
        rw [hb0]
        clear hb0
        by_cases g0 : b0 = true
        · subst g0
          have HE : putE 0 ⟨xr, xp, xn⟩ O = 1 := put_had HOP.out
          rw [HE] at CW
          clear HE
          go_wp2_with (go_at_call 12; refine CW.out.mono ?_; clear CW; rintro e w5 ⟨rfl, Q5, HK⟩; have n0 := Q5.c0; have n1 := Q5.c1; have n2 := Q5.c2; have n3 := Q5.c3; clear Q5)
          go_roundw
          case rel =>
            have hi5 := HI.out
            have hz5 := HZ.out
            have hr5 := HP.out.rises
            exact ⟨i + 1, (putL 0 ⟨xr, xp, xn⟩ O), T, by first | rfl | (rw [HW.out]), by rw [HGE.out, HOP.out, put_had HOP.out]; rfl, by omega, HK.out, by have := HLL.out; omega, by omega⟩
          case measure =>
            try rw [HW.out]
            simp only [RowKit.intOf]
            omega
        obtain rfl : b0 = false := by simpa using g0
        clear g0
        by_cases g1 : xr < 1
        · have HE : putE 0 ⟨xr, xp, xn⟩ O = 1 := put_low (by simp [refB, g1])
          have HGF := hidb (show putE 0 ⟨xr, xp, xn⟩ O = 1 from HE)
          rw [HE] at CW
          clear HE
          have g2 : ¬ (1 : Int) ≤ xr := by omega
          go_wp2_with (go_at_call 12; refine CW.out.mono ?_; clear CW; rintro e w5 ⟨rfl, Q5, HK⟩; have n0 := Q5.c0; have n1 := Q5.c1; have n2 := Q5.c2; have n3 := Q5.c3; clear Q5)
          go_roundw
          case rel =>
            have hi5 := HI.out
            have hz5 := HZ.out
            have hr5 := HP.out.rises
            exact ⟨i + 1, (putL 0 ⟨xr, xp, xn⟩ O), T, by first | rfl | (rw [HW.out]), by rw [HGE.out, HOP.out, HGF.out]; rfl, by omega, HK.out, by have := HLL.out; omega, by omega⟩
          case measure =>
            try rw [HW.out]
            simp only [RowKit.intOf]
            omega
        have g2 : (1 : Int) ≤ xr := by omega
        by_cases g3 : xp < 0
        · have HE : putE 0 ⟨xr, xp, xn⟩ O = 1 := put_low (by simp [refB, g3])
          have HGF := hidb (show putE 0 ⟨xr, xp, xn⟩ O = 1 from HE)
          rw [HE] at CW
          clear HE
          have g4 : ¬ (0 : Int) ≤ xp := by omega
          go_wp2_with (go_at_call 12; refine CW.out.mono ?_; clear CW; rintro e w5 ⟨rfl, Q5, HK⟩; have n0 := Q5.c0; have n1 := Q5.c1; have n2 := Q5.c2; have n3 := Q5.c3; clear Q5)
          go_roundw
          case rel =>
            have hi5 := HI.out
            have hz5 := HZ.out
            have hr5 := HP.out.rises
            exact ⟨i + 1, (putL 0 ⟨xr, xp, xn⟩ O), T, by first | rfl | (rw [HW.out]), by rw [HGE.out, HOP.out, HGF.out]; rfl, by omega, HK.out, by have := HLL.out; omega, by omega⟩
          case measure =>
            try rw [HW.out]
            simp only [RowKit.intOf]
            omega
        · have HE : putE 0 ⟨xr, xp, xn⟩ O = 0 := put_good (by simp [refB]; omega) HOP.out
          have HGF := hidb (show putE 0 ⟨xr, xp, xn⟩ O = 0 from HE)
          rw [HE] at CW
          clear HE
          have g4 : (0 : Int) ≤ xp := by omega
          go_wp2_with (go_at_call 12; refine CW.out.mono ?_; clear CW; rintro e w5 ⟨rfl, Q5, HK⟩; have n0 := Q5.c0; have n1 := Q5.c1; have n2 := Q5.c2; have n3 := Q5.c3; clear Q5)
          go_roundw
          case rel =>
            have hi5 := HI.out
            have hz5 := HZ.out
            have hr5 := HP.out.rises
            exact ⟨i + 1, (putL 0 ⟨xr, xp, xn⟩ O), T, by first | rfl | (rw [HW.out]), by rw [HGE.out, HOP.out, HGF.out]; rfl, by omega, HK.out, by have := HLL.out; omega, by omega⟩
          case measure =>
            try rw [HW.out]
            simp only [RowKit.intOf]
            omega
      · have kr' : (xr == n) = false := by simpa using kr
        have HGE := hidb (put_other (n := n) 0 ⟨xr, xp, xn⟩ O kr)
        clear kr
        generalize putE 0 ⟨xr, xp, xn⟩ O = z at *
        go_wp2_with (go_at_call 12; refine CW.out.mono ?_; clear CW; rintro e w5 ⟨rfl, Q5, HK⟩; have n0 := Q5.c0; have n1 := Q5.c1; have n2 := Q5.c2; have n3 := Q5.c3; clear Q5)
        go_roundw
        case rel =>
          have hi5 := HI.out
          have hz5 := HZ.out
          have hr5 := HP.out.rises
          exact ⟨i + 1, (putL 0 ⟨xr, xp, xn⟩ O), T, by first | rfl | (rw [HW.out]), by rw [HGE.out], by omega, HK.out, by have := HLL.out; omega, by omega⟩
        case measure =>
          try rw [HW.out]
          simp only [RowKit.intOf]
          omega
    have d1 : (xo == 1) = false := by simpa using k1
    by_cases k2 : xo = 2
    · subst k2
      have CW : Hid (Calls Try.prog 13 #[.pointer (some ⟨w1.heap.size, 0, none⟩), .int .i64 xr] (wr.alloc (.cells #[.int .i64 2, .int .i64 xr, .int .i64 xp, .string xn] 34)) fun e w5 => e = .returned (.tuple #[.agg #[.int .i64 ((getL xr O).getD hf0).a, .int .i64 ((getL xr O).getD hf0).b, .string ((getL xr O).getD hf0).c], .bool (getL xr O).isSome]) ∧ Qua w5 wr.heap.size (.int .i64 2) (.int .i64 xr) (.int .i64 xp) (.string xn) ∧ Hid (KM w1 w5 w1.heap.size (delL xr O) T)) := hidb ((KM.call (O' := (delL xr O)) (T' := T) HPA.out (R := fun e => e = .returned (.tuple #[.agg #[.int .i64 ((getL xr O).getD hf0).a, .int .i64 ((getL xr O).getD hf0).b, .string ((getL xr O).getD hf0).c], .bool (getL xr O).isSome])) (fun D hD => (mdem_any hD hNO xr).mono (by rintro e w' ⟨rfl, hu⟩; exact ⟨rfl, hu⟩))).mono (by
        rintro e w5 ⟨rfl, hk5, hbt⟩
        have hlt5 := HP.out.tl
        exact ⟨rfl, Q0.but hbt (by omega), hidb hk5⟩))
      clear Q0 hNO hNT k7 d7 k1 d1
      have HLL := hidb (del_le xr O)
      by_cases kr : xr = n
      · subst kr
        have HGE := hidb (del_get xr O)
        generalize (getL xr O).getD hf0 = gg at *
        generalize (getL xr O).isSome = b0 at *
        cases b0 with
        | true =>
          go_wp2_with (go_at_call 13; refine CW.out.mono ?_; clear CW; rintro e w5 ⟨rfl, Q5, HK⟩; have n0 := Q5.c0; have n1 := Q5.c1; have n2 := Q5.c2; have n3 := Q5.c3; clear Q5)
          go_roundw
          case rel =>
            have hi5 := HI.out
            have hz5 := HZ.out
            have hr5 := HP.out.rises
            exact ⟨i + 1, (delL xr O), T, by first | rfl | (rw [HW.out]), by rw [HGE.out], by omega, HK.out, by have := HLL.out; omega, by omega⟩
          case measure =>
            try rw [HW.out]
            simp only [RowKit.intOf]
            omega
        | false =>
          go_wp2_with (go_at_call 13; refine CW.out.mono ?_; clear CW; rintro e w5 ⟨rfl, Q5, HK⟩; have n0 := Q5.c0; have n1 := Q5.c1; have n2 := Q5.c2; have n3 := Q5.c3; clear Q5)
          go_roundw
          case rel =>
            have hi5 := HI.out
            have hz5 := HZ.out
            have hr5 := HP.out.rises
            exact ⟨i + 1, (delL xr O), T, by first | rfl | (rw [HW.out]), by rw [HGE.out], by omega, HK.out, by have := HLL.out; omega, by omega⟩
          case measure =>
            try rw [HW.out]
            simp only [RowKit.intOf]
            omega
      · have kr' : (xr == n) = false := by simpa using kr
        have HGE := hidb (del_other (n := n) xr O kr)
        clear kr
        generalize (getL xr O).getD hf0 = gg at *
        generalize (getL xr O).isSome = b0 at *
        go_wp2_with (go_at_call 13; refine CW.out.mono ?_; clear CW; rintro e w5 ⟨rfl, Q5, HK⟩; have n0 := Q5.c0; have n1 := Q5.c1; have n2 := Q5.c2; have n3 := Q5.c3; clear Q5)
        go_roundw
        case rel =>
          have hi5 := HI.out
          have hz5 := HZ.out
          have hr5 := HP.out.rises
          exact ⟨i + 1, (delL xr O), T, by first | rfl | (rw [HW.out]), by rw [HGE.out], by omega, HK.out, by have := HLL.out; omega, by omega⟩
        case measure =>
          try rw [HW.out]
          simp only [RowKit.intOf]
          omega
    have d2 : (xo == 2) = false := by simpa using k2
    by_cases k3 : xo = 3
    · subst k3
      have CW : Hid (Calls Try.prog 14 #[.pointer (some ⟨w1.heap.size, 0, none⟩), .int .i64 xr] (wr.alloc (.cells #[.int .i64 3, .int .i64 xr, .int .i64 xp, .string xn] 34)) fun e w5 => e = .returned (.tuple #[.agg #[.int .i64 ((getL xr O).getD hf0).a, .int .i64 ((getL xr O).getD hf0).b, .string ((getL xr O).getD hf0).c], .bool (getL xr O).isSome]) ∧ Qua w5 wr.heap.size (.int .i64 3) (.int .i64 xr) (.int .i64 xp) (.string xn) ∧ Hid (KM w1 w5 w1.heap.size (delL xr O) T)) := hidb ((KM.call (O' := (delL xr O)) (T' := T) HPA.out (R := fun e => e = .returned (.tuple #[.agg #[.int .i64 ((getL xr O).getD hf0).a, .int .i64 ((getL xr O).getD hf0).b, .string ((getL xr O).getD hf0).c], .bool (getL xr O).isSome])) (fun D hD => (mdown_any hD hNO xr).mono (by rintro e w' ⟨rfl, hu⟩; exact ⟨rfl, hu⟩))).mono (by
        rintro e w5 ⟨rfl, hk5, hbt⟩
        have hlt5 := HP.out.tl
        exact ⟨rfl, Q0.but hbt (by omega), hidb hk5⟩))
      clear Q0 hNO hNT k7 d7 k1 d1
      have HLL := hidb (del_le xr O)
      by_cases kr : xr = n
      · subst kr
        have HGE := hidb (del_get xr O)
        generalize (getL xr O).getD hf0 = gg at *
        generalize (getL xr O).isSome = b0 at *
        cases b0 with
        | true =>
          go_wp2_with (go_at_call 14; refine CW.out.mono ?_; clear CW; rintro e w5 ⟨rfl, Q5, HK⟩; have n0 := Q5.c0; have n1 := Q5.c1; have n2 := Q5.c2; have n3 := Q5.c3; clear Q5)
          go_roundw
          case rel =>
            have hi5 := HI.out
            have hz5 := HZ.out
            have hr5 := HP.out.rises
            exact ⟨i + 1, (delL xr O), T, by first | rfl | (rw [HW.out]), by rw [HGE.out], by omega, HK.out, by have := HLL.out; omega, by omega⟩
          case measure =>
            try rw [HW.out]
            simp only [RowKit.intOf]
            omega
        | false =>
          go_wp2_with (go_at_call 14; refine CW.out.mono ?_; clear CW; rintro e w5 ⟨rfl, Q5, HK⟩; have n0 := Q5.c0; have n1 := Q5.c1; have n2 := Q5.c2; have n3 := Q5.c3; clear Q5)
          go_roundw
          case rel =>
            have hi5 := HI.out
            have hz5 := HZ.out
            have hr5 := HP.out.rises
            exact ⟨i + 1, (delL xr O), T, by first | rfl | (rw [HW.out]), by rw [HGE.out], by omega, HK.out, by have := HLL.out; omega, by omega⟩
          case measure =>
            try rw [HW.out]
            simp only [RowKit.intOf]
            omega
      · have kr' : (xr == n) = false := by simpa using kr
        have HGE := hidb (del_other (n := n) xr O kr)
        clear kr
        generalize (getL xr O).getD hf0 = gg at *
        generalize (getL xr O).isSome = b0 at *
        go_wp2_with (go_at_call 14; refine CW.out.mono ?_; clear CW; rintro e w5 ⟨rfl, Q5, HK⟩; have n0 := Q5.c0; have n1 := Q5.c1; have n2 := Q5.c2; have n3 := Q5.c3; clear Q5)
        go_roundw
        case rel =>
          have hi5 := HI.out
          have hz5 := HZ.out
          have hr5 := HP.out.rises
          exact ⟨i + 1, (delL xr O), T, by first | rfl | (rw [HW.out]), by rw [HGE.out], by omega, HK.out, by have := HLL.out; omega, by omega⟩
        case measure =>
          try rw [HW.out]
          simp only [RowKit.intOf]
          omega
    have d3 : (xo == 3) = false := by simpa using k3
    by_cases k4 : xo = 4
    · subst k4
      have CW : Hid (Calls Try.prog 15 #[.pointer (some ⟨w1.heap.size, 0, none⟩), .int .i64 xr, .int .i64 xp] (wr.alloc (.cells #[.int .i64 4, .int .i64 xr, .int .i64 xp, .string xn] 34)) fun e w5 => e = .returned (.int .i64 (putE 1 ⟨xr, xp, ⟨#[]⟩⟩ T)) ∧ Qua w5 wr.heap.size (.int .i64 4) (.int .i64 xr) (.int .i64 xp) (.string xn) ∧ Hid (KM w1 w5 w1.heap.size O (putL 1 ⟨xr, xp, ⟨#[]⟩⟩ T))) := hidb ((KM.call (O' := O) (T' := (putL 1 ⟨xr, xp, ⟨#[]⟩⟩ T)) HPA.out (R := fun e => e = .returned (.int .i64 (putE 1 ⟨xr, xp, ⟨#[]⟩⟩ T))) (fun D hD => (monm_any hD hNT xr xp).mono (by rintro e w' ⟨rfl, hu⟩; exact ⟨rfl, hu⟩))).mono (by
        rintro e w5 ⟨rfl, hk5, hbt⟩
        have hlt5 := HP.out.tl
        exact ⟨rfl, Q0.but hbt (by omega), hidb hk5⟩))
      clear Q0 hNO hNT k7 d7 k1 d1 k2 d2 k3 d3
      have HLL := hidb (put_len 1 ⟨xr, xp, ⟨#[]⟩⟩ HP.out.rises.2)
      go_wp2_with (go_at_call 15; refine CW.out.mono ?_; clear CW; rintro e w5 ⟨rfl, Q5, HK⟩; have n0 := Q5.c0; have n1 := Q5.c1; have n2 := Q5.c2; have n3 := Q5.c3; clear Q5)
      go_roundw
      case rel =>
        have hi5 := HI.out
        have hz5 := HZ.out
        have hr5 := HP.out.rises
        exact ⟨i + 1, O, (putL 1 ⟨xr, xp, ⟨#[]⟩⟩ T), by first | rfl | (rw [HW.out]), rfl, by omega, HK.out, by omega, by have := HLL.out; omega⟩
      case measure =>
        try rw [HW.out]
        simp only [RowKit.intOf]
        omega
    have d4 : (xo == 4) = false := by simpa using k4
    by_cases k5 : xo = 5
    · subst k5
      have CW : Hid (Calls Try.prog 16 #[.pointer (some ⟨w1.heap.size, 0, none⟩), .int .i64 xr] (wr.alloc (.cells #[.int .i64 5, .int .i64 xr, .int .i64 xp, .string xn] 34)) fun e w5 => e = .returned (.bool (getL xr T).isSome) ∧ Qua w5 wr.heap.size (.int .i64 5) (.int .i64 xr) (.int .i64 xp) (.string xn) ∧ Hid (KM w1 w5 w1.heap.size O (delL xr T))) := hidb ((KM.call (O' := O) (T' := (delL xr T)) HPA.out (R := fun e => e = .returned (.bool (getL xr T).isSome)) (fun D hD => (mond_any hD hNT xr).mono (by rintro e w' ⟨rfl, hu⟩; exact ⟨rfl, hu⟩))).mono (by
        rintro e w5 ⟨rfl, hk5, hbt⟩
        have hlt5 := HP.out.tl
        exact ⟨rfl, Q0.but hbt (by omega), hidb hk5⟩))
      clear Q0 hNO hNT k7 d7 k1 d1 k2 d2 k3 d3 k4 d4
      have HLL := hidb (del_le xr T)
      go_wp2_with (go_at_call 16; refine CW.out.mono ?_; clear CW; rintro e w5 ⟨rfl, Q5, HK⟩; have n0 := Q5.c0; have n1 := Q5.c1; have n2 := Q5.c2; have n3 := Q5.c3; clear Q5)
      go_roundw
      case rel =>
        have hi5 := HI.out
        have hz5 := HZ.out
        have hr5 := HP.out.rises
        exact ⟨i + 1, O, (delL xr T), by first | rfl | (rw [HW.out]), rfl, by omega, HK.out, by omega, by have := HLL.out; omega⟩
      case measure =>
        try rw [HW.out]
        simp only [RowKit.intOf]
        omega
    have d5 : (xo == 5) = false := by simpa using k5
    by_cases k6 : xo = 6
    · subst k6
      have CW : Hid (Calls Try.prog 17 #[.pointer (some ⟨w1.heap.size, 0, none⟩)] (wr.alloc (.cells #[.int .i64 6, .int .i64 xr, .int .i64 xp, .string xn] 34)) fun e w5 => e = .returned (.tuple #[.agg #[.int .i64 (T.headD (0, hf0)).2.a, .int .i64 (T.headD (0, hf0)).2.b, .string (T.headD (0, hf0)).2.c], .bool (!T.isEmpty)]) ∧ Qua w5 wr.heap.size (.int .i64 6) (.int .i64 xr) (.int .i64 xp) (.string xn) ∧ Hid (KM w1 w5 w1.heap.size O T.tail)) := hidb ((KM.call (O' := O) (T' := T.tail) HPA.out (R := fun e => e = .returned (.tuple #[.agg #[.int .i64 (T.headD (0, hf0)).2.a, .int .i64 (T.headD (0, hf0)).2.b, .string (T.headD (0, hf0)).2.c], .bool (!T.isEmpty)])) (fun D hD => (mpopt_any hD hNT).mono (by rintro e w' ⟨rfl, hu⟩; exact ⟨rfl, hu⟩))).mono (by
        rintro e w5 ⟨rfl, hk5, hbt⟩
        have hlt5 := HP.out.tl
        exact ⟨rfl, Q0.but hbt (by omega), hidb hk5⟩))
      clear Q0 hNO hNT k7 d7 k1 d1 k2 d2 k3 d3 k4 d4 k5 d5
      have HLL := hidb (tail_le T)
      go_wp2_with (go_at_call 17; refine CW.out.mono ?_; clear CW; rintro e w5 ⟨rfl, Q5, HK⟩; have n0 := Q5.c0; have n1 := Q5.c1; have n2 := Q5.c2; have n3 := Q5.c3; clear Q5)
      go_roundw
      case rel =>
        have hi5 := HI.out
        have hz5 := HZ.out
        have hr5 := HP.out.rises
        exact ⟨i + 1, O, T.tail, by first | rfl | (rw [HW.out]), rfl, by omega, HK.out, by omega, by have := HLL.out; omega⟩
      case measure =>
        try rw [HW.out]
        simp only [RowKit.intOf]
        omega
    have d6 : (xo == 6) = false := by simpa using k6
    clear Q0 hNO hNT k1 k2 k3 k4 k5 k6 k7
    go_wp2_with fail
    go_roundw
    case rel =>
      have hi5 := HI.out
      have hz5 := HZ.out
      have hr5 := HP.out.rises
      exact ⟨i + 1, O, T, by first | rfl | (rw [HW.out]), rfl, by omega, HPA.out, by omega, by omega⟩
    case measure =>
      try rw [HW.out]
      simp only [RowKit.intOf]
      omega
  · have hlt' : ¬ (i : Int) < (l.length : Int) := by omega
    go_wp2_with fail
    go_ret
    exact ⟨rfl, HB1.out.trans (HP.out.low.mono HB1.out.size)⟩

end Go.Proofs.Ytmnglaeaicicnaa
