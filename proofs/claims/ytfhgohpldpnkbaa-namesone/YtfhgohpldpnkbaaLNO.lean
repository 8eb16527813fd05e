/- NamesOne, walked. -/
import Derived.Test.YtfhgohpldpnkbaaNr0
import Derived.BigQuiet
namespace Go.Proofs.Ytfhgohpldpnkbaa
open Go.RowKit Go.Lib Go.Maps
attribute [local go_sem ↓] Go.wp_at_zero Go.wp_at_succ

set_option maxRecDepth 100000 in
set_option maxHeartbeats 16000000 in
theorem namesOne_walk (v0 : Value) (l : List Act3) (w : World) (hl : AC w v0 l) (hs : ∀ x ∈ l, OkA x) :
    Calls Try.prog 4 #[v0] w fun e w' => e = .returned (.bool true) ∧ Below w.heap.size w w' := by
  obtain ⟨q1, c1, rfl, hcl1⟩ := hl
  have HC1 := hidb hcl1
  have HS := hidb hs
  clear hcl1 hs
  by_cases z1 : l.length > 1000
  · have e1 : (1000 : Int) < (l.length : Int) := by omega
    go_enter Try.func4, Try.ntmps4
    go_wp2_with (go_at_call 5; refine (known17_any _).mono ?_; rintro e w1 ⟨rfl, hb1⟩; have HB1 := hidb hb1; clear hb1)
    go_ret
    exact ⟨rfl, HB1.out⟩
  have e1 : ¬ (1000 : Int) < (l.length : Int) := by omega
  have HZ : Hid (l.length ≤ 1000) := hidb (by omega)
  clear z1
  go_enter Try.func4, Try.ntmps4
  go_wp2_with (first
    | (go_at_call 5; refine (known17_any _).mono ?_; rintro e w1 ⟨rfl, hb1⟩; have HB1 := hidb hb1; clear hb1)
    | (go_at_call 6; refine (qb_new HB1.out).mono ?_; rintro e w2 ⟨rfl, hq2, -, -⟩; have HQ2 := hidb hq2; clear hq2))
  generalize w1.heap.size = nb at *
  go_loopw [4] (fun iv wr => ∃ (i : Nat) (R : List NP), iv = .int .i64 (i : Int) ∧ i ≤ l.length ∧ QB NoX w wr nb i R ∧ R.length ≤ i) (fun iv _ => l.length - (RowKit.intOf iv).toNat)
  case atStart => exact ⟨0, [], rfl, by omega, HQ2.out, by simp⟩
  case round =>
  obtain ⟨i, R, rfl, hi, hP, hLR⟩ := hrel
  have HP := hidb hP
  have HI := hidb (⟨hi, hLR⟩ : i ≤ l.length ∧ R.length ≤ i)
  clear hi hP hLR HQ2
  by_cases hlt : i < l.length
  · have hlt' : (i : Int) < (l.length : Int) := by omega
    obtain ⟨xo, xn, xp, hx⟩ : ∃ (xo : Int) (xn : ByteArray) (xp : Int), l[i]? = some ⟨xo, xn, xp⟩ := ⟨_, _, _, List.getElem?_eq_getElem hlt⟩
    have hnm := HS.out _ (List.mem_of_getElem? hx)
    obtain ⟨b, o, rfl, y0, y1, y2⟩ := HC1.out i _ hx
    have hbw : b < w.heap.size := World.block_lt_of_cell? _ _ y0
    have s0 : (0 : Int) ≤ (i : Int) := by omega
    have HW : Hid (wrap64 ((i : Int) + 1) = ((i + 1 : Nat) : Int)) := hidb (by have := HZ.out; unfold wrap64; omega)
    have hlow := HP.out.low
    have hbr : b < wr.heap.size := by have := hlow.size; omega
    have k0 := (hlow.cell (p := ⟨b, o + i * 3, none⟩) hbw).trans y0
    have k1 := (hlow.cell (p := ⟨b, o + i * 3 + 1, none⟩) hbw).trans y1
    have k2 := (hlow.cell (p := ⟨b, o + i * 3 + 2, none⟩) hbw).trans y2
    have CC := hidb (act_chain HP.out ⟨xo, xn, xp⟩ hnm (by have := HI.out; have := HZ.out; omega) HI.out.2 30)
    simp only at k0 k1 k2 CC
    clear hx y0 y1 y2 hlt hnm hlow
    go_wp2_with (go_at_call 7; refine CC.out.mono ?_; clear CC; rintro e w3 ⟨⟨bb, rfl⟩, HQ⟩)
    go_roundw
    case rel =>
      have hi5 := HI.out
      obtain ⟨R2, r1, r2⟩ := HQ.out
      exact ⟨i + 1, R2, by first | rfl | (rw [HW.out]), by omega, r1, r2⟩
    case measure =>
      try rw [HW.out]
      simp only [RowKit.intOf]
      omega
  · have hlt' : ¬ (i : Int) < (l.length : Int) := by omega
    obtain ⟨n, hn⟩ : ∃ n, R.length = n := ⟨_, rfl⟩
    have HNN := hidb hn
    have CA : Hid (Calls Try.prog 12 #[.pointer (some ⟨nb, 0, none⟩)] wr fun e w3 => ∃ g cap, e = .returned (.slice (some ⟨g, 0, none⟩) n cap) ∧ Hid (w3.ownsRow 0 ST 1 (.slice (some ⟨g, 0, none⟩) n cap) n (nms R) ∧ QB NoX w w3 nb i R)) := by
      refine hidb ((all_one HP.out (by have := HI.out; have := HZ.out; omega)).mono ?_)
      rintro e w3 ⟨g, cap, rfl, ho3, hq3⟩
      rw [hn] at ho3 ⊢
      exact ⟨g, cap, rfl, hidb ⟨ho3, hq3⟩⟩
    clear hlt hn HP
    go_wp2_with (go_at_call 12; refine CA.out.mono ?_; clear CA; rintro e w3 ⟨g, cap, rfl, HA⟩)
    go_loopw [6] (fun jv wq => ∃ (j : Nat), jv = .int .i64 (j : Int) ∧ j ≤ n ∧ QB NoX w wq nb i R ∧ wq.ownsRow 0 ST 1 (.slice (some ⟨g, 0, none⟩) n cap) n (nms R)) (fun jv _ => n - (RowKit.intOf jv).toNat)
    case atStart => exact ⟨0, rfl, by omega, HA.out.2, HA.out.1⟩
    case round =>
    obtain ⟨j, rfl, hj, hQ, ho⟩ := hrel
    have HQ := hidb (⟨hj, hQ, ho⟩ : j ≤ n ∧ QB NoX w wr nb i R ∧ wr.ownsRow 0 ST 1 (.slice (some ⟨g, 0, none⟩) n cap) n (nms R))
    clear hj hQ ho
    by_cases hjn : j < n
    · have hjn' : (j : Int) < (n : Int) := by omega
      obtain ⟨y, hy⟩ : ∃ y, R[j]? = some y := ⟨_, List.getElem?_eq_getElem (by have := HNN.out; omega)⟩
      have hny : (nms R)[j]? = some (.string y.1) := by rw [List.getElem?_map, hy]; rfl
      obtain ⟨_, _, ea, ka⟩ := row_at HQ.out.2.2 hny
      obtain ⟨rfl, rfl⟩ : g = _ ∧ cap = _ := by simpa using ea
      have HW : Hid (wrap64 ((j : Int) + 1) = ((j + 1 : Nat) : Int)) := hidb (by have := HNN.out; have := HI.out; have := HZ.out; unfold wrap64; omega)
      have hreg := HQ.out.2.1.lts.2
      have hym := List.mem_of_getElem? hy
      obtain ⟨t1, t2, t3, t4, t5⟩ := ne_ok (hreg.ok y hym).1
      have t6 : ¬ y.2 < 1 := by have := (hreg.ok y hym).2.1; omega
      have HGL : Hid (g < wr.heap.size) := hidb (HQ.out.2.2.lt g rfl).2
      have CC : Hid (∀ W, Below wr.heap.size wr W → W.cell? ⟨g, j, none⟩ = some (.string y.1) ∧ Calls Try.prog 8 #[.pointer (some ⟨nb, 0, none⟩), .string y.1] W fun e w1 => e = .returned (.tuple #[.int .i64 y.2, .bool true]) ∧ Hid (Calls Try.prog 10 #[.pointer (some ⟨nb, 0, none⟩), .int .i64 y.2] w1 fun e w2 => e = .returned (.tuple #[.string y.1, .bool true]) ∧ w2.cell? ⟨g, j, none⟩ = some (.string y.1) ∧ Hid (Below wr.heap.size wr w2))) := by
        refine hidb (fun W hW => ⟨(hW.cell (p := ⟨g, j, none⟩) HGL.out).trans ka, (one_chain (HQ.out.2.1.keep hW) hym).mono ?_⟩)
        rintro e w1 ⟨rfl, hb1, C1⟩
        refine ⟨rfl, hidb (C1.out.mono ?_)⟩
        rintro e w2 ⟨rfl, hb2⟩
        have hb := hW.trans (hb2.mono hW.size)
        exact ⟨rfl, (hb.cell (p := ⟨g, j, none⟩) HGL.out).trans ka, hidb hb⟩
      have HY := hidb hy
      have HR := hidb hreg
      obtain ⟨ny, py⟩ := y
      simp only at ka t1 t2 t3 t4 t5 t6 CC HY
      clear ea hy hny hjn hreg hym
      by_cases hj0 : j = 0
      · subst hj0
        go_wp2_with fail
        have d1 : decide (64 < ny.size) = false := by simp; omega
        have d2 : decide ((64 : Int) < (ny.size : Int)) = false := by simp; omega
        go_big_quiet (fail)
        obtain ⟨W, hW⟩ : ∃ W, wr.drewN nq = W := ⟨_, rfl⟩
        have HBW : Hid (Below wr.heap.size wr W) := hidb (hW ▸ below_drewN (Below.refl _ _) _)
        rw [hW]
        have kw := (CC.out W HBW.out).1
        have CD := hidb (CC.out W HBW.out).2
        clear CC hW ka
        go_wp2_with (first
          | (go_at_call 8; refine CD.out.mono ?_; clear CD; rintro e w4 ⟨rfl, C4⟩)
          | (go_at_call 10; refine C4.out.mono ?_; clear C4; rintro e w5 ⟨rfl, k5, HB5⟩))
        go_roundw
        case rel =>
          have h3 := HQ.out
          exact ⟨0 + 1, by first | rfl | (rw [HW.out]), by omega, h3.2.1.keep HB5.out, row_keep h3.2.2 HB5.out⟩
        case measure =>
          try rw [HW.out]
          simp only [RowKit.intOf]
          omega
      · obtain ⟨k, hk⟩ : ∃ k, j = k + 1 := ⟨j - 1, by omega⟩
        have HK := hidb hk
        obtain ⟨x, hx⟩ : ∃ x, R[k]? = some x := ⟨_, List.getElem?_eq_getElem (by have := HNN.out; omega)⟩
        have hnx : (nms R)[k]? = some (.string x.1) := by rw [List.getElem?_map, hx]; rfl
        obtain ⟨_, _, eb, kb⟩ := row_at HQ.out.2.2 hnx
        obtain ⟨rfl, rfl⟩ : g = _ ∧ cap = _ := by simpa using eb
        have hlt9 : Op.bytesLess x.1.toList ny.toList = true := reg_rise HR.out hx (y := (ny, py)) (by rw [← hk]; exact HY.out)
        have s1 : IntKind.i64.wrap ((j : Int) - 1) = (k : Int) := by rw [IntKind.wrap_i64]; have := HNN.out; have := HI.out; have := HZ.out; omega
        have s2 : wrap64 ((j : Int) - 1) = (k : Int) := by have := HNN.out; have := HI.out; have := HZ.out; unfold wrap64; omega
        have s3 : (k : Int) < (n : Int) := by omega
        have s4 : (0 : Int) ≤ (k : Int) := by omega
        have s5 : (0 : Int) ≤ (j : Int) := by omega
        have s6 : (j : Int) > 0 := by omega
        generalize x.1 = nx at *
        clear eb hnx hx hk hj0
        go_wp2_with fail
        have d0 : decide (0 < j) = true := by simp; omega
        have d1 : decide (64 < ny.size) = false := by simp; omega
        have d2 : decide ((64 : Int) < (ny.size : Int)) = false := by simp; omega
        go_big_quiet (fail)
        obtain ⟨W, hW⟩ : ∃ W, wr.drewN nq = W := ⟨_, rfl⟩
        have HBW : Hid (Below wr.heap.size wr W) := hidb (hW ▸ below_drewN (Below.refl _ _) _)
        rw [hW]
        have kw := (CC.out W HBW.out).1
        have CD := hidb (CC.out W HBW.out).2
        clear CC hW ka
        go_wp2_with (first
          | (go_at_call 8; refine CD.out.mono ?_; clear CD; rintro e w4 ⟨rfl, C4⟩)
          | (go_at_call 10; refine C4.out.mono ?_; clear C4; rintro e w5 ⟨rfl, k5, HB5⟩))
        go_roundw
        case rel =>
          have h3 := HQ.out
          exact ⟨j + 1, by first | rfl | (rw [HW.out]), by omega, h3.2.1.keep HB5.out, row_keep h3.2.2 HB5.out⟩
        case measure =>
          try rw [HW.out]
          simp only [RowKit.intOf]
          omega
    · have hjn' : ¬ (j : Int) < (n : Int) := by omega
      clear hjn
      go_wp2_with fail
      go_loopw [11] (fun mv wq => ∃ (m : Nat), mv = .int .i64 (m : Int) ∧ m ≤ l.length ∧ QB NoX w wq nb i R) (fun mv _ => l.length - (RowKit.intOf mv).toNat)
      case atStart => exact ⟨0, rfl, by omega, HQ.out.2.1⟩
      case round =>
      obtain ⟨m, rfl, hm, hQ⟩ := hrel
      have HM := hidb (And.intro hm hQ)
      clear hm hQ HQ HA
      by_cases hml : m < l.length
      · have hml' : (m : Int) < (l.length : Int) := by omega
        obtain ⟨xo, xn, xp, hx⟩ : ∃ (xo : Int) (xn : ByteArray) (xp : Int), l[m]? = some ⟨xo, xn, xp⟩ := ⟨_, _, _, List.getElem?_eq_getElem hml⟩
        have hnm := HS.out _ (List.mem_of_getElem? hx)
        obtain ⟨b, o, rfl, y0, y1, y2⟩ := HC1.out m _ hx
        have hbw : b < w.heap.size := World.block_lt_of_cell? _ _ y0
        have s0 : (0 : Int) ≤ (m : Int) := by omega
        have HW : Hid (wrap64 ((m : Int) + 1) = ((m + 1 : Nat) : Int)) := hidb (by have := HZ.out; unfold wrap64; omega)
        have hlow := HM.out.2.low
        have k2 := (hlow.cell (p := ⟨b, o + m * 3 + 2, none⟩) hbw).trans y2
        have hbr : b < wr.heap.size := by have := hlow.size; omega
        have CC : Hid (Calls Try.prog 10 #[.pointer (some ⟨nb, 0, none⟩), .int .i64 xp] wr fun e w1 => (e = .returned (.tuple #[.string ⟨#[]⟩, .bool false]) ∧ Hid (Below wr.heap.size wr w1)) ∨ ∃ s, e = .returned (.tuple #[.string s, .bool true]) ∧ Hid (Calls Try.prog 8 #[.pointer (some ⟨nb, 0, none⟩), .string s] w1 fun e w2 => e = .returned (.tuple #[.int .i64 xp, .bool true]) ∧ w2.cell? ⟨b, o + m * 3 + 2, none⟩ = some (.int .i64 xp) ∧ Hid (Below wr.heap.size wr w2))) := by
          refine hidb ((pid_chain HM.out.2 hnm.pid).mono ?_)
          rintro e w1 (⟨rfl, hb1⟩ | ⟨s, rfl, hb1, C1⟩)
          · exact .inl ⟨rfl, hidb hb1⟩
          · refine .inr ⟨s, rfl, hidb (C1.out.mono ?_)⟩
            rintro e w2 ⟨rfl, hb2⟩
            exact ⟨rfl, (hb2.cell (p := ⟨b, o + m * 3 + 2, none⟩) hbr).trans k2, hidb hb2⟩
        simp only at k2
        clear hx y0 y1 y2 hml hnm hlow
        go_wp2_with (first
          | (go_at_call 10; refine CC.out.mono ?_; clear CC; rintro e w4 (⟨rfl, HB4⟩ | ⟨sv, rfl, C4⟩))
          | (go_at_call 8; refine C4.out.mono ?_; clear C4; rintro e w5 ⟨rfl, k5, HB5⟩))
        · go_roundw
          case rel =>
            have h3 := HM.out
            exact ⟨m + 1, by first | rfl | (rw [HW.out]), by omega, h3.2.keep HB4.out⟩
          case measure =>
            try rw [HW.out]
            simp only [RowKit.intOf]
            omega
        · go_roundw
          case rel =>
            have h3 := HM.out
            exact ⟨m + 1, by first | rfl | (rw [HW.out]), by omega, h3.2.keep HB5.out⟩
          case measure =>
            try rw [HW.out]
            simp only [RowKit.intOf]
            omega
      · have hml' : ¬ (m : Int) < (l.length : Int) := by omega
        clear hml
        go_wp2_with fail
        go_ret
        exact ⟨rfl, HM.out.2.low⟩
end Go.Proofs.Ytfhgohpldpnkbaa
