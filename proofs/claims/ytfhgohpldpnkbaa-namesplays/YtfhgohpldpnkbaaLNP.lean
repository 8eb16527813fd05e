/- NamesPlays, walked. -/
import Derived.Test.YtfhgohpldpnkbaaNq1
namespace Go.Proofs.Ytfhgohpldpnkbaa
open Go.RowKit Go.Lib Go.Maps
attribute [local go_sem ↓] Go.wp_at_zero Go.wp_at_succ

set_option maxRecDepth 100000 in
set_option maxHeartbeats 16000000 in
theorem namesPlays_walk (v0 : Value) (l : List Act3) (w : World) (hl : AC w v0 l) (hs : ∀ x ∈ l, OkA x) :
    Calls Try.prog 3 #[v0] w fun e w' => e = .returned (.bool true) ∧ Below w.heap.size w w' := by
  obtain ⟨q1, c1, rfl, hcl1⟩ := hl
  have HC1 := hidb hcl1
  have HS := hidb hs
  clear hcl1 hs
  by_cases z1 : l.length > 1000
  · have e1 : (1000 : Int) < (l.length : Int) := by omega
    go_enter Try.func3, Try.ntmps3
    go_wp2_with (go_at_call 5; refine (known17_any _).mono ?_; rintro e w1 ⟨rfl, hb1⟩; have HB1 := hidb hb1; clear hb1)
    go_ret
    exact ⟨rfl, HB1.out⟩
  have e1 : ¬ (1000 : Int) < (l.length : Int) := by omega
  have HZ : Hid (l.length ≤ 1000) := hidb (by omega)
  clear z1
  go_enter Try.func3, Try.ntmps3
  go_wp2_with (first
    | (go_at_call 5; refine (known17_any _).mono ?_; rintro e w1 ⟨rfl, hb1⟩; have HB1 := hidb hb1; clear hb1)
    | (go_at_call 6; refine (qb_new HB1.out).mono ?_; rintro e w2 ⟨rfl, hq2, -, -⟩; have HQ2 := hidb (hq2.pb 30); clear hq2))
  generalize w1.heap.size = nb at *
  generalize w2.heap.size = rb at *
  go_loopw [5] (fun iv wr => ∃ (i : Nat) (R : List NP), iv = .int .i64 (i : Int) ∧ i ≤ l.length ∧ PB NoX w wr nb rb i R R ∧ R.length ≤ i) (fun iv _ => l.length - (RowKit.intOf iv).toNat)
  case atStart => exact ⟨0, [], rfl, by omega, HQ2.out, by simp⟩
  case round =>
  obtain ⟨i, R, rfl, hi, hP, hLR⟩ := hrel
  have HP := hidb hP
  have HI := hidb (⟨hi, hLR⟩ : i ≤ l.length ∧ R.length ≤ i)
  clear hi hP hLR HQ2
  by_cases hlt : i < l.length
  · have hlt' : (i : Int) < (l.length : Int) := by omega
    obtain ⟨xo, xn, xp, hx⟩ : ∃ (xo : Int) (xn : ByteArray) (xp : Int), l[i]? = some ⟨xo, xn, xp⟩ := ⟨_, _, _, List.getElem?_eq_getElem hlt⟩
    have hnm := HS.out _ (List.mem_of_getElem? hx)
    obtain ⟨b, o, rfl, y0, y1, y2⟩ := HC1.out i _ hx
    have hbw : b < w.heap.size := World.block_lt_of_cell? _ _ y0
    have s0 : (0 : Int) ≤ (i : Int) := by omega
    have HW : Hid (wrap64 ((i : Int) + 1) = ((i + 1 : Nat) : Int)) := hidb (by have := HZ.out; unfold wrap64; omega)
    have hlow := HP.out.low
    have k0 := (hlow.cell (p := ⟨b, o + i * 3, none⟩) hbw).trans y0
    have k1 := (hlow.cell (p := ⟨b, o + i * 3 + 1, none⟩) hbw).trans y1
    have k2 := (hlow.cell (p := ⟨b, o + i * 3 + 2, none⟩) hbw).trans y2
    have CC := play_chain HP.out ⟨xo, xn, xp⟩ hnm (by have := HI.out; have := HZ.out; omega) HI.out.2 32
    simp only at k0 k1 k2 CC
    clear hx y0 y1 y2 hlt hnm hlow
    go_wp2_with (first
      | (go_at_call 7; refine CC.out.mono ?_; clear CC; rintro e w3 ⟨rfl, T3, C3⟩; have t30 := T3.c1; have t31 := T3.c2; clear T3)
      | (go_at_call 8; refine C3.out.mono ?_; clear C3; rintro e w4 ⟨va, qa, rfl, T4, C4⟩; have t40 := T4.c1; have t41 := T4.c2; clear T4)
      | (go_at_call 9; refine C4.out.mono ?_; clear C4; rintro e w5 ⟨rfl, T5, C5⟩; have t50 := T5.c1; have t51 := T5.c2; clear T5)
      | (go_at_call 10; refine C5.out.mono ?_; clear C5; rintro e w6 ⟨vb, qb, rfl, T6, C6⟩; have t60 := T6.c1; have t61 := T6.c2; clear T6)
      | (go_at_call 11; refine C6.out.mono ?_; clear C6; rintro e w7 ⟨rfl, HQ⟩))
    go_roundw
    case rel =>
      have hi5 := HI.out
      obtain ⟨R2, r1, r2⟩ := HQ.out
      exact ⟨i + 1, R2, by first | rfl | (rw [HW.out]), by omega, r1, r2⟩
    case measure =>
      try rw [HW.out]
      simp only [RowKit.intOf]
      omega
  · have hlt' : ¬ (i : Int) < (l.length : Int) := by omega
    obtain ⟨n, hn⟩ : ∃ n, R.length = n := ⟨_, rfl⟩
    have HNN := hidb hn
    have CA : Hid (Calls Try.prog 12 #[.pointer (some ⟨nb, 0, none⟩)] wr fun e w3 => ∃ g cap a c, e = .returned (.slice (some ⟨g, 0, none⟩) n cap) ∧ w3.cell? ⟨rb, 0, none⟩ = some (.slice a n c) ∧ Hid (PB (fun k => k = g) w w3 nb rb i R R ∧ w3.ownsRow 0 ST 1 (.slice (some ⟨g, 0, none⟩) n cap) n (nms R) ∧ w.heap.size ≤ g)) := by
      refine hidb ((all_chain HP.out (by have := HI.out; have := HZ.out; omega)).mono ?_)
      rintro e w3 ⟨g, cap, rfl, hp3, ho3, hg3, -, -⟩
      obtain ⟨a, c, r0, -⟩ := hp3.rows
      rw [hn] at ho3 r0 ⊢
      exact ⟨g, cap, a, c, rfl, r0, hidb ⟨hp3.turn (Below.refl _ _) (fun k hk => .inl (.inr hk)), ho3, hg3⟩⟩
    clear hlt hn HP
    go_wp2_with (go_at_call 12; refine CA.out.mono ?_; clear CA; rintro e w3 ⟨g, cap, a, c, rfl, r0, HA⟩)
    clear r0
    go_loopw [16] (fun jv wq => ∃ (j : Nat) (ys : List Value), jv = .int .i64 (j : Int) ∧ j ≤ n ∧ PB (fun k => k = g) w wq nb rb i R R ∧ wq.ownsRow 0 ST 1 (.slice (some ⟨g, 0, none⟩) n cap) n ys ∧ ys.drop j = (nms R).drop j) (fun jv _ => n - (RowKit.intOf jv).toNat)
    case atStart => exact ⟨0, nms R, rfl, by omega, HA.out.1, HA.out.2.1, rfl⟩
    case round =>
    obtain ⟨j, ys, rfl, hj, hQ, ho, hd⟩ := hrel
    have HQ := hidb (⟨hj, hQ, ho, hd⟩ : j ≤ n ∧ PB (fun k => k = g) w wr nb rb i R R ∧ wr.ownsRow 0 ST 1 (.slice (some ⟨g, 0, none⟩) n cap) n ys ∧ ys.drop j = (nms R).drop j)
    clear hj hQ ho hd
    have s0 : (0 : Int) ≤ (j : Int) := by omega
    by_cases hjn : j < n
    · have hjn' : (j : Int) < (n : Int) := by omega
      obtain ⟨y, hy⟩ : ∃ y, R[j]? = some y := ⟨_, List.getElem?_eq_getElem (by have := HNN.out; omega)⟩
      have hny : (nms R)[j]? = some (.string y.1) := by rw [List.getElem?_map, hy]; rfl
      obtain ⟨_, _, ea, ka⟩ := row_at HQ.out.2.2.1 (drop_get HQ.out.2.2.2 hny)
      obtain ⟨rfl, rfl⟩ : g = _ ∧ cap = _ := by simpa using ea
      have fa := HQ.out.2.2.1.frozenAt j
      obtain ⟨a', c', rc, ro, rx⟩ := HQ.out.2.1.rows
      obtain ⟨g0, c0, eb, kb⟩ := row_at ro hny
      obtain ⟨rfl, -, rfl⟩ : a' = some ⟨g0, 0, none⟩ ∧ R.length = R.length ∧ c' = c0 := by simpa using eb
      rw [HNN.out] at rc
      have HW : Hid (wrap64 ((j : Int) + 1) = ((j + 1 : Nat) : Int)) := hidb (by have := HNN.out; have := HI.out; have := HZ.out; unfold wrap64; omega)
      generalize y.1 = ny at *
      have HG : Hid (g < wr.heap.size) := hidb (HQ.out.2.2.1.lt g rfl).2
      have HS0 : Hid (wr.drew.cell? ⟨g, j, none⟩ = some (.string ny) ∧ wr.drew.cell? ⟨rb, 0, none⟩ = some (.slice (some ⟨g0, 0, none⟩) n c') ∧ wr.drew.cell? ⟨g0, j, none⟩ = some (.string ny)) := hidb ⟨ka, rc, kb⟩
      have hfd : wr.drew.frozen? ⟨g, j, none⟩ = false := fa
      have hkd : wr.drew.cell? ⟨g, j, none⟩ = some (.string ny) := ka
      clear ea eb ro rx hy hny hjn fa ka rc kb
      go_wp2_with fail
      go_region_held3 (fun w' => w'.cell? ⟨g, j, none⟩ = some (.string ny) ∧ w'.cell? ⟨rb, 0, none⟩ = some (.slice (some ⟨g0, 0, none⟩) n c') ∧ w'.cell? ⟨g0, j, none⟩ = some (.string ny)) (with_reducible exact HS0.out) (fail)
      go_wp2_with fail
      go_roundw
      case rel =>
        have h3 := HQ.out
        have hb : But (fun k => k = g) wr (wr.setCell ⟨g, j, none⟩ (.string ⟨#[115, 112, 111, 105, 108, 116]⟩)).drew := ((But.refl (fun k => k = g) wr).setCell (p := ⟨g, j, none⟩) (fun _ => rfl) _).drew
        exact ⟨j + 1, ys.set j (.string ⟨#[115, 112, 111, 105, 108, 116]⟩), by rw [HW.out], by omega, h3.2.1.poke hb (fun k e => e ▸ HA.out.2.2), (h3.2.2.1.stored j _).1, drop_set h3.2.2.2 _⟩
      case measure =>
        rw [HW.out]
        simp only [RowKit.intOf, Int.toNat_natCast]
        omega
    · have hjn' : ¬ (j : Int) < (n : Int) := by omega
      by_cases hn0 : n = 0
      · subst hn0
        have CA : Hid (Calls Try.prog 12 #[.pointer (some ⟨nb, 0, none⟩)] wr.drew fun e w3 => ∃ g cap, e = .returned (.slice (some ⟨g, 0, none⟩) 0 cap) ∧ Hid (Below w.heap.size w w3)) := by
          refine hidb ((all_chain (HQ.out.2.1.keep ((Below.refl _ _).drew)) (by have := HI.out; have := HZ.out; omega)).mono ?_)
          rintro e w3 ⟨g, cap, rfl, hp3, -⟩
          rw [HNN.out]
          exact ⟨g, cap, rfl, hidb hp3.low⟩
        clear hjn
        go_wp2_with fail
        have HS0 : Hid True := hidb trivial
        refine wp_region_D (fun _ => True) [17] (by kernel_rfl) ?_
        refine wpAnyD_takeL (i := 0) (v := ?vv0z) rfl (by kernel_rfl) (by kernel_rfl) (by kernel_rfl) (by kernel_rfl) (fun _ _ _ h => h) HS0.out rfl ?hy0z ?_
        case hy0z => intro wy hSw; go_simp; try with_reducible rfl
        simp only [Act.put, List.setIfInBounds_toArray, List.set_cons_zero, List.set_cons_succ]
        refine wpAnyD_stepL (i := 1) (by kernel_rfl) rfl (fun K hK => ?_)
        refine step_call (by simp [Region.wanted]) (run_call ent_all #[.tmp 119] _ rfl #[.pointer (some ⟨nb, 0, none⟩)] rfl) CA.out ?_
        rintro e w4 ⟨g9, cap9, rfl, HB4⟩
        refine hK _ _ (fun _ => trivial) ?_
        clear hK K
        simp only [Act.put, List.setIfInBounds_toArray, List.set_cons_zero, List.set_cons_succ]
        refine wpAnyD_takeL (i := 2) (v := ?vv2z) rfl (by kernel_rfl) (by kernel_rfl) (by kernel_rfl) (by kernel_rfl) (fun _ _ _ h => h) HS0.out rfl ?hy2z ?_
        case hy2z => intro wy hSw; go_simp; try with_reducible rfl
        simp only [Act.put, List.setIfInBounds_toArray, List.set_cons_zero, List.set_cons_succ]
        refine wpAnyD_takeL (i := 3) (v := ?vv3z) rfl (by kernel_rfl) (by kernel_rfl) (by kernel_rfl) (by kernel_rfl) (fun _ _ _ h => h) HS0.out rfl ?hy3z ?_
        case hy3z => intro wy hSw; go_simp; try with_reducible rfl
        simp only [Act.put, List.setIfInBounds_toArray, List.set_cons_zero, List.set_cons_succ]
        refine wpAnyD_takeL (i := 4) (v := ?vv4z) rfl (by kernel_rfl) (by kernel_rfl) (by kernel_rfl) (by kernel_rfl) (fun _ _ _ h => h) HS0.out rfl ?hy4z ?_
        case hy4z => intro wy hSw; go_simp; try with_reducible rfl
        simp only [Act.put, List.setIfInBounds_toArray, List.set_cons_zero, List.set_cons_succ]
        refine wpAnyD_skipG (i := 5) rfl (by kernel_rfl) (by kernel_rfl) (by kernel_rfl) (by kernel_rfl) (fun _ _ _ h => h) HS0.out (by simp [Region.wanted, yielded]) ?_
        simp only [Act.put, List.setIfInBounds_toArray, List.set_cons_zero, List.set_cons_succ]
        refine wpAnyD_skipG (i := 6) rfl (by kernel_rfl) (by kernel_rfl) (by kernel_rfl) (by kernel_rfl) (fun _ _ _ h => h) HS0.out (by simp [Region.wanted, yielded]) ?_
        simp only [Act.put, List.setIfInBounds_toArray, List.set_cons_zero, List.set_cons_succ]
        refine wpAnyD_skipG (i := 7) rfl (by kernel_rfl) (by kernel_rfl) (by kernel_rfl) (by kernel_rfl) (fun _ _ _ h => h) HS0.out (by simp [Region.wanted, yielded]) ?_
        simp only [Act.put, List.setIfInBounds_toArray, List.set_cons_zero, List.set_cons_succ]
        refine wpAnyD_skipG (i := 8) rfl (by kernel_rfl) (by kernel_rfl) (by kernel_rfl) (by kernel_rfl) (fun _ _ _ h => h) HS0.out (by simp [Region.wanted, yielded]) ?_
        simp only [Act.put, List.setIfInBounds_toArray, List.set_cons_zero, List.set_cons_succ]
        refine wpAnyD_skipG (i := 9) rfl (by kernel_rfl) (by kernel_rfl) (by kernel_rfl) (by kernel_rfl) (fun _ _ _ h => h) HS0.out (by simp [Region.wanted, yielded]) ?_
        simp only [Act.put, List.setIfInBounds_toArray, List.set_cons_zero, List.set_cons_succ]
        refine wpAnyD_skipG (i := 10) rfl (by kernel_rfl) (by kernel_rfl) (by kernel_rfl) (by kernel_rfl) (fun _ _ _ h => h) HS0.out (by simp [Region.wanted, yielded]) ?_
        simp only [Act.put, List.setIfInBounds_toArray, List.set_cons_zero, List.set_cons_succ]
        refine wpAnyD_skipG (i := 11) rfl (by kernel_rfl) (by kernel_rfl) (by kernel_rfl) (by kernel_rfl) (fun _ _ _ h => h) HS0.out (by simp [Region.wanted, yielded]) ?_
        simp only [Act.put, List.setIfInBounds_toArray, List.set_cons_zero, List.set_cons_succ]
        refine wpAnyD_skipG (i := 12) rfl (by kernel_rfl) (by kernel_rfl) (by kernel_rfl) (by kernel_rfl) (fun _ _ _ h => h) HS0.out (by simp [Region.wanted, yielded]) ?_
        simp only [Act.put, List.setIfInBounds_toArray, List.set_cons_zero, List.set_cons_succ]
        refine wpAnyD_skipG (i := 13) rfl (by kernel_rfl) (by kernel_rfl) (by kernel_rfl) (by kernel_rfl) (fun _ _ _ h => h) HS0.out (by simp [Region.wanted, yielded]) ?_
        simp only [Act.put, List.setIfInBounds_toArray, List.set_cons_zero, List.set_cons_succ]
        refine wpAnyD_skipG (i := 14) rfl (by kernel_rfl) (by kernel_rfl) (by kernel_rfl) (by kernel_rfl) (fun _ _ _ h => h) HS0.out (by simp [Region.wanted, yielded]) ?_
        simp only [Act.put, List.setIfInBounds_toArray, List.set_cons_zero, List.set_cons_succ]
        refine wpAnyD_skipG (i := 15) rfl (by kernel_rfl) (by kernel_rfl) (by kernel_rfl) (by kernel_rfl) (fun _ _ _ h => h) HS0.out (by simp [Region.wanted, yielded]) ?_
        simp only [Act.put, List.setIfInBounds_toArray, List.set_cons_zero, List.set_cons_succ]
        refine wpAnyD_takeL (i := 16) (v := ?vv16z) rfl (by kernel_rfl) (by kernel_rfl) (by kernel_rfl) (by kernel_rfl) (fun _ _ _ h => h) HS0.out rfl ?hy16z ?_
        case hy16z => intro wy hSw; go_simp; try with_reducible rfl
        simp only [Act.put, List.setIfInBounds_toArray, List.set_cons_zero, List.set_cons_succ]
        refine wpAnyD_stepL (i := 17) (by kernel_rfl) rfl (fun K hK => ?_)
        go_simp
        refine hK _ _ (fun h => absurd (List.mem_singleton.2 rfl) h) ?_
        clear hK K
        refine wpAnyD_done (by kernel_rfl) ?_ _
        go_wp2_with fail
        go_ret
        exact ⟨rfl, HB4.out⟩
      · obtain ⟨y, hy⟩ : ∃ y, R[0]? = some y := ⟨_, List.getElem?_eq_getElem (by have := HNN.out; omega)⟩
        have hny : (nms R)[0]? = some (.string y.1) := by rw [List.getElem?_map, hy]; rfl
        obtain ⟨a', c', rc, ro, rx⟩ := HQ.out.2.1.rows
        obtain ⟨g0, c0, eb, kb⟩ := row_at ro hny
        obtain ⟨rfl, -, rfl⟩ : a' = some ⟨g0, 0, none⟩ ∧ R.length = R.length ∧ c' = c0 := by simpa using eb
        rw [HNN.out] at rc
        generalize y.1 = ny at *
        have hrl : rb < wr.heap.size := HQ.out.2.1.lts.2.1
        have hgl : g0 < wr.heap.size := (ro.lt g0 rfl).2
        have hn1 : (1 : Int) ≤ (n : Int) := by omega
        have hn2 : ¬ (n : Int) = 0 := by omega
        have hn3 : ((n : Int) == 0) = false := by simp; omega
        have hn4 : (0 : Int) < (n : Int) := by omega
        have hn5 : 0 < n := by omega
        have HKP : Hid (∀ W, Below wr.heap.size wr W → W.cell? ⟨rb, 0, none⟩ = some (.slice (some ⟨g0, 0, none⟩) n c') ∧ W.cell? ⟨g0, 0, none⟩ = some (.string ny)) := hidb (fun W hW => ⟨(hW.cell (p := ⟨rb, 0, none⟩) hrl).trans rc, (hW.cell (p := ⟨g0, 0, none⟩) hgl).trans kb⟩)
        have CA : Hid (∀ W, Below wr.heap.size wr W → Calls Try.prog 12 #[.pointer (some ⟨nb, 0, none⟩)] W fun e w3 => ∃ g cap, e = .returned (.slice (some ⟨g, 0, none⟩) n cap) ∧ w3.cell? ⟨g, 0, none⟩ = some (.string ny) ∧ Hid (Below wr.heap.size wr w3 ∧ Below w.heap.size w w3)) := by
          refine hidb (fun W hW => (all_chain (HQ.out.2.1.keep hW) (by have := HI.out; have := HZ.out; omega)).mono ?_)
          rintro e w3 ⟨g, cap, rfl, hp3, ho3, -, -, hb3⟩
          obtain ⟨_, _, ec, kc⟩ := row_at ho3 hny
          obtain ⟨rfl, -⟩ : g = _ ∧ cap = _ := by simpa using ec
          rw [HNN.out]
          exact ⟨g, cap, rfl, kc, hidb ⟨hW.trans (hb3.mono hW.size), hp3.low⟩⟩
        clear hjn eb ro rx hy hny rc kb hrl hgl hn0
        go_wp2_with fail
        have HS0 := hidb (HKP.out _ ((Below.refl _ _).drew))
        refine wp_region_D (fun w' => w'.cell? ⟨rb, 0, none⟩ = some (.slice (some ⟨g0, 0, none⟩) n c') ∧ w'.cell? ⟨g0, 0, none⟩ = some (.string ny)) [17] (by kernel_rfl) ?_
        refine wpAnyD_takeL (i := 0) (v := ?vv0y) rfl (by kernel_rfl) (by kernel_rfl) (by kernel_rfl) (by kernel_rfl) (fun _ _ _ h => h) HS0.out rfl ?hy0y ?_
        case hy0y => intro wy hSw; go_simp; try with_reducible rfl
        simp only [Act.put, List.setIfInBounds_toArray, List.set_cons_zero, List.set_cons_succ]
        refine wpAnyD_stepL (i := 1) (by kernel_rfl) rfl (fun K hK => ?_)
        refine step_call (by simp [Region.wanted]) (run_call ent_all #[.tmp 119] _ rfl #[.pointer (some ⟨nb, 0, none⟩)] rfl) (CA.out _ ((Below.refl _ _).drew)) ?_
        rintro e w4 ⟨g9, cap9, rfl, k9, HB4⟩
        have HS1 := hidb (HKP.out _ HB4.out.1)
        refine hK _ _ (fun _ => HS1.out) ?_
        clear hK K
        simp only [Act.put, List.setIfInBounds_toArray, List.set_cons_zero, List.set_cons_succ]
        clear HS0
        have HS0 := HS1
        refine wpAnyD_takeL (i := 2) (v := ?vv2y) rfl (by kernel_rfl) (by kernel_rfl) (by kernel_rfl) (by kernel_rfl) (fun _ _ _ h => h) HS0.out rfl ?hy2y ?_
        case hy2y => intro wy hSw; go_simp; try with_reducible rfl
        simp only [Act.put, List.setIfInBounds_toArray, List.set_cons_zero, List.set_cons_succ]
        refine wpAnyD_takeL (i := 3) (v := ?vv3y) rfl (by kernel_rfl) (by kernel_rfl) (by kernel_rfl) (by kernel_rfl) (fun _ _ _ h => h) HS0.out rfl ?hy3y ?_
        case hy3y => intro wy hSw; go_simp; try with_reducible rfl
        simp only [Act.put, List.setIfInBounds_toArray, List.set_cons_zero, List.set_cons_succ]
        refine wpAnyD_takeL (i := 4) (v := ?vv4y) rfl (by kernel_rfl) (by kernel_rfl) (by kernel_rfl) (by kernel_rfl) (fun _ _ _ h => h) HS0.out rfl ?hy4y ?_
        case hy4y => intro wy hSw; go_simp; try with_reducible rfl
        simp only [Act.put, List.setIfInBounds_toArray, List.set_cons_zero, List.set_cons_succ]
        refine wpAnyD_takeG (i := 9) (v := ?vv9y) rfl (by kernel_rfl) (by kernel_rfl) (by kernel_rfl) (by kernel_rfl) (fun _ _ _ h => h) HS0.out (by simp [Region.wanted, yielded]) ?hy9y ?_
        case hy9y => intro wy hSw; go_simp; try with_reducible rfl
        simp only [Act.put, List.setIfInBounds_toArray, List.set_cons_zero, List.set_cons_succ]
        refine wpAnyD_takeG (i := 10) (v := ?vv10y) rfl (by kernel_rfl) (by kernel_rfl) (by kernel_rfl) (by kernel_rfl) (fun _ _ _ h => h) HS0.out (by simp [Region.wanted, yielded]) ?hy10y ?_
        case hy10y => intro wy hSw; go_simp; try with_reducible rfl
        simp only [Act.put, List.setIfInBounds_toArray, List.set_cons_zero, List.set_cons_succ]
        refine wpAnyD_takeG (i := 11) (v := ?vv11y) rfl (by kernel_rfl) (by kernel_rfl) (by kernel_rfl) (by kernel_rfl) (fun _ _ _ h => h) HS0.out (by simp [Region.wanted, yielded]) ?hy11y ?_
        case hy11y => intro wy hSw; go_simp; try with_reducible rfl
        simp only [Act.put, List.setIfInBounds_toArray, List.set_cons_zero, List.set_cons_succ]
        refine wpAnyD_takeG (i := 12) (v := ?vv12y) rfl (by kernel_rfl) (by kernel_rfl) (by kernel_rfl) (by kernel_rfl) (fun _ _ _ h => h) HS0.out (by simp [Region.wanted, yielded]) ?hy12y ?_
        case hy12y => intro wy hSw; go_simp; try with_reducible rfl
        simp only [Act.put, List.setIfInBounds_toArray, List.set_cons_zero, List.set_cons_succ]
        refine wpAnyD_takeG (i := 13) (v := ?vv13y) rfl (by kernel_rfl) (by kernel_rfl) (by kernel_rfl) (by kernel_rfl) (fun _ _ _ h => h) HS0.out (by simp [Region.wanted, yielded]) ?hy13y ?_
        case hy13y => intro wy hSw; go_simp; try with_reducible rfl
        simp only [Act.put, List.setIfInBounds_toArray, List.set_cons_zero, List.set_cons_succ]
        refine wpAnyD_takeG (i := 14) (v := ?vv14y) rfl (by kernel_rfl) (by kernel_rfl) (by kernel_rfl) (by kernel_rfl) (fun _ _ _ h => h) HS0.out (by simp [Region.wanted, yielded]) ?hy14y ?_
        case hy14y => intro wy hSw; go_simp; try with_reducible rfl
        simp only [Act.put, List.setIfInBounds_toArray, List.set_cons_zero, List.set_cons_succ]
        refine wpAnyD_takeG (i := 5) (v := ?vv5y) rfl (by kernel_rfl) (by kernel_rfl) (by kernel_rfl) (by kernel_rfl) (fun _ _ _ h => h) HS0.out (by simp [Region.wanted, yielded]) ?hy5y ?_
        case hy5y => intro wy hSw; go_simp; try with_reducible rfl
        simp only [Act.put, List.setIfInBounds_toArray, List.set_cons_zero, List.set_cons_succ]
        refine wpAnyD_stepL (i := 6) (by kernel_rfl) rfl (fun K hK => ?_)
        refine step_call (by simp [Region.wanted, yielded]) (run_call ent_all #[.tmp 124] _ rfl #[.pointer (some ⟨nb, 0, none⟩)] rfl) (CA.out _ HB4.out.1) ?_
        rintro e w5 ⟨g8, cap8, rfl, k8, HB5⟩
        have HS2 := hidb (HKP.out _ HB5.out.1)
        refine hK _ _ (fun _ => HS2.out) ?_
        clear hK K
        simp only [Act.put, List.setIfInBounds_toArray, List.set_cons_zero, List.set_cons_succ]
        refine wpAnyD_stepL (i := 7) (by kernel_rfl) rfl (fun K hK => ?_)
        rw [if_pos (by simp [Region.wanted, yielded])]
        go_simp
        refine hK _ _ (fun _ => HS2.out) ?_
        clear hK K
        refine wpAnyD_stepL (i := 8) (by kernel_rfl) rfl (fun K hK => ?_)
        rw [if_pos (by simp [Region.wanted, yielded])]
        go_simp
        refine hK _ _ (fun _ => HS2.out) ?_
        clear hK K
        refine wpAnyD_stepL (i := 15) (by kernel_rfl) rfl (fun K hK => ?_)
        rw [if_pos (by simp [Region.wanted, yielded])]
        go_simp
        refine hK _ _ (fun _ => HS2.out) ?_
        clear hK K
        refine wpAnyD_stepL (i := 16) (by kernel_rfl) rfl (fun K hK => ?_)
        go_simp
        refine hK _ _ (fun _ => HS2.out) ?_
        clear hK K
        refine wpAnyD_stepL (i := 17) (by kernel_rfl) rfl (fun K hK => ?_)
        go_simp
        refine hK _ _ (fun h => absurd (List.mem_singleton.2 rfl) h) ?_
        clear hK K
        refine wpAnyD_done (by kernel_rfl) ?_ _
        go_wp2_with fail
        go_ret
        exact ⟨rfl, HB5.out.2⟩
end Go.Proofs.Ytfhgohpldpnkbaa
