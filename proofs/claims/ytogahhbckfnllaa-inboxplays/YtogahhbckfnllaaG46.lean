import Derived.Test.YtogahhbckfnllaaG42
import Derived.Test.YtogahhbckfnllaaG43
import Derived.Test.YtogahhbckfnllaaIqE
import Derived.Test.YtogahhbckfnllaaG23
import Derived.Test.YtogahhbckfnllaaRows
import Derived.ProofKit
import Derived.OpenShut
/- InboxPlays, walked. -/
namespace Go.Proofs.Ytogahhbckfnllaa
open Go.RowKit Go.Deep
attribute [local go_sem] store_float f64bits
attribute [local go_sem ↓] Go.wp_at_zero Go.wp_at_succ

theorem ent_step : Ent 8 := by
  intro args w
  kernel_rfl
theorem ent_words : Ent 10 := by
  intro args w
  kernel_rfl

set_option maxHeartbeats 4000000 in
set_option maxRecDepth 100000 in
theorem inboxPlays_of (q : Option Addr) (c : Nat) (al : List (Int × Tr)) (n0 : Int) (w : World) (har : AR w q al) (hl : al.length ≤ 9223372036854775807) :
    Calls Try.prog 3 #[.int .i64 n0, .slice q al.length c] w fun e w' => e = .returned (.bool true) ∧ Below w.heap.size w w' := by
  have HAR := hidb har
  have KN := hidb (known12_any)
  have FW := hidb (fun W hb => fewA_any q c al (al.map Prod.snd) rfl W (har.keep hb) (by simpa using hl))
  simp only [List.length_map] at FW
  clear har
  refine calls_marks Try.func3 rfl ?_
  simp only [Try.ntmps3, List.size_toArray, List.length_cons, List.length_nil, Nat.reduceAdd, Nat.reduceSub, Array.replicate_succ, Array.replicate_zero, List.push_toArray, List.append_toArray, List.nil_append, List.cons_append]
  have HRES := hidb (At.new w [.bool false] 4)
  have HBR := hidb (below_new w (.cells #[.bool false] 4))
  go_wp2_with fail
  refine (KN.out _).mono ?_
  rintro e w1 ⟨rfl, hb1⟩
  have HB1 := hidb (HBR.out.trans (hb1.mono (by simp)))
  have HA1 := hidb (HRES.out.keep hb1)
  clear hb1 HRES HBR KN
  go_wp2_with fail
  refine (FW.out _ HB1.out).mono ?_
  rintro e w2 ⟨rfl, hb2⟩
  have HB2 := hidb (HB1.out.trans (hb2.mono HB1.out.size))
  have HA2 := hidb (HA1.out.keep hb2)
  obtain ⟨r0, f0⟩ := HA2.out.1 0 _ rfl
  have hz2 : w.heap.size < w2.heap.size := HA2.out.2
  clear hb2 HB1 HA1 FW
  by_cases hfew : al.length ≤ 400 ∧ 0 ≤ fewAll (al.map Prod.snd) 60000 1000
  · have hF : (decide (al.length ≤ 400) && decide (0 ≤ fewAll (al.map Prod.snd) 60000 1000)) = true := by simp [hfew.1, hfew.2]
    rw [hF]
    have HFW := hidb hfew
    clear hF hfew
    by_cases hn : 1 ≤ n0 ∧ n0 ≤ 16777216
    · obtain ⟨mo, rfl⟩ : ∃ mo : Nat, n0 = (mo : Int) := ⟨n0.toNat, by omega⟩
      have hPB := pb_new w2 mo (by omega) w2.heap.size (w2.heap.size + 1) rfl rfl
      have hb4 : Below w2.heap.size w2 ((w2.alloc (.cells #[.pointer none, .pointer none, .pointer none, .int .i64 0, .int .i64 0, .int .i64 (mo : Int), .int .i64 0] BT)).alloc (.cells #[.slice none 0 0, .int .i64 0, .int .i64 0, .int .i64 (mo : Int)] 41)) := (below_new w2 _).alloc (by simp) _
      go_wp2_with fail
      refine (newB (mo : Int) hn.1 hn.2 _).mono ?_
      rintro e w3 ⟨rfl, rfl⟩
      go_wp2_with fail
      refine (rnew (mo : Int) hn.1 hn.2 _).mono ?_
      rintro e w4 ⟨rfl, rfl⟩
      rw [show (w2.alloc (.cells #[.pointer none, .pointer none, .pointer none, .int .i64 0, .int .i64 0, .int .i64 (mo : Int), .int .i64 0] BT)).heap.size = w2.heap.size + 1 by simp]
      obtain ⟨W4, hW4⟩ : ∃ W4, (w2.alloc (.cells #[.pointer none, .pointer none, .pointer none, .int .i64 0, .int .i64 0, .int .i64 (mo : Int), .int .i64 0] BT)).alloc (.cells #[.slice none 0 0, .int .i64 0, .int .i64 0, .int .i64 (mo : Int)] 41) = W4 := ⟨_, rfl⟩
      rw [hW4] at hPB hb4 ⊢
      have hz4 : W4.heap.size = w2.heap.size + 2 := by rw [← hW4]; simp
      have HA4 := hidb (HA2.out.keep hb4)
      obtain ⟨r4, f4⟩ := HA4.out.1 0 _ rfl
      have HPB := hidb hPB
      have HB4 := hidb hb4
      clear hW4 hPB hb4 r0 f0
      go_wp2_with fail
      obtain ⟨WL, hWL⟩ : ∃ WL, W4.alloc (.cells #[.pointer (some ⟨w2.heap.size + 1, 0, none⟩)] 29) = WL := ⟨_, rfl⟩
      have hbL : Below W4.heap.size W4 WL := by rw [← hWL]; exact below_new W4 _
      have HPL := hidb (HPB.out.keep hbL)
      have HAL := hidb (HA4.out.keep hbL)
      have hRV := At.new W4 [.pointer (some ⟨w2.heap.size + 1, 0, none⟩)] 29
      rw [hz4, show W4.alloc (.cells [Value.pointer (some ⟨w2.heap.size + 1, 0, none⟩)].toArray 29) = WL from hWL] at hRV
      have HRV := hidb hRV
      have HBL := hidb (show Below w.heap.size w WL from HB2.out.trans ((HB4.out.trans (hbL.mono (by omega))).mono HB2.out.size))
      have hzL : WL.heap.size = w2.heap.size + 3 := by rw [← hWL]; simp [hz4]
      rw [hWL]
      clear hWL hbL hRV r4 f4
      have hal := HFW.out.1
      go_loopw [9] (fun iv wr => ∃ (m : Nat) (lv : Value) (ms : List Msg) (ds : List Tr) (place puts : Nat) (R T : Nat → Prop), m ≤ al.length ∧ iv = .int .i64 m ∧ PB wr w2.heap.size (w2.heap.size + 1) lv ms ds place mo puts R T ∧ ms.length ≤ m ∧ puts ≤ m ∧ (∀ q, PS w2.heap.size (w2.heap.size + 1) ms lv q → w2.heap.size ≤ q ∧ q ≠ w2.heap.size + 2) ∧ But (fun q => w2.heap.size ≤ q ∧ q ≠ w2.heap.size + 2) WL wr) (fun iv _ => al.length - (RowKit.intOf iv).toNat)
      case atStart => exact ⟨0, _, [], [], 0, 0, _, _, by omega, rfl, HPL.out, by simp, by omega, fun q hq => by
        rcases hq with (e | ⟨x, hx, e⟩) | (e | e)
        · omega
        · simp at hx
        · omega
        · simp [Value.ownBlock] at e, But.refl _ _⟩
      case round =>
      obtain ⟨m, lv, ms, ds, place, puts, R, T, hm, rfl, hpb, hml, hpu, hlow, hbt⟩ := hrel
      have HPW := hidb hpb
      have HLW := hidb hlow
      have HBT := hidb hbt
      have HBW := hidb (HBL.out.trans (hbt.below (by omega) (fun q hq => by omega)))
      have hmw : IntKind.i64.wrap ((m : Int) + 1) = (m : Int) + 1 := by rw [IntKind.wrap_i64]; omega
      have hzr := hbt.size
      clear hpb hlow hbt
      by_cases hmlt : m < al.length
      · have hmb : (m : Int) < (al.length : Int) := by omega
        have hmz : (0 : Int) ≤ (m : Int) := by omega
        obtain ⟨x, hx⟩ : ∃ x, al[m]? = some x := ⟨_, List.getElem?_eq_getElem hmlt⟩
        obtain ⟨op, ⟨k, n, f, s, a, ca, kids⟩⟩ := x
        obtain ⟨b, o, rfl, q0, qc, qin⟩ := HAR.out m _ hx
        have qb : b < w.heap.size := World.block_lt_of_cell? _ _ q0
        have hfe := few_each HFW.out.2 (t := .mk k n f s a ca kids) (List.mem_map.2 ⟨_, List.mem_of_getElem? hx, rfl⟩)
        have HSF : Hid (∀ Wz, But (fun q => w2.heap.size ≤ q ∧ q ≠ w2.heap.size + 2) WL Wz → Wz.cell? ⟨w2.heap.size + 2, 0, none⟩ = some (.pointer (some ⟨w2.heap.size + 1, 0, none⟩)) ∧ Wz.cell? ⟨b, o + m * 6, none⟩ = some (.int .i64 op) ∧ Wz.cell? ⟨b, o + m * 6 + 1, none⟩ = some (.int .i64 k) ∧ Wz.cell? ⟨b, o + m * 6 + 2, none⟩ = some (.int .i64 n) ∧ Wz.cell? ⟨b, o + m * 6 + 3, none⟩ = some (.float .f64 f) ∧ Wz.cell? ⟨b, o + m * 6 + 4, none⟩ = some (.string s) ∧ Wz.cell? ⟨b, o + m * 6 + 5, none⟩ = some (.slice a kids.length ca)) := hidb (fun Wz hb => by
          have cl : ∀ (p : Addr) (v : Value), p.block < w.heap.size → w.cell? p = some v → Wz.cell? p = some v := fun p v hp hv => by
            have h1 := (HBL.out.cell hp).trans hv
            exact (hb.cell (World.block_lt_of_cell? _ _ h1) (by omega)).trans h1
          exact ⟨((HRV.out.but hb (by omega)).1 0 _ rfl).1, cl _ _ qb q0, cl _ _ qb (qc 0 (by omega)), cl _ _ qb (qc 1 (by omega)), cl _ _ qb (qc 2 (by omega)), cl _ _ qb (qc 3 (by omega)), cl _ _ qb (qc 4 (by omega))⟩)
        have hd : Below wr.heap.size wr wr.drew := (Below.refl _ _).drew
        have hSA : SA wr.drew w2.heap.size (w2.heap.size + 1) lv ms ds place mo puts R T (fun q => q < w.heap.size) (.mk k n f s a ca kids) := ⟨HPW.out.keep hd, in_below hd (in_below HBW.out qin), on_all _ qin, fun q hq => ⟨by have := HBW.out.size; have := hd.size; omega, fun e => by have := (HLW.out q e).1; omega⟩, hfe.1, hfe.2, by omega, by omega⟩
        have STP := hidb (step_any op hSA)
        have HS0 := hidb (HSF.out wr.drew (HBT.out.drew))
        clear q0 qc qin hfe hSA hx
        go_wp2_with fail
        refine wp_region_N (fun Wz => Wz.cell? ⟨w2.heap.size + 2, 0, none⟩ = some (.pointer (some ⟨w2.heap.size + 1, 0, none⟩)) ∧ Wz.cell? ⟨b, o + m * 6, none⟩ = some (.int .i64 op) ∧ Wz.cell? ⟨b, o + m * 6 + 1, none⟩ = some (.int .i64 k) ∧ Wz.cell? ⟨b, o + m * 6 + 2, none⟩ = some (.int .i64 n) ∧ Wz.cell? ⟨b, o + m * 6 + 3, none⟩ = some (.float .f64 f) ∧ Wz.cell? ⟨b, o + m * 6 + 4, none⟩ = some (.string s) ∧ Wz.cell? ⟨b, o + m * 6 + 5, none⟩ = some (.slice a kids.length ca)) [7, 8, 9, 10, 11, 12, 13, 14, 15, 16, 17, 18, 19, 20, 21, 22, 23, 24, 25, 26] (by kernel_rfl) ?_
        refine wpAnyD_takeC (i := 0) (v := ?vv0x0) [1, 2, 3, 4, 5] rfl (by kernel_rfl) (by kernel_rfl) (by kernel_rfl) (by kernel_rfl) (by kernel_rfl) (by kernel_rfl) (fun _ _ _ h => by cases h.1) HS0.out rfl ?hy0x0 ?_
        case hy0x0 => intro wy hSw; obtain ⟨y0, y1, y2, y3, y4, y5, y6⟩ := hSw; go_simp; try with_reducible rfl
        simp only [Act.put, List.setIfInBounds_toArray, List.set_cons_zero, List.set_cons_succ]
        refine wpAnyD_takeC (i := 1) (v := ?vv1x0) [0, 2, 3, 4, 5] rfl (by kernel_rfl) (by kernel_rfl) (by kernel_rfl) (by kernel_rfl) (by kernel_rfl) (by kernel_rfl) (fun _ _ _ h => by cases h.1) HS0.out rfl ?hy1x0 ?_
        case hy1x0 => intro wy hSw; obtain ⟨y0, y1, y2, y3, y4, y5, y6⟩ := hSw; go_simp; try with_reducible rfl
        simp only [Act.put, List.setIfInBounds_toArray, List.set_cons_zero, List.set_cons_succ]
        refine wpAnyD_takeC (i := 2) (v := ?vv2x0) [0, 1, 3] rfl (by kernel_rfl) (by kernel_rfl) (by kernel_rfl) (by kernel_rfl) (by kernel_rfl) (by kernel_rfl) (fun _ _ _ h => by cases h.1) HS0.out rfl ?hy2x0 ?_
        case hy2x0 => intro wy hSw; obtain ⟨y0, y1, y2, y3, y4, y5, y6⟩ := hSw; go_simp; try with_reducible rfl
        simp only [Act.put, List.setIfInBounds_toArray, List.set_cons_zero, List.set_cons_succ]
        refine wpAnyD_takeC (i := 3) (v := ?vv3x0) [0, 1, 2] rfl (by kernel_rfl) (by kernel_rfl) (by kernel_rfl) (by kernel_rfl) (by kernel_rfl) (by kernel_rfl) (fun _ _ _ h => by cases h.1) HS0.out rfl ?hy3x0 ?_
        case hy3x0 => intro wy hSw; obtain ⟨y0, y1, y2, y3, y4, y5, y6⟩ := hSw; go_simp; try with_reducible rfl
        simp only [Act.put, List.setIfInBounds_toArray, List.set_cons_zero, List.set_cons_succ]
        refine wpAnyD_takeC (i := 4) (v := ?vv4x0) [0, 1, 2, 3] rfl (by kernel_rfl) (by kernel_rfl) (by kernel_rfl) (by kernel_rfl) (by kernel_rfl) (by kernel_rfl) (fun _ _ _ h => by cases h.1) HS0.out rfl ?hy4x0 ?_
        case hy4x0 => intro wy hSw; obtain ⟨y0, y1, y2, y3, y4, y5, y6⟩ := hSw; go_simp; try with_reducible rfl
        simp only [Act.put, List.setIfInBounds_toArray, List.set_cons_zero, List.set_cons_succ]
        refine wpAnyD_takeC (i := 5) (v := ?vv5x0) [0, 1, 2, 3, 4] rfl (by kernel_rfl) (by kernel_rfl) (by kernel_rfl) (by kernel_rfl) (by kernel_rfl) (by kernel_rfl) (fun _ _ _ h => by cases h.1) HS0.out rfl ?hy5x0 ?_
        case hy5x0 => intro wy hSw; obtain ⟨y0, y1, y2, y3, y4, y5, y6⟩ := hSw; go_simp; try with_reducible rfl
        simp only [Act.put, List.setIfInBounds_toArray, List.set_cons_zero, List.set_cons_succ]
        refine wpAnyD_stepL (i := 6) (by kernel_rfl) rfl (fun K hK => ?_)
        refine step_call rfl (run_call ent_step #[.tmp 46, .tmp 47, .tmp 51] _ rfl #[.pointer (some ⟨w2.heap.size, 0, none⟩), .pointer (some ⟨w2.heap.size + 1, 0, none⟩), .agg #[.int .i64 op, .int .i64 k, .int .i64 n, .float .f64 f, .string s, .slice a kids.length ca]] rfl) STP.out (fun e w6 hh => ?_)
        obtain ⟨rfl, lv', ms', ds', place', puts', R', T', g1, g2, g3, g4, g5⟩ := hh
        have HPN := hidb g1
        have HLN : Hid (∀ q, PS w2.heap.size (w2.heap.size + 1) ms' lv' q → w2.heap.size ≤ q ∧ q ≠ w2.heap.size + 2) := hidb (fun q hq => by
          rcases g2 q hq with e | e
          · exact HLW.out q e
          · have := (hd.size); omega)
        have HBN : Hid (But (fun q => w2.heap.size ≤ q ∧ q ≠ w2.heap.size + 2) WL w6) := hidb (HBT.out.drew.trans (g5.mono (fun q _ hq => HLW.out q hq)))
        have HGN := hidb (And.intro g3 g4)
        refine hK _ _ (fun _ => HSF.out w6 HBN.out) ?_
        clear hK K g1 g2 g3 g4 g5 STP HS0
        simp only [Act.put, List.setIfInBounds_toArray, List.set_cons_zero, List.set_cons_succ]
        obtain ⟨ga, gc, rfl⟩ := own_sl HPN.out.hr.row
        have hlen := HPN.out.len
        have HS1 : Hid (w6.cell? ⟨w2.heap.size + 2, 0, none⟩ = some (.pointer (some ⟨w2.heap.size + 1, 0, none⟩)) ∧ w6.cell? ⟨w2.heap.size + 1, 0, none⟩ = some (.slice ga ds'.length gc) ∧ w6.cell? ⟨w2.heap.size + 1, 2, none⟩ = some (.int .i64 (wds ms' : Int))) := hidb ⟨(HSF.out w6 HBN.out).1, (HPN.out.hr.box.1 0 _ rfl).1, (HPN.out.hr.box.1 2 _ rfl).1⟩
        refine wpAnyD_swapB (S2 := fun Wz => Wz.cell? ⟨w2.heap.size + 2, 0, none⟩ = some (.pointer (some ⟨w2.heap.size + 1, 0, none⟩)) ∧ Wz.cell? ⟨w2.heap.size + 1, 0, none⟩ = some (.slice ga ds'.length gc) ∧ Wz.cell? ⟨w2.heap.size + 1, 2, none⟩ = some (.int .i64 (wds ms' : Int))) (D2 := []) (by kernel_rfl) ?_
        refine wpAnyD_takeL (i := 7) (v := ?vv7x1) rfl (by kernel_rfl) (by kernel_rfl) (by kernel_rfl) (by kernel_rfl) (fun _ _ _ h => by cases h.1) HS1.out rfl ?hy7x1 ?_
        case hy7x1 => intro wy hSw; obtain ⟨y0, y1, y2⟩ := hSw; go_simp; try with_reducible rfl
        simp only [Act.put, List.setIfInBounds_toArray, List.set_cons_zero, List.set_cons_succ]
        refine wpAnyD_takeL (i := 8) (v := ?vv8x1) rfl (by kernel_rfl) (by kernel_rfl) (by kernel_rfl) (by kernel_rfl) (fun _ _ _ h => by cases h.1) HS1.out rfl ?hy8x1 ?_
        case hy8x1 => intro wy hSw; obtain ⟨y0, y1, y2⟩ := hSw; go_simp; try with_reducible rfl
        simp only [Act.put, List.setIfInBounds_toArray, List.set_cons_zero, List.set_cons_succ]
        refine wpAnyD_takeG (i := 9) (v := ?vv9x1) rfl (by kernel_rfl) (by kernel_rfl) (by kernel_rfl) (by kernel_rfl) (fun _ _ _ h => by cases h.1) HS1.out (by simp [Region.wanted, yielded]) ?hy9x1 ?_
        case hy9x1 => intro wy hSw; obtain ⟨y0, y1, y2⟩ := hSw; go_simp; try with_reducible rfl
        simp only [Act.put, List.setIfInBounds_toArray, List.set_cons_zero, List.set_cons_succ]
        refine wpAnyD_takeG (i := 11) (v := ?vv11x1) rfl (by kernel_rfl) (by kernel_rfl) (by kernel_rfl) (by kernel_rfl) (fun _ _ _ h => by cases h.1) HS1.out (by simp [Region.wanted, yielded]) ?hy11x1 ?_
        case hy11x1 => intro wy hSw; obtain ⟨y0, y1, y2⟩ := hSw; go_simp; try with_reducible rfl
        simp only [Act.put, List.setIfInBounds_toArray, List.set_cons_zero, List.set_cons_succ]
        refine wpAnyD_takeG (i := 12) (v := ?vv12x1) rfl (by kernel_rfl) (by kernel_rfl) (by kernel_rfl) (by kernel_rfl) (fun _ _ _ h => by cases h.1) HS1.out (by simp [Region.wanted, yielded]) ?hy12x1 ?_
        case hy12x1 => intro wy hSw; obtain ⟨y0, y1, y2⟩ := hSw; go_simp; try with_reducible rfl
        simp only [Act.put, List.setIfInBounds_toArray, List.set_cons_zero, List.set_cons_succ]
        refine wpAnyD_takeG (i := 13) (v := ?vv13x1) rfl (by kernel_rfl) (by kernel_rfl) (by kernel_rfl) (by kernel_rfl) (fun _ _ _ h => by cases h.1) HS1.out (by simp [Region.wanted, yielded]) ?hy13x1 ?_
        case hy13x1 => intro wy hSw; obtain ⟨y0, y1, y2⟩ := hSw; go_simp; try with_reducible rfl
        simp only [Act.put, List.setIfInBounds_toArray, List.set_cons_zero, List.set_cons_succ]
        refine wpAnyD_takeG (i := 14) (v := ?vv14x1) rfl (by kernel_rfl) (by kernel_rfl) (by kernel_rfl) (by kernel_rfl) (fun _ _ _ h => by cases h.1) HS1.out (by simp [Region.wanted, yielded]) ?hy14x1 ?_
        case hy14x1 => intro wy hSw; obtain ⟨y0, y1, y2⟩ := hSw; go_simp; try with_reducible rfl
        simp only [Act.put, List.setIfInBounds_toArray, List.set_cons_zero, List.set_cons_succ]
        refine wpAnyD_takeG (i := 15) (v := ?vv15x1) rfl (by kernel_rfl) (by kernel_rfl) (by kernel_rfl) (by kernel_rfl) (fun _ _ _ h => by cases h.1) HS1.out (by simp [Region.wanted, yielded]) ?hy15x1 ?_
        case hy15x1 => intro wy hSw; obtain ⟨y0, y1, y2⟩ := hSw; go_simp; try with_reducible rfl
        simp only [Act.put, List.setIfInBounds_toArray, List.set_cons_zero, List.set_cons_succ]
        refine wpAnyD_stepL (i := 10) (by kernel_rfl) rfl (fun K hK => ?_)
        refine step_callG (by simp [Region.wanted, yielded]) (run_call ent_len #[.tmp 55] _ rfl #[.pointer (some ⟨w2.heap.size, 0, none⟩)] rfl) (lenB HPN.out.hb) ?_
        rintro e w7 ⟨rfl, rfl⟩
        refine hK _ _ (fun _ => HS1.out) ?_
        clear hK K
        simp only [Act.put, List.setIfInBounds_toArray, List.set_cons_zero, List.set_cons_succ]
        rw [hlen]
        refine wpAnyD_takeG (i := 16) (v := ?vv16x1) rfl (by kernel_rfl) (by kernel_rfl) (by kernel_rfl) (by kernel_rfl) (fun _ _ _ h => by cases h.1) HS1.out (by simp [Region.wanted, yielded]) ?hy16x1 ?_
        case hy16x1 => intro wy hSw; obtain ⟨y0, y1, y2⟩ := hSw; go_simp; try with_reducible rfl
        simp only [Act.put, List.setIfInBounds_toArray, List.set_cons_zero, List.set_cons_succ]
        refine wpAnyD_takeL (i := 17) (v := ?vv17x1) rfl (by kernel_rfl) (by kernel_rfl) (by kernel_rfl) (by kernel_rfl) (fun _ _ _ h => by cases h.1) HS1.out rfl ?hy17x1 ?_
        case hy17x1 => intro wy hSw; obtain ⟨y0, y1, y2⟩ := hSw; go_simp; try with_reducible rfl
        simp only [Act.put, List.setIfInBounds_toArray, List.set_cons_zero, List.set_cons_succ]
        refine wpAnyD_takeL (i := 18) (v := ?vv18x1) rfl (by kernel_rfl) (by kernel_rfl) (by kernel_rfl) (by kernel_rfl) (fun _ _ _ h => by cases h.1) HS1.out rfl ?hy18x1 ?_
        case hy18x1 => intro wy hSw; obtain ⟨y0, y1, y2⟩ := hSw; go_simp; try with_reducible rfl
        simp only [Act.put, List.setIfInBounds_toArray, List.set_cons_zero, List.set_cons_succ]
        refine wpAnyD_takeG (i := 19) (v := ?vv19x1) rfl (by kernel_rfl) (by kernel_rfl) (by kernel_rfl) (by kernel_rfl) (fun _ _ _ h => by cases h.1) HS1.out (by simp [Region.wanted, yielded]) ?hy19x1 ?_
        case hy19x1 => intro wy hSw; obtain ⟨y0, y1, y2⟩ := hSw; go_simp; try with_reducible rfl
        simp only [Act.put, List.setIfInBounds_toArray, List.set_cons_zero, List.set_cons_succ]
        refine wpAnyD_takeG (i := 21) (v := ?vv21x1) rfl (by kernel_rfl) (by kernel_rfl) (by kernel_rfl) (by kernel_rfl) (fun _ _ _ h => by cases h.1) HS1.out (by simp [Region.wanted, yielded]) ?hy21x1 ?_
        case hy21x1 => intro wy hSw; obtain ⟨y0, y1, y2⟩ := hSw; go_simp; try with_reducible rfl
        simp only [Act.put, List.setIfInBounds_toArray, List.set_cons_zero, List.set_cons_succ]
        refine wpAnyD_takeG (i := 22) (v := ?vv22x1) rfl (by kernel_rfl) (by kernel_rfl) (by kernel_rfl) (by kernel_rfl) (fun _ _ _ h => by cases h.1) HS1.out (by simp [Region.wanted, yielded]) ?hy22x1 ?_
        case hy22x1 => intro wy hSw; obtain ⟨y0, y1, y2⟩ := hSw; go_simp; try with_reducible rfl
        simp only [Act.put, List.setIfInBounds_toArray, List.set_cons_zero, List.set_cons_succ]
        refine wpAnyD_takeG (i := 23) (v := ?vv23x1) rfl (by kernel_rfl) (by kernel_rfl) (by kernel_rfl) (by kernel_rfl) (fun _ _ _ h => by cases h.1) HS1.out (by simp [Region.wanted, yielded]) ?hy23x1 ?_
        case hy23x1 => intro wy hSw; obtain ⟨y0, y1, y2⟩ := hSw; go_simp; try with_reducible rfl
        simp only [Act.put, List.setIfInBounds_toArray, List.set_cons_zero, List.set_cons_succ]
        refine wpAnyD_takeG (i := 24) (v := ?vv24x1) rfl (by kernel_rfl) (by kernel_rfl) (by kernel_rfl) (by kernel_rfl) (fun _ _ _ h => by cases h.1) HS1.out (by simp [Region.wanted, yielded]) ?hy24x1 ?_
        case hy24x1 => intro wy hSw; obtain ⟨y0, y1, y2⟩ := hSw; go_simp; try with_reducible rfl
        simp only [Act.put, List.setIfInBounds_toArray, List.set_cons_zero, List.set_cons_succ]
        refine wpAnyD_stepL (i := 20) (by kernel_rfl) rfl (fun K hK => ?_)
        refine step_callG (by simp [Region.wanted, yielded]) (run_call ent_words #[.tmp 65] _ rfl #[.pointer (some ⟨w2.heap.size, 0, none⟩)] rfl) (wordsB HPN.out.hb) ?_
        rintro e w8 ⟨rfl, rfl⟩
        refine hK _ _ (fun _ => HS1.out) ?_
        clear hK K
        simp only [Act.put, List.setIfInBounds_toArray, List.set_cons_zero, List.set_cons_succ]
        refine wpAnyD_takeG (i := 25) (v := ?vv25x1) rfl (by kernel_rfl) (by kernel_rfl) (by kernel_rfl) (by kernel_rfl) (fun _ _ _ h => by cases h.1) HS1.out (by simp [Region.wanted, yielded]) ?hy25x1 ?_
        case hy25x1 => intro wy hSw; obtain ⟨y0, y1, y2⟩ := hSw; go_simp; try with_reducible rfl
        simp only [Act.put, List.setIfInBounds_toArray, List.set_cons_zero, List.set_cons_succ]
        refine wpAnyD_takeL (i := 26) (v := ?vv26x1) rfl (by kernel_rfl) (by kernel_rfl) (by kernel_rfl) (by kernel_rfl) (fun _ _ _ h => by cases h.1) HS1.out rfl ?hy26x1 ?_
        case hy26x1 => intro wy hSw; obtain ⟨y0, y1, y2⟩ := hSw; go_simp; try with_reducible rfl
        simp only [Act.put, List.setIfInBounds_toArray, List.set_cons_zero, List.set_cons_succ]
        refine wpAnyD_done (by kernel_rfl) ?_ _
        refine ⟨rfl, ?_⟩
        go_wp2_with fail
        go_roundw
        case rel => exact ⟨m + 1, _, _, _, _, _, _, _, by omega, by go_num, HPN.out, by have := HGN.out.1; omega, by have := HGN.out.2; omega, HLN.out, HBN.out⟩
        case measure => simp [RowKit.intOf]; omega
      · obtain rfl : m = al.length := by omega
        have hmn : ¬ (al.length : Int) < (al.length : Int) := by omega
        clear hmn
        have hzw : wr.heap.size < (wr.alloc (.cells #[.int .i64 0] 3)).heap.size := by simp
        obtain ⟨WN, hWN⟩ : ∃ WN, wr.alloc (.cells #[.int .i64 0] 3) = WN := ⟨_, rfl⟩
        rw [hWN] at hzw
        have hbN : Below wr.heap.size wr WN := by rw [← hWN]; exact below_new wr _
        have hNV := At.new wr [.int .i64 0] 3
        rw [show wr.alloc (.cells [Value.int .i64 0].toArray 3) = WN from hWN] at hNV
        have HNV := hidb hNV
        have HBN := hidb hbN
        have HWN := hidb hWN
        have hPN := HPW.out.keep hbN
        have AL := hidb (all_any hPN.hb (by omega) hPN.num)
        clear hWN hbN hNV hPN
        go_wp2_with fail
        rw [HWN.out]
        refine AL.out.mono ?_
        rintro e wa ⟨nv, gr, cap, rfl, hba, hnv, hgr, hng, hcn, hrow⟩
        have HGA := hidb (And.intro hnv (And.intro hgr (And.intro hng (And.intro hcn hrow))))
        have HBA := hidb hba
        clear hba hnv hgr hng hcn hrow AL
        go_wp2_with fail
        obtain ⟨ga, gc, rfl⟩ := own_sl HPW.out.hr.row
        have hsN := HBN.out.size
        have hsA := HBA.out.size
        have hgl : gr < wa.heap.size := (HGA.out.2.2.2.2.lt gr rfl).2
        have hNA := HNV.out.keep HBA.out
        have hwa : Below wr.heap.size wr wa := HBN.out.trans (HBA.out.mono hsN)
        have HWA := hidb hwa
        have hrvw := (HRV.out.but HBT.out (by omega)).1 0 _ rfl
        refine ipLoop (B := wr.heap.size) (RV := w2.heap.size + 2) (nv := nv) (gr := gr) (cap := cap) HPW.out (by omega) rfl hrvw.1 hwa (hNA.1 0 _ rfl).1 (hNA.1 0 _ rfl).2 (by have := HGA.out.1; omega) (by have := HGA.out.2.1; omega) HGA.out.2.2.2.1 hgl (fun j u hu => (HGA.out.2.2.2.2.cellAt j (by have := mcs_len ms; have := (List.getElem?_eq_some_iff.1 hu).1; omega)).trans hu) ?_
        intro De W hDe hKe hBe hne
        have hWW : But (fun q => q = wr.heap.size ∨ wa.heap.size ≤ q) wr W := (But.of_below hwa).trans (hBe.mono (fun q _ e => .inl e))
        have cl : ∀ (p : Addr) (v : Value), wr.cell? p = some v → W.cell? p = some v := fun p v hv => (hWW.cell (World.block_lt_of_cell? _ _ hv) (by have := World.block_lt_of_cell? _ _ hv; omega)).trans hv
        have d1 := cl _ _ hrvw.1
        have d2 := cl _ _ (HPW.out.hr.box.1 0 _ rfl).1
        have hAw : At W w.heap.size [.bool false] := ((HAL.out.but HBT.out (by omega)).but hWW (by have := HAL.out.2; omega))
        obtain ⟨d3, d4⟩ := hAw.1 0 _ rfl
        have HAW := hidb hAw
        have HWB : Hid (Below w.heap.size w W) := hidb (HBW.out.trans (hWW.below HBW.out.size (fun q hq => by have := HBW.out.size; omega)))
        have hKl := (Array.getElem?_eq_some_iff.1 hKe).1
        have HKE := hidb (And.intro hKe (And.intro hKl hDe))
        clear hKe hBe hWW cl hNA hwa hrvw hAw
        have HS9 : Hid (W.cell? ⟨wr.heap.size, 0, none⟩ = some (.int .i64 (ds.length : Int)) ∧ W.cell? ⟨w2.heap.size + 2, 0, none⟩ = some (.pointer (some ⟨w2.heap.size + 1, 0, none⟩)) ∧ W.cell? ⟨w2.heap.size + 1, 0, none⟩ = some (.slice ga ds.length gc)) := hidb ⟨hne, d1, d2⟩
        clear hne d1 d2 d3 d4
        go_wp2_with fail
        have HSD := hidb (show W.drew.cell? ⟨wr.heap.size, 0, none⟩ = some (.int .i64 (ds.length : Int)) ∧ W.drew.cell? ⟨w2.heap.size + 2, 0, none⟩ = some (.pointer (some ⟨w2.heap.size + 1, 0, none⟩)) ∧ W.drew.cell? ⟨w2.heap.size + 1, 0, none⟩ = some (.slice ga ds.length gc) from HS9.out)
        refine wp_region_N (fun Wz => Wz.cell? ⟨wr.heap.size, 0, none⟩ = some (.int .i64 (ds.length : Int)) ∧ Wz.cell? ⟨w2.heap.size + 2, 0, none⟩ = some (.pointer (some ⟨w2.heap.size + 1, 0, none⟩)) ∧ Wz.cell? ⟨w2.heap.size + 1, 0, none⟩ = some (.slice ga ds.length gc)) [7] (by kernel_rfl) ?_
        refine wpAnyD_takeL (i := 0) (v := ?vv0x9) rfl (by kernel_rfl) (by kernel_rfl) (by kernel_rfl) (by kernel_rfl) (fun _ _ _ h => by cases h.1) HSD.out rfl ?hy0x9 ?_
        case hy0x9 => intro wy hSw; obtain ⟨y0, y1, y2⟩ := hSw; go_simp; try with_reducible rfl
        simp only [Act.put, List.setIfInBounds_toArray, List.set_cons_zero, List.set_cons_succ]
        refine wpAnyD_takeL (i := 1) (v := ?vv1x9) rfl (by kernel_rfl) (by kernel_rfl) (by kernel_rfl) (by kernel_rfl) (fun _ _ _ h => by cases h.1) HSD.out rfl ?hy1x9 ?_
        case hy1x9 => intro wy hSw; obtain ⟨y0, y1, y2⟩ := hSw; go_simp; try with_reducible rfl
        simp only [Act.put, List.setIfInBounds_toArray, List.set_cons_zero, List.set_cons_succ]
        refine wpAnyD_takeL (i := 2) (v := ?vv2x9) rfl (by kernel_rfl) (by kernel_rfl) (by kernel_rfl) (by kernel_rfl) (fun _ _ _ h => by cases h.1) HSD.out rfl ?hy2x9 ?_
        case hy2x9 => intro wy hSw; obtain ⟨y0, y1, y2⟩ := hSw; go_simp; try with_reducible rfl
        simp only [Act.put, List.setIfInBounds_toArray, List.set_cons_zero, List.set_cons_succ]
        refine wpAnyD_takeL (i := 3) (v := ?vv3x9) rfl (by kernel_rfl) (by kernel_rfl) (by kernel_rfl) (by kernel_rfl) (fun _ _ _ h => by cases h.1) HSD.out rfl ?hy3x9 ?_
        case hy3x9 => intro wy hSw; obtain ⟨y0, y1, y2⟩ := hSw; go_simp; try with_reducible rfl
        simp only [Act.put, List.setIfInBounds_toArray, List.set_cons_zero, List.set_cons_succ]
        refine wpAnyD_takeL (i := 4) (v := ?vv4x9) rfl (by kernel_rfl) (by kernel_rfl) (by kernel_rfl) (by kernel_rfl) (fun _ _ _ h => by cases h.1) HSD.out rfl ?hy4x9 ?_
        case hy4x9 => intro wy hSw; obtain ⟨y0, y1, y2⟩ := hSw; go_simp; try with_reducible rfl
        simp only [Act.put, List.setIfInBounds_toArray, List.set_cons_zero, List.set_cons_succ]
        refine wpAnyD_takeL (i := 5) (v := ?vv5x9) rfl (by kernel_rfl) (by kernel_rfl) (by kernel_rfl) (by kernel_rfl) (fun _ _ _ h => by cases h.1) HSD.out rfl ?hy5x9 ?_
        case hy5x9 => intro wy hSw; obtain ⟨y0, y1, y2⟩ := hSw; go_simp; try with_reducible rfl
        simp only [Act.put, List.setIfInBounds_toArray, List.set_cons_zero, List.set_cons_succ]
        refine wpAnyD_takeL (i := 6) (v := ?vv6x9) rfl (by kernel_rfl) (by kernel_rfl) (by kernel_rfl) (by kernel_rfl) (fun _ _ _ h => by cases h.1) HSD.out rfl ?hy6x9 ?_
        case hy6x9 => intro wy hSw; obtain ⟨y0, y1, y2⟩ := hSw; go_simp; try with_reducible rfl
        simp only [Act.put, List.setIfInBounds_toArray, List.set_cons_zero, List.set_cons_succ]
        obtain ⟨d3, d4⟩ := (HAW.out.keep ((Below.refl _ _).drew)).1 0 _ rfl
        refine wpAnyD_stepL (i := 7) (by kernel_rfl) rfl (fun K hK => ?_)
        go_simp
        refine hK _ _ (fun h => absurd (List.mem_singleton.2 rfl) h) ?_
        clear hK K
        refine wpAnyD_done (by kernel_rfl) ?_ _
        refine ⟨rfl, ?_⟩
        go_wp2_with fail
        have hlt := HKE.out.2.1
        have hle := HKE.out.2.2
        refine retM [De] rfl (fun D hD => ?_) (by simp) (fun W' hb => ?_)
        · obtain rfl : D = De := by simpa using hD
          have hset : But (fun k => k = w.heap.size) W (W.setCell ⟨w.heap.size, 0, none⟩ (.bool true)).drew := ((But.refl (fun k => k = w.heap.size) W).setCell (p := ⟨w.heap.size, 0, none⟩) (fun _ => rfl) (.bool true)).drew
          exact (hset.block D hlt (by omega)).trans HKE.out.1
        · have hA := ((HAW.out.set (i := 0) (by simp) (.bool true)).keep ((Below.refl _ _).drew)).but hb (by simp; omega)
          refine ⟨.bool true, by simp [results, Try.results3, go_sem, (hA.1 0 _ rfl).1], rfl, ?_⟩
          have h1 : Below w.heap.size w (W.setCell ⟨w.heap.size, 0, none⟩ (.bool true)).drew := (HWB.out.setCell (by simp) _).drew
          exact h1.trans (hb.below (by have := h1.size; omega) (fun k hk => by
            have : k = De := by simpa using hk
            omega))
    · have hn' : n0 < 1 ∨ 16777216 < n0 := by omega
      go_wp2_with fail
      refine (newB_bad n0 hn' _).mono ?_
      rintro e w3 ⟨rfl, rfl⟩
      go_wp2_with fail
      refine (rnew_bad n0 hn' _).mono ?_
      rintro e w4 ⟨rfl, rfl⟩
      have hA4 := (HA2.out.set (i := 0) (by simp) (.bool true)).keep (below_new _ (.cells #[.pointer none] 29))
      have HS := hidb (And.intro hA4 ((HB2.out.setCell (p := ⟨w.heap.size, 0, none⟩) (Nat.le_refl _) (.bool true)).trans ((below_new _ (.cells #[.pointer none] 29)).mono (by simpa using HB2.out.size))))
      clear hA4
      go_wp2_with fail
      refine retM [] rfl (by simp) (by simp) (fun W' hb => ?_)
      have hA := HS.out.1.but hb (by simp)
      exact ⟨.bool true, by simp [results, Try.results3, go_sem, (hA.1 0 _ rfl).1], rfl, HS.out.2.trans (hb.below HS.out.2.size (fun k hk => by cases hk))⟩
  · have hF : (decide (al.length ≤ 400) && decide (0 ≤ fewAll (al.map Prod.snd) 60000 1000)) = false := by simpa using hfew
    rw [hF]
    clear hF hfew
    go_wp2_with fail
    refine retM [] rfl (by simp) (by simp) (fun W' hb => ?_)
    have hA := (HA2.out.set (i := 0) (by simp) (.bool true)).but hb (by simp)
    exact ⟨.bool true, by simp [results, Try.results3, go_sem, (hA.1 0 _ rfl).1], rfl, (HB2.out.setCell (by simp) _).trans (hb.below (by simpa using HB2.out.size) (fun k hk => by cases hk))⟩
end Go.Proofs.Ytogahhbckfnllaa


/- Terms that are handed in, opened: their rows are no longer than the reading's bulk. -/
namespace Go.Proofs.Ytogahhbckfnllaa
open Go.ChangeShapes Go.WideShapes Go.ChangeAt Go.WideMaps Go.WideElems Go.RowKit Go.Deep

theorem smallWAll_of {kids : List Tr} (h : ∀ t, t ∈ kids → SmallW t) : SmallWAll kids := by
  induction kids with
  | nil => simp [SmallWAll]
  | cons u r ih => simp only [SmallWAll]; exact ⟨h u (by simp), ih (fun t ht => h t (by simp [ht]))⟩

section
variable {H : Type} {enc : TypeId × Value → H} {P : Program} {w : World} {base : Nat} {spare : Nat → Bool} {held : Bool}

theorem bulk_one (d : DataW H) : 1 ≤ Rows.uptoBulk d := by
  cases d with
  | lit l => cases l <;> simp [Rows.uptoBulk]
  | _ => simp [Rows.uptoBulk]
theorem bulk_part {d : DataW H} : ∀ {l : List (DataW H)}, d ∈ l → Rows.uptoBulk d ≤ Rows.uptoBulkAll l
  | [], h => by cases h
  | x :: r, h => by
    simp only [Rows.uptoBulkAll]
    rcases List.mem_cons.1 h with rfl | h
    · omega
    · have := bulk_part h; omega
theorem bulk_len : ∀ (l : List (DataW H)), l.length ≤ Rows.uptoBulkAll l
  | [] => Nat.zero_le _
  | x :: r => by have := bulk_one x; have := bulk_len r; simp only [Rows.uptoBulkAll, List.length_cons]; omega

theorem open_bulk {e : TypeId} (T : TermType P e) : ∀ (fuel : Nat) (cs : List Value) (x : DataW H × List MemPlace), DataW.trod enc P w base spare held fuel e cs = some x →
    ∃ t : Tr, cs = t.cells ∧ t.In w base ∧ (Rows.uptoBulk x.1 ≤ 140737488355328 → SmallW t) := by
  intro fuel
  induction fuel using Nat.strongRecOn with
  | ind fuel ih =>
  intro cs x h
  obtain ⟨xs, n, hn, hx, hlen, hxl, hf⟩ := DataW.trod_struct T.under h
  rw [T.size] at hlen
  match xs, hxl, cs, hlen with
  | [y0, y1, y2, y3, y4], _, [v0, v1, v2, v3, v4], _ =>
    have g0 := hf 0 T.f0 rfl
    have g1 := hf 1 T.f1 rfl
    have g2 := hf 2 T.f2 rfl
    have g3 := hf 3 T.f3 rfl
    have g4 := hf 4 T.f4 rfl
    simp [T.o0, T.o1, T.o2, T.o3, T.o4, T.c0, T.c1, T.c2, T.c3, T.c4] at g0 g1 g2 g3 g4
    obtain ⟨k, e0, _, w0⟩ := DataW.trod_int T.u0 g0
    obtain ⟨m, e1, _, w1⟩ := DataW.trod_int T.u1 g1
    obtain ⟨f, e2, _, w2⟩ := trod_float T.u2 g2
    obtain ⟨s, e3, _, w3⟩ := DataW.trod_string T.u3 g3
    obtain rfl : v0 = .int .i64 k := by simpa using e0
    obtain rfl : v1 = .int .i64 m := by simpa using e1
    obtain rfl : v2 = .float .f64 f := by simpa using e2
    obtain rfl : v3 = .string s := by simpa using e3
    have hsub : Rows.uptoBulk y4.1 ≤ Rows.uptoBulk x.1 := by
      rw [hx]
      simp only [List.map_cons, List.map_nil, Rows.uptoBulk, Rows.uptoBulkAll]
      omega
    rcases DataW.trod_slice T.u4 g4 with ⟨e4, _⟩ | ⟨a, len, cap, elems, rest, q, hq, e4, hy4, hb, hl, hm, hel, hx4, _, _⟩
    · obtain rfl : v4 = .slice none 0 0 := by simpa using e4
      refine ⟨.mk k m f s none 0 [], rfl, ?_, fun _ => by simp [SmallW, SmallWAll]⟩
      unfold Tr.In
      exact ⟨⟨w0, w1, w2, w3, Nat.le_refl _, Nat.zero_le _, fun _ => rfl⟩, fun ad h => by simp at h⟩
    · obtain rfl : v4 = .slice (some a) len cap := by simpa using e4
      have each : ∀ i, i < len → ∃ t : Tr, (∀ j, j < 5 → w.cell? ((a.add (i * 5)).add j) = t.cells[j]?) ∧ t.In w base ∧ (Rows.uptoBulk x.1 ≤ 140737488355328 → SmallW t) := by
        intro i hi
        have hb := hx4 i hi
        have hsome : elems[i]? = some (elems[i]'(by omega)) := List.getElem?_eq_getElem (by omega)
        rw [hsome, T.size, Option.bind_eq_some_iff] at hb
        obtain ⟨cs', hc, ht⟩ := hb
        obtain ⟨t, ht1, ht2, ht3⟩ := ih q (by omega) cs' _ ht
        refine ⟨t, fun j hj => ?_, ht2, fun hall => ht3 (Nat.le_trans ?_ (Nat.le_trans hsub hall))⟩
        · have := (World.cells?_some hc).2.2 j hj
          rw [this, ht1]
        · rw [hy4]
          have h5 := bulk_part (List.mem_map_of_mem (f := fun x => x.1) (List.getElem_mem (l := elems) (n := i) (by omega)))
          simp only [Rows.uptoBulk]
          omega
      obtain ⟨tf, htf⟩ : ∃ tf : Nat → Tr, ∀ i, i < len → (∀ j, j < 5 → w.cell? ((a.add (i * 5)).add j) = (tf i).cells[j]?) ∧ (tf i).In w base ∧ (Rows.uptoBulk x.1 ≤ 140737488355328 → SmallW (tf i)) := by
        refine ⟨fun i => if h : i < len then Classical.choose (each i h) else .mk 0 0 0 ⟨#[]⟩ none 0 [], fun i hi => ?_⟩
        simp only [hi, dif_pos]
        exact Classical.choose_spec (each i hi)
      refine ⟨.mk k m f s (some a) cap ((List.range len).map tf), by simp [Tr.cells], ?_, fun hall => ?_⟩
      · unfold Tr.In
        refine ⟨⟨w0, w1, w2, w3, by simpa using hl, hm, fun h => by simp at h⟩, fun ad had => ?_⟩
        obtain rfl : a = ad := by simpa using had
        refine ⟨hb, inAll_of fun j t hj => ?_⟩
        have hj' : j < len := by
          rcases Nat.lt_or_ge j len with h | h
          · exact h
          · rw [List.getElem?_eq_none (by simpa using h)] at hj; simp at hj
        rw [List.getElem?_map, List.getElem?_range hj'] at hj
        obtain rfl : tf j = t := by simpa using hj
        exact ⟨(htf j hj').1, (htf j hj').2.1⟩
      · simp only [SmallW]
        refine ⟨?_, smallWAll_of fun t ht => ?_⟩
        · rw [hy4] at hsub
          have h5 := bulk_len (elems.map (fun x => x.1))
          simp only [Rows.uptoBulk] at hsub
          rw [List.length_map] at h5
          rw [List.length_map, List.length_range]
          omega
        · obtain ⟨i, hi, rfl⟩ := List.mem_map.1 ht
          exact (htf i (by simpa using hi)).2.2 hall

/-- A row of terms that is handed in, opened. -/
theorem open_row_bulk {e u : TypeId} (T : TermType P e) (hu : P.underlying u = some (.slice e)) {fuel : Nat} {cs : List Value} {x : DataW H × List MemPlace} (h : DataW.trod enc P w base spare held fuel u cs = some x) :
    ∃ (a : Option Addr) (c : Nat) (kids : List Tr), cs = [.slice a kids.length c] ∧ (Tr.mk 0 0 0 ⟨#[]⟩ a c kids).In w base ∧ kids.length ≤ Rows.uptoBulk x.1 ∧ (Rows.uptoBulk x.1 ≤ 140737488355328 → ∀ t, t ∈ kids → SmallW t) := by
  rcases DataW.trod_slice hu h with ⟨e4, _⟩ | ⟨a, len, cap, elems, rest, q, hq, e4, hy4, hb, hl, hm, hel, hx4, _, _⟩
  · refine ⟨none, 0, [], e4, ?_, Nat.zero_le _, fun _ t h => by simp at h⟩
    unfold Tr.In
    exact ⟨⟨by decide, by decide, by decide, by show (0 : Nat) ≤ maxLen; exact Nat.zero_le _, Nat.le_refl _, Nat.zero_le _, fun _ => rfl⟩, fun ad h => by simp at h⟩
  · have each : ∀ i, i < len → ∃ t : Tr, (∀ j, j < 5 → w.cell? ((a.add (i * 5)).add j) = t.cells[j]?) ∧ t.In w base ∧ (Rows.uptoBulk x.1 ≤ 140737488355328 → SmallW t) := by
      intro i hi
      have hb := hx4 i hi
      have hsome : elems[i]? = some (elems[i]'(by omega)) := List.getElem?_eq_getElem (by omega)
      rw [hsome, T.size, Option.bind_eq_some_iff] at hb
      obtain ⟨cs', hc, ht⟩ := hb
      obtain ⟨t, ht1, ht2, ht3⟩ := open_bulk T q cs' _ ht
      refine ⟨t, fun j hj => ?_, ht2, fun hall => ht3 (Nat.le_trans ?_ hall)⟩
      · have := (World.cells?_some hc).2.2 j hj
        rw [this, ht1]
      · rw [hy4]
        have h5 := bulk_part (List.mem_map_of_mem (f := fun x => x.1) (List.getElem_mem (l := elems) (n := i) (by omega)))
        simp only [Rows.uptoBulk]
        omega
    obtain ⟨tf, htf⟩ : ∃ tf : Nat → Tr, ∀ i, i < len → (∀ j, j < 5 → w.cell? ((a.add (i * 5)).add j) = (tf i).cells[j]?) ∧ (tf i).In w base ∧ (Rows.uptoBulk x.1 ≤ 140737488355328 → SmallW (tf i)) := by
      refine ⟨fun i => if h : i < len then Classical.choose (each i h) else .mk 0 0 0 ⟨#[]⟩ none 0 [], fun i hi => ?_⟩
      simp only [hi, dif_pos]
      exact Classical.choose_spec (each i hi)
    refine ⟨some a, cap, (List.range len).map tf, by rw [e4]; simp, ?_, ?_, fun hall t ht => ?_⟩
    · unfold Tr.In
      refine ⟨⟨by decide, by decide, by decide, by show (0 : Nat) ≤ maxLen; exact Nat.zero_le _, by simpa using hl, hm, fun h => by simp at h⟩, fun ad had => ?_⟩
      obtain rfl : a = ad := by simpa using had
      refine ⟨hb, inAll_of fun j t hj => ?_⟩
      have hj' : j < len := by
        rcases Nat.lt_or_ge j len with h | h
        · exact h
        · rw [List.getElem?_eq_none (by simpa using h)] at hj; simp at hj
      rw [List.getElem?_map, List.getElem?_range hj'] at hj
      obtain rfl : tf j = t := by simpa using hj
      exact ⟨(htf j hj').1, (htf j hj').2.1⟩
    · rw [hy4]
      have h5 := bulk_len (elems.map (fun x => x.1))
      rw [List.length_map] at h5
      rw [List.length_map, List.length_range]
      simp only [Rows.uptoBulk]
      omega
    · obtain ⟨i, hi, rfl⟩ := List.mem_map.1 ht
      exact (htf i (by simpa using hi)).2.2 hall
end
end Go.Proofs.Ytogahhbckfnllaa


