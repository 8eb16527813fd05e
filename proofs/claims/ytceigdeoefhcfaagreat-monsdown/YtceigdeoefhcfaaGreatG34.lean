import Derived.Test.YtceigdeoefhcfaaGreatG33
import Derived.Deep.RegionHeld3
import Derived.Deep.RegionWith
import Derived.BigQuiet
import Derived.WalkSmall
/- MonsDown: moves 3 and 4, walked. -/
namespace Go.Proofs.YtceigdeoefhcfaaGreat
open Go.RowKit Go.Lib
open MV (Hf hf0 getL insL delL Rise Wfk TB Nw Rst KV MnT mvs)
attribute [local go_sem] store_float f64bits
attribute [local go_sem ↓] Go.wp_at_zero Go.wp_at_succ

variable {Yg : Nat → Prop} {wG : World} {w0 w w' : World} {wb ta tb eb N refs : Nat} {O T O' T' : List KV} {p q : List Sg} {dead : Bool} {dn : List Nat}
theorem pure16 {sr : Int} {n c refs L : Nat} (hn : sr = (n : Int) + 1) (hnr : n < refs) (hl : L = refs) (hr : refs ≤ 3000) (hc : c ≤ 1) : (1 : Int) ≤ sr ∧ sr ≤ (L : Int) ∧ wrap64 (sr - 1) = (n : Int) ∧ (0 : Int) ≤ (n : Int) ∧ (n : Int) < (L : Int) ∧ wrap64 ((c : Int) + 1) = ((c + 1 : Nat) : Int) ∧ (sr - 1 = (n : Int) ∧ IntKind.i64.wrap (n : Int) = (n : Int) ∧ n < L ∧ IntKind.i64.wrap ((c : Int) + 1) = (c : Int) + 1) := by
  refine ⟨by omega, by omega, by unfold wrap64; omega, by omega, by omega, by unfold wrap64; omega, by omega, ?_, by omega, ?_⟩
  · rw [IntKind.wrap_i64]; omega
  · rw [IntKind.wrap_i64]; omega

theorem gen_wp {p : Program} {c : Code} {K : Exit → Act → World → Prop} {a : Act} {W : World} {R : World → Prop} (H : R W) (h : ∀ W, R W → Code.wp p c K a W) : Code.wp p c K a W := h W H

set_option maxRecDepth 100000 in
set_option maxHeartbeats 8000000 in
theorem does3_some {g : Int → Prop} {i : Nat} {s : Sg} (h : DL Yg wG NoX w0 w wb ta tb eb O T p (s :: q) dead refs dn N) (hi : Iv g i O T p (s :: q) dead refs dn N) (hN : i ≤ 3000) (rf : Int) :
    Calls Tryz.prog 7 #[.pointer (some ⟨wb, 0, none⟩), .agg #[.int .i64 3, .int .i64 rf]] w (DoQ Yg wG g i p.length q.length w0 wb ta tb eb) := by
  have hbs := hi.bs
  obtain ⟨W1, hW1⟩ : ∃ W1, w.alloc (.cells #[.int .i64 3, .int .i64 rf] 34) = W1 := ⟨_, rfl⟩
  have hb1 : Below w.heap.size w W1 := hW1 ▸ below_new _ _
  have hD1 : Duo W1 w.heap.size (.int .i64 3) (.int .i64 rf) := hW1 ▸ Duo.new _ _ _ _
  have hlw : w.heap.size < W1.heap.size := by rw [← hW1]; simp
  have hnw : w.heap.size ≠ W1.heap.size := by omega
  obtain ⟨V0, hS0, -, -, -⟩ := h.box
  have hwl := hS0.lt
  have hwl1 : wb < W1.heap.size := by omega
  have hwn : wb ≠ w.heap.size := by omega
  have hwn1 : wb ≠ W1.heap.size := by omega
  have hS1 := hS0.own hb1
  have n0 := hD1.c0
  have n1 := hD1.c1
  have k0 := hS1.c0; have k1 := hS1.c1; have k2 := hS1.c2; have k3 := hS1.c3
  have HB1 := hidb hb1
  have hsq := hbs.fq s (by simp)
  have hb9 := hbs.b
  have ha9 := hbs.a
  have hr9 := hbs.r
  have CT : Hid (Calls Tryz.prog 16 #[.pointer (some ⟨eb, 0, none⟩), .int .i64 2, .int .i64 1] W1 fun e w2 => e = .returned (.tuple #[sgv 2 1 s, .bool true]) ∧ w2.cell? ⟨wb, 0, none⟩ = some (.pointer (some ⟨ta, 0, none⟩)) ∧ wb < w2.heap.size ∧ Hid (DL Yg wG NoX w0 w2 wb ta tb eb O T p q dead refs dn N)) := hidb (((h.keep hb1).take21 (by omega) (by simp at ha9; omega)).mono (by
    rintro e w2 ⟨rfl, hd2, -⟩
    obtain ⟨V2, hS2, -, -, -⟩ := hd2.box
    exact ⟨rfl, hS2.c0, hS2.lt, hidb hd2⟩))
  have HIV := hidb hi
  obtain ⟨sk, sr, stk, sts⟩ := s
  have HSQ := hidb hsq
  clear hsq ha9 hb9 hr9
  clear hS0 hS1 hD1 hb1 h hi
  go_enter Tryz.func7, Tryz.ntmps7
  go_wp2_with (go_at_call 16; refine CT.out.mono ?_; rintro e w2 ⟨rfl, m0, hwl2, HD2⟩)
  obtain ⟨W3, hW3⟩ : ∃ W3, w2.alloc (.cells #[.int .i64 2, .int .i64 1, .int .i64 sk, .int .i64 0, .int .i64 sr, .bool false, .string ⟨#[]⟩, .int .i64 stk, .int .i64 0, .float .f64 0, .string sts, .slice none 0 0] 64) = W3 := ⟨_, rfl⟩
  rw [hW3]
  have hb3 : Below w2.heap.size w2 W3 := hW3 ▸ below_new _ _
  have P4 : W3.cell? ⟨w2.heap.size, 4, none⟩ = some (.int .i64 sr) := by rw [← hW3, World.cell?_alloc_new]; rfl
  have hl3 : w2.heap.size < W3.heap.size := by rw [← hW3]; simp
  have hn3 : w2.heap.size ≠ W3.heap.size := by omega
  have hw3 : wb < W3.heap.size := by omega
  have hwn3 : wb ≠ W3.heap.size := by omega
  have hwn2 : wb ≠ w2.heap.size := by omega
  have m3 : W3.cell? ⟨wb, 0, none⟩ = some (.pointer (some ⟨ta, 0, none⟩)) := (hb3.cell (p := ⟨wb, 0, none⟩) hwl2).trans m0
  have HB3 := hidb hb3
  have CD : Hid (∀ W, Below w2.heap.size w2 W → Calls Tryz.prog 12 #[.pointer (some ⟨ta, 0, none⟩), .int .i64 sr] W fun e w4 => e = .returned (.tuple #[.agg #[.int .i64 ((getL sr O).getD hf0).a, .int .i64 ((getL sr O).getD hf0).b, .string ((getL sr O).getD hf0).c], .bool (isK sr O)]) ∧ But (fun k => ¬ (w2.heap.size ≤ k ∧ k < W.heap.size)) W w4 ∧ Hid (∀ W', But (fun k => w2.heap.size ≤ k ∧ k < W.heap.size) w4 W' → DL Yg wG NoX w0 W' wb ta tb eb (delL sr O) T p q dead refs dn N)) := hidb (fun W hW => by
    have hdW : DL Yg wG (fun k => w2.heap.size ≤ k ∧ k < W.heap.size) w0 W wb ta tb eb O T p q dead refs dn N := HD2.out.turn hW (fun k hk => hk)
    refine (hdW.opA (O' := delL sr O) (R := fun e => e = .returned (.tuple #[.agg #[.int .i64 ((getL sr O).getD hf0).a, .int .i64 ((getL sr O).getD hf0).b, .string ((getL sr O).getD hf0).c], .bool (isK sr O)])) (fun D hD => (mdown_any hD (by have := olen hbs; have := hbs.r; omega) sr).mono (by rintro e w' ⟨rfl, hu⟩; exact ⟨rfl, hu⟩))).mono ?_
    rintro e w4 ⟨rfl, hd4, hb4⟩
    exact ⟨rfl, hb4, hidb (fun W' hb => (hd4.poke hb).turn (Below.refl _ _) (fun _ hk => hk.elim))⟩)
  clear hW3 hb3 hbs HD2 CT n0 n1 k0 k1 k2 k3 hwl hwl1 hwn hwn1 hlw hnw m0 HB1
  cases hk : isK sr O with
  | false =>
    rw [hk] at CD
    have HF := hidb (HIV.out.m3 (.inl ⟨hk, rfl⟩))
    clear hk HIV HSQ
    generalize ((getL sr O).getD hf0) = gg at *
    go_region_with (go_at_call 12; refine (CD.out _ (by (repeat (first | exact HB3.out | refine Below.drew ?_ | refine Below.alloc ?_ (by (first | omega | (simp; omega))) _)))).mono ?_; rintro e w4 ⟨rfl, hb4, HR⟩; have hs4 := hb4.size; (first | (have P5 : Tri w4 W3.heap.size (.int .i64 0) (.int .i64 0) (.string ⟨#[]⟩) := ((Tri.new W3 40 (.int .i64 0) (.int .i64 0) (.string ⟨#[]⟩)).keep ((Below.refl _ _).drew)).but hb4 (fun hh => hh ⟨by omega, (show W3.heap.size < (W3.alloc _).heap.size by simp)⟩); have r0 := P5.c0; have r1 := P5.c1; have r2 := P5.c2; have r3 := P5.f0; have r4 := P5.f1; have r5 := P5.f2) | skip); have hs8 : W3.heap.size ≤ w4.heap.size := (Nat.le_trans (by first | exact Nat.le_refl _ | (show W3.heap.size ≤ (W3.alloc _).heap.size; simp)) hs4); have hwn4 : wb ≠ w4.heap.size := (by omega); have hwl4 : wb < w4.heap.size := (by omega); have hnn4 : w2.heap.size ≠ w4.heap.size := (by omega); have hll4 : w2.heap.size < w4.heap.size := (by omega); have q4 : w4.cell? ⟨w2.heap.size, 4, none⟩ = some (.int .i64 sr) := ((hb4.cell (p := ⟨w2.heap.size, 4, none⟩) (by first | (simp; omega) | (show w2.heap.size < (W3.alloc _).heap.size; simp; omega) | (show w2.heap.size < W3.heap.size; omega)) (fun hh => hh ⟨Nat.le_refl _, by first | (simp; omega) | (show w2.heap.size < (W3.alloc _).heap.size; simp; omega) | (show w2.heap.size < W3.heap.size; omega)⟩)).trans (by first | exact P4 | exact ((below_new W3 _).cell (p := ⟨w2.heap.size, 4, none⟩) hl3).trans P4)); skip)
    all_goals go_wp2_with fail
    all_goals try simp only [List.getElem_toArray, List.getElem_cons_succ, List.getElem_cons_zero, Act.put, List.setIfInBounds_toArray, List.set_cons_zero, List.set_cons_succ]
    all_goals go_big_quiet (fail)
    all_goals go_wp2_with fail
    all_goals exact bodyPost_end (v := .tuple #[]) (by simp [results, Tryz.results7, go_sem]) rfl ⟨rfl, _, _, _, _, _, _, _, _, HR.out _ (by (repeat (first | exact But.refl _ _ | refine But.drew ?_ | refine But.trans ?_ (But.of_below (below_drewN (Below.refl _ _) _)) | refine But.alloc ?_ _ | refine But.setCell ?_ (fun _ => ⟨by simp only; omega, by first | (simp; done) | (simp; omega) | (show W3.heap.size < (W3.alloc _).heap.size; simp)⟩) _))), HF.out, rfl, Nat.le_refl _⟩
  | true =>
    rw [hk] at CD
    obtain ⟨n, hn⟩ : ∃ n : Nat, sr = (n : Int) + 1 := ⟨(sr - 1).toNat, by have := HSQ.out.2.2.2; omega⟩
    have hnr : n < refs := by have := HSQ.out.2.2.2; omega
    have hlen := HIV.out.bs.l
    have hri := HIV.out.bs.r
    obtain ⟨c, hc⟩ : ∃ c, dn[n]? = some c := ⟨_, List.getElem?_eq_getElem (by omega)⟩
    have hgd : dn.getD n 0 = c := by rw [List.getD_eq_getElem?_getD, hc]; rfl
    have HF := hidb (HIV.out.m3 (.inr ⟨hk, n, hn, hnr, rfl⟩))
    rw [hgd] at HF
    have hc1 := (HIV.out.bs.c n c hc).1
    have HRW : Hid (∀ w4, DL Yg wG NoX w0 w4 wb ta tb eb (delL sr O) T p q dead refs dn N → ∃ gv cap, w4.cell? ⟨wb, 5, none⟩ = some (.slice (some ⟨gv, 0, none⟩) dn.length cap) ∧ w4.cell? ⟨gv, n, none⟩ = some (.int .i64 (c : Int)) ∧ w4.frozen? ⟨gv, n, none⟩ = false ∧ gv < w4.heap.size ∧ gv ≠ wb) := hidb (fun w4 hd => hd.row hc)
    obtain ⟨v1, v2, v3, v4, v5, v6, hv3⟩ := pure16 hn hnr hlen (Nat.le_trans hri hN) hc1
    have HV3 := hidb hv3
    clear hv3
    clear hk HIV HSQ hn hnr hlen hri hc hgd hc1
    generalize ((getL sr O).getD hf0) = gg at *
    go_region_with (go_at_call 12; refine (CD.out _ (by (repeat (first | exact HB3.out | refine Below.drew ?_ | refine Below.alloc ?_ (by (first | omega | (simp; omega))) _)))).mono ?_; rintro e w4 ⟨rfl, hb4, HR⟩; have hs4 := hb4.size; (first | (have P5 : Tri w4 W3.heap.size (.int .i64 0) (.int .i64 0) (.string ⟨#[]⟩) := ((Tri.new W3 40 (.int .i64 0) (.int .i64 0) (.string ⟨#[]⟩)).keep ((Below.refl _ _).drew)).but hb4 (fun hh => hh ⟨by omega, (show W3.heap.size < (W3.alloc _).heap.size by simp)⟩); have r0 := P5.c0; have r1 := P5.c1; have r2 := P5.c2; have r3 := P5.f0; have r4 := P5.f1; have r5 := P5.f2) | skip); have hs8 : W3.heap.size ≤ w4.heap.size := (Nat.le_trans (by first | exact Nat.le_refl _ | (show W3.heap.size ≤ (W3.alloc _).heap.size; simp)) hs4); have hwn4 : wb ≠ w4.heap.size := (by omega); have hwl4 : wb < w4.heap.size := (by omega); have hnn4 : w2.heap.size ≠ w4.heap.size := (by omega); have hll4 : w2.heap.size < w4.heap.size := (by omega); have q4 : w4.cell? ⟨w2.heap.size, 4, none⟩ = some (.int .i64 sr) := ((hb4.cell (p := ⟨w2.heap.size, 4, none⟩) (by first | (simp; omega) | (show w2.heap.size < (W3.alloc _).heap.size; simp; omega) | (show w2.heap.size < W3.heap.size; omega)) (fun hh => hh ⟨Nat.le_refl _, by first | (simp; omega) | (show w2.heap.size < (W3.alloc _).heap.size; simp; omega) | (show w2.heap.size < W3.heap.size; omega)⟩)).trans (by first | exact P4 | exact ((below_new W3 _).cell (p := ⟨w2.heap.size, 4, none⟩) hl3).trans P4)); obtain ⟨gv, cap, z5, zc, zf, zl, zw⟩ := HRW.out _ (HR.out _ (But.refl _ _)); have zn4 : gv ≠ w4.heap.size := (by omega))
    all_goals go_wp2_with fail
    all_goals (have u1 : decide ((1 : Int) ≤ sr) = true := (by simpa using v1); have u2 : decide (sr ≤ (dn.length : Int)) = true := (by simpa using v2))
    all_goals try simp only [List.getElem_toArray, List.getElem_cons_succ, List.getElem_cons_zero, Act.put, List.setIfInBounds_toArray, List.set_cons_zero, List.set_cons_succ]
    all_goals go_big_quiet (fail)
    all_goals go_wp2_with fail
    all_goals (refine gen_wp (R := fun W6 => DL Yg wG NoX w0 W6 wb ta tb eb (delL sr O) T p q dead refs dn N ∧ W6.cell? ⟨w2.heap.size, 4, none⟩ = some (.int .i64 sr)) ⟨HR.out _ (by (repeat (first | exact But.refl _ _ | refine But.drew ?_ | refine But.trans ?_ (But.of_below (below_drewN (Below.refl _ _) _)) | refine But.alloc ?_ _ | refine But.setCell ?_ (fun _ => ⟨by simp only; omega, by first | (simp; done) | (simp; omega) | (show W3.heap.size < (W3.alloc _).heap.size; simp)⟩) _))), ((show But (fun k => k = W3.heap.size) w4 _ by (repeat (first | exact But.refl _ _ | refine But.drew ?_ | refine But.trans ?_ (But.of_below (below_drewN (Below.refl _ _) _)) | refine But.alloc ?_ _ | refine But.setCell ?_ (fun _ => by rfl) _))).cell (p := ⟨w2.heap.size, 4, none⟩) hll4 (fun e => hn3 e)).trans q4⟩ ?_; clear HR q4 z5 zc zf zl zw zn4; (try clear r0 r1 r2 r3 r4 r5); (try clear P5); rintro W6 ⟨HD6, q6⟩; obtain ⟨gv, cap, z5, zc, zf, zl, zw⟩ := HRW.out _ HD6; have HB := hidb (HD6.bump (n := n) (c := c + 1) z5); clear HD6)
    · obtain ⟨v3', v3b, v5n, v6b⟩ := HV3.out
      have HS0 : Hid (W6.cell? ⟨wb, 5, none⟩ = some (.slice (some ⟨gv, 0, none⟩) dn.length cap) ∧ W6.cell? ⟨w2.heap.size, 4, none⟩ = some (.int .i64 sr) ∧ W6.cell? ⟨gv, n, none⟩ = some (.int .i64 (c : Int))) := hidb ⟨z5, q6, zc⟩
      refine wp_region_D (fun w' => w'.cell? ⟨wb, 5, none⟩ = some (.slice (some ⟨gv, 0, none⟩) dn.length cap) ∧ w'.cell? ⟨w2.heap.size, 4, none⟩ = some (.int .i64 sr) ∧ w'.cell? ⟨gv, n, none⟩ = some (.int .i64 (c : Int))) [11] (by kernel_rfl) ?_
      refine wpAnyD_takeL (i := 0) (v := ?vv0_0) rfl (by kernel_rfl) (by kernel_rfl) (by kernel_rfl) (by kernel_rfl) (fun _ _ _ h => h) HS0.out rfl ?hy0_0 ?_
      case hy0_0 => intro wy hSw; obtain ⟨t1, t2, t3⟩ := hSw; go_simp; try with_reducible rfl
      simp only [Act.put, List.setIfInBounds_toArray, List.set_cons_zero, List.set_cons_succ]
      refine wpAnyD_takeL (i := 1) (v := ?vv0_1) rfl (by kernel_rfl) (by kernel_rfl) (by kernel_rfl) (by kernel_rfl) (fun _ _ _ h => h) HS0.out rfl ?hy0_1 ?_
      case hy0_1 => intro wy hSw; obtain ⟨t1, t2, t3⟩ := hSw; go_simp; try with_reducible rfl
      simp only [Act.put, List.setIfInBounds_toArray, List.set_cons_zero, List.set_cons_succ]
      refine wpAnyD_takeL (i := 2) (v := ?vv0_2) rfl (by kernel_rfl) (by kernel_rfl) (by kernel_rfl) (by kernel_rfl) (fun _ _ _ h => h) HS0.out rfl ?hy0_2 ?_
      case hy0_2 => intro wy hSw; obtain ⟨t1, t2, t3⟩ := hSw; go_simp; try with_reducible rfl
      simp only [Act.put, List.setIfInBounds_toArray, List.set_cons_zero, List.set_cons_succ]
      refine wpAnyD_takeL (i := 3) (v := ?vv0_3) rfl (by kernel_rfl) (by kernel_rfl) (by kernel_rfl) (by kernel_rfl) (fun _ _ _ h => h) HS0.out rfl ?hy0_3 ?_
      case hy0_3 => intro wy hSw; obtain ⟨t1, t2, t3⟩ := hSw; go_simp; try with_reducible rfl
      simp only [Act.put, List.setIfInBounds_toArray, List.set_cons_zero, List.set_cons_succ]
      refine wpAnyD_takeL (i := 4) (v := ?vv0_4) rfl (by kernel_rfl) (by kernel_rfl) (by kernel_rfl) (by kernel_rfl) (fun _ _ _ h => h) HS0.out rfl ?hy0_4 ?_
      case hy0_4 => intro wy hSw; obtain ⟨t1, t2, t3⟩ := hSw; go_simp; try with_reducible rfl
      simp only [Act.put, List.setIfInBounds_toArray, List.set_cons_zero, List.set_cons_succ]
      refine wpAnyD_takeL (i := 5) (v := ?vv0_5) rfl (by kernel_rfl) (by kernel_rfl) (by kernel_rfl) (by kernel_rfl) (fun _ _ _ h => h) HS0.out rfl ?hy0_5 ?_
      case hy0_5 => intro wy hSw; obtain ⟨t1, t2, t3⟩ := hSw; go_simp; try with_reducible rfl
      simp only [Act.put, List.setIfInBounds_toArray, List.set_cons_zero, List.set_cons_succ]
      refine wpAnyD_takeL (i := 6) (v := ?vv0_6) rfl (by kernel_rfl) (by kernel_rfl) (by kernel_rfl) (by kernel_rfl) (fun _ _ _ h => h) HS0.out rfl ?hy0_6 ?_
      case hy0_6 => intro wy hSw; obtain ⟨t1, t2, t3⟩ := hSw; go_simp; try with_reducible rfl
      simp only [Act.put, List.setIfInBounds_toArray, List.set_cons_zero, List.set_cons_succ]
      refine wpAnyD_takeL (i := 7) (v := ?vv0_7) rfl (by kernel_rfl) (by kernel_rfl) (by kernel_rfl) (by kernel_rfl) (fun _ _ _ h => h) HS0.out rfl ?hy0_7 ?_
      case hy0_7 => intro wy hSw; obtain ⟨t1, t2, t3⟩ := hSw; go_simp; try with_reducible rfl
      simp only [Act.put, List.setIfInBounds_toArray, List.set_cons_zero, List.set_cons_succ]
      refine wpAnyD_takeL (i := 8) (v := ?vv0_8) rfl (by kernel_rfl) (by kernel_rfl) (by kernel_rfl) (by kernel_rfl) (fun _ _ _ h => h) HS0.out rfl ?hy0_8 ?_
      case hy0_8 => intro wy hSw; obtain ⟨t1, t2, t3⟩ := hSw; go_simp; try with_reducible rfl
      simp only [Act.put, List.setIfInBounds_toArray, List.set_cons_zero, List.set_cons_succ]
      refine wpAnyD_takeL (i := 9) (v := ?vv0_9) rfl (by kernel_rfl) (by kernel_rfl) (by kernel_rfl) (by kernel_rfl) (fun _ _ _ h => h) HS0.out rfl ?hy0_9 ?_
      case hy0_9 => intro wy hSw; obtain ⟨t1, t2, t3⟩ := hSw; go_simp; try with_reducible rfl
      simp only [Act.put, List.setIfInBounds_toArray, List.set_cons_zero, List.set_cons_succ]
      refine wpAnyD_takeL (i := 10) (v := ?vv0_10) rfl (by kernel_rfl) (by kernel_rfl) (by kernel_rfl) (by kernel_rfl) (fun _ _ _ h => h) HS0.out rfl ?hy0_10 ?_
      case hy0_10 => intro wy hSw; obtain ⟨t1, t2, t3⟩ := hSw; go_simp; try with_reducible rfl
      simp only [Act.put, List.setIfInBounds_toArray, List.set_cons_zero, List.set_cons_succ]
      refine wpAnyD_stepL (i := 11) (by kernel_rfl) rfl (fun K hK => ?_)
      go_simp
      refine hK _ _ (fun hh => absurd (List.mem_singleton.2 rfl) hh) ?_
      clear hK K
      refine wpAnyD_done (by kernel_rfl) ?_ _
      go_wp2_with fail
      exact bodyPost_end (v := .tuple #[]) (by simp [results, Tryz.results7, go_sem]) rfl ⟨rfl, _, _, _, _, _, _, _, _, HB.out.keep (by (repeat (first | exact Below.refl _ _ | assumption | refine Below.drew ?_ | refine below_drewN ?_ _ | refine Below.setCell ?_ (by simp) _ | refine Below.alloc ?_ (by (first | exact Nat.le_refl _ | (simp; done) | (simp; omega) | omega)) _ | refine Below.trans ?_ (Below.mono (by assumption) (by first | exact Nat.le_refl _ | (simp; done) | (simp; omega) | omega))))), HF.out, rfl, Nat.le_refl _⟩
    · obtain ⟨v3', v3b, v5n, v6b⟩ := HV3.out
      have HS0 : Hid (W6.cell? ⟨wb, 5, none⟩ = some (.slice (some ⟨gv, 0, none⟩) dn.length cap) ∧ W6.cell? ⟨w2.heap.size, 4, none⟩ = some (.int .i64 sr) ∧ W6.cell? ⟨gv, n, none⟩ = some (.int .i64 (c : Int))) := hidb ⟨z5, q6, zc⟩
      refine wp_region_D (fun w' => w'.cell? ⟨wb, 5, none⟩ = some (.slice (some ⟨gv, 0, none⟩) dn.length cap) ∧ w'.cell? ⟨w2.heap.size, 4, none⟩ = some (.int .i64 sr) ∧ w'.cell? ⟨gv, n, none⟩ = some (.int .i64 (c : Int))) [11] (by kernel_rfl) ?_
      refine wpAnyD_takeL (i := 0) (v := ?vv1_0) rfl (by kernel_rfl) (by kernel_rfl) (by kernel_rfl) (by kernel_rfl) (fun _ _ _ h => h) HS0.out rfl ?hy1_0 ?_
      case hy1_0 => intro wy hSw; obtain ⟨t1, t2, t3⟩ := hSw; go_simp; try with_reducible rfl
      simp only [Act.put, List.setIfInBounds_toArray, List.set_cons_zero, List.set_cons_succ]
      refine wpAnyD_takeL (i := 1) (v := ?vv1_1) rfl (by kernel_rfl) (by kernel_rfl) (by kernel_rfl) (by kernel_rfl) (fun _ _ _ h => h) HS0.out rfl ?hy1_1 ?_
      case hy1_1 => intro wy hSw; obtain ⟨t1, t2, t3⟩ := hSw; go_simp; try with_reducible rfl
      simp only [Act.put, List.setIfInBounds_toArray, List.set_cons_zero, List.set_cons_succ]
      refine wpAnyD_takeL (i := 2) (v := ?vv1_2) rfl (by kernel_rfl) (by kernel_rfl) (by kernel_rfl) (by kernel_rfl) (fun _ _ _ h => h) HS0.out rfl ?hy1_2 ?_
      case hy1_2 => intro wy hSw; obtain ⟨t1, t2, t3⟩ := hSw; go_simp; try with_reducible rfl
      simp only [Act.put, List.setIfInBounds_toArray, List.set_cons_zero, List.set_cons_succ]
      refine wpAnyD_takeL (i := 3) (v := ?vv1_3) rfl (by kernel_rfl) (by kernel_rfl) (by kernel_rfl) (by kernel_rfl) (fun _ _ _ h => h) HS0.out rfl ?hy1_3 ?_
      case hy1_3 => intro wy hSw; obtain ⟨t1, t2, t3⟩ := hSw; go_simp; try with_reducible rfl
      simp only [Act.put, List.setIfInBounds_toArray, List.set_cons_zero, List.set_cons_succ]
      refine wpAnyD_takeL (i := 4) (v := ?vv1_4) rfl (by kernel_rfl) (by kernel_rfl) (by kernel_rfl) (by kernel_rfl) (fun _ _ _ h => h) HS0.out rfl ?hy1_4 ?_
      case hy1_4 => intro wy hSw; obtain ⟨t1, t2, t3⟩ := hSw; go_simp; try with_reducible rfl
      simp only [Act.put, List.setIfInBounds_toArray, List.set_cons_zero, List.set_cons_succ]
      refine wpAnyD_takeL (i := 5) (v := ?vv1_5) rfl (by kernel_rfl) (by kernel_rfl) (by kernel_rfl) (by kernel_rfl) (fun _ _ _ h => h) HS0.out rfl ?hy1_5 ?_
      case hy1_5 => intro wy hSw; obtain ⟨t1, t2, t3⟩ := hSw; go_simp; try with_reducible rfl
      simp only [Act.put, List.setIfInBounds_toArray, List.set_cons_zero, List.set_cons_succ]
      refine wpAnyD_takeL (i := 6) (v := ?vv1_6) rfl (by kernel_rfl) (by kernel_rfl) (by kernel_rfl) (by kernel_rfl) (fun _ _ _ h => h) HS0.out rfl ?hy1_6 ?_
      case hy1_6 => intro wy hSw; obtain ⟨t1, t2, t3⟩ := hSw; go_simp; try with_reducible rfl
      simp only [Act.put, List.setIfInBounds_toArray, List.set_cons_zero, List.set_cons_succ]
      refine wpAnyD_takeL (i := 7) (v := ?vv1_7) rfl (by kernel_rfl) (by kernel_rfl) (by kernel_rfl) (by kernel_rfl) (fun _ _ _ h => h) HS0.out rfl ?hy1_7 ?_
      case hy1_7 => intro wy hSw; obtain ⟨t1, t2, t3⟩ := hSw; go_simp; try with_reducible rfl
      simp only [Act.put, List.setIfInBounds_toArray, List.set_cons_zero, List.set_cons_succ]
      refine wpAnyD_takeL (i := 8) (v := ?vv1_8) rfl (by kernel_rfl) (by kernel_rfl) (by kernel_rfl) (by kernel_rfl) (fun _ _ _ h => h) HS0.out rfl ?hy1_8 ?_
      case hy1_8 => intro wy hSw; obtain ⟨t1, t2, t3⟩ := hSw; go_simp; try with_reducible rfl
      simp only [Act.put, List.setIfInBounds_toArray, List.set_cons_zero, List.set_cons_succ]
      refine wpAnyD_takeL (i := 9) (v := ?vv1_9) rfl (by kernel_rfl) (by kernel_rfl) (by kernel_rfl) (by kernel_rfl) (fun _ _ _ h => h) HS0.out rfl ?hy1_9 ?_
      case hy1_9 => intro wy hSw; obtain ⟨t1, t2, t3⟩ := hSw; go_simp; try with_reducible rfl
      simp only [Act.put, List.setIfInBounds_toArray, List.set_cons_zero, List.set_cons_succ]
      refine wpAnyD_takeL (i := 10) (v := ?vv1_10) rfl (by kernel_rfl) (by kernel_rfl) (by kernel_rfl) (by kernel_rfl) (fun _ _ _ h => h) HS0.out rfl ?hy1_10 ?_
      case hy1_10 => intro wy hSw; obtain ⟨t1, t2, t3⟩ := hSw; go_simp; try with_reducible rfl
      simp only [Act.put, List.setIfInBounds_toArray, List.set_cons_zero, List.set_cons_succ]
      refine wpAnyD_stepL (i := 11) (by kernel_rfl) rfl (fun K hK => ?_)
      go_simp
      refine hK _ _ (fun hh => absurd (List.mem_singleton.2 rfl) hh) ?_
      clear hK K
      refine wpAnyD_done (by kernel_rfl) ?_ _
      go_wp2_with fail
      exact bodyPost_end (v := .tuple #[]) (by simp [results, Tryz.results7, go_sem]) rfl ⟨rfl, _, _, _, _, _, _, _, _, HB.out.keep (by (repeat (first | exact Below.refl _ _ | assumption | refine Below.drew ?_ | refine below_drewN ?_ _ | refine Below.setCell ?_ (by simp) _ | refine Below.alloc ?_ (by (first | exact Nat.le_refl _ | (simp; done) | (simp; omega) | omega)) _ | refine Below.trans ?_ (Below.mono (by assumption) (by first | exact Nat.le_refl _ | (simp; done) | (simp; omega) | omega))))), HF.out, rfl, Nat.le_refl _⟩
    · obtain ⟨v3', v3b, v5n, v6b⟩ := HV3.out
      have HS0 : Hid (W6.cell? ⟨wb, 5, none⟩ = some (.slice (some ⟨gv, 0, none⟩) dn.length cap) ∧ W6.cell? ⟨w2.heap.size, 4, none⟩ = some (.int .i64 sr) ∧ W6.cell? ⟨gv, n, none⟩ = some (.int .i64 (c : Int))) := hidb ⟨z5, q6, zc⟩
      refine wp_region_D (fun w' => w'.cell? ⟨wb, 5, none⟩ = some (.slice (some ⟨gv, 0, none⟩) dn.length cap) ∧ w'.cell? ⟨w2.heap.size, 4, none⟩ = some (.int .i64 sr) ∧ w'.cell? ⟨gv, n, none⟩ = some (.int .i64 (c : Int))) [11] (by kernel_rfl) ?_
      refine wpAnyD_takeL (i := 0) (v := ?vv2_0) rfl (by kernel_rfl) (by kernel_rfl) (by kernel_rfl) (by kernel_rfl) (fun _ _ _ h => h) HS0.out rfl ?hy2_0 ?_
      case hy2_0 => intro wy hSw; obtain ⟨t1, t2, t3⟩ := hSw; go_simp; try with_reducible rfl
      simp only [Act.put, List.setIfInBounds_toArray, List.set_cons_zero, List.set_cons_succ]
      refine wpAnyD_takeL (i := 1) (v := ?vv2_1) rfl (by kernel_rfl) (by kernel_rfl) (by kernel_rfl) (by kernel_rfl) (fun _ _ _ h => h) HS0.out rfl ?hy2_1 ?_
      case hy2_1 => intro wy hSw; obtain ⟨t1, t2, t3⟩ := hSw; go_simp; try with_reducible rfl
      simp only [Act.put, List.setIfInBounds_toArray, List.set_cons_zero, List.set_cons_succ]
      refine wpAnyD_takeL (i := 2) (v := ?vv2_2) rfl (by kernel_rfl) (by kernel_rfl) (by kernel_rfl) (by kernel_rfl) (fun _ _ _ h => h) HS0.out rfl ?hy2_2 ?_
      case hy2_2 => intro wy hSw; obtain ⟨t1, t2, t3⟩ := hSw; go_simp; try with_reducible rfl
      simp only [Act.put, List.setIfInBounds_toArray, List.set_cons_zero, List.set_cons_succ]
      refine wpAnyD_takeL (i := 3) (v := ?vv2_3) rfl (by kernel_rfl) (by kernel_rfl) (by kernel_rfl) (by kernel_rfl) (fun _ _ _ h => h) HS0.out rfl ?hy2_3 ?_
      case hy2_3 => intro wy hSw; obtain ⟨t1, t2, t3⟩ := hSw; go_simp; try with_reducible rfl
      simp only [Act.put, List.setIfInBounds_toArray, List.set_cons_zero, List.set_cons_succ]
      refine wpAnyD_takeL (i := 4) (v := ?vv2_4) rfl (by kernel_rfl) (by kernel_rfl) (by kernel_rfl) (by kernel_rfl) (fun _ _ _ h => h) HS0.out rfl ?hy2_4 ?_
      case hy2_4 => intro wy hSw; obtain ⟨t1, t2, t3⟩ := hSw; go_simp; try with_reducible rfl
      simp only [Act.put, List.setIfInBounds_toArray, List.set_cons_zero, List.set_cons_succ]
      refine wpAnyD_takeL (i := 5) (v := ?vv2_5) rfl (by kernel_rfl) (by kernel_rfl) (by kernel_rfl) (by kernel_rfl) (fun _ _ _ h => h) HS0.out rfl ?hy2_5 ?_
      case hy2_5 => intro wy hSw; obtain ⟨t1, t2, t3⟩ := hSw; go_simp; try with_reducible rfl
      simp only [Act.put, List.setIfInBounds_toArray, List.set_cons_zero, List.set_cons_succ]
      refine wpAnyD_takeL (i := 6) (v := ?vv2_6) rfl (by kernel_rfl) (by kernel_rfl) (by kernel_rfl) (by kernel_rfl) (fun _ _ _ h => h) HS0.out rfl ?hy2_6 ?_
      case hy2_6 => intro wy hSw; obtain ⟨t1, t2, t3⟩ := hSw; go_simp; try with_reducible rfl
      simp only [Act.put, List.setIfInBounds_toArray, List.set_cons_zero, List.set_cons_succ]
      refine wpAnyD_takeL (i := 7) (v := ?vv2_7) rfl (by kernel_rfl) (by kernel_rfl) (by kernel_rfl) (by kernel_rfl) (fun _ _ _ h => h) HS0.out rfl ?hy2_7 ?_
      case hy2_7 => intro wy hSw; obtain ⟨t1, t2, t3⟩ := hSw; go_simp; try with_reducible rfl
      simp only [Act.put, List.setIfInBounds_toArray, List.set_cons_zero, List.set_cons_succ]
      refine wpAnyD_takeL (i := 8) (v := ?vv2_8) rfl (by kernel_rfl) (by kernel_rfl) (by kernel_rfl) (by kernel_rfl) (fun _ _ _ h => h) HS0.out rfl ?hy2_8 ?_
      case hy2_8 => intro wy hSw; obtain ⟨t1, t2, t3⟩ := hSw; go_simp; try with_reducible rfl
      simp only [Act.put, List.setIfInBounds_toArray, List.set_cons_zero, List.set_cons_succ]
      refine wpAnyD_takeL (i := 9) (v := ?vv2_9) rfl (by kernel_rfl) (by kernel_rfl) (by kernel_rfl) (by kernel_rfl) (fun _ _ _ h => h) HS0.out rfl ?hy2_9 ?_
      case hy2_9 => intro wy hSw; obtain ⟨t1, t2, t3⟩ := hSw; go_simp; try with_reducible rfl
      simp only [Act.put, List.setIfInBounds_toArray, List.set_cons_zero, List.set_cons_succ]
      refine wpAnyD_takeL (i := 10) (v := ?vv2_10) rfl (by kernel_rfl) (by kernel_rfl) (by kernel_rfl) (by kernel_rfl) (fun _ _ _ h => h) HS0.out rfl ?hy2_10 ?_
      case hy2_10 => intro wy hSw; obtain ⟨t1, t2, t3⟩ := hSw; go_simp; try with_reducible rfl
      simp only [Act.put, List.setIfInBounds_toArray, List.set_cons_zero, List.set_cons_succ]
      refine wpAnyD_stepL (i := 11) (by kernel_rfl) rfl (fun K hK => ?_)
      go_simp
      refine hK _ _ (fun hh => absurd (List.mem_singleton.2 rfl) hh) ?_
      clear hK K
      refine wpAnyD_done (by kernel_rfl) ?_ _
      go_wp2_with fail
      exact bodyPost_end (v := .tuple #[]) (by simp [results, Tryz.results7, go_sem]) rfl ⟨rfl, _, _, _, _, _, _, _, _, HB.out.keep (by (repeat (first | exact Below.refl _ _ | assumption | refine Below.drew ?_ | refine below_drewN ?_ _ | refine Below.setCell ?_ (by simp) _ | refine Below.alloc ?_ (by (first | exact Nat.le_refl _ | (simp; done) | (simp; omega) | omega)) _ | refine Below.trans ?_ (Below.mono (by assumption) (by first | exact Nat.le_refl _ | (simp; done) | (simp; omega) | omega))))), HF.out, rfl, Nat.le_refl _⟩
    · obtain ⟨v3', v3b, v5n, v6b⟩ := HV3.out
      have HS0 : Hid (W6.cell? ⟨wb, 5, none⟩ = some (.slice (some ⟨gv, 0, none⟩) dn.length cap) ∧ W6.cell? ⟨w2.heap.size, 4, none⟩ = some (.int .i64 sr) ∧ W6.cell? ⟨gv, n, none⟩ = some (.int .i64 (c : Int))) := hidb ⟨z5, q6, zc⟩
      refine wp_region_D (fun w' => w'.cell? ⟨wb, 5, none⟩ = some (.slice (some ⟨gv, 0, none⟩) dn.length cap) ∧ w'.cell? ⟨w2.heap.size, 4, none⟩ = some (.int .i64 sr) ∧ w'.cell? ⟨gv, n, none⟩ = some (.int .i64 (c : Int))) [11] (by kernel_rfl) ?_
      refine wpAnyD_takeL (i := 0) (v := ?vv3_0) rfl (by kernel_rfl) (by kernel_rfl) (by kernel_rfl) (by kernel_rfl) (fun _ _ _ h => h) HS0.out rfl ?hy3_0 ?_
      case hy3_0 => intro wy hSw; obtain ⟨t1, t2, t3⟩ := hSw; go_simp; try with_reducible rfl
      simp only [Act.put, List.setIfInBounds_toArray, List.set_cons_zero, List.set_cons_succ]
      refine wpAnyD_takeL (i := 1) (v := ?vv3_1) rfl (by kernel_rfl) (by kernel_rfl) (by kernel_rfl) (by kernel_rfl) (fun _ _ _ h => h) HS0.out rfl ?hy3_1 ?_
      case hy3_1 => intro wy hSw; obtain ⟨t1, t2, t3⟩ := hSw; go_simp; try with_reducible rfl
      simp only [Act.put, List.setIfInBounds_toArray, List.set_cons_zero, List.set_cons_succ]
      refine wpAnyD_takeL (i := 2) (v := ?vv3_2) rfl (by kernel_rfl) (by kernel_rfl) (by kernel_rfl) (by kernel_rfl) (fun _ _ _ h => h) HS0.out rfl ?hy3_2 ?_
      case hy3_2 => intro wy hSw; obtain ⟨t1, t2, t3⟩ := hSw; go_simp; try with_reducible rfl
      simp only [Act.put, List.setIfInBounds_toArray, List.set_cons_zero, List.set_cons_succ]
      refine wpAnyD_takeL (i := 3) (v := ?vv3_3) rfl (by kernel_rfl) (by kernel_rfl) (by kernel_rfl) (by kernel_rfl) (fun _ _ _ h => h) HS0.out rfl ?hy3_3 ?_
      case hy3_3 => intro wy hSw; obtain ⟨t1, t2, t3⟩ := hSw; go_simp; try with_reducible rfl
      simp only [Act.put, List.setIfInBounds_toArray, List.set_cons_zero, List.set_cons_succ]
      refine wpAnyD_takeL (i := 4) (v := ?vv3_4) rfl (by kernel_rfl) (by kernel_rfl) (by kernel_rfl) (by kernel_rfl) (fun _ _ _ h => h) HS0.out rfl ?hy3_4 ?_
      case hy3_4 => intro wy hSw; obtain ⟨t1, t2, t3⟩ := hSw; go_simp; try with_reducible rfl
      simp only [Act.put, List.setIfInBounds_toArray, List.set_cons_zero, List.set_cons_succ]
      refine wpAnyD_takeL (i := 5) (v := ?vv3_5) rfl (by kernel_rfl) (by kernel_rfl) (by kernel_rfl) (by kernel_rfl) (fun _ _ _ h => h) HS0.out rfl ?hy3_5 ?_
      case hy3_5 => intro wy hSw; obtain ⟨t1, t2, t3⟩ := hSw; go_simp; try with_reducible rfl
      simp only [Act.put, List.setIfInBounds_toArray, List.set_cons_zero, List.set_cons_succ]
      refine wpAnyD_takeL (i := 6) (v := ?vv3_6) rfl (by kernel_rfl) (by kernel_rfl) (by kernel_rfl) (by kernel_rfl) (fun _ _ _ h => h) HS0.out rfl ?hy3_6 ?_
      case hy3_6 => intro wy hSw; obtain ⟨t1, t2, t3⟩ := hSw; go_simp; try with_reducible rfl
      simp only [Act.put, List.setIfInBounds_toArray, List.set_cons_zero, List.set_cons_succ]
      refine wpAnyD_takeL (i := 7) (v := ?vv3_7) rfl (by kernel_rfl) (by kernel_rfl) (by kernel_rfl) (by kernel_rfl) (fun _ _ _ h => h) HS0.out rfl ?hy3_7 ?_
      case hy3_7 => intro wy hSw; obtain ⟨t1, t2, t3⟩ := hSw; go_simp; try with_reducible rfl
      simp only [Act.put, List.setIfInBounds_toArray, List.set_cons_zero, List.set_cons_succ]
      refine wpAnyD_takeL (i := 8) (v := ?vv3_8) rfl (by kernel_rfl) (by kernel_rfl) (by kernel_rfl) (by kernel_rfl) (fun _ _ _ h => h) HS0.out rfl ?hy3_8 ?_
      case hy3_8 => intro wy hSw; obtain ⟨t1, t2, t3⟩ := hSw; go_simp; try with_reducible rfl
      simp only [Act.put, List.setIfInBounds_toArray, List.set_cons_zero, List.set_cons_succ]
      refine wpAnyD_takeL (i := 9) (v := ?vv3_9) rfl (by kernel_rfl) (by kernel_rfl) (by kernel_rfl) (by kernel_rfl) (fun _ _ _ h => h) HS0.out rfl ?hy3_9 ?_
      case hy3_9 => intro wy hSw; obtain ⟨t1, t2, t3⟩ := hSw; go_simp; try with_reducible rfl
      simp only [Act.put, List.setIfInBounds_toArray, List.set_cons_zero, List.set_cons_succ]
      refine wpAnyD_takeL (i := 10) (v := ?vv3_10) rfl (by kernel_rfl) (by kernel_rfl) (by kernel_rfl) (by kernel_rfl) (fun _ _ _ h => h) HS0.out rfl ?hy3_10 ?_
      case hy3_10 => intro wy hSw; obtain ⟨t1, t2, t3⟩ := hSw; go_simp; try with_reducible rfl
      simp only [Act.put, List.setIfInBounds_toArray, List.set_cons_zero, List.set_cons_succ]
      refine wpAnyD_stepL (i := 11) (by kernel_rfl) rfl (fun K hK => ?_)
      go_simp
      refine hK _ _ (fun hh => absurd (List.mem_singleton.2 rfl) hh) ?_
      clear hK K
      refine wpAnyD_done (by kernel_rfl) ?_ _
      go_wp2_with fail
      exact bodyPost_end (v := .tuple #[]) (by simp [results, Tryz.results7, go_sem]) rfl ⟨rfl, _, _, _, _, _, _, _, _, HB.out.keep (by (repeat (first | exact Below.refl _ _ | assumption | refine Below.drew ?_ | refine below_drewN ?_ _ | refine Below.setCell ?_ (by simp) _ | refine Below.alloc ?_ (by (first | exact Nat.le_refl _ | (simp; done) | (simp; omega) | omega)) _ | refine Below.trans ?_ (Below.mono (by assumption) (by first | exact Nat.le_refl _ | (simp; done) | (simp; omega) | omega))))), HF.out, rfl, Nat.le_refl _⟩
    · obtain ⟨v3', v3b, v5n, v6b⟩ := HV3.out
      have HS0 : Hid (W6.cell? ⟨wb, 5, none⟩ = some (.slice (some ⟨gv, 0, none⟩) dn.length cap) ∧ W6.cell? ⟨w2.heap.size, 4, none⟩ = some (.int .i64 sr) ∧ W6.cell? ⟨gv, n, none⟩ = some (.int .i64 (c : Int))) := hidb ⟨z5, q6, zc⟩
      refine wp_region_D (fun w' => w'.cell? ⟨wb, 5, none⟩ = some (.slice (some ⟨gv, 0, none⟩) dn.length cap) ∧ w'.cell? ⟨w2.heap.size, 4, none⟩ = some (.int .i64 sr) ∧ w'.cell? ⟨gv, n, none⟩ = some (.int .i64 (c : Int))) [11] (by kernel_rfl) ?_
      refine wpAnyD_takeL (i := 0) (v := ?vv4_0) rfl (by kernel_rfl) (by kernel_rfl) (by kernel_rfl) (by kernel_rfl) (fun _ _ _ h => h) HS0.out rfl ?hy4_0 ?_
      case hy4_0 => intro wy hSw; obtain ⟨t1, t2, t3⟩ := hSw; go_simp; try with_reducible rfl
      simp only [Act.put, List.setIfInBounds_toArray, List.set_cons_zero, List.set_cons_succ]
      refine wpAnyD_takeL (i := 1) (v := ?vv4_1) rfl (by kernel_rfl) (by kernel_rfl) (by kernel_rfl) (by kernel_rfl) (fun _ _ _ h => h) HS0.out rfl ?hy4_1 ?_
      case hy4_1 => intro wy hSw; obtain ⟨t1, t2, t3⟩ := hSw; go_simp; try with_reducible rfl
      simp only [Act.put, List.setIfInBounds_toArray, List.set_cons_zero, List.set_cons_succ]
      refine wpAnyD_takeL (i := 2) (v := ?vv4_2) rfl (by kernel_rfl) (by kernel_rfl) (by kernel_rfl) (by kernel_rfl) (fun _ _ _ h => h) HS0.out rfl ?hy4_2 ?_
      case hy4_2 => intro wy hSw; obtain ⟨t1, t2, t3⟩ := hSw; go_simp; try with_reducible rfl
      simp only [Act.put, List.setIfInBounds_toArray, List.set_cons_zero, List.set_cons_succ]
      refine wpAnyD_takeL (i := 3) (v := ?vv4_3) rfl (by kernel_rfl) (by kernel_rfl) (by kernel_rfl) (by kernel_rfl) (fun _ _ _ h => h) HS0.out rfl ?hy4_3 ?_
      case hy4_3 => intro wy hSw; obtain ⟨t1, t2, t3⟩ := hSw; go_simp; try with_reducible rfl
      simp only [Act.put, List.setIfInBounds_toArray, List.set_cons_zero, List.set_cons_succ]
      refine wpAnyD_takeL (i := 4) (v := ?vv4_4) rfl (by kernel_rfl) (by kernel_rfl) (by kernel_rfl) (by kernel_rfl) (fun _ _ _ h => h) HS0.out rfl ?hy4_4 ?_
      case hy4_4 => intro wy hSw; obtain ⟨t1, t2, t3⟩ := hSw; go_simp; try with_reducible rfl
      simp only [Act.put, List.setIfInBounds_toArray, List.set_cons_zero, List.set_cons_succ]
      refine wpAnyD_takeL (i := 5) (v := ?vv4_5) rfl (by kernel_rfl) (by kernel_rfl) (by kernel_rfl) (by kernel_rfl) (fun _ _ _ h => h) HS0.out rfl ?hy4_5 ?_
      case hy4_5 => intro wy hSw; obtain ⟨t1, t2, t3⟩ := hSw; go_simp; try with_reducible rfl
      simp only [Act.put, List.setIfInBounds_toArray, List.set_cons_zero, List.set_cons_succ]
      refine wpAnyD_takeL (i := 6) (v := ?vv4_6) rfl (by kernel_rfl) (by kernel_rfl) (by kernel_rfl) (by kernel_rfl) (fun _ _ _ h => h) HS0.out rfl ?hy4_6 ?_
      case hy4_6 => intro wy hSw; obtain ⟨t1, t2, t3⟩ := hSw; go_simp; try with_reducible rfl
      simp only [Act.put, List.setIfInBounds_toArray, List.set_cons_zero, List.set_cons_succ]
      refine wpAnyD_takeL (i := 7) (v := ?vv4_7) rfl (by kernel_rfl) (by kernel_rfl) (by kernel_rfl) (by kernel_rfl) (fun _ _ _ h => h) HS0.out rfl ?hy4_7 ?_
      case hy4_7 => intro wy hSw; obtain ⟨t1, t2, t3⟩ := hSw; go_simp; try with_reducible rfl
      simp only [Act.put, List.setIfInBounds_toArray, List.set_cons_zero, List.set_cons_succ]
      refine wpAnyD_takeL (i := 8) (v := ?vv4_8) rfl (by kernel_rfl) (by kernel_rfl) (by kernel_rfl) (by kernel_rfl) (fun _ _ _ h => h) HS0.out rfl ?hy4_8 ?_
      case hy4_8 => intro wy hSw; obtain ⟨t1, t2, t3⟩ := hSw; go_simp; try with_reducible rfl
      simp only [Act.put, List.setIfInBounds_toArray, List.set_cons_zero, List.set_cons_succ]
      refine wpAnyD_takeL (i := 9) (v := ?vv4_9) rfl (by kernel_rfl) (by kernel_rfl) (by kernel_rfl) (by kernel_rfl) (fun _ _ _ h => h) HS0.out rfl ?hy4_9 ?_
      case hy4_9 => intro wy hSw; obtain ⟨t1, t2, t3⟩ := hSw; go_simp; try with_reducible rfl
      simp only [Act.put, List.setIfInBounds_toArray, List.set_cons_zero, List.set_cons_succ]
      refine wpAnyD_takeL (i := 10) (v := ?vv4_10) rfl (by kernel_rfl) (by kernel_rfl) (by kernel_rfl) (by kernel_rfl) (fun _ _ _ h => h) HS0.out rfl ?hy4_10 ?_
      case hy4_10 => intro wy hSw; obtain ⟨t1, t2, t3⟩ := hSw; go_simp; try with_reducible rfl
      simp only [Act.put, List.setIfInBounds_toArray, List.set_cons_zero, List.set_cons_succ]
      refine wpAnyD_stepL (i := 11) (by kernel_rfl) rfl (fun K hK => ?_)
      go_simp
      refine hK _ _ (fun hh => absurd (List.mem_singleton.2 rfl) hh) ?_
      clear hK K
      refine wpAnyD_done (by kernel_rfl) ?_ _
      go_wp2_with fail
      exact bodyPost_end (v := .tuple #[]) (by simp [results, Tryz.results7, go_sem]) rfl ⟨rfl, _, _, _, _, _, _, _, _, HB.out.keep (by (repeat (first | exact Below.refl _ _ | assumption | refine Below.drew ?_ | refine below_drewN ?_ _ | refine Below.setCell ?_ (by simp) _ | refine Below.alloc ?_ (by (first | exact Nat.le_refl _ | (simp; done) | (simp; omega) | omega)) _ | refine Below.trans ?_ (Below.mono (by assumption) (by first | exact Nat.le_refl _ | (simp; done) | (simp; omega) | omega))))), HF.out, rfl, Nat.le_refl _⟩
    · obtain ⟨v3', v3b, v5n, v6b⟩ := HV3.out
      have HS0 : Hid (W6.cell? ⟨wb, 5, none⟩ = some (.slice (some ⟨gv, 0, none⟩) dn.length cap) ∧ W6.cell? ⟨w2.heap.size, 4, none⟩ = some (.int .i64 sr) ∧ W6.cell? ⟨gv, n, none⟩ = some (.int .i64 (c : Int))) := hidb ⟨z5, q6, zc⟩
      refine wp_region_D (fun w' => w'.cell? ⟨wb, 5, none⟩ = some (.slice (some ⟨gv, 0, none⟩) dn.length cap) ∧ w'.cell? ⟨w2.heap.size, 4, none⟩ = some (.int .i64 sr) ∧ w'.cell? ⟨gv, n, none⟩ = some (.int .i64 (c : Int))) [11] (by kernel_rfl) ?_
      refine wpAnyD_takeL (i := 0) (v := ?vv5_0) rfl (by kernel_rfl) (by kernel_rfl) (by kernel_rfl) (by kernel_rfl) (fun _ _ _ h => h) HS0.out rfl ?hy5_0 ?_
      case hy5_0 => intro wy hSw; obtain ⟨t1, t2, t3⟩ := hSw; go_simp; try with_reducible rfl
      simp only [Act.put, List.setIfInBounds_toArray, List.set_cons_zero, List.set_cons_succ]
      refine wpAnyD_takeL (i := 1) (v := ?vv5_1) rfl (by kernel_rfl) (by kernel_rfl) (by kernel_rfl) (by kernel_rfl) (fun _ _ _ h => h) HS0.out rfl ?hy5_1 ?_
      case hy5_1 => intro wy hSw; obtain ⟨t1, t2, t3⟩ := hSw; go_simp; try with_reducible rfl
      simp only [Act.put, List.setIfInBounds_toArray, List.set_cons_zero, List.set_cons_succ]
      refine wpAnyD_takeL (i := 2) (v := ?vv5_2) rfl (by kernel_rfl) (by kernel_rfl) (by kernel_rfl) (by kernel_rfl) (fun _ _ _ h => h) HS0.out rfl ?hy5_2 ?_
      case hy5_2 => intro wy hSw; obtain ⟨t1, t2, t3⟩ := hSw; go_simp; try with_reducible rfl
      simp only [Act.put, List.setIfInBounds_toArray, List.set_cons_zero, List.set_cons_succ]
      refine wpAnyD_takeL (i := 3) (v := ?vv5_3) rfl (by kernel_rfl) (by kernel_rfl) (by kernel_rfl) (by kernel_rfl) (fun _ _ _ h => h) HS0.out rfl ?hy5_3 ?_
      case hy5_3 => intro wy hSw; obtain ⟨t1, t2, t3⟩ := hSw; go_simp; try with_reducible rfl
      simp only [Act.put, List.setIfInBounds_toArray, List.set_cons_zero, List.set_cons_succ]
      refine wpAnyD_takeL (i := 4) (v := ?vv5_4) rfl (by kernel_rfl) (by kernel_rfl) (by kernel_rfl) (by kernel_rfl) (fun _ _ _ h => h) HS0.out rfl ?hy5_4 ?_
      case hy5_4 => intro wy hSw; obtain ⟨t1, t2, t3⟩ := hSw; go_simp; try with_reducible rfl
      simp only [Act.put, List.setIfInBounds_toArray, List.set_cons_zero, List.set_cons_succ]
      refine wpAnyD_takeL (i := 5) (v := ?vv5_5) rfl (by kernel_rfl) (by kernel_rfl) (by kernel_rfl) (by kernel_rfl) (fun _ _ _ h => h) HS0.out rfl ?hy5_5 ?_
      case hy5_5 => intro wy hSw; obtain ⟨t1, t2, t3⟩ := hSw; go_simp; try with_reducible rfl
      simp only [Act.put, List.setIfInBounds_toArray, List.set_cons_zero, List.set_cons_succ]
      refine wpAnyD_takeL (i := 6) (v := ?vv5_6) rfl (by kernel_rfl) (by kernel_rfl) (by kernel_rfl) (by kernel_rfl) (fun _ _ _ h => h) HS0.out rfl ?hy5_6 ?_
      case hy5_6 => intro wy hSw; obtain ⟨t1, t2, t3⟩ := hSw; go_simp; try with_reducible rfl
      simp only [Act.put, List.setIfInBounds_toArray, List.set_cons_zero, List.set_cons_succ]
      refine wpAnyD_takeL (i := 7) (v := ?vv5_7) rfl (by kernel_rfl) (by kernel_rfl) (by kernel_rfl) (by kernel_rfl) (fun _ _ _ h => h) HS0.out rfl ?hy5_7 ?_
      case hy5_7 => intro wy hSw; obtain ⟨t1, t2, t3⟩ := hSw; go_simp; try with_reducible rfl
      simp only [Act.put, List.setIfInBounds_toArray, List.set_cons_zero, List.set_cons_succ]
      refine wpAnyD_takeL (i := 8) (v := ?vv5_8) rfl (by kernel_rfl) (by kernel_rfl) (by kernel_rfl) (by kernel_rfl) (fun _ _ _ h => h) HS0.out rfl ?hy5_8 ?_
      case hy5_8 => intro wy hSw; obtain ⟨t1, t2, t3⟩ := hSw; go_simp; try with_reducible rfl
      simp only [Act.put, List.setIfInBounds_toArray, List.set_cons_zero, List.set_cons_succ]
      refine wpAnyD_takeL (i := 9) (v := ?vv5_9) rfl (by kernel_rfl) (by kernel_rfl) (by kernel_rfl) (by kernel_rfl) (fun _ _ _ h => h) HS0.out rfl ?hy5_9 ?_
      case hy5_9 => intro wy hSw; obtain ⟨t1, t2, t3⟩ := hSw; go_simp; try with_reducible rfl
      simp only [Act.put, List.setIfInBounds_toArray, List.set_cons_zero, List.set_cons_succ]
      refine wpAnyD_takeL (i := 10) (v := ?vv5_10) rfl (by kernel_rfl) (by kernel_rfl) (by kernel_rfl) (by kernel_rfl) (fun _ _ _ h => h) HS0.out rfl ?hy5_10 ?_
      case hy5_10 => intro wy hSw; obtain ⟨t1, t2, t3⟩ := hSw; go_simp; try with_reducible rfl
      simp only [Act.put, List.setIfInBounds_toArray, List.set_cons_zero, List.set_cons_succ]
      refine wpAnyD_stepL (i := 11) (by kernel_rfl) rfl (fun K hK => ?_)
      go_simp
      refine hK _ _ (fun hh => absurd (List.mem_singleton.2 rfl) hh) ?_
      clear hK K
      refine wpAnyD_done (by kernel_rfl) ?_ _
      go_wp2_with fail
      exact bodyPost_end (v := .tuple #[]) (by simp [results, Tryz.results7, go_sem]) rfl ⟨rfl, _, _, _, _, _, _, _, _, HB.out.keep (by (repeat (first | exact Below.refl _ _ | assumption | refine Below.drew ?_ | refine below_drewN ?_ _ | refine Below.setCell ?_ (by simp) _ | refine Below.alloc ?_ (by (first | exact Nat.le_refl _ | (simp; done) | (simp; omega) | omega)) _ | refine Below.trans ?_ (Below.mono (by assumption) (by first | exact Nat.le_refl _ | (simp; done) | (simp; omega) | omega))))), HF.out, rfl, Nat.le_refl _⟩
    · obtain ⟨v3', v3b, v5n, v6b⟩ := HV3.out
      have HS0 : Hid (W6.cell? ⟨wb, 5, none⟩ = some (.slice (some ⟨gv, 0, none⟩) dn.length cap) ∧ W6.cell? ⟨w2.heap.size, 4, none⟩ = some (.int .i64 sr) ∧ W6.cell? ⟨gv, n, none⟩ = some (.int .i64 (c : Int))) := hidb ⟨z5, q6, zc⟩
      refine wp_region_D (fun w' => w'.cell? ⟨wb, 5, none⟩ = some (.slice (some ⟨gv, 0, none⟩) dn.length cap) ∧ w'.cell? ⟨w2.heap.size, 4, none⟩ = some (.int .i64 sr) ∧ w'.cell? ⟨gv, n, none⟩ = some (.int .i64 (c : Int))) [11] (by kernel_rfl) ?_
      refine wpAnyD_takeL (i := 0) (v := ?vv6_0) rfl (by kernel_rfl) (by kernel_rfl) (by kernel_rfl) (by kernel_rfl) (fun _ _ _ h => h) HS0.out rfl ?hy6_0 ?_
      case hy6_0 => intro wy hSw; obtain ⟨t1, t2, t3⟩ := hSw; go_simp; try with_reducible rfl
      simp only [Act.put, List.setIfInBounds_toArray, List.set_cons_zero, List.set_cons_succ]
      refine wpAnyD_takeL (i := 1) (v := ?vv6_1) rfl (by kernel_rfl) (by kernel_rfl) (by kernel_rfl) (by kernel_rfl) (fun _ _ _ h => h) HS0.out rfl ?hy6_1 ?_
      case hy6_1 => intro wy hSw; obtain ⟨t1, t2, t3⟩ := hSw; go_simp; try with_reducible rfl
      simp only [Act.put, List.setIfInBounds_toArray, List.set_cons_zero, List.set_cons_succ]
      refine wpAnyD_takeL (i := 2) (v := ?vv6_2) rfl (by kernel_rfl) (by kernel_rfl) (by kernel_rfl) (by kernel_rfl) (fun _ _ _ h => h) HS0.out rfl ?hy6_2 ?_
      case hy6_2 => intro wy hSw; obtain ⟨t1, t2, t3⟩ := hSw; go_simp; try with_reducible rfl
      simp only [Act.put, List.setIfInBounds_toArray, List.set_cons_zero, List.set_cons_succ]
      refine wpAnyD_takeL (i := 3) (v := ?vv6_3) rfl (by kernel_rfl) (by kernel_rfl) (by kernel_rfl) (by kernel_rfl) (fun _ _ _ h => h) HS0.out rfl ?hy6_3 ?_
      case hy6_3 => intro wy hSw; obtain ⟨t1, t2, t3⟩ := hSw; go_simp; try with_reducible rfl
      simp only [Act.put, List.setIfInBounds_toArray, List.set_cons_zero, List.set_cons_succ]
      refine wpAnyD_takeL (i := 4) (v := ?vv6_4) rfl (by kernel_rfl) (by kernel_rfl) (by kernel_rfl) (by kernel_rfl) (fun _ _ _ h => h) HS0.out rfl ?hy6_4 ?_
      case hy6_4 => intro wy hSw; obtain ⟨t1, t2, t3⟩ := hSw; go_simp; try with_reducible rfl
      simp only [Act.put, List.setIfInBounds_toArray, List.set_cons_zero, List.set_cons_succ]
      refine wpAnyD_takeL (i := 5) (v := ?vv6_5) rfl (by kernel_rfl) (by kernel_rfl) (by kernel_rfl) (by kernel_rfl) (fun _ _ _ h => h) HS0.out rfl ?hy6_5 ?_
      case hy6_5 => intro wy hSw; obtain ⟨t1, t2, t3⟩ := hSw; go_simp; try with_reducible rfl
      simp only [Act.put, List.setIfInBounds_toArray, List.set_cons_zero, List.set_cons_succ]
      refine wpAnyD_takeL (i := 6) (v := ?vv6_6) rfl (by kernel_rfl) (by kernel_rfl) (by kernel_rfl) (by kernel_rfl) (fun _ _ _ h => h) HS0.out rfl ?hy6_6 ?_
      case hy6_6 => intro wy hSw; obtain ⟨t1, t2, t3⟩ := hSw; go_simp; try with_reducible rfl
      simp only [Act.put, List.setIfInBounds_toArray, List.set_cons_zero, List.set_cons_succ]
      refine wpAnyD_takeL (i := 7) (v := ?vv6_7) rfl (by kernel_rfl) (by kernel_rfl) (by kernel_rfl) (by kernel_rfl) (fun _ _ _ h => h) HS0.out rfl ?hy6_7 ?_
      case hy6_7 => intro wy hSw; obtain ⟨t1, t2, t3⟩ := hSw; go_simp; try with_reducible rfl
      simp only [Act.put, List.setIfInBounds_toArray, List.set_cons_zero, List.set_cons_succ]
      refine wpAnyD_takeL (i := 8) (v := ?vv6_8) rfl (by kernel_rfl) (by kernel_rfl) (by kernel_rfl) (by kernel_rfl) (fun _ _ _ h => h) HS0.out rfl ?hy6_8 ?_
      case hy6_8 => intro wy hSw; obtain ⟨t1, t2, t3⟩ := hSw; go_simp; try with_reducible rfl
      simp only [Act.put, List.setIfInBounds_toArray, List.set_cons_zero, List.set_cons_succ]
      refine wpAnyD_takeL (i := 9) (v := ?vv6_9) rfl (by kernel_rfl) (by kernel_rfl) (by kernel_rfl) (by kernel_rfl) (fun _ _ _ h => h) HS0.out rfl ?hy6_9 ?_
      case hy6_9 => intro wy hSw; obtain ⟨t1, t2, t3⟩ := hSw; go_simp; try with_reducible rfl
      simp only [Act.put, List.setIfInBounds_toArray, List.set_cons_zero, List.set_cons_succ]
      refine wpAnyD_takeL (i := 10) (v := ?vv6_10) rfl (by kernel_rfl) (by kernel_rfl) (by kernel_rfl) (by kernel_rfl) (fun _ _ _ h => h) HS0.out rfl ?hy6_10 ?_
      case hy6_10 => intro wy hSw; obtain ⟨t1, t2, t3⟩ := hSw; go_simp; try with_reducible rfl
      simp only [Act.put, List.setIfInBounds_toArray, List.set_cons_zero, List.set_cons_succ]
      refine wpAnyD_stepL (i := 11) (by kernel_rfl) rfl (fun K hK => ?_)
      go_simp
      refine hK _ _ (fun hh => absurd (List.mem_singleton.2 rfl) hh) ?_
      clear hK K
      refine wpAnyD_done (by kernel_rfl) ?_ _
      go_wp2_with fail
      exact bodyPost_end (v := .tuple #[]) (by simp [results, Tryz.results7, go_sem]) rfl ⟨rfl, _, _, _, _, _, _, _, _, HB.out.keep (by (repeat (first | exact Below.refl _ _ | assumption | refine Below.drew ?_ | refine below_drewN ?_ _ | refine Below.setCell ?_ (by simp) _ | refine Below.alloc ?_ (by (first | exact Nat.le_refl _ | (simp; done) | (simp; omega) | omega)) _ | refine Below.trans ?_ (Below.mono (by assumption) (by first | exact Nat.le_refl _ | (simp; done) | (simp; omega) | omega))))), HF.out, rfl, Nat.le_refl _⟩
    · obtain ⟨v3', v3b, v5n, v6b⟩ := HV3.out
      have HS0 : Hid (W6.cell? ⟨wb, 5, none⟩ = some (.slice (some ⟨gv, 0, none⟩) dn.length cap) ∧ W6.cell? ⟨w2.heap.size, 4, none⟩ = some (.int .i64 sr) ∧ W6.cell? ⟨gv, n, none⟩ = some (.int .i64 (c : Int))) := hidb ⟨z5, q6, zc⟩
      refine wp_region_D (fun w' => w'.cell? ⟨wb, 5, none⟩ = some (.slice (some ⟨gv, 0, none⟩) dn.length cap) ∧ w'.cell? ⟨w2.heap.size, 4, none⟩ = some (.int .i64 sr) ∧ w'.cell? ⟨gv, n, none⟩ = some (.int .i64 (c : Int))) [11] (by kernel_rfl) ?_
      refine wpAnyD_takeL (i := 0) (v := ?vv7_0) rfl (by kernel_rfl) (by kernel_rfl) (by kernel_rfl) (by kernel_rfl) (fun _ _ _ h => h) HS0.out rfl ?hy7_0 ?_
      case hy7_0 => intro wy hSw; obtain ⟨t1, t2, t3⟩ := hSw; go_simp; try with_reducible rfl
      simp only [Act.put, List.setIfInBounds_toArray, List.set_cons_zero, List.set_cons_succ]
      refine wpAnyD_takeL (i := 1) (v := ?vv7_1) rfl (by kernel_rfl) (by kernel_rfl) (by kernel_rfl) (by kernel_rfl) (fun _ _ _ h => h) HS0.out rfl ?hy7_1 ?_
      case hy7_1 => intro wy hSw; obtain ⟨t1, t2, t3⟩ := hSw; go_simp; try with_reducible rfl
      simp only [Act.put, List.setIfInBounds_toArray, List.set_cons_zero, List.set_cons_succ]
      refine wpAnyD_takeL (i := 2) (v := ?vv7_2) rfl (by kernel_rfl) (by kernel_rfl) (by kernel_rfl) (by kernel_rfl) (fun _ _ _ h => h) HS0.out rfl ?hy7_2 ?_
      case hy7_2 => intro wy hSw; obtain ⟨t1, t2, t3⟩ := hSw; go_simp; try with_reducible rfl
      simp only [Act.put, List.setIfInBounds_toArray, List.set_cons_zero, List.set_cons_succ]
      refine wpAnyD_takeL (i := 3) (v := ?vv7_3) rfl (by kernel_rfl) (by kernel_rfl) (by kernel_rfl) (by kernel_rfl) (fun _ _ _ h => h) HS0.out rfl ?hy7_3 ?_
      case hy7_3 => intro wy hSw; obtain ⟨t1, t2, t3⟩ := hSw; go_simp; try with_reducible rfl
      simp only [Act.put, List.setIfInBounds_toArray, List.set_cons_zero, List.set_cons_succ]
      refine wpAnyD_takeL (i := 4) (v := ?vv7_4) rfl (by kernel_rfl) (by kernel_rfl) (by kernel_rfl) (by kernel_rfl) (fun _ _ _ h => h) HS0.out rfl ?hy7_4 ?_
      case hy7_4 => intro wy hSw; obtain ⟨t1, t2, t3⟩ := hSw; go_simp; try with_reducible rfl
      simp only [Act.put, List.setIfInBounds_toArray, List.set_cons_zero, List.set_cons_succ]
      refine wpAnyD_takeL (i := 5) (v := ?vv7_5) rfl (by kernel_rfl) (by kernel_rfl) (by kernel_rfl) (by kernel_rfl) (fun _ _ _ h => h) HS0.out rfl ?hy7_5 ?_
      case hy7_5 => intro wy hSw; obtain ⟨t1, t2, t3⟩ := hSw; go_simp; try with_reducible rfl
      simp only [Act.put, List.setIfInBounds_toArray, List.set_cons_zero, List.set_cons_succ]
      refine wpAnyD_takeL (i := 6) (v := ?vv7_6) rfl (by kernel_rfl) (by kernel_rfl) (by kernel_rfl) (by kernel_rfl) (fun _ _ _ h => h) HS0.out rfl ?hy7_6 ?_
      case hy7_6 => intro wy hSw; obtain ⟨t1, t2, t3⟩ := hSw; go_simp; try with_reducible rfl
      simp only [Act.put, List.setIfInBounds_toArray, List.set_cons_zero, List.set_cons_succ]
      refine wpAnyD_takeL (i := 7) (v := ?vv7_7) rfl (by kernel_rfl) (by kernel_rfl) (by kernel_rfl) (by kernel_rfl) (fun _ _ _ h => h) HS0.out rfl ?hy7_7 ?_
      case hy7_7 => intro wy hSw; obtain ⟨t1, t2, t3⟩ := hSw; go_simp; try with_reducible rfl
      simp only [Act.put, List.setIfInBounds_toArray, List.set_cons_zero, List.set_cons_succ]
      refine wpAnyD_takeL (i := 8) (v := ?vv7_8) rfl (by kernel_rfl) (by kernel_rfl) (by kernel_rfl) (by kernel_rfl) (fun _ _ _ h => h) HS0.out rfl ?hy7_8 ?_
      case hy7_8 => intro wy hSw; obtain ⟨t1, t2, t3⟩ := hSw; go_simp; try with_reducible rfl
      simp only [Act.put, List.setIfInBounds_toArray, List.set_cons_zero, List.set_cons_succ]
      refine wpAnyD_takeL (i := 9) (v := ?vv7_9) rfl (by kernel_rfl) (by kernel_rfl) (by kernel_rfl) (by kernel_rfl) (fun _ _ _ h => h) HS0.out rfl ?hy7_9 ?_
      case hy7_9 => intro wy hSw; obtain ⟨t1, t2, t3⟩ := hSw; go_simp; try with_reducible rfl
      simp only [Act.put, List.setIfInBounds_toArray, List.set_cons_zero, List.set_cons_succ]
      refine wpAnyD_takeL (i := 10) (v := ?vv7_10) rfl (by kernel_rfl) (by kernel_rfl) (by kernel_rfl) (by kernel_rfl) (fun _ _ _ h => h) HS0.out rfl ?hy7_10 ?_
      case hy7_10 => intro wy hSw; obtain ⟨t1, t2, t3⟩ := hSw; go_simp; try with_reducible rfl
      simp only [Act.put, List.setIfInBounds_toArray, List.set_cons_zero, List.set_cons_succ]
      refine wpAnyD_stepL (i := 11) (by kernel_rfl) rfl (fun K hK => ?_)
      go_simp
      refine hK _ _ (fun hh => absurd (List.mem_singleton.2 rfl) hh) ?_
      clear hK K
      refine wpAnyD_done (by kernel_rfl) ?_ _
      go_wp2_with fail
      exact bodyPost_end (v := .tuple #[]) (by simp [results, Tryz.results7, go_sem]) rfl ⟨rfl, _, _, _, _, _, _, _, _, HB.out.keep (by (repeat (first | exact Below.refl _ _ | assumption | refine Below.drew ?_ | refine below_drewN ?_ _ | refine Below.setCell ?_ (by simp) _ | refine Below.alloc ?_ (by (first | exact Nat.le_refl _ | (simp; done) | (simp; omega) | omega)) _ | refine Below.trans ?_ (Below.mono (by assumption) (by first | exact Nat.le_refl _ | (simp; done) | (simp; omega) | omega))))), HF.out, rfl, Nat.le_refl _⟩

end Go.Proofs.YtceigdeoefhcfaaGreat


/- MonsDown: move 4, walked. -/
namespace Go.Proofs.YtceigdeoefhcfaaGreat
open Go.RowKit Go.Lib
open MV (Hf hf0 getL insL delL Rise Wfk TB Nw Rst KV MnT mvs)
attribute [local go_sem] store_float f64bits
attribute [local go_sem ↓] Go.wp_at_zero Go.wp_at_succ

variable {Yg : Nat → Prop} {wG : World} {w0 w w' : World} {wb ta tb eb N refs : Nat} {O T O' T' : List KV} {p q : List Sg} {dead : Bool} {dn : List Nat}
set_option maxRecDepth 100000 in
set_option maxHeartbeats 8000000 in
theorem does4_none {g : Int → Prop} {i : Nat} (h : DL Yg wG NoX w0 w wb ta tb eb O T [] q dead refs dn N) (hi : Iv g i O T [] q dead refs dn N) (rf : Int) :
    Calls Tryz.prog 7 #[.pointer (some ⟨wb, 0, none⟩), .agg #[.int .i64 4, .int .i64 rf]] w (DoQ Yg wG g i 0 q.length w0 wb ta tb eb) := by
  have hbs := hi.bs
  obtain ⟨W1, hW1⟩ : ∃ W1, w.alloc (.cells #[.int .i64 4, .int .i64 rf] 34) = W1 := ⟨_, rfl⟩
  have hb1 : Below w.heap.size w W1 := hW1 ▸ below_new _ _
  have hD1 : Duo W1 w.heap.size (.int .i64 4) (.int .i64 rf) := hW1 ▸ Duo.new _ _ _ _
  have hlw : w.heap.size < W1.heap.size := by rw [← hW1]; simp
  have hnw : w.heap.size ≠ W1.heap.size := by omega
  obtain ⟨V0, hS0, -, -, -⟩ := h.box
  have hwl := hS0.lt
  have hwl1 : wb < W1.heap.size := by omega
  have hwn : wb ≠ w.heap.size := by omega
  have hwn1 : wb ≠ W1.heap.size := by omega
  have hS1 := hS0.own hb1
  have n0 := hD1.c0
  have n1 := hD1.c1
  have k0 := hS1.c0; have k1 := hS1.c1; have k2 := hS1.c2; have k3 := hS1.c3
  have HB1 := hidb hb1
  have CT : Hid (Calls Tryz.prog 16 #[.pointer (some ⟨eb, 0, none⟩), .int .i64 1, .int .i64 2] W1 fun e w2 => e = .returned (.tuple #[zsig, .bool false]) ∧ Hid (∀ W', Below w2.heap.size w2 W' → DL Yg wG NoX w0 W' wb ta tb eb O T [] q dead refs dn N)) := hidb ((h.keep hb1).none12.mono (by
    rintro e w2 ⟨rfl, hb2⟩
    exact ⟨rfl, hidb (fun W' hb => ((h.keep hb1).keep hb2).keep hb)⟩))
  have HIV := hidb hi
  clear hS0 hS1 hD1 hb1 h hbs hi
  go_enter Tryz.func7, Tryz.ntmps7
  go_wp2_with (go_at_call 16; refine CT.out.mono ?_; rintro e w2 ⟨rfl, HR⟩)
  exact bodyPost_end (v := .tuple #[]) (by simp [results, Tryz.results7, go_sem]) rfl ⟨rfl, _, _, _, _, _, _, _, _, HR.out _ (by (repeat (first | exact Below.refl _ _ | assumption | refine Below.drew ?_ | refine below_drewN ?_ _ | refine Below.setCell ?_ (by simp) _ | refine Below.alloc ?_ (by (first | exact Nat.le_refl _ | (simp; done) | (simp; omega) | omega)) _ | refine Below.trans ?_ (Below.mono (by assumption) (by first | exact Nat.le_refl _ | (simp; done) | (simp; omega) | omega))))), HIV.out, rfl, Nat.le_refl _⟩

set_option maxRecDepth 100000 in
set_option maxHeartbeats 8000000 in
theorem does4_xd {g : Int → Prop} {i : Nat} {sr : Int} (h : DL Yg wG NoX w0 w wb ta tb eb O T (⟨7, sr, 0, nil8⟩ :: p) q true refs dn N) (hi : Iv g i O T (⟨7, sr, 0, nil8⟩ :: p) q true refs dn N) (hN : i ≤ 3000) (rf : Int) :
    Calls Tryz.prog 7 #[.pointer (some ⟨wb, 0, none⟩), .agg #[.int .i64 4, .int .i64 rf]] w (DoQ Yg wG g i p.length (q.length + 1) w0 wb ta tb eb) := by
  have hbs := hi.bs
  obtain ⟨W1, hW1⟩ : ∃ W1, w.alloc (.cells #[.int .i64 4, .int .i64 rf] 34) = W1 := ⟨_, rfl⟩
  have hb1 : Below w.heap.size w W1 := hW1 ▸ below_new _ _
  have hD1 : Duo W1 w.heap.size (.int .i64 4) (.int .i64 rf) := hW1 ▸ Duo.new _ _ _ _
  have hlw : w.heap.size < W1.heap.size := by rw [← hW1]; simp
  have hnw : w.heap.size ≠ W1.heap.size := by omega
  obtain ⟨V0, hS0, -, -, -⟩ := h.box
  have hwl := hS0.lt
  have hwl1 : wb < W1.heap.size := by omega
  have hwn : wb ≠ w.heap.size := by omega
  have hwn1 : wb ≠ W1.heap.size := by omega
  have hS1 := hS0.own hb1
  have n0 := hD1.c0
  have n1 := hD1.c1
  have k0 := hS1.c0; have k1 := hS1.c1; have k2 := hS1.c2; have k3 := hS1.c3
  have HB1 := hidb hb1
  have hsq := hbs.fp _ (List.mem_cons_self ..)
  have hb9 := hbs.b
  have ha9 := hbs.a
  have hr9 := hbs.r
  have CT : Hid (Calls Tryz.prog 16 #[.pointer (some ⟨eb, 0, none⟩), .int .i64 1, .int .i64 2] W1 fun e w2 => e = .returned (.tuple #[sgv 1 2 ⟨7, sr, 0, nil8⟩, .bool true]) ∧ w2.cell? ⟨wb, 1, none⟩ = some (.pointer (some ⟨tb, 0, none⟩)) ∧ w2.cell? ⟨wb, 2, none⟩ = some (.pointer (some ⟨eb, 0, none⟩)) ∧ w2.cell? ⟨wb, 3, none⟩ = some (.bool true) ∧ wb < w2.heap.size ∧ Hid (DL Yg wG NoX w0 w2 wb ta tb eb O T p q true refs dn N)) := hidb (((h.keep hb1).take12 (by omega) (by simp at ha9; omega)).mono (by
    rintro e w2 ⟨rfl, hd2, -⟩
    obtain ⟨V2, hS2, -, -, -⟩ := hd2.box
    exact ⟨rfl, hS2.c1, hS2.c2, hS2.c3, hS2.lt, hidb hd2⟩))
  have hiv := hi.m4x (by simp)
  clear hS0 hS1 hD1 hb1 h hi
  go_enter Tryz.func7, Tryz.ntmps7
  go_wp2_with (go_at_call 16; refine CT.out.mono ?_; rintro e w2 ⟨rfl, m1, m2, m3, hwl2, HD2⟩; have hwn2 : wb ≠ w2.heap.size := (by omega))
  exact bodyPost_end (v := .tuple #[]) (by simp [results, Tryz.results7, go_sem]) rfl ⟨rfl, _, _, _, _, _, _, _, _, HD2.out.keep (by (repeat (first | exact Below.refl _ _ | assumption | refine Below.drew ?_ | refine below_drewN ?_ _ | refine Below.setCell ?_ (by simp) _ | refine Below.alloc ?_ (by (first | exact Nat.le_refl _ | (simp; done) | (simp; omega) | omega)) _ | refine Below.trans ?_ (Below.mono (by assumption) (by first | exact Nat.le_refl _ | (simp; done) | (simp; omega) | omega))))), hiv, rfl, by simp⟩

end Go.Proofs.YtceigdeoefhcfaaGreat


