import Derived.Test.YtajadhkpadkikaaGreatDoorG30
import Derived.Test.YtajadhkpadkikaaGreatDoorG31
/- =/=, min and max. -/
namespace Go.Proofs.YtajadhkpadkikaaGreatDoor
open Go.RowKit Go.Lib Go.Deep
attribute [local go_sem] store_float f64bits store_func store_nilFunc
attribute [local go_sem ↓] Go.wp_at_zero Go.wp_at_succ

set_option maxHeartbeats 8000000 in
set_option maxRecDepth 100000 in
theorem different_tc {w : World} {a : Option Addr} {c : Nat} {t0 t1 : Tr} {nm : ByteArray} {P : Tr → Prop} {E : Int → Prop} {r : Bool} (hin : ArgsIn w a c [t0, t1]) (hC : ∀ W, Below w.heap.size w W → Calls Tryz.prog 132 #[t0.val, t1.val] W fun e w' => e = .returned (.tuple #[.bool r, .int .i64 0]) ∧ Below W.heap.size W w') (hP : P (bolT (!r))) :
    TC 43 P E (.agg #[.string nm, .slice a 2 c, .nilFunc]) w := by
  refine ⟨fun args w => by kernel_rfl, fun W hW => ?_⟩
  have HP := hidb hP
  obtain ⟨k, n, f, s, a', c', ks⟩ := t0
  obtain ⟨k1, n1, f1, s1, a1, c1, ks1⟩ := t1
  obtain ⟨b, o, rfl, hbW, v0, v1, v2, v3, v4, -⟩ := argi hin hW (i := 0) rfl
  obtain ⟨b2, o2, e, -, u0, u1, u2, u3, u4, -⟩ := argi hin hW (i := 1) rfl
  obtain ⟨rfl, rfl⟩ : b = b2 ∧ o = o2 := by simpa using e
  simp only [Nat.zero_mul, Nat.add_zero, Nat.one_mul] at v0 v1 v2 v3 v4 u0 u1 u2 u3 u4
  have HC := hidb (fun W1 (hb : Below W.heap.size W W1) => hC W1 (hW.trans (hb.mono hW.size)))
  simp only [Tr.val, Tr.cells] at HC
  have SM := hidb (fun W1 (hb : Below W.heap.size W W1) => sameM (w := W1) (fun W2 hb2 => hC W2 ((hW.trans (hb.mono hW.size)).trans (hb2.mono (hW.trans (hb.mono hW.size)).size))))
  simp only [Tr.val, Tr.cells] at SM
  generalize ks.length = l0 at *
  generalize ks1.length = l1 at *
  obtain ⟨V1, hV1⟩ : ∃ V1, ((W.alloc (.cells #[.string nm, .slice (some ⟨b, o, none⟩) 2 c, .nilFunc] CT)).alloc (.cells #[.int .i64 0, .int .i64 0, .float .f64 0, .string ⟨#[]⟩, .slice none 0 0] 25)) = V1 := ⟨_, rfl⟩
  have HX0 : Hid (Box V1 (W.heap.size + 1) (.int .i64 0) (.int .i64 0) (.float .f64 0) (.string ⟨#[]⟩) (.slice none 0 0)) := hidb (by
    rw [← hV1]
    have := Box.new (W.alloc (.cells #[.string nm, .slice (some ⟨b, o, none⟩) 2 c, .nilFunc] CT)) 25 (.int .i64 0) (.int .i64 0) (.float .f64 0) (.string ⟨#[]⟩) (.slice none 0 0)
    simpa using this)
  have HC0 : Hid (Tri V1 W.heap.size (.string nm) (.slice (some ⟨b, o, none⟩) 2 c) .nilFunc) := hidb (by rw [← hV1]; exact (Tri.new W _ _ _ _).keep (below_new _ _))
  have HBW : Hid (Below W.heap.size W V1) := hidb (by rw [← hV1]; exact (below_new W _).alloc (by simp) _)
  have HV1 := hidb hV1
  obtain ⟨PP, hPP⟩ : ∃ PP : Ending → World → Prop, Tld P E w.heap.size W = PP := ⟨_, rfl⟩
  have HPP := hidb hPP
  rw [hPP]
  clear hV1 hPP
  clear hin hC hP hW
  have HS : Hid (∀ W9, Below V1.heap.size V1 W9 → W9.cell? ⟨W.heap.size, 1, none⟩ = some (.slice (some ⟨b, o, none⟩) 2 c) ∧ W9.cell? ⟨b, o, none⟩ = some (.int .i64 k) ∧ W9.cell? ⟨b, o + 1, none⟩ = some (.int .i64 n) ∧ W9.cell? ⟨b, o + 2, none⟩ = some (.float .f64 f) ∧ W9.cell? ⟨b, o + 3, none⟩ = some (.string s) ∧ W9.cell? ⟨b, o + 4, none⟩ = some (.slice a' l0 c') ∧ W9.cell? ⟨b, o + 5, none⟩ = some (.int .i64 k1) ∧ W9.cell? ⟨b, o + 5 + 1, none⟩ = some (.int .i64 n1) ∧ W9.cell? ⟨b, o + 5 + 2, none⟩ = some (.float .f64 f1) ∧ W9.cell? ⟨b, o + 5 + 3, none⟩ = some (.string s1) ∧ W9.cell? ⟨b, o + 5 + 4, none⟩ = some (.slice a1 l1 c1)) := hidb (fun W9 hb => have q := HBW.out.trans (hb.mono HBW.out.size); ⟨(HC0.out.keep hb).c1, (q.cell (p := ⟨b, o, none⟩) hbW).trans v0, (q.cell (p := ⟨b, o + 1, none⟩) hbW).trans v1, (q.cell (p := ⟨b, o + 2, none⟩) hbW).trans v2, (q.cell (p := ⟨b, o + 3, none⟩) hbW).trans v3, (q.cell (p := ⟨b, o + 4, none⟩) hbW).trans v4, (q.cell (p := ⟨b, o + 5, none⟩) hbW).trans u0, (q.cell (p := ⟨b, o + 5 + 1, none⟩) hbW).trans u1, (q.cell (p := ⟨b, o + 5 + 2, none⟩) hbW).trans u2, (q.cell (p := ⟨b, o + 5 + 3, none⟩) hbW).trans u3, (q.cell (p := ⟨b, o + 5 + 4, none⟩) hbW).trans u4⟩)
  clear v0 v1 v2 v3 v4 u0 u1 u2 u3 u4
  have HS0 := hidb (HS.out V1.drew (Below.refl _ _).drew)
  have C1 := hidb (SM.out V1.drew HBW.out.drew)
  go_enter Tryz.func43, Tryz.ntmps43
  go_wp2_with fail
  rw [HV1.out]
  refine wp_region_D (fun w' => w'.cell? ⟨W.heap.size, 1, none⟩ = some (.slice (some ⟨b, o, none⟩) 2 c) ∧ w'.cell? ⟨b, o, none⟩ = some (.int .i64 k) ∧ w'.cell? ⟨b, o + 1, none⟩ = some (.int .i64 n) ∧ w'.cell? ⟨b, o + 2, none⟩ = some (.float .f64 f) ∧ w'.cell? ⟨b, o + 3, none⟩ = some (.string s) ∧ w'.cell? ⟨b, o + 4, none⟩ = some (.slice a' l0 c') ∧ w'.cell? ⟨b, o + 5, none⟩ = some (.int .i64 k1) ∧ w'.cell? ⟨b, o + 5 + 1, none⟩ = some (.int .i64 n1) ∧ w'.cell? ⟨b, o + 5 + 2, none⟩ = some (.float .f64 f1) ∧ w'.cell? ⟨b, o + 5 + 3, none⟩ = some (.string s1) ∧ w'.cell? ⟨b, o + 5 + 4, none⟩ = some (.slice a1 l1 c1)) [11] (by kernel_rfl) ?_
  refine wpAnyD_takeL (i := 0) (v := ?vv0) rfl (by kernel_rfl) (by kernel_rfl) (by kernel_rfl) (by kernel_rfl) (fun _ _ _ h => h) HS0.out rfl ?hy0 ?_
  case hy0 => intro wy hSw; obtain ⟨z0, z1, z2, z3, z4, z5, z6, z7, z8, z9, z10⟩ := hSw; go_simp; try with_reducible rfl
  simp only [Act.put, List.setIfInBounds_toArray, List.set_cons_zero, List.set_cons_succ]
  refine wpAnyD_takeL (i := 1) (v := ?vv1) rfl (by kernel_rfl) (by kernel_rfl) (by kernel_rfl) (by kernel_rfl) (fun _ _ _ h => h) HS0.out rfl ?hy1 ?_
  case hy1 => intro wy hSw; obtain ⟨z0, z1, z2, z3, z4, z5, z6, z7, z8, z9, z10⟩ := hSw; go_simp; try with_reducible rfl
  simp only [Act.put, List.setIfInBounds_toArray, List.set_cons_zero, List.set_cons_succ]
  refine wpAnyD_takeL (i := 2) (v := ?vv2) rfl (by kernel_rfl) (by kernel_rfl) (by kernel_rfl) (by kernel_rfl) (fun _ _ _ h => h) HS0.out rfl ?hy2 ?_
  case hy2 => intro wy hSw; obtain ⟨z0, z1, z2, z3, z4, z5, z6, z7, z8, z9, z10⟩ := hSw; go_simp; try with_reducible rfl
  simp only [Act.put, List.setIfInBounds_toArray, List.set_cons_zero, List.set_cons_succ]
  refine wpAnyD_takeL (i := 3) (v := ?vv3) rfl (by kernel_rfl) (by kernel_rfl) (by kernel_rfl) (by kernel_rfl) (fun _ _ _ h => h) HS0.out rfl ?hy3 ?_
  case hy3 => intro wy hSw; obtain ⟨z0, z1, z2, z3, z4, z5, z6, z7, z8, z9, z10⟩ := hSw; go_simp; try with_reducible rfl
  simp only [Act.put, List.setIfInBounds_toArray, List.set_cons_zero, List.set_cons_succ]
  refine wpAnyD_takeL (i := 4) (v := ?vv4) rfl (by kernel_rfl) (by kernel_rfl) (by kernel_rfl) (by kernel_rfl) (fun _ _ _ h => h) HS0.out rfl ?hy4 ?_
  case hy4 => intro wy hSw; obtain ⟨z0, z1, z2, z3, z4, z5, z6, z7, z8, z9, z10⟩ := hSw; go_simp; try with_reducible rfl
  simp only [Act.put, List.setIfInBounds_toArray, List.set_cons_zero, List.set_cons_succ]
  refine wpAnyD_takeL (i := 5) (v := ?vv5) rfl (by kernel_rfl) (by kernel_rfl) (by kernel_rfl) (by kernel_rfl) (fun _ _ _ h => h) HS0.out rfl ?hy5 ?_
  case hy5 => intro wy hSw; obtain ⟨z0, z1, z2, z3, z4, z5, z6, z7, z8, z9, z10⟩ := hSw; go_simp; try with_reducible rfl
  simp only [Act.put, List.setIfInBounds_toArray, List.set_cons_zero, List.set_cons_succ]
  refine wpAnyD_takeL (i := 6) (v := ?vv6) rfl (by kernel_rfl) (by kernel_rfl) (by kernel_rfl) (by kernel_rfl) (fun _ _ _ h => h) HS0.out rfl ?hy6 ?_
  case hy6 => intro wy hSw; obtain ⟨z0, z1, z2, z3, z4, z5, z6, z7, z8, z9, z10⟩ := hSw; go_simp; try with_reducible rfl
  simp only [Act.put, List.setIfInBounds_toArray, List.set_cons_zero, List.set_cons_succ]
  refine wpAnyD_takeL (i := 7) (v := ?vv7) rfl (by kernel_rfl) (by kernel_rfl) (by kernel_rfl) (by kernel_rfl) (fun _ _ _ h => h) HS0.out rfl ?hy7 ?_
  case hy7 => intro wy hSw; obtain ⟨z0, z1, z2, z3, z4, z5, z6, z7, z8, z9, z10⟩ := hSw; go_simp; try with_reducible rfl
  simp only [Act.put, List.setIfInBounds_toArray, List.set_cons_zero, List.set_cons_succ]
  refine wpAnyD_stepL (i := 8) (by kernel_rfl) rfl (fun K hK => ?_)
  refine step_callB (by simp [Region.wanted]) (run_call ent_same #[.tmp 6, .tmp 10] _ rfl #[.agg #[.int .i64 k, .int .i64 n, .float .f64 f, .string s, .slice a' l0 c'], .agg #[.int .i64 k1, .int .i64 n1, .float .f64 f1, .string s1, .slice a1 l1 c1]] rfl) C1.out ?_
  rintro e w2 ⟨rfl, hb2⟩
  have HS2 := hidb (HS.out w2 (undrew hb2)); have HB2 := hidb (HBW.out.trans ((undrew hb2).mono HBW.out.size)); have HX2 := hidb (HX0.out.keep (undrew hb2)); have HV2 := hidb (undrew hb2); clear hb2
  refine hK _ _ (fun _ => HS2.out) ?_
  clear hK K
  simp only [Act.put, List.setIfInBounds_toArray, List.set_cons_zero, List.set_cons_succ]
  have HS0 := HS2
  refine wpAnyD_takeL (i := 9) (v := ?vv9) rfl (by kernel_rfl) (by kernel_rfl) (by kernel_rfl) (by kernel_rfl) (fun _ _ _ h => h) HS0.out rfl ?hy9 ?_
  case hy9 => intro wy hSw; obtain ⟨z0, z1, z2, z3, z4, z5, z6, z7, z8, z9, z10⟩ := hSw; go_simp; try with_reducible rfl
  simp only [Act.put, List.setIfInBounds_toArray, List.set_cons_zero, List.set_cons_succ]
  refine wpAnyD_stepL (i := 10) (by kernel_rfl) rfl (fun K hK => ?_)
  refine step_callB (by simp [Region.wanted]) (run_call ent_boolean #[.tmp 12] _ rfl #[.bool (!r)] rfl) (boolean_any (!r) w2) ?_
  rintro e w3 ⟨rfl, hb3⟩
  have HB3 := hidb (HB2.out.trans (hb3.mono HB2.out.size))
  have HX3 := hidb (HX2.out.keep hb3)
  have HS3 := hidb (HS.out w3 (HV2.out.trans (hb3.mono HV2.out.size)))
  clear hb3
  refine hK _ _ (fun _ => HS3.out) ?_
  clear hK K
  simp only [Act.put, List.setIfInBounds_toArray, List.set_cons_zero, List.set_cons_succ]
  obtain ⟨⟨x0, x1, x2, x3, x4⟩, ⟨y0, y1, y2, y3, y4⟩, xl⟩ := Box.six HX3.out
  obtain ⟨S, hS⟩ : ∃ S, (bolT (!r)).val = .agg #[.int .i64 3, .int .i64 0, .float .f64 0, .string S, .slice none 0 0] := ⟨_, rfl⟩
  rw [hS]
  have HS := hidb hS
  clear hS
  refine wpAnyD_stepL (i := 11) (by kernel_rfl) rfl (fun K hK => ?_)
  go_simp
  refine hK _ _ (fun h => absurd (List.mem_singleton.2 rfl) h) ?_
  clear hK K
  refine wpAnyD_done (by kernel_rfl) ?_ _
  go_wp2_with fail
  have bx9 := HX3.out.set (.int .i64 3) (.int .i64 0) (.float .f64 0) (.string S) (.slice none 0 0)
  obtain ⟨⟨k0, k1', k2, k3, k4⟩, -, -⟩ := Box.six bx9
  simp only [set5] at k0 k1' k2 k3 k4
  refine bodyPost_ret (v := (bolT (!r)).val) (by rw [HS.out]; simp [results, Tryz.results43, go_sem, k0, k1', k2, k3, k4]) rfl ?_
  rw [← HPP.out]
  exact tld_bool HP.out (((((HB3.out.setCell (by simp) _).setCell (by simp) _).setCell (by simp) _).setCell (by simp) _).setCell (by simp) _)

set_option maxHeartbeats 8000000 in
set_option maxRecDepth 100000 in
theorem least_tc {w : World} {a : Option Addr} {c : Nat} {t0 t1 : Tr} {nm : ByteArray} {P : Tr → Prop} {E : Int → Prop} {r : Int} (hin : ArgsIn w a c [t0, t1]) (hs0 : Small t0 ∧ cnT t0 ≤ 1000000000) (hs1 : Small t1 ∧ cnT t1 ≤ 1000000000) (hC : ∀ W, Below w.heap.size w W → Calls Tryz.prog 11 #[t0.val, t1.val] W fun e w' => e = .returned (.tuple #[.int .i64 r, .int .i64 0]) ∧ Below W.heap.size W w') (hP0 : r ≤ 0 → P t0) (hP1 : ¬ r ≤ 0 → P t1) :
    TC 66 P E (.agg #[.string nm, .slice a 2 c, noneF]) w := by
  refine ⟨fun args w => by kernel_rfl, fun W hW => ?_⟩
  have HP0 := hidb hP0
  have HP1 := hidb hP1
  have HSM0 := hidb hs0
  have HSM1 := hidb hs1
  have HWS := hidb hW.size
  have HON0 := hidb (onAll_get (t := t0) (by have := on_all _ hin; unfold Tr.On at this; exact this.2) (by simp))
  have HON1 := hidb (onAll_get (t := t1) (by have := on_all _ hin; unfold Tr.On at this; exact this.2) (by simp))
  have CM := hidb (fun W1 (hb : Below W.heap.size W W1) => compareM (nm := nm) (in_below (hW.trans (hb.mono hW.size)) hin) (fun W2 hb2 => hC W2 ((hW.trans (hb.mono hW.size)).trans (hb2.mono (hW.trans (hb.mono hW.size)).size))) noneF (.inr rfl))
  obtain ⟨k, n, f, s, a', c', ks⟩ := t0
  obtain ⟨k1, n1, f1, s1, a1, c1, ks1⟩ := t1
  obtain ⟨b, o, rfl, hbW, v0, v1, v2, v3, v4, i0⟩ := argi hin hW (i := 0) rfl
  obtain ⟨b2, o2, e, -, u0, u1, u2, u3, u4, i1⟩ := argi hin hW (i := 1) rfl
  obtain ⟨rfl, rfl⟩ : b = b2 ∧ o = o2 := by simpa using e
  have HI0 := hidb i0
  have HI1 := hidb i1
  simp only [Nat.zero_mul, Nat.add_zero, Nat.one_mul] at v0 v1 v2 v3 v4 u0 u1 u2 u3 u4
  obtain ⟨l0, hl0⟩ : ∃ l0, ks.length = l0 := ⟨_, rfl⟩
  obtain ⟨l1, hl1⟩ : ∃ l1, ks1.length = l1 := ⟨_, rfl⟩
  have HL0 := hidb hl0
  have HL1 := hidb hl1
  rw [hl0] at v4
  rw [hl1] at u4
  obtain ⟨V1, hV1⟩ : ∃ V1, ((W.alloc (.cells #[.string nm, .slice (some ⟨b, o, none⟩) 2 c, noneF] CT)).alloc (.cells #[.int .i64 0, .int .i64 0, .float .f64 0, .string ⟨#[]⟩, .slice none 0 0] 25)) = V1 := ⟨_, rfl⟩
  have HX0 : Hid (Box V1 (W.heap.size + 1) (.int .i64 0) (.int .i64 0) (.float .f64 0) (.string ⟨#[]⟩) (.slice none 0 0)) := hidb (by
    rw [← hV1]
    have := Box.new (W.alloc (.cells #[.string nm, .slice (some ⟨b, o, none⟩) 2 c, noneF] CT)) 25 (.int .i64 0) (.int .i64 0) (.float .f64 0) (.string ⟨#[]⟩) (.slice none 0 0)
    simpa using this)
  have HC0 : Hid (Tri V1 W.heap.size (.string nm) (.slice (some ⟨b, o, none⟩) 2 c) noneF) := hidb (by rw [← hV1]; exact (Tri.new W _ _ _ _).keep (below_new _ _))
  have HBW : Hid (Below W.heap.size W V1) := hidb (by rw [← hV1]; exact (below_new W _).alloc (by simp) _)
  have HV1 := hidb hV1
  obtain ⟨PP, hPP⟩ : ∃ PP : Ending → World → Prop, Tld P E w.heap.size W = PP := ⟨_, rfl⟩
  have HPP := hidb hPP
  rw [hPP]
  clear hV1 hPP
  have HQ : Hid (∀ W9, Below W.heap.size W W9 → W9.cell? ⟨b, o, none⟩ = some (.int .i64 k) ∧ W9.cell? ⟨b, o + 1, none⟩ = some (.int .i64 n) ∧ W9.cell? ⟨b, o + 2, none⟩ = some (.float .f64 f) ∧ W9.cell? ⟨b, o + 3, none⟩ = some (.string s) ∧ W9.cell? ⟨b, o + 4, none⟩ = some (.slice a' l0 c') ∧ W9.cell? ⟨b, o + 5, none⟩ = some (.int .i64 k1) ∧ W9.cell? ⟨b, o + 5 + 1, none⟩ = some (.int .i64 n1) ∧ W9.cell? ⟨b, o + 5 + 2, none⟩ = some (.float .f64 f1) ∧ W9.cell? ⟨b, o + 5 + 3, none⟩ = some (.string s1) ∧ W9.cell? ⟨b, o + 5 + 4, none⟩ = some (.slice a1 l1 c1) ∧ b < W9.heap.size) := hidb (fun W9 q => ⟨(q.cell (p := ⟨b, o, none⟩) hbW).trans v0, (q.cell (p := ⟨b, o + 1, none⟩) hbW).trans v1, (q.cell (p := ⟨b, o + 2, none⟩) hbW).trans v2, (q.cell (p := ⟨b, o + 3, none⟩) hbW).trans v3, (q.cell (p := ⟨b, o + 4, none⟩) hbW).trans v4, (q.cell (p := ⟨b, o + 5, none⟩) hbW).trans u0, (q.cell (p := ⟨b, o + 5 + 1, none⟩) hbW).trans u1, (q.cell (p := ⟨b, o + 5 + 2, none⟩) hbW).trans u2, (q.cell (p := ⟨b, o + 5 + 3, none⟩) hbW).trans u3, (q.cell (p := ⟨b, o + 5 + 4, none⟩) hbW).trans u4, Nat.lt_of_lt_of_le hbW q.size⟩)
  have HNB : Hid (b < W.heap.size) := hidb hbW
  clear hin hC hP0 hP1 hs0 hs1 hW e i0 i1 hl0 hl1 v0 v1 v2 v3 v4 u0 u1 u2 u3 u4 hbW
  go_enter Tryz.func66, Tryz.ntmps66
  go_wp2_with fail
  rw [HV1.out]
  refine (CM.out _ HBW.out).mono ?_
  rintro e w2 ⟨rfl, hb2⟩
  have HB2 := hidb (HBW.out.trans (hb2.mono HBW.out.size))
  have HX2 := hidb (HX0.out.keep hb2)
  have HC2 := hidb (HC0.out.keep hb2)
  have q0 := HC2.out.c0; have q1 := HC2.out.c1; have q2 := HC2.out.c2
  obtain ⟨v0, v1, v2, v3, v4, u0, u1, u2, u3, u4, hbl⟩ := HQ.out _ HB2.out
  obtain ⟨⟨x0, x1, x2, x3, x4⟩, ⟨y0, y1, y2, y3, y4⟩, xl⟩ := Box.six HX2.out
  have hbn : b ≠ W.heap.size + 1 := by have := HNB.out; omega
  clear hb2
  by_cases hr : r ≤ 0
  · have HPT := hidb (HP0.out hr)
    go_wp2_with fail
    have bx9 := HX2.out.set (.int .i64 k) (.int .i64 n) (.float .f64 f) (.string s) (.slice a' l0 c')
    obtain ⟨⟨k0, k1', k2, k3, k4⟩, -, -⟩ := Box.six bx9
    simp only [set5] at k0 k1' k2 k3 k4
    refine bodyPost_ret (v := (Tr.mk k n f s a' c' ks).val) (by simp [Tr.val, Tr.cells, HL0.out, results, Tryz.results66, go_sem, k0, k1', k2, k3, k4]) rfl ?_
    rw [← HPP.out]
    have hwl : w.heap.size ≤ W.heap.size := HWS.out
    refine ⟨(((((HB2.out.setCell (by simp) _).setCell (by simp) _).setCell (by simp) _).setCell (by simp) _).setCell (by simp) _), .inl ⟨_, rfl, HPT.out, ?_, on_mono (fun q hq => .inl hq) _ HON0.out, HSM0.out.1, HSM0.out.2⟩⟩
    exact in_on5 (B := w.heap.size) (c := W.heap.size + 2) (in_below HB2.out HI0.out) (on_mono (fun q hq => .inl hq) _ HON0.out) (by omega) (by omega) _ _ _ _ _
  · have HPT := hidb (HP1.out (by omega))
    go_wp2_with fail
    have bx9 := HX2.out.set (.int .i64 k1) (.int .i64 n1) (.float .f64 f1) (.string s1) (.slice a1 l1 c1)
    obtain ⟨⟨k0, k1', k2, k3, k4⟩, -, -⟩ := Box.six bx9
    simp only [set5] at k0 k1' k2 k3 k4
    refine bodyPost_ret (v := (Tr.mk k1 n1 f1 s1 a1 c1 ks1).val) (by simp [Tr.val, Tr.cells, HL1.out, results, Tryz.results66, go_sem, k0, k1', k2, k3, k4]) rfl ?_
    rw [← HPP.out]
    have hwl : w.heap.size ≤ W.heap.size := HWS.out
    refine ⟨(((((HB2.out.setCell (by simp) _).setCell (by simp) _).setCell (by simp) _).setCell (by simp) _).setCell (by simp) _), .inl ⟨_, rfl, HPT.out, ?_, on_mono (fun q hq => .inl hq) _ HON1.out, HSM1.out.1, HSM1.out.2⟩⟩
    exact in_on5 (B := w.heap.size) (c := W.heap.size + 2) (in_below HB2.out HI1.out) (on_mono (fun q hq => .inl hq) _ HON1.out) (by omega) (by omega) _ _ _ _ _

set_option maxHeartbeats 8000000 in
set_option maxRecDepth 100000 in
theorem greatest_tc {w : World} {a : Option Addr} {c : Nat} {t0 t1 : Tr} {nm : ByteArray} {P : Tr → Prop} {E : Int → Prop} {r : Int} (hin : ArgsIn w a c [t0, t1]) (hs0 : Small t0 ∧ cnT t0 ≤ 1000000000) (hs1 : Small t1 ∧ cnT t1 ≤ 1000000000) (hC : ∀ W, Below w.heap.size w W → Calls Tryz.prog 11 #[t0.val, t1.val] W fun e w' => e = .returned (.tuple #[.int .i64 r, .int .i64 0]) ∧ Below W.heap.size W w') (hP0 : 0 ≤ r → P t0) (hP1 : ¬ 0 ≤ r → P t1) :
    TC 67 P E (.agg #[.string nm, .slice a 2 c, noneF]) w := by
  refine ⟨fun args w => by kernel_rfl, fun W hW => ?_⟩
  have HP0 := hidb hP0
  have HP1 := hidb hP1
  have HSM0 := hidb hs0
  have HSM1 := hidb hs1
  have HWS := hidb hW.size
  have HON0 := hidb (onAll_get (t := t0) (by have := on_all _ hin; unfold Tr.On at this; exact this.2) (by simp))
  have HON1 := hidb (onAll_get (t := t1) (by have := on_all _ hin; unfold Tr.On at this; exact this.2) (by simp))
  have CM := hidb (fun W1 (hb : Below W.heap.size W W1) => compareM (nm := nm) (in_below (hW.trans (hb.mono hW.size)) hin) (fun W2 hb2 => hC W2 ((hW.trans (hb.mono hW.size)).trans (hb2.mono (hW.trans (hb.mono hW.size)).size))) noneF (.inr rfl))
  obtain ⟨k, n, f, s, a', c', ks⟩ := t0
  obtain ⟨k1, n1, f1, s1, a1, c1, ks1⟩ := t1
  obtain ⟨b, o, rfl, hbW, v0, v1, v2, v3, v4, i0⟩ := argi hin hW (i := 0) rfl
  obtain ⟨b2, o2, e, -, u0, u1, u2, u3, u4, i1⟩ := argi hin hW (i := 1) rfl
  obtain ⟨rfl, rfl⟩ : b = b2 ∧ o = o2 := by simpa using e
  have HI0 := hidb i0
  have HI1 := hidb i1
  simp only [Nat.zero_mul, Nat.add_zero, Nat.one_mul] at v0 v1 v2 v3 v4 u0 u1 u2 u3 u4
  obtain ⟨l0, hl0⟩ : ∃ l0, ks.length = l0 := ⟨_, rfl⟩
  obtain ⟨l1, hl1⟩ : ∃ l1, ks1.length = l1 := ⟨_, rfl⟩
  have HL0 := hidb hl0
  have HL1 := hidb hl1
  rw [hl0] at v4
  rw [hl1] at u4
  obtain ⟨V1, hV1⟩ : ∃ V1, ((W.alloc (.cells #[.string nm, .slice (some ⟨b, o, none⟩) 2 c, noneF] CT)).alloc (.cells #[.int .i64 0, .int .i64 0, .float .f64 0, .string ⟨#[]⟩, .slice none 0 0] 25)) = V1 := ⟨_, rfl⟩
  have HX0 : Hid (Box V1 (W.heap.size + 1) (.int .i64 0) (.int .i64 0) (.float .f64 0) (.string ⟨#[]⟩) (.slice none 0 0)) := hidb (by
    rw [← hV1]
    have := Box.new (W.alloc (.cells #[.string nm, .slice (some ⟨b, o, none⟩) 2 c, noneF] CT)) 25 (.int .i64 0) (.int .i64 0) (.float .f64 0) (.string ⟨#[]⟩) (.slice none 0 0)
    simpa using this)
  have HC0 : Hid (Tri V1 W.heap.size (.string nm) (.slice (some ⟨b, o, none⟩) 2 c) noneF) := hidb (by rw [← hV1]; exact (Tri.new W _ _ _ _).keep (below_new _ _))
  have HBW : Hid (Below W.heap.size W V1) := hidb (by rw [← hV1]; exact (below_new W _).alloc (by simp) _)
  have HV1 := hidb hV1
  obtain ⟨PP, hPP⟩ : ∃ PP : Ending → World → Prop, Tld P E w.heap.size W = PP := ⟨_, rfl⟩
  have HPP := hidb hPP
  rw [hPP]
  clear hV1 hPP
  have HQ : Hid (∀ W9, Below W.heap.size W W9 → W9.cell? ⟨b, o, none⟩ = some (.int .i64 k) ∧ W9.cell? ⟨b, o + 1, none⟩ = some (.int .i64 n) ∧ W9.cell? ⟨b, o + 2, none⟩ = some (.float .f64 f) ∧ W9.cell? ⟨b, o + 3, none⟩ = some (.string s) ∧ W9.cell? ⟨b, o + 4, none⟩ = some (.slice a' l0 c') ∧ W9.cell? ⟨b, o + 5, none⟩ = some (.int .i64 k1) ∧ W9.cell? ⟨b, o + 5 + 1, none⟩ = some (.int .i64 n1) ∧ W9.cell? ⟨b, o + 5 + 2, none⟩ = some (.float .f64 f1) ∧ W9.cell? ⟨b, o + 5 + 3, none⟩ = some (.string s1) ∧ W9.cell? ⟨b, o + 5 + 4, none⟩ = some (.slice a1 l1 c1) ∧ b < W9.heap.size) := hidb (fun W9 q => ⟨(q.cell (p := ⟨b, o, none⟩) hbW).trans v0, (q.cell (p := ⟨b, o + 1, none⟩) hbW).trans v1, (q.cell (p := ⟨b, o + 2, none⟩) hbW).trans v2, (q.cell (p := ⟨b, o + 3, none⟩) hbW).trans v3, (q.cell (p := ⟨b, o + 4, none⟩) hbW).trans v4, (q.cell (p := ⟨b, o + 5, none⟩) hbW).trans u0, (q.cell (p := ⟨b, o + 5 + 1, none⟩) hbW).trans u1, (q.cell (p := ⟨b, o + 5 + 2, none⟩) hbW).trans u2, (q.cell (p := ⟨b, o + 5 + 3, none⟩) hbW).trans u3, (q.cell (p := ⟨b, o + 5 + 4, none⟩) hbW).trans u4, Nat.lt_of_lt_of_le hbW q.size⟩)
  have HNB : Hid (b < W.heap.size) := hidb hbW
  clear hin hC hP0 hP1 hs0 hs1 hW e i0 i1 hl0 hl1 v0 v1 v2 v3 v4 u0 u1 u2 u3 u4 hbW
  go_enter Tryz.func67, Tryz.ntmps67
  go_wp2_with fail
  rw [HV1.out]
  refine (CM.out _ HBW.out).mono ?_
  rintro e w2 ⟨rfl, hb2⟩
  have HB2 := hidb (HBW.out.trans (hb2.mono HBW.out.size))
  have HX2 := hidb (HX0.out.keep hb2)
  have HC2 := hidb (HC0.out.keep hb2)
  have q0 := HC2.out.c0; have q1 := HC2.out.c1; have q2 := HC2.out.c2
  obtain ⟨v0, v1, v2, v3, v4, u0, u1, u2, u3, u4, hbl⟩ := HQ.out _ HB2.out
  obtain ⟨⟨x0, x1, x2, x3, x4⟩, ⟨y0, y1, y2, y3, y4⟩, xl⟩ := Box.six HX2.out
  have hbn : b ≠ W.heap.size + 1 := by have := HNB.out; omega
  clear hb2
  by_cases hr : 0 ≤ r
  · have HPT := hidb (HP0.out hr)
    go_wp2_with fail
    have bx9 := HX2.out.set (.int .i64 k) (.int .i64 n) (.float .f64 f) (.string s) (.slice a' l0 c')
    obtain ⟨⟨k0, k1', k2, k3, k4⟩, -, -⟩ := Box.six bx9
    simp only [set5] at k0 k1' k2 k3 k4
    refine bodyPost_ret (v := (Tr.mk k n f s a' c' ks).val) (by simp [Tr.val, Tr.cells, HL0.out, results, Tryz.results67, go_sem, k0, k1', k2, k3, k4]) rfl ?_
    rw [← HPP.out]
    have hwl : w.heap.size ≤ W.heap.size := HWS.out
    refine ⟨(((((HB2.out.setCell (by simp) _).setCell (by simp) _).setCell (by simp) _).setCell (by simp) _).setCell (by simp) _), .inl ⟨_, rfl, HPT.out, ?_, on_mono (fun q hq => .inl hq) _ HON0.out, HSM0.out.1, HSM0.out.2⟩⟩
    exact in_on5 (B := w.heap.size) (c := W.heap.size + 2) (in_below HB2.out HI0.out) (on_mono (fun q hq => .inl hq) _ HON0.out) (by omega) (by omega) _ _ _ _ _
  · have HPT := hidb (HP1.out (by omega))
    go_wp2_with fail
    have bx9 := HX2.out.set (.int .i64 k1) (.int .i64 n1) (.float .f64 f1) (.string s1) (.slice a1 l1 c1)
    obtain ⟨⟨k0, k1', k2, k3, k4⟩, -, -⟩ := Box.six bx9
    simp only [set5] at k0 k1' k2 k3 k4
    refine bodyPost_ret (v := (Tr.mk k1 n1 f1 s1 a1 c1 ks1).val) (by simp [Tr.val, Tr.cells, HL1.out, results, Tryz.results67, go_sem, k0, k1', k2, k3, k4]) rfl ?_
    rw [← HPP.out]
    have hwl : w.heap.size ≤ W.heap.size := HWS.out
    refine ⟨(((((HB2.out.setCell (by simp) _).setCell (by simp) _).setCell (by simp) _).setCell (by simp) _).setCell (by simp) _), .inl ⟨_, rfl, HPT.out, ?_, on_mono (fun q hq => .inl hq) _ HON1.out, HSM1.out.1, HSM1.out.2⟩⟩
    exact in_on5 (B := w.heap.size) (c := W.heap.size + 2) (in_below HB2.out HI1.out) (on_mono (fun q hq => .inl hq) _ HON1.out) (by omega) (by omega) _ _ _ _ _
end Go.Proofs.YtajadhkpadkikaaGreatDoor


/- known: the chapter's examples. -/
namespace Go.Proofs.YtajadhkpadkikaaGreatDoor
open Go.RowKit Go.Lib Go.Deep
attribute [local go_sem] store_float f64bits store_func store_nilFunc
attribute [local go_sem ↓] Go.wp_at_zero Go.wp_at_succ

abbrev bolS (b : Bool) : ByteArray := if b then trueS else falseS
theorem ans_bool {b : Bool} {w : World} {e : Ending} {w' : World} (h : Ans (fun x => x = bolT b) (fun _ => False) w e w') : ∃ a c, e = .returned (.tuple #[.agg #[.int .i64 3, .int .i64 0, .float .f64 0, .string (bolS b), .slice a 0 c], .int .i64 0]) ∧ Below w.heap.size w w' ∧ (Tr.mk 3 0 0 (bolS b) a c []).In w' w.heap.size := by
  obtain ⟨hb, ⟨t, ⟨k', n', f', s', a', c', ks'⟩, rfl, -, hs, hin, rfl⟩ | ⟨er, hE | ⟨t, rfl, he, -⟩, rfl⟩⟩ := h
  · unfold bolT Sm at hs
    obtain ⟨rfl, rfl, rfl, rfl, h⟩ := hs
    cases ks' with
    | nil => exact ⟨a', c', rfl, hb, hin⟩
    | cons => simp [SmA] at h
  · exact hE.elim
  · exact absurd (bolT_err b) he
theorem ans_err {er : Int} {w : World} {e : Ending} {w' : World} (h : Ans (fun _ => False) (fun x => x = er) w e w') : e = .returned (.tuple #[zterm, .int .i64 er]) ∧ Below w.heap.size w w' := by
  obtain ⟨hb, ⟨t, t', h, -⟩ | ⟨er', rfl | ⟨t, h, -⟩, rfl⟩⟩ := h
  · exact h.elim
  · exact ⟨rfl, hb⟩
  · exact h.elim
theorem in_kind {w : World} {base : Nat} {k' n : Int} {f : Nat} {s : ByteArray} {a : Option Addr} {c : Nat} {ks : List Tr} (h : (Tr.mk 0 n f s a c ks).In w base) (hk : Lit.wf (.int .i64 k') = true) : (Tr.mk k' n f s a c ks).In w base := by
  unfold Tr.In at h ⊢
  exact ⟨⟨hk, h.1.2⟩, h.2⟩

theorem i9_any (k : Int) (w : World) : Calls Tryz.prog 19 #[.int .i64 k] w fun e w' => e = .returned (.agg #[.int .i64 1, .int .i64 k, .float .f64 0, .string ⟨#[]⟩, .slice none 0 0]) ∧ Below w.heap.size w w' := by
  go_enter Tryz.func19, Tryz.ntmps19
  go_wp2
  exact bodyPost_ret (v := .agg #[.int .i64 1, .int .i64 k, .float .f64 0, .string ⟨#[]⟩, .slice none 0 0]) (by simp [results, Tryz.results19, go_sem]) rfl ⟨rfl, below_new w _⟩

set_option maxRecDepth 100000 in
theorem eq_one (w : World) : Calls Tryz.prog 12 #[.string ⟨#[61, 61]⟩, .slice (some ⟨w.heap.size, 0, none⟩) 2 2] (w.alloc (.cells oneC 25)) fun e w' => (∃ a c, e = .returned (.tuple #[.agg #[.int .i64 3, .int .i64 0, .float .f64 0, .string trueS, .slice a 0 c], .int .i64 0])) ∧ Below w.heap.size w w' := by
  refine (op_any (P := fun x => x = bolT true) (E := fun _ => False) (n := 2) (fun r hr => ?_) (fun h => ?_)).mono ?_
  · have hf : bfnd opsL ⟨#[61, 61]⟩ ((2 : Nat) : Int) = some (⟨#[61, 61]⟩, 2, 36) := by kernel_rfl
    rw [hf] at hr
    obtain rfl := Option.some.inj hr
    exact equal_tc (r := 0) (ones_in w _) (fun W hW => cmp_one W) rfl
  · have hf : bfnd opsL ⟨#[61, 61]⟩ ((2 : Nat) : Int) = some (⟨#[61, 61]⟩, 2, 36) := by kernel_rfl
    rw [hf] at h
    cases h
  · intro e w' h
    obtain ⟨a, c, rfl, hb, -⟩ := ans_bool h
    exact ⟨⟨a, c, rfl⟩, (below_new w _).trans (hb.mono (by simp))⟩
set_option maxRecDepth 100000 in
theorem id_one (w : World) : Calls Tryz.prog 12 #[.string ⟨#[61, 58, 61]⟩, .slice (some ⟨w.heap.size, 0, none⟩) 2 2] (w.alloc (.cells oneC 25)) fun e w' => (∃ a c, e = .returned (.tuple #[.agg #[.int .i64 3, .int .i64 0, .float .f64 0, .string falseS, .slice a 0 c], .int .i64 0])) ∧ Below w.heap.size w w' := by
  refine (op_any (P := fun x => x = bolT false) (E := fun _ => False) (n := 2) (fun r hr => ?_) (fun h => ?_)).mono ?_
  · have hf : bfnd opsL ⟨#[61, 58, 61]⟩ ((2 : Nat) : Int) = some (⟨#[61, 58, 61]⟩, 2, 42) := by kernel_rfl
    rw [hf] at hr
    obtain rfl := Option.some.inj hr
    exact identical_tc (r := false) (ones_in w _) (fun W hW => same_one W) rfl
  · have hf : bfnd opsL ⟨#[61, 58, 61]⟩ ((2 : Nat) : Int) = some (⟨#[61, 58, 61]⟩, 2, 42) := by kernel_rfl
    rw [hf] at h
    cases h
  · intro e w' h
    obtain ⟨a, c, rfl, hb, -⟩ := ans_bool h
    exact ⟨⟨a, c, rfl⟩, (below_new w _).trans (hb.mono (by simp))⟩

abbrev sevT : Tr := .mk 1 7 0 ⟨#[]⟩ none 0 []
theorem sev_in (w : World) : sevT.In w 0 := by
  unfold Tr.In
  exact ⟨⟨by decide, by decide, by decide, by show 0 ≤ maxLen; omega, by simp, by simp, fun _ => rfl⟩, fun ad h => by simp at h⟩
theorem num_in (n : Int) (h0 : 0 ≤ n) (h1 : n ≤ 1000) (w : World) : (Tr.mk 1 n 0 ⟨#[]⟩ none 0 []).In w 0 := by
  unfold Tr.In
  refine ⟨⟨by decide, ?_, by decide, by show 0 ≤ maxLen; omega, by simp, by simp, fun _ => rfl⟩, fun ad h => by simp at h⟩
  have e0 : IntKind.i64.min = -9223372036854775808 := by decide
  have e1 : IntKind.i64.max = 9223372036854775807 := by decide
  simp only [Lit.wf, e0, e1, Bool.and_eq_true, decide_eq_true_eq]
  omega
/-- {7} and a number, as arguments. -/
theorem el_args (n : Int) (h0 : 0 ≤ n) (h1 : n ≤ 1000) (w : World) (tb : Nat) (htb : (Tr.mk 0 0 0 ⟨#[]⟩ (some ⟨tb, 0, none⟩) 1 [sevT]).In w 0) (t : TypeId) : ArgsIn (w.alloc (.cells #[.int .i64 1, .int .i64 n, .float .f64 0, .string ⟨#[]⟩, .slice none 0 0, .int .i64 7, .int .i64 0, .float .f64 0, .string ⟨#[]⟩, .slice (some ⟨tb, 0, none⟩) 1 1] t)) (some ⟨w.heap.size, 0, none⟩) 2 [.mk 1 n 0 ⟨#[]⟩ none 0 [], .mk 7 0 0 ⟨#[]⟩ (some ⟨tb, 0, none⟩) 1 [sevT]] :=
  built_in w [.mk 1 n 0 ⟨#[]⟩ none 0 [], .mk 7 0 0 ⟨#[]⟩ (some ⟨tb, 0, none⟩) 1 [sevT]] (fun u hu => by
    rcases List.mem_cons.1 hu with h | h
    · rw [h]; exact num_in n h0 h1 w
    · rw [List.mem_singleton.1 h]; exact in_kind htb (by decide)) t (by simp)
theorem el_find : (bfnd grdL ⟨#[101, 108, 101, 109, 101, 110, 116]⟩ ((2 : Nat) : Int)).or (bfnd othL ⟨#[101, 108, 101, 109, 101, 110, 116]⟩ ((2 : Nat) : Int)) = some (⟨#[101, 108, 101, 109, 101, 110, 116]⟩, 2, 54) := by kernel_rfl
theorem sev_small : ∀ t ∈ [sevT], Small t ∧ cnT t ≤ 1000000000 := fun t ht => by
  rw [List.mem_singleton.1 ht]
  simp [Small, SmallAll, cnT, cnA]
set_option maxRecDepth 100000 in
theorem el_1 (w : World) (tb : Nat) (htb : (Tr.mk 0 0 0 ⟨#[]⟩ (some ⟨tb, 0, none⟩) 1 [sevT]).In w 0) : Calls Tryz.prog 16 #[.string ⟨#[101, 108, 101, 109, 101, 110, 116]⟩, .slice (some ⟨w.heap.size, 0, none⟩) 2 2, noneF] (w.alloc (.cells #[.int .i64 1, .int .i64 1, .float .f64 0, .string ⟨#[]⟩, .slice none 0 0, .int .i64 7, .int .i64 0, .float .f64 0, .string ⟨#[]⟩, .slice (some ⟨tb, 0, none⟩) 1 1] 25)) fun e w' => (∃ a c, e = .returned (.tuple #[.agg #[.int .i64 1, .int .i64 7, .float .f64 0, .string ⟨#[]⟩, .slice a 0 c], .int .i64 0])) ∧ Below w.heap.size w w' := by
  refine (call_any (P := fun x => x = sevT) (E := fun _ => False) (n := 2) (fun r hr => ?_) (fun h => ?_)).mono ?_
  · rw [el_find] at hr
    obtain rfl := Option.some.inj hr
    refine element_tc (el_args 1 (by omega) (by omega) w tb htb _) sev_small (by simp) (fun _ _ t ht => ?_) (fun h => ?_)
    · simpa using ht.symm
    · simp [plB] at h
  · rw [el_find] at h
    cases h
  · intro e w' h
    obtain ⟨hb, ⟨t, ⟨k', n', f', s', a', c', ks'⟩, rfl, -, hs, hin, rfl⟩ | ⟨er, hE | ⟨t, rfl, he, -⟩, rfl⟩⟩ := h
    · unfold Sm at hs
      obtain ⟨rfl, rfl, rfl, rfl, h⟩ := hs
      cases ks' with
      | nil => exact ⟨⟨a', c', rfl⟩, (below_new w _).trans (hb.mono (by simp))⟩
      | cons => simp [SmA] at h
    · exact hE.elim
    · exact absurd (by simp [errT, meas, measAll, own, allT, allAll, goodT, rightB, whB, ByteArray.toList_eq]) he
set_option maxRecDepth 100000 in
theorem el_0 (w : World) (tb : Nat) (htb : (Tr.mk 0 0 0 ⟨#[]⟩ (some ⟨tb, 0, none⟩) 1 [sevT]).In w 0) : Calls Tryz.prog 16 #[.string ⟨#[101, 108, 101, 109, 101, 110, 116]⟩, .slice (some ⟨w.heap.size, 0, none⟩) 2 2, noneF] (w.alloc (.cells #[.int .i64 1, .int .i64 0, .float .f64 0, .string ⟨#[]⟩, .slice none 0 0, .int .i64 7, .int .i64 0, .float .f64 0, .string ⟨#[]⟩, .slice (some ⟨tb, 0, none⟩) 1 1] 25)) fun e w' => e = .returned (.tuple #[zterm, .int .i64 13]) ∧ Below w.heap.size w w' := by
  refine (call_any (P := fun _ => False) (E := fun x => x = 13) (n := 2) (fun r hr => ?_) (fun h => ?_)).mono ?_
  · rw [el_find] at hr
    obtain rfl := Option.some.inj hr
    refine element_tc (el_args 0 (by omega) (by omega) w tb htb _) sev_small (by simp) (fun _ h t ht => ?_) (fun h => rfl)
    simp [plB] at h
  · rw [el_find] at h
    cases h
  · intro e w' h
    obtain ⟨rfl, hb⟩ := ans_err h
    exact ⟨rfl, (below_new w _).trans (hb.mono (by simp))⟩

set_option maxHeartbeats 1600000 in
set_option maxRecDepth 100000 in
theorem known9_any (w : World) : Calls Tryz.prog 7 #[] w fun e w' => e = .returned (.bool true) ∧ Below w.heap.size w w' := by
  go_enter Tryz.func7, Tryz.ntmps7
  go_wp2_with (go_at_call 19; refine (i9_any _ _).mono ?_; rintro e w1 ⟨rfl, hb1⟩; have HB1 := hidb hb1; clear hb1)
  refine (eq_one w1).mono ?_
  rintro e w2 ⟨⟨a1, c1, rfl⟩, hb2⟩
  have HB2 := hidb (HB1.out.trans (hb2.mono HB1.out.size))
  clear hb2 HB1
  go_wp2_with fail
  refine (i9_any _ _).mono ?_
  rintro e w3 ⟨rfl, hb3⟩
  have HA3 := hidb ((Box.new w2 25 (.int .i64 3) (.int .i64 0) (.float .f64 0) (.string trueS) (.slice a1 0 c1)).keep hb3)
  have HB3 := hidb (HB2.out.trans (((below_new w2 _).trans (hb3.mono (by simp))).mono HB2.out.size))
  clear hb3 HB2
  go_wp2_with fail
  refine (id_one w3).mono ?_
  rintro e w4 ⟨⟨a2, c2, rfl⟩, hb4⟩
  have HA4 := hidb (HA3.out.keep hb4)
  have HB4 := hidb (HB3.out.trans (hb4.mono HB3.out.size))
  clear hb4 HA3 HB3
  go_wp2_with fail
  refine (i9_any _ _).mono ?_
  rintro e w5 ⟨rfl, hb5⟩
  have HA5 := hidb ((HA4.out.keep (below_new w4 _)).keep hb5)
  have HD5 := hidb ((Box.new w4 25 (.int .i64 3) (.int .i64 0) (.float .f64 0) (.string falseS) (.slice a2 0 c2)).keep hb5)
  have HB5 := hidb (HB4.out.trans (((below_new w4 _).trans (hb5.mono (by simp))).mono HB4.out.size))
  clear hb5 HA4 HB4
  go_wp2_with fail
  refine (i9_any _ _).mono ?_
  rintro e w6 ⟨rfl, hb6⟩
  have HA6 := hidb (HA5.out.keep hb6)
  have HD6 := hidb (HD5.out.keep hb6)
  have HB6 := hidb (HB5.out.trans (hb6.mono HB5.out.size))
  clear hb6 HA5 HB5 HD5
  go_wp2_with fail
  obtain ⟨V6, hV6⟩ : ∃ V6, w6.alloc (.cells #[.int .i64 1, .int .i64 7, .float .f64 0, .string ⟨#[]⟩, .slice none 0 0] 25) = V6 := ⟨_, rfl⟩
  have htb : (Tr.mk 0 0 0 ⟨#[]⟩ (some ⟨w6.heap.size, 0, none⟩) 1 [sevT]).In V6 0 := by
    rw [← hV6]
    exact built_in w6 [sevT] (fun u hu => by rw [List.mem_singleton.1 hu]; exact sev_in w6) 25 (by simp)
  have hz6 : w6.heap.size + 1 = V6.heap.size := by rw [← hV6]; simp
  have hbV : Below w6.heap.size w6 V6 := by rw [← hV6]; exact below_new _ _
  rw [hV6, hz6]
  refine (el_1 V6 w6.heap.size htb).mono ?_
  rintro e w7 ⟨⟨a3, c3, rfl⟩, hb7⟩
  have hb67 := hbV.trans (hb7.mono hbV.size)
  have HA7 := hidb (HA6.out.keep hb67)
  have HD7 := hidb (HD6.out.keep hb67)
  have HB7 := hidb (HB6.out.trans (hb67.mono HB6.out.size))
  clear hb67 hb7 hbV hz6 htb hV6 HA6 HD6 HB6
  go_wp2_with fail
  refine (i9_any _ _).mono ?_
  rintro e w8 ⟨rfl, hb8⟩
  have HA8 := hidb ((HA7.out.keep (below_new w7 _)).keep hb8)
  have HD8 := hidb ((HD7.out.keep (below_new w7 _)).keep hb8)
  have HF8 := hidb ((Box.new w7 25 (.int .i64 1) (.int .i64 7) (.float .f64 0) (.string ⟨#[]⟩) (.slice a3 0 c3)).keep hb8)
  have HB8 := hidb (HB7.out.trans (((below_new w7 _).trans (hb8.mono (by simp))).mono HB7.out.size))
  clear hb8 HA7 HD7 HB7
  go_wp2_with fail
  refine (i9_any _ _).mono ?_
  rintro e w9 ⟨rfl, hb9⟩
  have HA9 := hidb (HA8.out.keep hb9)
  have HD9 := hidb (HD8.out.keep hb9)
  have HF9 := hidb (HF8.out.keep hb9)
  have HB9 := hidb (HB8.out.trans (hb9.mono HB8.out.size))
  clear hb9 HA8 HD8 HB8 HF8
  go_wp2_with fail
  obtain ⟨V9, hV9⟩ : ∃ V9, w9.alloc (.cells #[.int .i64 1, .int .i64 7, .float .f64 0, .string ⟨#[]⟩, .slice none 0 0] 25) = V9 := ⟨_, rfl⟩
  have htb : (Tr.mk 0 0 0 ⟨#[]⟩ (some ⟨w9.heap.size, 0, none⟩) 1 [sevT]).In V9 0 := by
    rw [← hV9]
    exact built_in w9 [sevT] (fun u hu => by rw [List.mem_singleton.1 hu]; exact sev_in w9) 25 (by simp)
  have hz9 : w9.heap.size + 1 = V9.heap.size := by rw [← hV9]; simp
  have hbV : Below w9.heap.size w9 V9 := by rw [← hV9]; exact below_new _ _
  rw [hV9, hz9]
  refine (el_0 V9 w9.heap.size htb).mono ?_
  rintro e wa ⟨rfl, hba⟩
  have hb9a := hbV.trans (hba.mono hbV.size)
  have HAa := hidb (HA9.out.keep hb9a)
  have HDa := hidb (HD9.out.keep hb9a)
  have HFa := hidb (HF9.out.keep hb9a)
  have HBa := hidb (HB9.out.trans (hb9a.mono HB9.out.size))
  obtain ⟨⟨x0, x1, x2, x3, x4⟩, -, xl⟩ := Box.six HAa.out
  obtain ⟨⟨y0, y1, y2, y3, y4⟩, -, yl⟩ := Box.six HDa.out
  obtain ⟨⟨z0, z1, z2, z3, z4⟩, -, zl⟩ := Box.six HFa.out
  clear hb9a hba hbV hz9 htb hV9 HA9 HD9 HB9 HF9
  go_wp2_with fail
  go_ret
  exact ⟨rfl, HBa.out.alloc HBa.out.size _⟩
end Go.Proofs.YtajadhkpadkikaaGreatDoor


