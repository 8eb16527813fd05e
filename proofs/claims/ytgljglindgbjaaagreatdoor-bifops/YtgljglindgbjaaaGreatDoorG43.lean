import Derived.Test.YtgljglindgbjaaaGreatDoorG42
import Derived.Test.YtgljglindgbjaaaGreatDoorG40
import Derived.Test.YtgljglindgbjaaaGreatDoorG34
import Derived.Test.YtgljglindgbjaaaGreatDoorG19
import Derived.Test.YtgljglindgbjaaaGreatDoorG20
import Derived.Test.YtgljglindgbjaaaGreatDoorG26
import Derived.Test.YtgljglindgbjaaaGreatDoorG10
import Derived.Test.YtgljglindgbjaaaGreatDoorG41
/- =/=, min and max. -/
namespace Go.Proofs.YtgljglindgbjaaaGreatDoor
open Go.RowKit Go.Lib Go.Deep
attribute [local go_sem] store_float f64bits store_func store_nilFunc
attribute [local go_sem ↓] Go.wp_at_zero Go.wp_at_succ

set_option maxHeartbeats 8000000 in
set_option maxRecDepth 100000 in
theorem different_tc {w : World} {a : Option Addr} {c : Nat} {t0 t1 : Tr} {nm : ByteArray} {P : Tr → Prop} {E : Int → Prop} {r : Bool} (hin : ArgsIn w a c [t0, t1]) (hC : ∀ W, Below w.heap.size w W → Calls Tryz.prog 149 #[t0.val, t1.val] W fun e w' => e = .returned (.tuple #[.bool r, .int .i64 0]) ∧ Below W.heap.size W w') (hP : P (bolT (!r))) :
    TC 38 P E (.agg #[.string nm, .slice a 2 c, .nilFunc]) w := by
  refine ⟨fun args w => by kernel_rfl, fun W hW => ?_⟩
  have HP := hidb hP
  obtain ⟨k, n, f, s, a', c', ks⟩ := t0
  obtain ⟨k1, n1, f1, s1, a1, c1, ks1⟩ := t1
  obtain ⟨b, o, rfl, hbW, v0, v1, v2, v3, v4, -⟩ := argi hin hW (i := 0) rfl
  obtain ⟨b2, o2, e, -, u0, u1, u2, u3, u4, -⟩ := argi hin hW (i := 1) rfl
  obtain ⟨rfl, rfl⟩ : b = b2 ∧ o = o2 := by simpa using e
  simp only [Nat.zero_mul, Nat.add_zero, Nat.one_mul] at v0 v1 v2 v3 v4 u0 u1 u2 u3 u4
  have HC := hidb (fun W1 (hb : Below W.heap.size W W1) => hC W1 (hW.trans (hb.mono hW.size)))
  simp only [Tr.val, Tr.cells] at HC
  have SM := hidb (fun W1 (hb : Below W.heap.size W W1) => sameM (w := W1) (fun W2 hb2 => hC W2 ((hW.trans (hb.mono hW.size)).trans (hb2.mono (hW.trans (hb.mono hW.size)).size))))
  simp only [Tr.val, Tr.cells] at SM
  generalize ks.length = l0 at *
  generalize ks1.length = l1 at *
  obtain ⟨V1, hV1⟩ : ∃ V1, ((W.alloc (.cells #[.string nm, .slice (some ⟨b, o, none⟩) 2 c, .nilFunc] CT)).alloc (.cells #[.int .i64 0, .int .i64 0, .float .f64 0, .string ⟨#[]⟩, .slice none 0 0] 27)) = V1 := ⟨_, rfl⟩
  have HX0 : Hid (Box V1 (W.heap.size + 1) (.int .i64 0) (.int .i64 0) (.float .f64 0) (.string ⟨#[]⟩) (.slice none 0 0)) := hidb (by
    rw [← hV1]
    have := Box.new (W.alloc (.cells #[.string nm, .slice (some ⟨b, o, none⟩) 2 c, .nilFunc] CT)) 27 (.int .i64 0) (.int .i64 0) (.float .f64 0) (.string ⟨#[]⟩) (.slice none 0 0)
    simpa using this)
  have HC0 : Hid (Tri V1 W.heap.size (.string nm) (.slice (some ⟨b, o, none⟩) 2 c) .nilFunc) := hidb (by rw [← hV1]; exact (Tri.new W _ _ _ _).keep (below_new _ _))
  have HBW : Hid (Below W.heap.size W V1) := hidb (by rw [← hV1]; exact (below_new W _).alloc (by simp) _)
  have HV1 := hidb hV1
  obtain ⟨PP, hPP⟩ : ∃ PP : Ending → World → Prop, Tld P E w.heap.size W = PP := ⟨_, rfl⟩
  have HPP := hidb hPP
  rw [hPP]
  clear hV1 hPP
  clear hin hC hP hW
  have HS : Hid (∀ W9, Below V1.heap.size V1 W9 → W9.cell? ⟨W.heap.size, 1, none⟩ = some (.slice (some ⟨b, o, none⟩) 2 c) ∧ W9.cell? ⟨b, o, none⟩ = some (.int .i64 k) ∧ W9.cell? ⟨b, o + 1, none⟩ = some (.int .i64 n) ∧ W9.cell? ⟨b, o + 2, none⟩ = some (.float .f64 f) ∧ W9.cell? ⟨b, o + 3, none⟩ = some (.string s) ∧ W9.cell? ⟨b, o + 4, none⟩ = some (.slice a' l0 c') ∧ W9.cell? ⟨b, o + 5, none⟩ = some (.int .i64 k1) ∧ W9.cell? ⟨b, o + 5 + 1, none⟩ = some (.int .i64 n1) ∧ W9.cell? ⟨b, o + 5 + 2, none⟩ = some (.float .f64 f1) ∧ W9.cell? ⟨b, o + 5 + 3, none⟩ = some (.string s1) ∧ W9.cell? ⟨b, o + 5 + 4, none⟩ = some (.slice a1 l1 c1)) := hidb (fun W9 hb => have q := HBW.out.trans (hb.mono HBW.out.size); ⟨(HC0.out.keep hb).c1, (q.cell (p := ⟨b, o, none⟩) hbW).trans v0, (q.cell (p := ⟨b, o + 1, none⟩) hbW).trans v1, (q.cell (p := ⟨b, o + 2, none⟩) hbW).trans v2, (q.cell (p := ⟨b, o + 3, none⟩) hbW).trans v3, (q.cell (p := ⟨b, o + 4, none⟩) hbW).trans v4, (q.cell (p := ⟨b, o + 5, none⟩) hbW).trans u0, (q.cell (p := ⟨b, o + 5 + 1, none⟩) hbW).trans u1, (q.cell (p := ⟨b, o + 5 + 2, none⟩) hbW).trans u2, (q.cell (p := ⟨b, o + 5 + 3, none⟩) hbW).trans u3, (q.cell (p := ⟨b, o + 5 + 4, none⟩) hbW).trans u4⟩)
  clear v0 v1 v2 v3 v4 u0 u1 u2 u3 u4
  have HS0 := hidb (HS.out V1.drew (Below.refl _ _).drew)
  have C1 := hidb (SM.out V1.drew HBW.out.drew)
  go_enter Tryz.func38, Tryz.ntmps38
  go_wp2_with fail
  rw [HV1.out]
  refine wp_region_D (fun w' => w'.cell? ⟨W.heap.size, 1, none⟩ = some (.slice (some ⟨b, o, none⟩) 2 c) ∧ w'.cell? ⟨b, o, none⟩ = some (.int .i64 k) ∧ w'.cell? ⟨b, o + 1, none⟩ = some (.int .i64 n) ∧ w'.cell? ⟨b, o + 2, none⟩ = some (.float .f64 f) ∧ w'.cell? ⟨b, o + 3, none⟩ = some (.string s) ∧ w'.cell? ⟨b, o + 4, none⟩ = some (.slice a' l0 c') ∧ w'.cell? ⟨b, o + 5, none⟩ = some (.int .i64 k1) ∧ w'.cell? ⟨b, o + 5 + 1, none⟩ = some (.int .i64 n1) ∧ w'.cell? ⟨b, o + 5 + 2, none⟩ = some (.float .f64 f1) ∧ w'.cell? ⟨b, o + 5 + 3, none⟩ = some (.string s1) ∧ w'.cell? ⟨b, o + 5 + 4, none⟩ = some (.slice a1 l1 c1)) [11] (by kernel_rfl) ?_
  refine wpAnyD_takeL (i := 0) (v := ?vv0) rfl (by kernel_rfl) (by kernel_rfl) (by kernel_rfl) (by kernel_rfl) (fun _ _ _ h => h) HS0.out rfl ?hy0 ?_
  case hy0 => intro wy hSw; obtain ⟨z0, z1, z2, z3, z4, z5, z6, z7, z8, z9, z10⟩ := hSw; go_simp; try with_reducible rfl
  simp only [Act.put, List.setIfInBounds_toArray, List.set_cons_zero, List.set_cons_succ]
  refine wpAnyD_takeL (i := 1) (v := ?vv1) rfl (by kernel_rfl) (by kernel_rfl) (by kernel_rfl) (by kernel_rfl) (fun _ _ _ h => h) HS0.out rfl ?hy1 ?_
  case hy1 => intro wy hSw; obtain ⟨z0, z1, z2, z3, z4, z5, z6, z7, z8, z9, z10⟩ := hSw; go_simp; try with_reducible rfl
  simp only [Act.put, List.setIfInBounds_toArray, List.set_cons_zero, List.set_cons_succ]
  refine wpAnyD_takeL (i := 2) (v := ?vv2) rfl (by kernel_rfl) (by kernel_rfl) (by kernel_rfl) (by kernel_rfl) (fun _ _ _ h => h) HS0.out rfl ?hy2 ?_
  case hy2 => intro wy hSw; obtain ⟨z0, z1, z2, z3, z4, z5, z6, z7, z8, z9, z10⟩ := hSw; go_simp; try with_reducible rfl
  simp only [Act.put, List.setIfInBounds_toArray, List.set_cons_zero, List.set_cons_succ]
  refine wpAnyD_takeL (i := 3) (v := ?vv3) rfl (by kernel_rfl) (by kernel_rfl) (by kernel_rfl) (by kernel_rfl) (fun _ _ _ h => h) HS0.out rfl ?hy3 ?_
  case hy3 => intro wy hSw; obtain ⟨z0, z1, z2, z3, z4, z5, z6, z7, z8, z9, z10⟩ := hSw; go_simp; try with_reducible rfl
  simp only [Act.put, List.setIfInBounds_toArray, List.set_cons_zero, List.set_cons_succ]
  refine wpAnyD_takeL (i := 4) (v := ?vv4) rfl (by kernel_rfl) (by kernel_rfl) (by kernel_rfl) (by kernel_rfl) (fun _ _ _ h => h) HS0.out rfl ?hy4 ?_
  case hy4 => intro wy hSw; obtain ⟨z0, z1, z2, z3, z4, z5, z6, z7, z8, z9, z10⟩ := hSw; go_simp; try with_reducible rfl
  simp only [Act.put, List.setIfInBounds_toArray, List.set_cons_zero, List.set_cons_succ]
  refine wpAnyD_takeL (i := 5) (v := ?vv5) rfl (by kernel_rfl) (by kernel_rfl) (by kernel_rfl) (by kernel_rfl) (fun _ _ _ h => h) HS0.out rfl ?hy5 ?_
  case hy5 => intro wy hSw; obtain ⟨z0, z1, z2, z3, z4, z5, z6, z7, z8, z9, z10⟩ := hSw; go_simp; try with_reducible rfl
  simp only [Act.put, List.setIfInBounds_toArray, List.set_cons_zero, List.set_cons_succ]
  refine wpAnyD_takeL (i := 6) (v := ?vv6) rfl (by kernel_rfl) (by kernel_rfl) (by kernel_rfl) (by kernel_rfl) (fun _ _ _ h => h) HS0.out rfl ?hy6 ?_
  case hy6 => intro wy hSw; obtain ⟨z0, z1, z2, z3, z4, z5, z6, z7, z8, z9, z10⟩ := hSw; go_simp; try with_reducible rfl
  simp only [Act.put, List.setIfInBounds_toArray, List.set_cons_zero, List.set_cons_succ]
  refine wpAnyD_takeL (i := 7) (v := ?vv7) rfl (by kernel_rfl) (by kernel_rfl) (by kernel_rfl) (by kernel_rfl) (fun _ _ _ h => h) HS0.out rfl ?hy7 ?_
  case hy7 => intro wy hSw; obtain ⟨z0, z1, z2, z3, z4, z5, z6, z7, z8, z9, z10⟩ := hSw; go_simp; try with_reducible rfl
  simp only [Act.put, List.setIfInBounds_toArray, List.set_cons_zero, List.set_cons_succ]
  refine wpAnyD_stepL (i := 8) (by kernel_rfl) rfl (fun K hK => ?_)
  refine step_callB (by simp [Region.wanted]) (run_call ent_same #[.tmp 6, .tmp 10] _ rfl #[.agg #[.int .i64 k, .int .i64 n, .float .f64 f, .string s, .slice a' l0 c'], .agg #[.int .i64 k1, .int .i64 n1, .float .f64 f1, .string s1, .slice a1 l1 c1]] rfl) C1.out ?_
  rintro e w2 ⟨rfl, hb2⟩
  have HS2 := hidb (HS.out w2 (undrew hb2)); have HB2 := hidb (HBW.out.trans ((undrew hb2).mono HBW.out.size)); have HX2 := hidb (HX0.out.keep (undrew hb2)); have HV2 := hidb (undrew hb2); clear hb2
  refine hK _ _ (fun _ => HS2.out) ?_
  clear hK K
  simp only [Act.put, List.setIfInBounds_toArray, List.set_cons_zero, List.set_cons_succ]
  have HS0 := HS2
  refine wpAnyD_takeL (i := 9) (v := ?vv9) rfl (by kernel_rfl) (by kernel_rfl) (by kernel_rfl) (by kernel_rfl) (fun _ _ _ h => h) HS0.out rfl ?hy9 ?_
  case hy9 => intro wy hSw; obtain ⟨z0, z1, z2, z3, z4, z5, z6, z7, z8, z9, z10⟩ := hSw; go_simp; try with_reducible rfl
  simp only [Act.put, List.setIfInBounds_toArray, List.set_cons_zero, List.set_cons_succ]
  refine wpAnyD_stepL (i := 10) (by kernel_rfl) rfl (fun K hK => ?_)
  refine step_callB (by simp [Region.wanted]) (run_call ent_boolean #[.tmp 12] _ rfl #[.bool (!r)] rfl) (boolean_any (!r) w2) ?_
  rintro e w3 ⟨rfl, hb3⟩
  have HB3 := hidb (HB2.out.trans (hb3.mono HB2.out.size))
  have HX3 := hidb (HX2.out.keep hb3)
  have HS3 := hidb (HS.out w3 (HV2.out.trans (hb3.mono HV2.out.size)))
  clear hb3
  refine hK _ _ (fun _ => HS3.out) ?_
  clear hK K
  simp only [Act.put, List.setIfInBounds_toArray, List.set_cons_zero, List.set_cons_succ]
  obtain ⟨⟨x0, x1, x2, x3, x4⟩, ⟨y0, y1, y2, y3, y4⟩, xl⟩ := Box.six HX3.out
  obtain ⟨S, hS⟩ : ∃ S, (bolT (!r)).val = .agg #[.int .i64 3, .int .i64 0, .float .f64 0, .string S, .slice none 0 0] := ⟨_, rfl⟩
  rw [hS]
  have HS := hidb hS
  clear hS
  refine wpAnyD_stepL (i := 11) (by kernel_rfl) rfl (fun K hK => ?_)
  go_simp
  refine hK _ _ (fun h => absurd (List.mem_singleton.2 rfl) h) ?_
  clear hK K
  refine wpAnyD_done (by kernel_rfl) ?_ _
  go_wp2_with fail
  have bx9 := HX3.out.set (.int .i64 3) (.int .i64 0) (.float .f64 0) (.string S) (.slice none 0 0)
  obtain ⟨⟨k0, k1', k2, k3, k4⟩, -, -⟩ := Box.six bx9
  simp only [set5] at k0 k1' k2 k3 k4
  refine bodyPost_ret (v := (bolT (!r)).val) (by rw [HS.out]; simp [results, Tryz.results38, go_sem, k0, k1', k2, k3, k4]) rfl ?_
  rw [← HPP.out]
  exact tld_bool HP.out (((((HB3.out.setCell (by simp) _).setCell (by simp) _).setCell (by simp) _).setCell (by simp) _).setCell (by simp) _)

set_option maxHeartbeats 8000000 in
set_option maxRecDepth 100000 in
theorem least_tc {w : World} {a : Option Addr} {c : Nat} {t0 t1 : Tr} {nm : ByteArray} {P : Tr → Prop} {E : Int → Prop} {r : Int} (hin : ArgsIn w a c [t0, t1]) (hs0 : Small t0 ∧ cnT t0 ≤ 1000000000) (hs1 : Small t1 ∧ cnT t1 ≤ 1000000000) (hC : ∀ W, Below w.heap.size w W → Calls Tryz.prog 148 #[t0.val, t1.val] W fun e w' => e = .returned (.tuple #[.int .i64 r, .int .i64 0]) ∧ Below W.heap.size W w') (hP0 : r ≤ 0 → P t0) (hP1 : ¬ r ≤ 0 → P t1) :
    TC 75 P E (.agg #[.string nm, .slice a 2 c, noneF]) w := by
  refine ⟨fun args w => by kernel_rfl, fun W hW => ?_⟩
  have HP0 := hidb hP0
  have HP1 := hidb hP1
  have HSM0 := hidb hs0
  have HSM1 := hidb hs1
  have HWS := hidb hW.size
  have HON0 := hidb (onAll_get (t := t0) (by have := on_all _ hin; unfold Tr.On at this; exact this.2) (by simp))
  have HON1 := hidb (onAll_get (t := t1) (by have := on_all _ hin; unfold Tr.On at this; exact this.2) (by simp))
  have CM := hidb (fun W1 (hb : Below W.heap.size W W1) => compareM (nm := nm) (in_below (hW.trans (hb.mono hW.size)) hin) (fun W2 hb2 => hC W2 ((hW.trans (hb.mono hW.size)).trans (hb2.mono (hW.trans (hb.mono hW.size)).size))) noneF (.inr rfl))
  obtain ⟨k, n, f, s, a', c', ks⟩ := t0
  obtain ⟨k1, n1, f1, s1, a1, c1, ks1⟩ := t1
  obtain ⟨b, o, rfl, hbW, v0, v1, v2, v3, v4, i0⟩ := argi hin hW (i := 0) rfl
  obtain ⟨b2, o2, e, -, u0, u1, u2, u3, u4, i1⟩ := argi hin hW (i := 1) rfl
  obtain ⟨rfl, rfl⟩ : b = b2 ∧ o = o2 := by simpa using e
  have HI0 := hidb i0
  have HI1 := hidb i1
  simp only [Nat.zero_mul, Nat.add_zero, Nat.one_mul] at v0 v1 v2 v3 v4 u0 u1 u2 u3 u4
  obtain ⟨l0, hl0⟩ : ∃ l0, ks.length = l0 := ⟨_, rfl⟩
  obtain ⟨l1, hl1⟩ : ∃ l1, ks1.length = l1 := ⟨_, rfl⟩
  have HL0 := hidb hl0
  have HL1 := hidb hl1
  rw [hl0] at v4
  rw [hl1] at u4
  obtain ⟨V1, hV1⟩ : ∃ V1, ((W.alloc (.cells #[.string nm, .slice (some ⟨b, o, none⟩) 2 c, noneF] CT)).alloc (.cells #[.int .i64 0, .int .i64 0, .float .f64 0, .string ⟨#[]⟩, .slice none 0 0] 27)) = V1 := ⟨_, rfl⟩
  have HX0 : Hid (Box V1 (W.heap.size + 1) (.int .i64 0) (.int .i64 0) (.float .f64 0) (.string ⟨#[]⟩) (.slice none 0 0)) := hidb (by
    rw [← hV1]
    have := Box.new (W.alloc (.cells #[.string nm, .slice (some ⟨b, o, none⟩) 2 c, noneF] CT)) 27 (.int .i64 0) (.int .i64 0) (.float .f64 0) (.string ⟨#[]⟩) (.slice none 0 0)
    simpa using this)
  have HC0 : Hid (Tri V1 W.heap.size (.string nm) (.slice (some ⟨b, o, none⟩) 2 c) noneF) := hidb (by rw [← hV1]; exact (Tri.new W _ _ _ _).keep (below_new _ _))
  have HBW : Hid (Below W.heap.size W V1) := hidb (by rw [← hV1]; exact (below_new W _).alloc (by simp) _)
  have HV1 := hidb hV1
  obtain ⟨PP, hPP⟩ : ∃ PP : Ending → World → Prop, Tld P E w.heap.size W = PP := ⟨_, rfl⟩
  have HPP := hidb hPP
  rw [hPP]
  clear hV1 hPP
  have HQ : Hid (∀ W9, Below W.heap.size W W9 → W9.cell? ⟨b, o, none⟩ = some (.int .i64 k) ∧ W9.cell? ⟨b, o + 1, none⟩ = some (.int .i64 n) ∧ W9.cell? ⟨b, o + 2, none⟩ = some (.float .f64 f) ∧ W9.cell? ⟨b, o + 3, none⟩ = some (.string s) ∧ W9.cell? ⟨b, o + 4, none⟩ = some (.slice a' l0 c') ∧ W9.cell? ⟨b, o + 5, none⟩ = some (.int .i64 k1) ∧ W9.cell? ⟨b, o + 5 + 1, none⟩ = some (.int .i64 n1) ∧ W9.cell? ⟨b, o + 5 + 2, none⟩ = some (.float .f64 f1) ∧ W9.cell? ⟨b, o + 5 + 3, none⟩ = some (.string s1) ∧ W9.cell? ⟨b, o + 5 + 4, none⟩ = some (.slice a1 l1 c1) ∧ b < W9.heap.size) := hidb (fun W9 q => ⟨(q.cell (p := ⟨b, o, none⟩) hbW).trans v0, (q.cell (p := ⟨b, o + 1, none⟩) hbW).trans v1, (q.cell (p := ⟨b, o + 2, none⟩) hbW).trans v2, (q.cell (p := ⟨b, o + 3, none⟩) hbW).trans v3, (q.cell (p := ⟨b, o + 4, none⟩) hbW).trans v4, (q.cell (p := ⟨b, o + 5, none⟩) hbW).trans u0, (q.cell (p := ⟨b, o + 5 + 1, none⟩) hbW).trans u1, (q.cell (p := ⟨b, o + 5 + 2, none⟩) hbW).trans u2, (q.cell (p := ⟨b, o + 5 + 3, none⟩) hbW).trans u3, (q.cell (p := ⟨b, o + 5 + 4, none⟩) hbW).trans u4, Nat.lt_of_lt_of_le hbW q.size⟩)
  have HNB : Hid (b < W.heap.size) := hidb hbW
  clear hin hC hP0 hP1 hs0 hs1 hW e i0 i1 hl0 hl1 v0 v1 v2 v3 v4 u0 u1 u2 u3 u4 hbW
  go_enter Tryz.func75, Tryz.ntmps75
  go_wp2_with fail
  rw [HV1.out]
  refine (CM.out _ HBW.out).mono ?_
  rintro e w2 ⟨rfl, hb2⟩
  have HB2 := hidb (HBW.out.trans (hb2.mono HBW.out.size))
  have HX2 := hidb (HX0.out.keep hb2)
  have HC2 := hidb (HC0.out.keep hb2)
  have q0 := HC2.out.c0; have q1 := HC2.out.c1; have q2 := HC2.out.c2
  obtain ⟨v0, v1, v2, v3, v4, u0, u1, u2, u3, u4, hbl⟩ := HQ.out _ HB2.out
  obtain ⟨⟨x0, x1, x2, x3, x4⟩, ⟨y0, y1, y2, y3, y4⟩, xl⟩ := Box.six HX2.out
  have hbn : b ≠ W.heap.size + 1 := by have := HNB.out; omega
  clear hb2
  by_cases hr : r ≤ 0
  · have HPT := hidb (HP0.out hr)
    go_wp2_with fail
    have bx9 := HX2.out.set (.int .i64 k) (.int .i64 n) (.float .f64 f) (.string s) (.slice a' l0 c')
    obtain ⟨⟨k0, k1', k2, k3, k4⟩, -, -⟩ := Box.six bx9
    simp only [set5] at k0 k1' k2 k3 k4
    refine bodyPost_ret (v := (Tr.mk k n f s a' c' ks).val) (by simp [Tr.val, Tr.cells, HL0.out, results, Tryz.results75, go_sem, k0, k1', k2, k3, k4]) rfl ?_
    rw [← HPP.out]
    have hwl : w.heap.size ≤ W.heap.size := HWS.out
    refine ⟨(((((HB2.out.setCell (by simp) _).setCell (by simp) _).setCell (by simp) _).setCell (by simp) _).setCell (by simp) _), .inl ⟨_, rfl, HPT.out, ?_, on_mono (fun q hq => .inl hq) _ HON0.out, HSM0.out.1, HSM0.out.2⟩⟩
    exact in_on5 (B := w.heap.size) (c := W.heap.size + 2) (in_below HB2.out HI0.out) (on_mono (fun q hq => .inl hq) _ HON0.out) (by omega) (by omega) _ _ _ _ _
  · have HPT := hidb (HP1.out (by omega))
    go_wp2_with fail
    have bx9 := HX2.out.set (.int .i64 k1) (.int .i64 n1) (.float .f64 f1) (.string s1) (.slice a1 l1 c1)
    obtain ⟨⟨k0, k1', k2, k3, k4⟩, -, -⟩ := Box.six bx9
    simp only [set5] at k0 k1' k2 k3 k4
    refine bodyPost_ret (v := (Tr.mk k1 n1 f1 s1 a1 c1 ks1).val) (by simp [Tr.val, Tr.cells, HL1.out, results, Tryz.results75, go_sem, k0, k1', k2, k3, k4]) rfl ?_
    rw [← HPP.out]
    have hwl : w.heap.size ≤ W.heap.size := HWS.out
    refine ⟨(((((HB2.out.setCell (by simp) _).setCell (by simp) _).setCell (by simp) _).setCell (by simp) _).setCell (by simp) _), .inl ⟨_, rfl, HPT.out, ?_, on_mono (fun q hq => .inl hq) _ HON1.out, HSM1.out.1, HSM1.out.2⟩⟩
    exact in_on5 (B := w.heap.size) (c := W.heap.size + 2) (in_below HB2.out HI1.out) (on_mono (fun q hq => .inl hq) _ HON1.out) (by omega) (by omega) _ _ _ _ _

set_option maxHeartbeats 8000000 in
set_option maxRecDepth 100000 in
theorem greatest_tc {w : World} {a : Option Addr} {c : Nat} {t0 t1 : Tr} {nm : ByteArray} {P : Tr → Prop} {E : Int → Prop} {r : Int} (hin : ArgsIn w a c [t0, t1]) (hs0 : Small t0 ∧ cnT t0 ≤ 1000000000) (hs1 : Small t1 ∧ cnT t1 ≤ 1000000000) (hC : ∀ W, Below w.heap.size w W → Calls Tryz.prog 148 #[t0.val, t1.val] W fun e w' => e = .returned (.tuple #[.int .i64 r, .int .i64 0]) ∧ Below W.heap.size W w') (hP0 : 0 ≤ r → P t0) (hP1 : ¬ 0 ≤ r → P t1) :
    TC 76 P E (.agg #[.string nm, .slice a 2 c, noneF]) w := by
  refine ⟨fun args w => by kernel_rfl, fun W hW => ?_⟩
  have HP0 := hidb hP0
  have HP1 := hidb hP1
  have HSM0 := hidb hs0
  have HSM1 := hidb hs1
  have HWS := hidb hW.size
  have HON0 := hidb (onAll_get (t := t0) (by have := on_all _ hin; unfold Tr.On at this; exact this.2) (by simp))
  have HON1 := hidb (onAll_get (t := t1) (by have := on_all _ hin; unfold Tr.On at this; exact this.2) (by simp))
  have CM := hidb (fun W1 (hb : Below W.heap.size W W1) => compareM (nm := nm) (in_below (hW.trans (hb.mono hW.size)) hin) (fun W2 hb2 => hC W2 ((hW.trans (hb.mono hW.size)).trans (hb2.mono (hW.trans (hb.mono hW.size)).size))) noneF (.inr rfl))
  obtain ⟨k, n, f, s, a', c', ks⟩ := t0
  obtain ⟨k1, n1, f1, s1, a1, c1, ks1⟩ := t1
  obtain ⟨b, o, rfl, hbW, v0, v1, v2, v3, v4, i0⟩ := argi hin hW (i := 0) rfl
  obtain ⟨b2, o2, e, -, u0, u1, u2, u3, u4, i1⟩ := argi hin hW (i := 1) rfl
  obtain ⟨rfl, rfl⟩ : b = b2 ∧ o = o2 := by simpa using e
  have HI0 := hidb i0
  have HI1 := hidb i1
  simp only [Nat.zero_mul, Nat.add_zero, Nat.one_mul] at v0 v1 v2 v3 v4 u0 u1 u2 u3 u4
  obtain ⟨l0, hl0⟩ : ∃ l0, ks.length = l0 := ⟨_, rfl⟩
  obtain ⟨l1, hl1⟩ : ∃ l1, ks1.length = l1 := ⟨_, rfl⟩
  have HL0 := hidb hl0
  have HL1 := hidb hl1
  rw [hl0] at v4
  rw [hl1] at u4
  obtain ⟨V1, hV1⟩ : ∃ V1, ((W.alloc (.cells #[.string nm, .slice (some ⟨b, o, none⟩) 2 c, noneF] CT)).alloc (.cells #[.int .i64 0, .int .i64 0, .float .f64 0, .string ⟨#[]⟩, .slice none 0 0] 27)) = V1 := ⟨_, rfl⟩
  have HX0 : Hid (Box V1 (W.heap.size + 1) (.int .i64 0) (.int .i64 0) (.float .f64 0) (.string ⟨#[]⟩) (.slice none 0 0)) := hidb (by
    rw [← hV1]
    have := Box.new (W.alloc (.cells #[.string nm, .slice (some ⟨b, o, none⟩) 2 c, noneF] CT)) 27 (.int .i64 0) (.int .i64 0) (.float .f64 0) (.string ⟨#[]⟩) (.slice none 0 0)
    simpa using this)
  have HC0 : Hid (Tri V1 W.heap.size (.string nm) (.slice (some ⟨b, o, none⟩) 2 c) noneF) := hidb (by rw [← hV1]; exact (Tri.new W _ _ _ _).keep (below_new _ _))
  have HBW : Hid (Below W.heap.size W V1) := hidb (by rw [← hV1]; exact (below_new W _).alloc (by simp) _)
  have HV1 := hidb hV1
  obtain ⟨PP, hPP⟩ : ∃ PP : Ending → World → Prop, Tld P E w.heap.size W = PP := ⟨_, rfl⟩
  have HPP := hidb hPP
  rw [hPP]
  clear hV1 hPP
  have HQ : Hid (∀ W9, Below W.heap.size W W9 → W9.cell? ⟨b, o, none⟩ = some (.int .i64 k) ∧ W9.cell? ⟨b, o + 1, none⟩ = some (.int .i64 n) ∧ W9.cell? ⟨b, o + 2, none⟩ = some (.float .f64 f) ∧ W9.cell? ⟨b, o + 3, none⟩ = some (.string s) ∧ W9.cell? ⟨b, o + 4, none⟩ = some (.slice a' l0 c') ∧ W9.cell? ⟨b, o + 5, none⟩ = some (.int .i64 k1) ∧ W9.cell? ⟨b, o + 5 + 1, none⟩ = some (.int .i64 n1) ∧ W9.cell? ⟨b, o + 5 + 2, none⟩ = some (.float .f64 f1) ∧ W9.cell? ⟨b, o + 5 + 3, none⟩ = some (.string s1) ∧ W9.cell? ⟨b, o + 5 + 4, none⟩ = some (.slice a1 l1 c1) ∧ b < W9.heap.size) := hidb (fun W9 q => ⟨(q.cell (p := ⟨b, o, none⟩) hbW).trans v0, (q.cell (p := ⟨b, o + 1, none⟩) hbW).trans v1, (q.cell (p := ⟨b, o + 2, none⟩) hbW).trans v2, (q.cell (p := ⟨b, o + 3, none⟩) hbW).trans v3, (q.cell (p := ⟨b, o + 4, none⟩) hbW).trans v4, (q.cell (p := ⟨b, o + 5, none⟩) hbW).trans u0, (q.cell (p := ⟨b, o + 5 + 1, none⟩) hbW).trans u1, (q.cell (p := ⟨b, o + 5 + 2, none⟩) hbW).trans u2, (q.cell (p := ⟨b, o + 5 + 3, none⟩) hbW).trans u3, (q.cell (p := ⟨b, o + 5 + 4, none⟩) hbW).trans u4, Nat.lt_of_lt_of_le hbW q.size⟩)
  have HNB : Hid (b < W.heap.size) := hidb hbW
  clear hin hC hP0 hP1 hs0 hs1 hW e i0 i1 hl0 hl1 v0 v1 v2 v3 v4 u0 u1 u2 u3 u4 hbW
  go_enter Tryz.func76, Tryz.ntmps76
  go_wp2_with fail
  rw [HV1.out]
  refine (CM.out _ HBW.out).mono ?_
  rintro e w2 ⟨rfl, hb2⟩
  have HB2 := hidb (HBW.out.trans (hb2.mono HBW.out.size))
  have HX2 := hidb (HX0.out.keep hb2)
  have HC2 := hidb (HC0.out.keep hb2)
  have q0 := HC2.out.c0; have q1 := HC2.out.c1; have q2 := HC2.out.c2
  obtain ⟨v0, v1, v2, v3, v4, u0, u1, u2, u3, u4, hbl⟩ := HQ.out _ HB2.out
  obtain ⟨⟨x0, x1, x2, x3, x4⟩, ⟨y0, y1, y2, y3, y4⟩, xl⟩ := Box.six HX2.out
  have hbn : b ≠ W.heap.size + 1 := by have := HNB.out; omega
  clear hb2
  by_cases hr : 0 ≤ r
  · have HPT := hidb (HP0.out hr)
    go_wp2_with fail
    have bx9 := HX2.out.set (.int .i64 k) (.int .i64 n) (.float .f64 f) (.string s) (.slice a' l0 c')
    obtain ⟨⟨k0, k1', k2, k3, k4⟩, -, -⟩ := Box.six bx9
    simp only [set5] at k0 k1' k2 k3 k4
    refine bodyPost_ret (v := (Tr.mk k n f s a' c' ks).val) (by simp [Tr.val, Tr.cells, HL0.out, results, Tryz.results76, go_sem, k0, k1', k2, k3, k4]) rfl ?_
    rw [← HPP.out]
    have hwl : w.heap.size ≤ W.heap.size := HWS.out
    refine ⟨(((((HB2.out.setCell (by simp) _).setCell (by simp) _).setCell (by simp) _).setCell (by simp) _).setCell (by simp) _), .inl ⟨_, rfl, HPT.out, ?_, on_mono (fun q hq => .inl hq) _ HON0.out, HSM0.out.1, HSM0.out.2⟩⟩
    exact in_on5 (B := w.heap.size) (c := W.heap.size + 2) (in_below HB2.out HI0.out) (on_mono (fun q hq => .inl hq) _ HON0.out) (by omega) (by omega) _ _ _ _ _
  · have HPT := hidb (HP1.out (by omega))
    go_wp2_with fail
    have bx9 := HX2.out.set (.int .i64 k1) (.int .i64 n1) (.float .f64 f1) (.string s1) (.slice a1 l1 c1)
    obtain ⟨⟨k0, k1', k2, k3, k4⟩, -, -⟩ := Box.six bx9
    simp only [set5] at k0 k1' k2 k3 k4
    refine bodyPost_ret (v := (Tr.mk k1 n1 f1 s1 a1 c1 ks1).val) (by simp [Tr.val, Tr.cells, HL1.out, results, Tryz.results76, go_sem, k0, k1', k2, k3, k4]) rfl ?_
    rw [← HPP.out]
    have hwl : w.heap.size ≤ W.heap.size := HWS.out
    refine ⟨(((((HB2.out.setCell (by simp) _).setCell (by simp) _).setCell (by simp) _).setCell (by simp) _).setCell (by simp) _), .inl ⟨_, rfl, HPT.out, ?_, on_mono (fun q hq => .inl hq) _ HON1.out, HSM1.out.1, HSM1.out.2⟩⟩
    exact in_on5 (B := w.heap.size) (c := W.heap.size + 2) (in_below HB2.out HI1.out) (on_mono (fun q hq => .inl hq) _ HON1.out) (by omega) (by omega) _ _ _ _ _
end Go.Proofs.YtgljglindgbjaaaGreatDoor


/- What the program tells, beside the document's. -/
namespace Go.Proofs.YtgljglindgbjaaaGreatDoor
open Go.RowKit Go.Lib Go.Deep
attribute [local go_sem] store_float f64bits
attribute [local go_sem ↓] Go.wp_at_zero Go.wp_at_succ

/-- What a told term says of the document's. -/
def PO (o : Out) (t : Tr) : Prop := (errT t = 0 → ∃ T, o = .inl T ∧ ∀ t', Sm t t' → Sm T t') ∧ (errT t ≠ 0 → o = .inr (mb (errT t)))
def EO (o : Out) (k : Int) : Prop := o = .inr k
theorem ans_out {o : Out} {w w' : World} {e : Ending} (h : Ans (PO o) (EO o) w e w') : OutS o w e w' := by
  refine ⟨h.1, ?_⟩
  rcases h.2 with ⟨t, t', hP, h0, hs, hin, he⟩ | ⟨er, hE, he⟩
  · obtain ⟨T, rfl, hT⟩ := hP.1 h0
    exact ⟨t', hT t' hs, hin, he⟩
  · have : o = .inr er := by
      rcases hE with h1 | ⟨t, hP, h0, rfl⟩
      · exact h1
      · exact hP.2 h0
    subst this
    exact he
theorem po_self {t : Tr} (h : errT t = 0) : PO (.inl t) t := ⟨fun _ => ⟨t, rfl, fun _ h => h⟩, fun h9 => absurd h h9⟩
theorem numR_err {r : R} (h : ToldN r) (h0 : r.e = 0) : errT (numR r) = 0 := by
  have hg : goodT (numR r) = true ∧ (r.k = 1 ∨ r.k = 2) := by
    rcases h with ⟨-, (⟨e1, e2, e3⟩ | ⟨e1, e2, e3, e4⟩)⟩ | ⟨h9, -⟩
    · exact ⟨by simp [goodT, rightB, e1, e2, e3], .inl e1⟩
    · exact ⟨by simp [goodT, rightB, e1, e2, e3], .inr e1⟩
    · omega
  obtain ⟨hg, hk⟩ := hg
  have hm : ¬ meas (numR r) 200 65536 < 0 := by
    rcases hk with e | e <;> simp [meas, measAll, own, e]
  have ha : allT goodT (numR r) = true := by
    unfold numR at hg ⊢
    simp only [allT, hg, allAll, Bool.and_self]
  simp only [errT, if_neg hm, if_pos ha]
theorem po_num {r : R} (h : ToldN r) (h0 : r.e = 0) : PO (outR r) (numR r) := by
  simp only [outR, if_pos h0]
  exact po_self (numR_err h h0)
theorem eo_num {r : R} (h0 : r.e ≠ 0) : EO (outR r) r.e := by simp only [EO, outR, if_neg h0]
theorem po_bol (b : Bool) : PO (.inl (bolT b)) (bolT b) := po_self (bolT_err b)
theorem idP_idT : ∀ t t' : Tr, idP t t' = idT t t' := by
  refine Tr.ind fun k n f s a c ks hk => ?_
  intro t'
  obtain ⟨k', n', f', s', a', c', ks'⟩ := t'
  have hL : ∀ (l l' : List Tr), (∀ t ∈ l, ∀ t', idP t t' = idT t t') → idL l l' = idA l l' := by
    intro l
    induction l with
    | nil => intro l' _; simp only [idL, idA]
    | cons t r ih =>
      intro l' h
      cases l' with
      | nil => simp only [idL, idA]
      | cons t' r' => simp only [idL, idA]; rw [h t (by simp) t', ih r' (fun u hu => h u (by simp [hu]))]
  simp only [idP, idT, hL ks ks' hk]
  cases (k == k') <;> cases (n == n') <;> cases ((f : Int) == (f' : Int)) <;> simp
theorem arg_in {w : World} {a : Option Addr} {c i : Nat} {ts : List Tr} {t : Tr} (h : ArgsIn w a c ts) (hi : ts[i]? = some t) : t.In w 0 := by
  obtain ⟨k, n, f, s, a', c', ks⟩ := t
  obtain ⟨b, o, rfl, -, -, -, -, -, -, hin⟩ := argi h (Below.refl _ _) hi
  exact hin
theorem in_flt {w : World} {k n : Int} {f : Nat} {s : ByteArray} {a : Option Addr} {c : Nat} {ks : List Tr} (h : (Tr.mk k n f s a c ks).In w 0) : f < 18446744073709551616 := by
  unfold Tr.In at h
  have := h.1.2.2.1
  simpa [Lit.wf] using this
/-- What right says of each. -/
def Gd (t : Tr) : Prop := errT t = 0 ∧ Small t ∧ cnT t ≤ 150001
theorem list_len {n : Int} {f : Nat} {s : ByteArray} {a : Option Addr} {c : Nat} {ks : List Tr} (h : errT (.mk 8 n f s a c ks) = 0) : ks.length ≤ 32768 := by
  by_cases h9 : meas (.mk 8 n f s a c ks) 200 65536 < 0
  · simp [errT, h9] at h
  · have ho : own 8 ks.length = 2 * ks.length := by simp [own]
    have : ¬ ((200 : Int) < 1 ∨ own 8 ks.length > 65536) := by
      intro hc
      apply h9
      simp only [meas, if_pos hc]
      decide
    omega
theorem smallAll_app : ∀ {l l' : List Tr}, SmallAll l → SmallAll l' → SmallAll (l ++ l')
  | [], _, _, h => h
  | t :: r, _, h, h' => by unfold SmallAll at h; show SmallAll (t :: (r ++ _)); unfold SmallAll; exact ⟨h.1, smallAll_app h.2 h'⟩
theorem cnA_app : ∀ (l l' : List Tr), cnA (l ++ l') = cnA l + cnA l'
  | [], _ => by simp [cnA]
  | t :: r, l' => by show cnA (t :: (r ++ l')) = _; simp only [cnA, cnA_app r l']; omega
theorem allAll_app {g : Tr → Bool} : ∀ {l l' : List Tr}, allAll g l = true → allAll g l' = true → allAll g (l ++ l') = true
  | [], _, _, h => h
  | t :: r, _, h, h' => by
    simp only [allAll, Bool.and_eq_true] at h
    show allAll g (t :: (r ++ _)) = true
    simp only [allAll, Bool.and_eq_true]
    exact ⟨h.1, allAll_app h.2 h'⟩
theorem small_w : ∀ t : Tr, Small t → SmallW t := by
  refine Tr.ind fun k n f s a c ks hk => ?_
  intro h
  unfold Small at h
  unfold SmallW
  refine ⟨by omega, ?_⟩
  have : ∀ l : List Tr, (∀ t ∈ l, Small t → SmallW t) → SmallAll l → SmallWAll l := by
    intro l
    induction l with
    | nil => intro _ _; unfold SmallWAll; trivial
    | cons t r ih => intro h1 h2; unfold SmallAll at h2; unfold SmallWAll; exact ⟨h1 t (by simp) h2.1, ih (fun u hu => h1 u (by simp [hu])) h2.2⟩
  exact this ks hk h.2
theorem join_facts {n n1 : Int} {f f1 : Nat} {s s1 : ByteArray} {a a1 : Option Addr} {c c1 : Nat} {ks ks1 : List Tr} (h0 : Gd (.mk 8 n f s a c ks)) (h1 : Gd (.mk 8 n1 f1 s1 a1 c1 ks1)) :
    Small (.mk 8 0 0 ⟨#[]⟩ none 0 (ks ++ ks1)) ∧ cnT (.mk 8 0 0 ⟨#[]⟩ none 0 (ks ++ ks1)) ≤ 1000000000 ∧ SmallW (.mk 8 0 0 ⟨#[]⟩ none 0 (ks ++ ks1)) ∧ ks.length + ks1.length ≤ 65536 ∧ (errT (.mk 8 0 0 ⟨#[]⟩ none 0 (ks ++ ks1)) ≠ 0 → errT (.mk 8 0 0 ⟨#[]⟩ none 0 (ks ++ ks1)) = 12) := by
  obtain ⟨e0, s0, c0⟩ := h0
  obtain ⟨e1, s1, c1⟩ := h1
  have l0 := list_len e0
  have l1 := list_len e1
  have hs : Small (.mk 8 0 0 ⟨#[]⟩ none 0 (ks ++ ks1)) := by
    unfold Small at s0 s1 ⊢
    exact ⟨by simp only [List.length_append]; omega, smallAll_app s0.2 s1.2⟩
  refine ⟨hs, ?_, small_w _ hs, by omega, ?_⟩
  · unfold cnT at c0 c1 ⊢
    rw [cnA_app]
    omega
  · have a0 := err_all e0
    have a1 := err_all e1
    have ha : allT goodT (.mk 8 0 0 ⟨#[]⟩ none 0 (ks ++ ks1)) = true := by
      simp only [allT, Bool.and_eq_true] at a0 a1 ⊢
      exact ⟨by simp [goodT], allAll_app a0.2 a1.2⟩
    intro h
    simp only [errT, if_pos ha] at h ⊢
    split <;> simp_all
theorem po_join {n n1 : Int} {f f1 : Nat} {s s1 : ByteArray} {a a1 : Option Addr} {c c1 : Nat} {ks ks1 : List Tr} (h0 : Gd (.mk 8 n f s a c ks)) (h1 : Gd (.mk 8 n1 f1 s1 a1 c1 ks1)) (a' : Option Addr) (c' : Nat) :
    PO (outT (.mk 8 0 0 ⟨#[]⟩ none 0 (ks ++ ks1))) (.mk 8 0 0 ⟨#[]⟩ a' c' (ks ++ ks1)) := by
  obtain ⟨-, -, -, -, h5⟩ := join_facts h0 h1
  have herr : errT (.mk 8 0 0 ⟨#[]⟩ a' c' (ks ++ ks1)) = errT (.mk 8 0 0 ⟨#[]⟩ none 0 (ks ++ ks1)) := by simp only [errT, meas, allT, goodT]
  unfold PO outT
  rw [herr]
  refine ⟨fun h => ⟨_, if_pos h, fun t' hs => ?_⟩, fun h => ?_⟩
  · obtain ⟨k9, n9, f9, s9, a9, c9, ks9⟩ := t'
    unfold Sm at hs ⊢
    exact hs
  · rw [if_neg h, h5 h]
    rfl
/-- Both tell o. -/
def Both (sg : ByteArray) (a : Option Addr) (N c : Nat) (o : Out) (W : World) : Prop :=
  Calls Tryz.prog 6 #[.string sg, .slice a N c] W (OutS o W) ∧ Calls Tryz.prog 7 #[.string sg, .slice a N c] W (OutS o W)
theorem bif_row {sg : ByteArray} {a : Option Addr} {n c : Nat} {W : World} {o : Out} {r : Brw} (hf : bfnd opsL sg (n : Int) = some r) (ht : TC r.2.2 (PO o) (EO o) (.agg #[.string sg, .slice a n c, .nilFunc]) W) :
    Calls Tryz.prog 6 #[.string sg, .slice a n c] W (OutS o W) := by
  refine (op_any (P := PO o) (E := EO o) (n := n) (fun r' hr => ?_) (fun h => ?_)).mono (fun e w' h => ans_out h)
  · rw [hf] at hr
    obtain rfl := Option.some.inj hr
    exact ht
  · rw [hf] at h
    cases h
theorem bif_none {sg : ByteArray} {a : Option Addr} {n c : Nat} {W : World} (hf : bfnd opsL sg (n : Int) = none) :
    Calls Tryz.prog 6 #[.string sg, .slice a n c] W (OutS (.inr 5) W) := by
  refine (op_any (P := PO (.inr 5)) (E := EO (.inr 5)) (n := n) (fun r' hr => ?_) (fun h => rfl)).mono (fun e w' h => ans_out h)
  rw [hf] at hr
  cases hr
end Go.Proofs.YtgljglindgbjaaaGreatDoor


/- Program and document tell the same. -/
namespace Go.Proofs.YtgljglindgbjaaaGreatDoor
open Go.RowKit Go.Lib Go.Deep
attribute [local go_sem] store_float f64bits
attribute [local go_sem ↓] Go.wp_at_zero Go.wp_at_succ

set_option maxRecDepth 100000 in
theorem bo_add {w0 : World} {a : Option Addr} {c : Nat} {t0 t1 : Tr} (hin0 : ArgsIn w0 a c [t0, t1]) (g0 : Gd t0) (g1 : Gd t1) : ∃ o, ∀ W, ArgsIn W a c [t0, t1] → Both ⟨#[43]⟩ a 2 c o W := by
  obtain ⟨k, n, f, s, a', c', ks⟩ := t0
  obtain ⟨k1, n1, f1, s1, a1, c1, ks1⟩ := t1
  obtain ⟨r, ht, hp, hd⟩ := both_any ⟨#[43]⟩ k n f s a' ks.length c' k1 n1 f1 s1 a1 ks1.length c1 (in_flt (arg_in hin0 (i := 0) rfl)) (in_flt (arg_in hin0 (i := 1) rfl))
  exact ⟨outR r, fun W hin => ⟨bif_row (show bfnd opsL ⟨#[43]⟩ ((2 : Nat) : Int) = some (⟨#[43]⟩, 2, 30) by kernel_rfl) (arithmetic_tc hin ht hp (po_num ht) eo_num), rop_add hin ht hd⟩⟩
set_option maxRecDepth 100000 in
theorem bo_sub {w0 : World} {a : Option Addr} {c : Nat} {t0 t1 : Tr} (hin0 : ArgsIn w0 a c [t0, t1]) (g0 : Gd t0) (g1 : Gd t1) : ∃ o, ∀ W, ArgsIn W a c [t0, t1] → Both ⟨#[45]⟩ a 2 c o W := by
  obtain ⟨k, n, f, s, a', c', ks⟩ := t0
  obtain ⟨k1, n1, f1, s1, a1, c1, ks1⟩ := t1
  obtain ⟨r, ht, hp, hd⟩ := both_any ⟨#[45]⟩ k n f s a' ks.length c' k1 n1 f1 s1 a1 ks1.length c1 (in_flt (arg_in hin0 (i := 0) rfl)) (in_flt (arg_in hin0 (i := 1) rfl))
  exact ⟨outR r, fun W hin => ⟨bif_row (show bfnd opsL ⟨#[45]⟩ ((2 : Nat) : Int) = some (⟨#[45]⟩, 2, 30) by kernel_rfl) (arithmetic_tc hin ht hp (po_num ht) eo_num), rop_sub hin ht hd⟩⟩
set_option maxRecDepth 100000 in
theorem bo_mul {w0 : World} {a : Option Addr} {c : Nat} {t0 t1 : Tr} (hin0 : ArgsIn w0 a c [t0, t1]) (g0 : Gd t0) (g1 : Gd t1) : ∃ o, ∀ W, ArgsIn W a c [t0, t1] → Both ⟨#[42]⟩ a 2 c o W := by
  obtain ⟨k, n, f, s, a', c', ks⟩ := t0
  obtain ⟨k1, n1, f1, s1, a1, c1, ks1⟩ := t1
  obtain ⟨r, ht, hp, hd⟩ := both_any ⟨#[42]⟩ k n f s a' ks.length c' k1 n1 f1 s1 a1 ks1.length c1 (in_flt (arg_in hin0 (i := 0) rfl)) (in_flt (arg_in hin0 (i := 1) rfl))
  exact ⟨outR r, fun W hin => ⟨bif_row (show bfnd opsL ⟨#[42]⟩ ((2 : Nat) : Int) = some (⟨#[42]⟩, 2, 30) by kernel_rfl) (arithmetic_tc hin ht hp (po_num ht) eo_num), rop_mul hin ht hd⟩⟩
set_option maxRecDepth 100000 in
theorem bo_quo {w0 : World} {a : Option Addr} {c : Nat} {t0 t1 : Tr} (hin0 : ArgsIn w0 a c [t0, t1]) (g0 : Gd t0) (g1 : Gd t1) : ∃ o, ∀ W, ArgsIn W a c [t0, t1] → Both ⟨#[47]⟩ a 2 c o W := by
  obtain ⟨k, n, f, s, a', c', ks⟩ := t0
  obtain ⟨k1, n1, f1, s1, a1, c1, ks1⟩ := t1
  obtain ⟨r, ht, hp, hd⟩ := both_any ⟨#[47]⟩ k n f s a' ks.length c' k1 n1 f1 s1 a1 ks1.length c1 (in_flt (arg_in hin0 (i := 0) rfl)) (in_flt (arg_in hin0 (i := 1) rfl))
  exact ⟨outR r, fun W hin => ⟨bif_row (show bfnd opsL ⟨#[47]⟩ ((2 : Nat) : Int) = some (⟨#[47]⟩, 2, 30) by kernel_rfl) (arithmetic_tc hin ht hp (po_num ht) eo_num), rop_quo hin ht hd⟩⟩
set_option maxRecDepth 100000 in
theorem bo_div {w0 : World} {a : Option Addr} {c : Nat} {t0 t1 : Tr} (hin0 : ArgsIn w0 a c [t0, t1]) (g0 : Gd t0) (g1 : Gd t1) : ∃ o, ∀ W, ArgsIn W a c [t0, t1] → Both ⟨#[100, 105, 118]⟩ a 2 c o W := by
  obtain ⟨k, n, f, s, a', c', ks⟩ := t0
  obtain ⟨k1, n1, f1, s1, a1, c1, ks1⟩ := t1
  obtain ⟨r, ht, hp, hd⟩ := both_any ⟨#[100, 105, 118]⟩ k n f s a' ks.length c' k1 n1 f1 s1 a1 ks1.length c1 (in_flt (arg_in hin0 (i := 0) rfl)) (in_flt (arg_in hin0 (i := 1) rfl))
  exact ⟨outR r, fun W hin => ⟨bif_row (show bfnd opsL ⟨#[100, 105, 118]⟩ ((2 : Nat) : Int) = some (⟨#[100, 105, 118]⟩, 2, 30) by kernel_rfl) (arithmetic_tc hin ht hp (po_num ht) eo_num), rop_div hin ht hd⟩⟩
set_option maxRecDepth 100000 in
theorem bo_rem {w0 : World} {a : Option Addr} {c : Nat} {t0 t1 : Tr} (hin0 : ArgsIn w0 a c [t0, t1]) (g0 : Gd t0) (g1 : Gd t1) : ∃ o, ∀ W, ArgsIn W a c [t0, t1] → Both ⟨#[114, 101, 109]⟩ a 2 c o W := by
  obtain ⟨k, n, f, s, a', c', ks⟩ := t0
  obtain ⟨k1, n1, f1, s1, a1, c1, ks1⟩ := t1
  obtain ⟨r, ht, hp, hd⟩ := both_any ⟨#[114, 101, 109]⟩ k n f s a' ks.length c' k1 n1 f1 s1 a1 ks1.length c1 (in_flt (arg_in hin0 (i := 0) rfl)) (in_flt (arg_in hin0 (i := 1) rfl))
  exact ⟨outR r, fun W hin => ⟨bif_row (show bfnd opsL ⟨#[114, 101, 109]⟩ ((2 : Nat) : Int) = some (⟨#[114, 101, 109]⟩, 2, 30) by kernel_rfl) (arithmetic_tc hin ht hp (po_num ht) eo_num), rop_rem hin ht hd⟩⟩
set_option maxRecDepth 100000 in
theorem bo_eq {a : Option Addr} {c : Nat} {t0 t1 : Tr} (g0 : Gd t0) (g1 : Gd t1) : ∃ o, ∀ W, ArgsIn W a c [t0, t1] → Both ⟨#[61, 61]⟩ a 2 c o W :=
  ⟨.inl (bolT (decide (cmpT t0 t1 = 0))), fun W hin => ⟨bif_row (show bfnd opsL ⟨#[61, 61]⟩ ((2 : Nat) : Int) = some (⟨#[61, 61]⟩, 2, 31) by kernel_rfl) (equal_tc hin (fun W2 hb => Cmp_any t0 t1 W2 (in_below hb (arg_in hin (i := 0) rfl)) (in_below hb (arg_in hin (i := 1) rfl)) g0.2.1 g1.2.1 g0.1 g1.1) (po_bol _)), rop_eq hin _ (fun W2 hb => ord_any t0 (err_all g0.1) t1 (err_all g1.1) W2 (in_below hb (arg_in hin (i := 0) rfl)) (in_below hb (arg_in hin (i := 1) rfl)))⟩⟩
set_option maxRecDepth 100000 in
theorem bo_ne {a : Option Addr} {c : Nat} {t0 t1 : Tr} (g0 : Gd t0) (g1 : Gd t1) : ∃ o, ∀ W, ArgsIn W a c [t0, t1] → Both ⟨#[47, 61]⟩ a 2 c o W :=
  ⟨.inl (bolT (decide (¬ cmpT t0 t1 = 0))), fun W hin => ⟨bif_row (show bfnd opsL ⟨#[47, 61]⟩ ((2 : Nat) : Int) = some (⟨#[47, 61]⟩, 2, 32) by kernel_rfl) (unequal_tc hin (fun W2 hb => Cmp_any t0 t1 W2 (in_below hb (arg_in hin (i := 0) rfl)) (in_below hb (arg_in hin (i := 1) rfl)) g0.2.1 g1.2.1 g0.1 g1.1) (po_bol _)), rop_ne hin _ (fun W2 hb => ord_any t0 (err_all g0.1) t1 (err_all g1.1) W2 (in_below hb (arg_in hin (i := 0) rfl)) (in_below hb (arg_in hin (i := 1) rfl)))⟩⟩
set_option maxRecDepth 100000 in
theorem bo_le {a : Option Addr} {c : Nat} {t0 t1 : Tr} (g0 : Gd t0) (g1 : Gd t1) : ∃ o, ∀ W, ArgsIn W a c [t0, t1] → Both ⟨#[61, 60]⟩ a 2 c o W :=
  ⟨.inl (bolT (decide (cmpT t0 t1 ≤ 0))), fun W hin => ⟨bif_row (show bfnd opsL ⟨#[61, 60]⟩ ((2 : Nat) : Int) = some (⟨#[61, 60]⟩, 2, 33) by kernel_rfl) (notAbove_tc hin (fun W2 hb => Cmp_any t0 t1 W2 (in_below hb (arg_in hin (i := 0) rfl)) (in_below hb (arg_in hin (i := 1) rfl)) g0.2.1 g1.2.1 g0.1 g1.1) (po_bol _)), rop_le hin _ (fun W2 hb => ord_any t0 (err_all g0.1) t1 (err_all g1.1) W2 (in_below hb (arg_in hin (i := 0) rfl)) (in_below hb (arg_in hin (i := 1) rfl)))⟩⟩
set_option maxRecDepth 100000 in
theorem bo_lt {a : Option Addr} {c : Nat} {t0 t1 : Tr} (g0 : Gd t0) (g1 : Gd t1) : ∃ o, ∀ W, ArgsIn W a c [t0, t1] → Both ⟨#[60]⟩ a 2 c o W :=
  ⟨.inl (bolT (decide (cmpT t0 t1 < 0))), fun W hin => ⟨bif_row (show bfnd opsL ⟨#[60]⟩ ((2 : Nat) : Int) = some (⟨#[60]⟩, 2, 34) by kernel_rfl) (below_tc hin (fun W2 hb => Cmp_any t0 t1 W2 (in_below hb (arg_in hin (i := 0) rfl)) (in_below hb (arg_in hin (i := 1) rfl)) g0.2.1 g1.2.1 g0.1 g1.1) (po_bol _)), rop_lt hin _ (fun W2 hb => ord_any t0 (err_all g0.1) t1 (err_all g1.1) W2 (in_below hb (arg_in hin (i := 0) rfl)) (in_below hb (arg_in hin (i := 1) rfl)))⟩⟩
set_option maxRecDepth 100000 in
theorem bo_ge {a : Option Addr} {c : Nat} {t0 t1 : Tr} (g0 : Gd t0) (g1 : Gd t1) : ∃ o, ∀ W, ArgsIn W a c [t0, t1] → Both ⟨#[62, 61]⟩ a 2 c o W :=
  ⟨.inl (bolT (decide (0 ≤ cmpT t0 t1))), fun W hin => ⟨bif_row (show bfnd opsL ⟨#[62, 61]⟩ ((2 : Nat) : Int) = some (⟨#[62, 61]⟩, 2, 35) by kernel_rfl) (notBelow_tc hin (fun W2 hb => Cmp_any t0 t1 W2 (in_below hb (arg_in hin (i := 0) rfl)) (in_below hb (arg_in hin (i := 1) rfl)) g0.2.1 g1.2.1 g0.1 g1.1) (po_bol _)), rop_ge hin _ (fun W2 hb => ord_any t0 (err_all g0.1) t1 (err_all g1.1) W2 (in_below hb (arg_in hin (i := 0) rfl)) (in_below hb (arg_in hin (i := 1) rfl)))⟩⟩
set_option maxRecDepth 100000 in
theorem bo_gt {a : Option Addr} {c : Nat} {t0 t1 : Tr} (g0 : Gd t0) (g1 : Gd t1) : ∃ o, ∀ W, ArgsIn W a c [t0, t1] → Both ⟨#[62]⟩ a 2 c o W :=
  ⟨.inl (bolT (decide (0 < cmpT t0 t1))), fun W hin => ⟨bif_row (show bfnd opsL ⟨#[62]⟩ ((2 : Nat) : Int) = some (⟨#[62]⟩, 2, 36) by kernel_rfl) (above_tc hin (fun W2 hb => Cmp_any t0 t1 W2 (in_below hb (arg_in hin (i := 0) rfl)) (in_below hb (arg_in hin (i := 1) rfl)) g0.2.1 g1.2.1 g0.1 g1.1) (po_bol _)), rop_gt hin _ (fun W2 hb => ord_any t0 (err_all g0.1) t1 (err_all g1.1) W2 (in_below hb (arg_in hin (i := 0) rfl)) (in_below hb (arg_in hin (i := 1) rfl)))⟩⟩
set_option maxRecDepth 100000 in
theorem bo_id {a : Option Addr} {c : Nat} {t0 t1 : Tr} (g0 : Gd t0) (g1 : Gd t1) : ∃ o, ∀ W, ArgsIn W a c [t0, t1] → Both ⟨#[61, 58, 61]⟩ a 2 c o W :=
  ⟨.inl (bolT (idT t0 t1)), fun W hin => ⟨bif_row (show bfnd opsL ⟨#[61, 58, 61]⟩ ((2 : Nat) : Int) = some (⟨#[61, 58, 61]⟩, 2, 37) by kernel_rfl) (identical_tc hin (fun W2 hb => by have := Same_any t0 t1 W2 (in_below hb (arg_in hin (i := 0) rfl)) (in_below hb (arg_in hin (i := 1) rfl)) g0.2.1 g1.2.1 g0.1 g1.1; rwa [idP_idT] at this) (po_bol _)), rop_id hin _ (fun W2 hb => idn_any t0 t1 W2 (in_below hb (arg_in hin (i := 0) rfl)) (in_below hb (arg_in hin (i := 1) rfl)))⟩⟩
set_option maxRecDepth 100000 in
theorem bo_di {a : Option Addr} {c : Nat} {t0 t1 : Tr} (g0 : Gd t0) (g1 : Gd t1) : ∃ o, ∀ W, ArgsIn W a c [t0, t1] → Both ⟨#[61, 47, 61]⟩ a 2 c o W :=
  ⟨.inl (bolT (!(idT t0 t1))), fun W hin => ⟨bif_row (show bfnd opsL ⟨#[61, 47, 61]⟩ ((2 : Nat) : Int) = some (⟨#[61, 47, 61]⟩, 2, 38) by kernel_rfl) (different_tc hin (fun W2 hb => by have := Same_any t0 t1 W2 (in_below hb (arg_in hin (i := 0) rfl)) (in_below hb (arg_in hin (i := 1) rfl)) g0.2.1 g1.2.1 g0.1 g1.1; rwa [idP_idT] at this) (po_bol _)), rop_di hin _ (fun W2 hb => idn_any t0 t1 W2 (in_below hb (arg_in hin (i := 0) rfl)) (in_below hb (arg_in hin (i := 1) rfl)))⟩⟩
set_option maxRecDepth 100000 in
theorem bo_join {a : Option Addr} {c : Nat} {t0 t1 : Tr} (g0 : Gd t0) (g1 : Gd t1) : ∃ o, ∀ W, ArgsIn W a c [t0, t1] → Both ⟨#[43, 43]⟩ a 2 c o W := by
  obtain ⟨k, n, f, s, a', c', ks⟩ := t0
  obtain ⟨k1, n1, f1, s1, a1, c1, ks1⟩ := t1
  refine ⟨if k = 8 ∧ k1 = 8 then outT (.mk 8 0 0 ⟨#[]⟩ none 0 (ks ++ ks1)) else .inr 13, fun W hin => ⟨bif_row (show bfnd opsL ⟨#[43, 43]⟩ ((2 : Nat) : Int) = some (⟨#[43, 43]⟩, 2, 39) by kernel_rfl) (joined2_tc hin ?_ ?_ ?_), rop_join hin ?_⟩⟩
  · intro e e1
    subst e e1
    obtain ⟨h1, h2, h3, h4, h5⟩ := join_facts g0 g1
    exact ⟨h1, h2, h4⟩
  · intro e e1 a9 c9
    subst e e1
    rw [if_pos ⟨rfl, rfl⟩]
    exact po_join g0 g1 a9 c9
  · intro h
    exact if_neg (fun e => by rcases h with h | h; exact h e.1; exact h e.2)
  · intro e e1
    subst e e1
    obtain ⟨h1, h2, h3, h4, h5⟩ := join_facts g0 g1
    exact ⟨h1, h3, h4⟩
set_option maxRecDepth 100000 in
theorem pair_2 {w0 : World} {a : Option Addr} {c : Nat} {t0 t1 : Tr} (hin0 : ArgsIn w0 a c [t0, t1]) (g0 : Gd t0) (g1 : Gd t1) (sg : ByteArray) : ∃ o, ∀ W, ArgsIn W a c [t0, t1] → Both sg a 2 c o W := by
  by_cases h0 : sg = ⟨#[43]⟩
  · subst h0
    exact bo_add hin0 g0 g1
  by_cases h1 : sg = ⟨#[45]⟩
  · subst h1
    exact bo_sub hin0 g0 g1
  by_cases h2 : sg = ⟨#[42]⟩
  · subst h2
    exact bo_mul hin0 g0 g1
  by_cases h3 : sg = ⟨#[47]⟩
  · subst h3
    exact bo_quo hin0 g0 g1
  by_cases h4 : sg = ⟨#[100, 105, 118]⟩
  · subst h4
    exact bo_div hin0 g0 g1
  by_cases h5 : sg = ⟨#[114, 101, 109]⟩
  · subst h5
    exact bo_rem hin0 g0 g1
  by_cases h6 : sg = ⟨#[61, 61]⟩
  · subst h6
    exact bo_eq g0 g1
  by_cases h7 : sg = ⟨#[47, 61]⟩
  · subst h7
    exact bo_ne g0 g1
  by_cases h8 : sg = ⟨#[61, 60]⟩
  · subst h8
    exact bo_le g0 g1
  by_cases h9 : sg = ⟨#[60]⟩
  · subst h9
    exact bo_lt g0 g1
  by_cases h10 : sg = ⟨#[62, 61]⟩
  · subst h10
    exact bo_ge g0 g1
  by_cases h11 : sg = ⟨#[62]⟩
  · subst h11
    exact bo_gt g0 g1
  by_cases h12 : sg = ⟨#[61, 58, 61]⟩
  · subst h12
    exact bo_id g0 g1
  by_cases h13 : sg = ⟨#[61, 47, 61]⟩
  · subst h13
    exact bo_di g0 g1
  by_cases h14 : sg = ⟨#[43, 43]⟩
  · subst h14
    exact bo_join g0 g1
  have h : ¬ twoS sg := by
    unfold twoS
    simp only [not_or]
    exact ⟨h0, h1, h2, h3, h4, h5, h6, h7, h8, h9, h10, h11, h12, h13, h14⟩
  refine ⟨.inr 5, fun W hin => ⟨bif_none ?_, rop_none2 hin h⟩⟩
  unfold bfnd
  rw [List.find?_eq_none]
  intro r hr hb
  obtain ⟨hb1, hb2⟩ : r.2.1 = 2 ∧ r.1 = sg := by simpa [bhit] using hb
  subst hb2
  simp only [opsL, List.mem_cons, List.not_mem_nil, or_false] at hr
  rcases hr with rfl | rfl | rfl | rfl | rfl | rfl | rfl | rfl | rfl | rfl | rfl | rfl | rfl | rfl | rfl | rfl | rfl <;> first | (exfalso; simp at hb1; done) | (exact h (by simp [twoS]))
set_option maxRecDepth 100000 in
theorem pair_1 {w0 : World} {a : Option Addr} {c : Nat} {t0 : Tr} (hin0 : ArgsIn w0 a c [t0]) (sg : ByteArray) : ∃ o, ∀ W, ArgsIn W a c [t0] → Both sg a 1 c o W := by
  obtain ⟨k, n, f, s, a', c', ks⟩ := t0
  by_cases h0 : sg = ⟨#[45]⟩
  · subst h0
    obtain ⟨r, ht, hp, hd⟩ := neg_both k n f s a' ks.length c' (in_flt (arg_in hin0 (i := 0) rfl))
    exact ⟨outR r, fun W hin => ⟨bif_row (show bfnd opsL ⟨#[45]⟩ ((1 : Nat) : Int) = some (⟨#[45]⟩, 1, 40) by kernel_rfl) (negative_tc hin ht hp (po_num ht) eo_num), rop_neg hin ht hd⟩⟩
  by_cases h1 : sg = ⟨#[110, 111, 116]⟩
  · subst h1
    refine ⟨if isBol (.mk k n f s a' c' ks) = true then .inl (bolT (decide (s = falseS))) else .inr 13, fun W hin => ⟨bif_row (show bfnd opsL ⟨#[110, 111, 116]⟩ ((1 : Nat) : Int) = some (⟨#[110, 111, 116]⟩, 1, 41) by kernel_rfl) (opposite_tc (rest := []) hin ?_ ?_), rop_not hin⟩⟩
    · intro h
      rw [if_pos h]
      exact po_bol _
    · intro h
      exact if_neg (by simp [h])
  have h : ¬ oneS sg := by
    unfold oneS
    simp only [not_or]
    exact ⟨h0, h1⟩
  refine ⟨.inr 5, fun W hin => ⟨bif_none ?_, rop_none1 h⟩⟩
  unfold bfnd
  rw [List.find?_eq_none]
  intro r hr hb
  obtain ⟨hb1, hb2⟩ : r.2.1 = 1 ∧ r.1 = sg := by simpa [bhit] using hb
  subst hb2
  simp only [opsL, List.mem_cons, List.not_mem_nil, or_false] at hr
  rcases hr with rfl | rfl | rfl | rfl | rfl | rfl | rfl | rfl | rfl | rfl | rfl | rfl | rfl | rfl | rfl | rfl | rfl <;> first | (exfalso; simp at hb1; done) | (exact h (by simp [oneS]))
theorem pair_n {a : Option Addr} {N c : Nat} (h1 : N ≠ 1) (h2 : N ≠ 2) (sg : ByteArray) (W : World) : Both sg a N c (.inr 5) W := by
  refine ⟨bif_none ?_, rop_none h1 h2⟩
  unfold bfnd
  rw [List.find?_eq_none]
  intro r hr hb
  obtain ⟨hb1, hb2⟩ : r.2.1 = (N : Int) ∧ r.1 = sg := by simpa [bhit] using hb
  simp only [opsL, List.mem_cons, List.not_mem_nil, or_false] at hr
  rcases hr with rfl | rfl | rfl | rfl | rfl | rfl | rfl | rfl | rfl | rfl | rfl | rfl | rfl | rfl | rfl | rfl | rfl <;> (simp only [] at hb1; omega)
theorem pair_any {w0 : World} {a : Option Addr} {c : Nat} {ts : List Tr} (hin0 : ArgsIn w0 a c ts) (hg : ∀ t ∈ ts, Gd t) (sg : ByteArray) : ∃ o, ∀ W, ArgsIn W a c ts → Both sg a ts.length c o W := by
  match ts, hin0, hg with
  | [], _, _ => exact ⟨_, fun W _ => pair_n (by simp) (by simp) sg W⟩
  | [t0], hin0, _ => exact pair_1 hin0 sg
  | [t0, t1], hin0, hg => exact pair_2 hin0 (hg t0 (by simp)) (hg t1 (by simp)) sg
  | t0 :: t1 :: t2 :: r, _, _ => exact ⟨_, fun W _ => pair_n (by simp) (by simp) sg W⟩
end Go.Proofs.YtgljglindgbjaaaGreatDoor


