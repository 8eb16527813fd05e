import Derived.Test.YtgljglindgbjaaaGreatDoorG34
import Derived.Test.YtgljglindgbjaaaGreatDoorG19
import Derived.Test.YtgljglindgbjaaaGreatDoorG20
import Derived.Test.YtgljglindgbjaaaGreatDoorG16
import Derived.Lib.SmallJoins
import Derived.Test.YtgljglindgbjaaaGreatDoorG26
import Derived.Test.YtgljglindgbjaaaGreatDoorG08
/- Numbers that are told; arithmetic and negative. -/
namespace Go.Proofs.YtgljglindgbjaaaGreatDoor
open Go.RowKit Go.Lib Go.Deep
attribute [local go_sem] store_float f64bits store_func store_nilFunc
attribute [local go_sem ↓] Go.wp_at_zero Go.wp_at_succ

/-- A number as a term. -/
abbrev numR (r : R) : Tr := .mk r.k r.n r.f ⟨#[]⟩ none 0 []
theorem numR_in {r : R} (h : ToldN r) (h0 : r.e = 0) (w : World) (S : Nat → Prop) : (numR r).In w 0 ∧ (numR r).On S ∧ Small (numR r) ∧ cnT (numR r) ≤ 1000000000 := by
  have hw : (Lit.int .i64 r.k).wf = true ∧ (Lit.int .i64 r.n).wf = true ∧ (Lit.float .f64 r.f).wf = true := by
    rcases h with ⟨-, (⟨e1, e2, e3⟩ | ⟨e1, e2, e3, e4⟩)⟩ | ⟨h9, -⟩
    · rw [e1, e3]
      obtain ⟨b1, b2⟩ := whB_yes e2
      exact ⟨rfl, by simp only [Lit.wf, show IntKind.i64.min = -9223372036854775808 from rfl, show IntKind.i64.max = 9223372036854775807 from rfl, Bool.and_eq_true, decide_eq_true_eq]; omega, rfl⟩
    · rw [e1, e2]
      exact ⟨rfl, rfl, by simpa [Lit.wf] using e4⟩
    · omega
  refine ⟨?_, ?_, ?_, ?_⟩
  · unfold Tr.In
    exact ⟨⟨hw.1, hw.2.1, hw.2.2, by decide, Nat.le_refl _, Nat.zero_le _, fun _ => rfl⟩, fun ad h => by simp at h⟩
  · simp [Tr.On, Tr.OnAll]
  · simp [Small, SmallAll]
  · simp [cnT, cnA]
theorem told_ok (k n : Int) (f : Nat) (s : ByteArray) (a : Option Addr) (l c : Nat) (w : World) : Calls Tryz.prog 97 #[.agg #[.int .i64 k, .int .i64 n, .float .f64 f, .string s, .slice a l c], .int .i64 0] w fun e w' => e = .returned (.agg #[.int .i64 k, .int .i64 n, .float .f64 f, .string s, .slice a l c]) ∧ Below w.heap.size w w' := by
  have M0 := trivial
  obtain ⟨V1, hV1⟩ : ∃ V1, ((w.alloc (.cells #[.int .i64 k, .int .i64 n, .float .f64 f, .string s, .slice a l c] 27)).alloc (.cells #[.int .i64 0, .int .i64 0, .float .f64 0, .string ⟨#[]⟩, .slice none 0 0] 27)) = V1 := ⟨_, rfl⟩
  have HX0 : Hid (Box V1 (w.heap.size + 1) (.int .i64 0) (.int .i64 0) (.float .f64 0) (.string ⟨#[]⟩) (.slice none 0 0)) := hidb (by
    rw [← hV1]
    have := Box.new (w.alloc (.cells #[.int .i64 k, .int .i64 n, .float .f64 f, .string s, .slice a l c] 27)) 27 (.int .i64 0) (.int .i64 0) (.float .f64 0) (.string ⟨#[]⟩) (.slice none 0 0)
    simpa using this)
  have HY0 : Hid (Box V1 w.heap.size (.int .i64 k) (.int .i64 n) (.float .f64 f) (.string s) (.slice a l c)) := hidb (by rw [← hV1]; exact (Box.new w _ _ _ _ _ _).keep (below_new _ _))
  have HBW : Hid (Below w.heap.size w V1) := hidb (by rw [← hV1]; exact (below_new w _).alloc (by simp) _)
  have HV1 := hidb hV1
  clear hV1
  go_enter Tryz.func97, Tryz.ntmps97
  go_wp2_with fail
  rw [HV1.out]
  refine (must_ok _ _).mono ?_
  rintro e w2 ⟨rfl, rfl⟩
  obtain ⟨⟨x0, x1, x2, x3, x4⟩, ⟨y0, y1, y2, y3, y4⟩, xl⟩ := Box.six HX0.out
  obtain ⟨u0, u1, u2, u3, u4, -, -, -, -, -, -⟩ := HY0.out
  go_wp2_with fail
  have bx9 := HX0.out.set (.int .i64 k) (.int .i64 n) (.float .f64 f) (.string s) (.slice a l c)
  obtain ⟨⟨k0, k1', k2, k3, k4⟩, -, -⟩ := Box.six bx9
  simp only [set5] at k0 k1' k2 k3 k4
  refine bodyPost_ret (v := .agg #[.int .i64 k, .int .i64 n, .float .f64 f, .string s, .slice a l c]) (by simp [results, Tryz.results97, go_sem, k0, k1', k2, k3, k4]) rfl ⟨rfl, ?_⟩
  exact (((((HBW.out.setCell (by simp) _).setCell (by simp) _).setCell (by simp) _).setCell (by simp) _).setCell (by simp) _)
theorem told_no (k n : Int) (f : Nat) (s : ByteArray) (a : Option Addr) (l c : Nat) (er : Int) (he : er ≠ 0) (w : World) : Calls Tryz.prog 97 #[.agg #[.int .i64 k, .int .i64 n, .float .f64 f, .string s, .slice a l c], .int .i64 er] w fun e w' => e = raisedBy er ∧ Below w.heap.size w w' := by
  have heb : (er == 0) = false := by simpa using he
  clear he
  go_enter Tryz.func97, Tryz.ntmps97
  go_wp2_with fail
  refine (must_no _ _).mono ?_
  rintro e w2 ⟨rfl, hb⟩
  exact ⟨rfl, rfl, ((below_new w _).alloc (by simp) _).trans (hb.mono (by simp; omega))⟩
theorem ent_told : Ent 97 := by
  intro args w
  kernel_rfl
theorem ent_numOp : Ent 98 := by
  intro args w
  kernel_rfl
theorem ent_numNeg : Ent 105 := by
  intro args w
  kernel_rfl
set_option maxHeartbeats 8000000 in
set_option maxRecDepth 100000 in
theorem arithmetic_tc {w : World} {a : Option Addr} {c : Nat} {t0 t1 : Tr} {nm : ByteArray} {P : Tr → Prop} {E : Int → Prop} {r : R} (hin : ArgsIn w a c [t0, t1]) (ht : ToldN r) (hC : ∀ W, Calls Tryz.prog 98 #[.string nm, t0.val, t1.val] W fun e w' => e = .returned (.tuple #[.agg #[.int .i64 (r.k), .int .i64 (r.n), .float .f64 (r.f), .string ⟨#[]⟩, .slice none 0 0], .int .i64 r.e]) ∧ Below W.heap.size W w') (hP : r.e = 0 → P (numR r)) (hE : r.e ≠ 0 → E r.e) :
    TC 30 P E (.agg #[.string nm, .slice a 2 c, .nilFunc]) w := by
  refine ⟨fun args w => by kernel_rfl, fun W hW => ?_⟩
  have HPE := hidb (And.intro ht (And.intro hP hE))
  obtain ⟨k, n, f, s, a', c', ks⟩ := t0
  obtain ⟨k1, n1, f1, s1, a1, c1, ks1⟩ := t1
  obtain ⟨b, o, rfl, hbW, v0, v1, v2, v3, v4, -⟩ := argi hin hW (i := 0) rfl
  obtain ⟨b2, o2, e, -, u0, u1, u2, u3, u4, -⟩ := argi hin hW (i := 1) rfl
  obtain ⟨rfl, rfl⟩ : b = b2 ∧ o = o2 := by simpa using e
  simp only [Nat.zero_mul, Nat.add_zero, Nat.one_mul] at v0 v1 v2 v3 v4 u0 u1 u2 u3 u4
  have HC := hidb hC
  simp only [Tr.val, Tr.cells] at HC
  generalize ks.length = l0 at *
  generalize ks1.length = l1 at *
  obtain ⟨V1, hV1⟩ : ∃ V1, ((W.alloc (.cells #[.string nm, .slice (some ⟨b, o, none⟩) 2 c, .nilFunc] CT)).alloc (.cells #[.int .i64 0, .int .i64 0, .float .f64 0, .string ⟨#[]⟩, .slice none 0 0] 27)) = V1 := ⟨_, rfl⟩
  have HX0 : Hid (Box V1 (W.heap.size + 1) (.int .i64 0) (.int .i64 0) (.float .f64 0) (.string ⟨#[]⟩) (.slice none 0 0)) := hidb (by
    rw [← hV1]
    have := Box.new (W.alloc (.cells #[.string nm, .slice (some ⟨b, o, none⟩) 2 c, .nilFunc] CT)) 27 (.int .i64 0) (.int .i64 0) (.float .f64 0) (.string ⟨#[]⟩) (.slice none 0 0)
    simpa using this)
  have HC0 : Hid (Tri V1 W.heap.size (.string nm) (.slice (some ⟨b, o, none⟩) 2 c) .nilFunc) := hidb (by rw [← hV1]; exact (Tri.new W _ _ _ _).keep (below_new _ _))
  have HBW : Hid (Below W.heap.size W V1) := hidb (by rw [← hV1]; exact (below_new W _).alloc (by simp) _)
  have HV1 := hidb hV1
  obtain ⟨PP, hPP⟩ : ∃ PP : Ending → World → Prop, Tld P E w.heap.size W = PP := ⟨_, rfl⟩
  have HPP := hidb hPP
  rw [hPP]
  clear hV1 hPP
  clear hin hC hP hE ht hW
  have HS : Hid (∀ W9, Below V1.heap.size V1 W9 → W9.cell? ⟨W.heap.size, 0, none⟩ = some (.string nm) ∧ W9.cell? ⟨W.heap.size, 1, none⟩ = some (.slice (some ⟨b, o, none⟩) 2 c) ∧ W9.cell? ⟨b, o, none⟩ = some (.int .i64 k) ∧ W9.cell? ⟨b, o + 1, none⟩ = some (.int .i64 n) ∧ W9.cell? ⟨b, o + 2, none⟩ = some (.float .f64 f) ∧ W9.cell? ⟨b, o + 3, none⟩ = some (.string s) ∧ W9.cell? ⟨b, o + 4, none⟩ = some (.slice a' l0 c') ∧ W9.cell? ⟨b, o + 5, none⟩ = some (.int .i64 k1) ∧ W9.cell? ⟨b, o + 5 + 1, none⟩ = some (.int .i64 n1) ∧ W9.cell? ⟨b, o + 5 + 2, none⟩ = some (.float .f64 f1) ∧ W9.cell? ⟨b, o + 5 + 3, none⟩ = some (.string s1) ∧ W9.cell? ⟨b, o + 5 + 4, none⟩ = some (.slice a1 l1 c1)) := hidb (fun W9 hb => by
    have q := HC0.out.keep hb
    have q2 := HBW.out.trans (hb.mono HBW.out.size)
    exact ⟨q.c0, q.c1, (q2.cell hbW).trans v0, (q2.cell hbW).trans v1, (q2.cell hbW).trans v2, (q2.cell hbW).trans v3, (q2.cell hbW).trans v4, (q2.cell hbW).trans u0, (q2.cell hbW).trans u1, (q2.cell hbW).trans u2, (q2.cell hbW).trans u3, (q2.cell hbW).trans u4⟩)
  clear v0 v1 v2 v3 v4 u0 u1 u2 u3 u4
  have HS0 := hidb (HS.out V1.drew (Below.refl _ _).drew)
  go_enter Tryz.func30, Tryz.ntmps30
  go_wp2_with fail
  rw [HV1.out]
  refine wp_region_D (fun w' => w'.cell? ⟨W.heap.size, 0, none⟩ = some (.string nm) ∧ w'.cell? ⟨W.heap.size, 1, none⟩ = some (.slice (some ⟨b, o, none⟩) 2 c) ∧ w'.cell? ⟨b, o, none⟩ = some (.int .i64 k) ∧ w'.cell? ⟨b, o + 1, none⟩ = some (.int .i64 n) ∧ w'.cell? ⟨b, o + 2, none⟩ = some (.float .f64 f) ∧ w'.cell? ⟨b, o + 3, none⟩ = some (.string s) ∧ w'.cell? ⟨b, o + 4, none⟩ = some (.slice a' l0 c') ∧ w'.cell? ⟨b, o + 5, none⟩ = some (.int .i64 k1) ∧ w'.cell? ⟨b, o + 5 + 1, none⟩ = some (.int .i64 n1) ∧ w'.cell? ⟨b, o + 5 + 2, none⟩ = some (.float .f64 f1) ∧ w'.cell? ⟨b, o + 5 + 3, none⟩ = some (.string s1) ∧ w'.cell? ⟨b, o + 5 + 4, none⟩ = some (.slice a1 l1 c1)) [14] (by kernel_rfl) ?_
  refine wpAnyD_takeL (i := 0) (v := ?vv0z) rfl (by kernel_rfl) (by kernel_rfl) (by kernel_rfl) (by kernel_rfl) (fun _ _ _ h => h) HS0.out rfl ?hy0z ?_
  case hy0z => intro wy hSw; obtain ⟨z0, z1, z2, z3, z4, z5, z6, z7, z8, z9, z10, z11⟩ := hSw; go_simp; try with_reducible rfl
  simp only [Act.put, List.setIfInBounds_toArray, List.set_cons_zero, List.set_cons_succ]
  refine wpAnyD_takeL (i := 1) (v := ?vv1z) rfl (by kernel_rfl) (by kernel_rfl) (by kernel_rfl) (by kernel_rfl) (fun _ _ _ h => h) HS0.out rfl ?hy1z ?_
  case hy1z => intro wy hSw; obtain ⟨z0, z1, z2, z3, z4, z5, z6, z7, z8, z9, z10, z11⟩ := hSw; go_simp; try with_reducible rfl
  simp only [Act.put, List.setIfInBounds_toArray, List.set_cons_zero, List.set_cons_succ]
  refine wpAnyD_takeL (i := 2) (v := ?vv2z) rfl (by kernel_rfl) (by kernel_rfl) (by kernel_rfl) (by kernel_rfl) (fun _ _ _ h => h) HS0.out rfl ?hy2z ?_
  case hy2z => intro wy hSw; obtain ⟨z0, z1, z2, z3, z4, z5, z6, z7, z8, z9, z10, z11⟩ := hSw; go_simp; try with_reducible rfl
  simp only [Act.put, List.setIfInBounds_toArray, List.set_cons_zero, List.set_cons_succ]
  refine wpAnyD_takeL (i := 3) (v := ?vv3z) rfl (by kernel_rfl) (by kernel_rfl) (by kernel_rfl) (by kernel_rfl) (fun _ _ _ h => h) HS0.out rfl ?hy3z ?_
  case hy3z => intro wy hSw; obtain ⟨z0, z1, z2, z3, z4, z5, z6, z7, z8, z9, z10, z11⟩ := hSw; go_simp; try with_reducible rfl
  simp only [Act.put, List.setIfInBounds_toArray, List.set_cons_zero, List.set_cons_succ]
  refine wpAnyD_takeL (i := 4) (v := ?vv4z) rfl (by kernel_rfl) (by kernel_rfl) (by kernel_rfl) (by kernel_rfl) (fun _ _ _ h => h) HS0.out rfl ?hy4z ?_
  case hy4z => intro wy hSw; obtain ⟨z0, z1, z2, z3, z4, z5, z6, z7, z8, z9, z10, z11⟩ := hSw; go_simp; try with_reducible rfl
  simp only [Act.put, List.setIfInBounds_toArray, List.set_cons_zero, List.set_cons_succ]
  refine wpAnyD_takeL (i := 5) (v := ?vv5z) rfl (by kernel_rfl) (by kernel_rfl) (by kernel_rfl) (by kernel_rfl) (fun _ _ _ h => h) HS0.out rfl ?hy5z ?_
  case hy5z => intro wy hSw; obtain ⟨z0, z1, z2, z3, z4, z5, z6, z7, z8, z9, z10, z11⟩ := hSw; go_simp; try with_reducible rfl
  simp only [Act.put, List.setIfInBounds_toArray, List.set_cons_zero, List.set_cons_succ]
  refine wpAnyD_takeL (i := 6) (v := ?vv6z) rfl (by kernel_rfl) (by kernel_rfl) (by kernel_rfl) (by kernel_rfl) (fun _ _ _ h => h) HS0.out rfl ?hy6z ?_
  case hy6z => intro wy hSw; obtain ⟨z0, z1, z2, z3, z4, z5, z6, z7, z8, z9, z10, z11⟩ := hSw; go_simp; try with_reducible rfl
  simp only [Act.put, List.setIfInBounds_toArray, List.set_cons_zero, List.set_cons_succ]
  refine wpAnyD_takeL (i := 7) (v := ?vv7z) rfl (by kernel_rfl) (by kernel_rfl) (by kernel_rfl) (by kernel_rfl) (fun _ _ _ h => h) HS0.out rfl ?hy7z ?_
  case hy7z => intro wy hSw; obtain ⟨z0, z1, z2, z3, z4, z5, z6, z7, z8, z9, z10, z11⟩ := hSw; go_simp; try with_reducible rfl
  simp only [Act.put, List.setIfInBounds_toArray, List.set_cons_zero, List.set_cons_succ]
  refine wpAnyD_takeL (i := 8) (v := ?vv8z) rfl (by kernel_rfl) (by kernel_rfl) (by kernel_rfl) (by kernel_rfl) (fun _ _ _ h => h) HS0.out rfl ?hy8z ?_
  case hy8z => intro wy hSw; obtain ⟨z0, z1, z2, z3, z4, z5, z6, z7, z8, z9, z10, z11⟩ := hSw; go_simp; try with_reducible rfl
  simp only [Act.put, List.setIfInBounds_toArray, List.set_cons_zero, List.set_cons_succ]
  refine wpAnyD_takeL (i := 9) (v := ?vv9z) rfl (by kernel_rfl) (by kernel_rfl) (by kernel_rfl) (by kernel_rfl) (fun _ _ _ h => h) HS0.out rfl ?hy9z ?_
  case hy9z => intro wy hSw; obtain ⟨z0, z1, z2, z3, z4, z5, z6, z7, z8, z9, z10, z11⟩ := hSw; go_simp; try with_reducible rfl
  simp only [Act.put, List.setIfInBounds_toArray, List.set_cons_zero, List.set_cons_succ]
  refine wpAnyD_stepL (i := 10) (by kernel_rfl) rfl (fun K hK => ?_)
  refine step_callB (by simp [Region.wanted]) (run_call ent_numOp #[.tmp 4, .tmp 8, .tmp 12] _ rfl #[.string nm, .agg #[.int .i64 k, .int .i64 n, .float .f64 f, .string s, .slice a' l0 c'], .agg #[.int .i64 k1, .int .i64 n1, .float .f64 f1, .string s1, .slice a1 l1 c1]] rfl) (HC.out V1.drew) ?_
  rintro e w2 ⟨rfl, hb2⟩
  have HV2 := hidb (undrew hb2)
  have HS0 := hidb (HS.out w2 HV2.out)
  have HX2 := hidb (HX0.out.keep HV2.out)
  refine hK _ _ (fun _ => HS0.out) ?_
  clear hK K hb2
  simp only [Act.put, List.setIfInBounds_toArray, List.set_cons_zero, List.set_cons_succ]
  refine wpAnyD_takeL (i := 11) (v := ?vv11wa) rfl (by kernel_rfl) (by kernel_rfl) (by kernel_rfl) (by kernel_rfl) (fun _ _ _ h => h) HS0.out rfl ?hy11wa ?_
  case hy11wa => intro wy hSw; obtain ⟨z0, z1, z2, z3, z4, z5, z6, z7, z8, z9, z10, z11⟩ := hSw; go_simp; try with_reducible rfl
  simp only [Act.put, List.setIfInBounds_toArray, List.set_cons_zero, List.set_cons_succ]
  refine wpAnyD_takeL (i := 12) (v := ?vv12wa) rfl (by kernel_rfl) (by kernel_rfl) (by kernel_rfl) (by kernel_rfl) (fun _ _ _ h => h) HS0.out rfl ?hy12wa ?_
  case hy12wa => intro wy hSw; obtain ⟨z0, z1, z2, z3, z4, z5, z6, z7, z8, z9, z10, z11⟩ := hSw; go_simp; try with_reducible rfl
  simp only [Act.put, List.setIfInBounds_toArray, List.set_cons_zero, List.set_cons_succ]
  obtain ⟨rk, rn, rf, re⟩ := r
  by_cases h0 : re = 0
  · subst h0
    have HN := hidb (numR_in (r := ⟨rk, rn, rf, 0⟩) HPE.out.1 rfl)
    have HPP2 := hidb (HPE.out.2.1 rfl)
    refine wpAnyD_stepL (i := 13) (by kernel_rfl) rfl (fun K hK => ?_)
    refine step_callB (by simp [Region.wanted]) (run_call ent_told #[.tmp 14, .tmp 15] _ rfl #[.agg #[.int .i64 (rk), .int .i64 (rn), .float .f64 (rf), .string ⟨#[]⟩, .slice none 0 0], .int .i64 0] rfl) (told_ok rk rn rf ⟨#[]⟩ none 0 0 w2) ?_
    rintro e w6 ⟨rfl, hb6⟩
    have HV6 := hidb (HV2.out.trans (hb6.mono HV2.out.size))
    have HX6 := hidb (HX0.out.keep HV6.out)
    refine hK _ _ (fun _ => HS.out w6 HV6.out) ?_
    clear hK K hb6
    simp only [Act.put, List.setIfInBounds_toArray, List.set_cons_zero, List.set_cons_succ]
    obtain ⟨⟨x0, x1, x2, x3, x4⟩, ⟨y0, y1, y2, y3, y4⟩, xl⟩ := Box.six HX6.out
    refine wpAnyD_stepL (i := 14) (by kernel_rfl) rfl (fun K hK => ?_)
    go_simp
    refine hK _ _ (fun h => absurd (List.mem_singleton.2 rfl) h) ?_
    clear hK K
    refine wpAnyD_done (by kernel_rfl) ?_ _
    go_wp2_with fail
    have bx9 := HX6.out.set (.int .i64 rk) (.int .i64 rn) (.float .f64 rf) (.string ⟨#[]⟩) (.slice none 0 0)
    obtain ⟨⟨k0, k1', k2, k3, k4⟩, -, -⟩ := Box.six bx9
    simp only [set5] at k0 k1' k2 k3 k4
    refine bodyPost_ret (v := (numR ⟨rk, rn, rf, 0⟩).val) (by simp [Tr.val, Tr.cells, results, Tryz.results30, go_sem, k0, k1', k2, k3, k4]) rfl ?_
    rw [← HPP.out]
    have hbW6 : Below W.heap.size W w6 := HBW.out.trans (HV6.out.mono HBW.out.size)
    obtain ⟨-, h2, h3, h4⟩ := HN.out w6 (fun q => q < w.heap.size ∨ W.heap.size ≤ q)
    refine ⟨(((((hbW6.setCell (by simp) _).setCell (by simp) _).setCell (by simp) _).setCell (by simp) _).setCell (by simp) _), .inl ⟨_, rfl, HPP2.out, (HN.out _ (fun _ => True)).1, h2, h3, h4⟩⟩
  · have HE2 := hidb (HPE.out.2.2 h0)
    refine wpAnyD_stepL (i := 13) (by kernel_rfl) rfl (fun K hK => ?_)
    refine step_callB (by simp [Region.wanted]) (run_call ent_told #[.tmp 14, .tmp 15] _ rfl #[.agg #[.int .i64 (rk), .int .i64 (rn), .float .f64 (rf), .string ⟨#[]⟩, .slice none 0 0], .int .i64 re] rfl) (told_no rk rn rf ⟨#[]⟩ none 0 0 re h0 w2) ?_
    rintro e w6 ⟨rfl, hb6⟩
    refine ⟨rfl, ?_⟩
    rw [← HPP.out]
    exact ⟨HBW.out.trans ((HV2.out.trans (hb6.mono HV2.out.size)).mono HBW.out.size), .inr ⟨_, rfl, HE2.out⟩⟩
set_option maxHeartbeats 8000000 in
set_option maxRecDepth 100000 in
theorem negative_tc {w : World} {a : Option Addr} {c : Nat} {t0 : Tr} {nm : ByteArray} {P : Tr → Prop} {E : Int → Prop} {r : R} (hin : ArgsIn w a c [t0]) (ht : ToldN r) (hC : ∀ W, Calls Tryz.prog 105 #[t0.val] W fun e w' => e = .returned (.tuple #[.agg #[.int .i64 (r.k), .int .i64 (r.n), .float .f64 (r.f), .string ⟨#[]⟩, .slice none 0 0], .int .i64 r.e]) ∧ Below W.heap.size W w') (hP : r.e = 0 → P (numR r)) (hE : r.e ≠ 0 → E r.e) :
    TC 40 P E (.agg #[.string nm, .slice a 1 c, .nilFunc]) w := by
  refine ⟨fun args w => by kernel_rfl, fun W hW => ?_⟩
  have HPE := hidb (And.intro ht (And.intro hP hE))
  obtain ⟨k, n, f, s, a', c', ks⟩ := t0
  obtain ⟨b, o, rfl, hbW, v0, v1, v2, v3, v4, -⟩ := argi hin hW (i := 0) rfl
  simp only [Nat.zero_mul, Nat.add_zero] at v0 v1 v2 v3 v4
  have HC := hidb hC
  simp only [Tr.val, Tr.cells] at HC
  generalize ks.length = l0 at *
  obtain ⟨V1, hV1⟩ : ∃ V1, ((W.alloc (.cells #[.string nm, .slice (some ⟨b, o, none⟩) 1 c, .nilFunc] CT)).alloc (.cells #[.int .i64 0, .int .i64 0, .float .f64 0, .string ⟨#[]⟩, .slice none 0 0] 27)) = V1 := ⟨_, rfl⟩
  have HX0 : Hid (Box V1 (W.heap.size + 1) (.int .i64 0) (.int .i64 0) (.float .f64 0) (.string ⟨#[]⟩) (.slice none 0 0)) := hidb (by
    rw [← hV1]
    have := Box.new (W.alloc (.cells #[.string nm, .slice (some ⟨b, o, none⟩) 1 c, .nilFunc] CT)) 27 (.int .i64 0) (.int .i64 0) (.float .f64 0) (.string ⟨#[]⟩) (.slice none 0 0)
    simpa using this)
  have HC0 : Hid (Tri V1 W.heap.size (.string nm) (.slice (some ⟨b, o, none⟩) 1 c) .nilFunc) := hidb (by rw [← hV1]; exact (Tri.new W _ _ _ _).keep (below_new _ _))
  have HBW : Hid (Below W.heap.size W V1) := hidb (by rw [← hV1]; exact (below_new W _).alloc (by simp) _)
  have HV1 := hidb hV1
  obtain ⟨PP, hPP⟩ : ∃ PP : Ending → World → Prop, Tld P E w.heap.size W = PP := ⟨_, rfl⟩
  have HPP := hidb hPP
  rw [hPP]
  clear hV1 hPP
  clear hin hC hP hE ht hW
  go_enter Tryz.func40, Tryz.ntmps40
  go_wp2_with fail
  rw [HV1.out]
  refine (HC.out V1).mono ?_
  rintro e w2 ⟨rfl, hb2⟩
  have HV2 := hidb hb2
  have HX2 := hidb (HX0.out.keep HV2.out)
  clear hb2 v0 v1 v2 v3 v4
  obtain ⟨rk, rn, rf, re⟩ := r
  by_cases h0 : re = 0
  · subst h0
    have HN := hidb (numR_in (r := ⟨rk, rn, rf, 0⟩) HPE.out.1 rfl)
    have HPP2 := hidb (HPE.out.2.1 rfl)
    go_wp2_with fail
    refine (told_ok rk rn rf ⟨#[]⟩ none 0 0 w2).mono ?_
    rintro e w6 ⟨rfl, hb6⟩
    have HV6 := hidb (HV2.out.trans (hb6.mono HV2.out.size))
    have HX6 := hidb (HX0.out.keep HV6.out)
    clear hb6
    obtain ⟨⟨x0, x1, x2, x3, x4⟩, ⟨y0, y1, y2, y3, y4⟩, xl⟩ := Box.six HX6.out
    go_wp2_with fail
    have bx9 := HX6.out.set (.int .i64 rk) (.int .i64 rn) (.float .f64 rf) (.string ⟨#[]⟩) (.slice none 0 0)
    obtain ⟨⟨k0, k1', k2, k3, k4⟩, -, -⟩ := Box.six bx9
    simp only [set5] at k0 k1' k2 k3 k4
    refine bodyPost_ret (v := (numR ⟨rk, rn, rf, 0⟩).val) (by simp [Tr.val, Tr.cells, results, Tryz.results40, go_sem, k0, k1', k2, k3, k4]) rfl ?_
    rw [← HPP.out]
    have hbW6 : Below W.heap.size W w6 := HBW.out.trans (HV6.out.mono HBW.out.size)
    obtain ⟨-, h2, h3, h4⟩ := HN.out w6 (fun q => q < w.heap.size ∨ W.heap.size ≤ q)
    refine ⟨(((((hbW6.setCell (by simp) _).setCell (by simp) _).setCell (by simp) _).setCell (by simp) _).setCell (by simp) _), .inl ⟨_, rfl, HPP2.out, (HN.out _ (fun _ => True)).1, h2, h3, h4⟩⟩
  · have HE2 := hidb (HPE.out.2.2 h0)
    have HH0 := hidb h0
    clear h0
    go_wp2_with fail
    refine (told_no rk rn rf ⟨#[]⟩ none 0 0 re HH0.out w2).mono ?_
    rintro e w6 ⟨rfl, hb6⟩
    refine ⟨rfl, ?_⟩
    rw [← HPP.out]
    exact ⟨HBW.out.trans ((HV2.out.trans (hb6.mono HV2.out.size)).mono HBW.out.size), .inr ⟨_, rfl, HE2.out⟩⟩
end Go.Proofs.YtgljglindgbjaaaGreatDoor


/- TRows of terms that are a call's own. -/
namespace Go.Proofs.YtgljglindgbjaaaGreatDoor
open Go.RowKit Go.Deep

/-- A row of terms that is the call's own; none of them lies in the row's own block. -/
def TRows (w : World) (base : Nat) (v : Value) (ds : List Tr) : Prop :=
  w.ownsRow base 27 5 v ds.length (ds.flatMap Tr.cells) ∧ ∀ t, t ∈ ds → t.In w base ∧ t.On (fun b => v.ownBlock ≠ some b ∧ b < w.heap.size ∧ base ≤ b)


theorem flat_get : ∀ (ds : List Tr) (j : Nat) (t : Tr), ds[j]? = some t → ∀ i, i < 5 → (ds.flatMap Tr.cells)[j * 5 + i]? = t.cells[i]? := by
  intro ds
  induction ds with
  | nil => intro j t h; simp at h
  | cons u r ih =>
    intro j t h i hi
    have hu : u.cells.length = 5 := by cases u; rfl
    simp only [List.flatMap_cons]
    rcases j with _ | j
    · obtain rfl : u = t := by simpa using h
      rw [List.getElem?_append_left (by omega)]
      simp
    · rw [List.getElem?_append_right (by omega), hu]
      have e : (j + 1) * 5 + i - 5 = j * 5 + i := by omega
      rw [e]
      exact ih j t (by simpa using h) i hi


theorem flat_len (ds : List Tr) : (ds.flatMap Tr.cells).length = ds.length * 5 := by
  induction ds with
  | nil => rfl
  | cons u r ih =>
    have hu : u.cells.length = 5 := by cases u; rfl
    simp only [List.flatMap_cons, List.length_append, List.length_cons, ih, hu]
    omega


/-- A term of such a row. -/
theorem rows_tree {w : World} {base : Nat} {v : Value} {ds : List Tr} (h : TRows w base v ds) (k n : Int) (f : Nat) (s : ByteArray) (hk : (Lit.int .i64 k).wf = true) (hn : (Lit.int .i64 n).wf = true) (hf : (Lit.float .f64 f).wf = true) (hs : s.size ≤ maxLen) :
    ∃ a c, v = .slice a ds.length c ∧ (Tr.mk k n f s a c ds).In w base := by
  obtain ⟨⟨hlen, ⟨rfl, h0⟩ | ⟨g, cap, cur, rfl, hbg, hobj, hnc, hcm, hcs, htk⟩⟩, hin⟩ := h
  · have e : ds = [] := List.length_eq_zero_iff.1 h0
    subst e
    refine ⟨none, 0, rfl, ?_⟩
    unfold Tr.In
    exact ⟨⟨hk, hn, hf, hs, by simp, by omega, fun _ => rfl⟩, fun ad h => by simp at h⟩
  · refine ⟨some ⟨g, 0, none⟩, cap, rfl, ?_⟩
    unfold Tr.In
    refine ⟨⟨hk, hn, hf, hs, hnc, hcm, fun h => by simp at h⟩, fun ad had => ?_⟩
    obtain rfl : (⟨g, 0, none⟩ : Addr) = ad := by simpa using had
    refine ⟨hbg, inAll_of fun j t hj => ⟨fun i hi => ?_, (hin t (List.mem_of_getElem? hj)).1⟩⟩
    have e : ((⟨g, 0, none⟩ : Addr).add (j * 5)).add i = ⟨g, j * 5 + i, none⟩ := by
      rw [add_add]
      unfold Addr.add
      split
      · rename_i h0; rw [h0]
      · simp
    rw [e, Joins.cell_of_block hobj, ← flat_get ds j t hj i hi, ← htk]
    have hjl := get_lt hj
    rw [List.getElem?_take]
    rw [if_pos (by omega)]
    simp

/-- What lies there lies in its blocks, from the base on. -/
theorem on_in {w : World} {base : Nat} : ∀ t : Tr, t.In w base → t.On (fun b => b < w.heap.size ∧ base ≤ b) := by
  refine Tr.ind fun k n f s a c kids hk h => ?_
  have hall := on_all (.mk k n f s a c kids) h
  unfold Tr.On at hall ⊢
  have h' := h
  unfold Tr.In at h'
  refine ⟨fun h0 ad had => ⟨hall.1 h0 ad had, (h'.2 ad had).1⟩, ?_⟩
  have : ∀ l : List Tr, (∀ t, t ∈ l → t ∈ kids) → Tr.OnAll (fun b => b < w.heap.size ∧ base ≤ b) l := by
    intro l
    induction l with
    | nil => intro _; unfold Tr.OnAll; trivial
    | cons t r ih =>
      intro hl
      unfold Tr.OnAll
      refine ⟨?_, ih fun u hu => hl u (List.mem_cons_of_mem _ hu)⟩
      have ht := hl t (List.mem_cons_self ..)
      obtain ⟨j, hj⟩ := List.getElem?_of_mem ht
      refine hk t ht ?_
      cases a with
      | none =>
        have h0 := h'.1.2.2.2.2.2.2 rfl
        have h1 := h'.1.2.2.2.2.1
        have := get_lt hj
        omega
      | some ad => exact (inAll_get (h'.2 ad rfl).2 j t hj).2
  exact this kids fun t h => h


theorem in_mono {w : World} {base base' : Nat} (hb : base' ≤ base) : ∀ t : Tr, t.In w base → t.In w base' := by
  refine Tr.ind fun k n f s a c kids hk h => ?_
  unfold Tr.In at h ⊢
  refine ⟨h.1, fun ad had => ⟨Nat.le_trans hb (h.2 ad had).1, inAll_of fun j t hj => ?_⟩⟩
  have g := inAll_get (h.2 ad had).2 j t hj
  refine ⟨fun i hi => ?_, hk t (List.mem_of_getElem? hj) g.2⟩
  rw [add_add]
  exact g.1 i hi


theorem rows_nil (w : World) (base : Nat) : TRows w base (.slice none 0 0) [] := ⟨⟨rfl, Or.inl ⟨rfl, rfl⟩⟩, fun t h => by simp at h⟩


theorem ownsRow_block {w w' : World} {base : Nat} {e : TypeId} {v : Value} {n : Nat} {xs : List Value} (h : w.ownsRow base e 5 v n xs) (hb : ∀ g, v.ownBlock = some g → w'.heap[g]? = w.heap[g]?) : w'.ownsRow base e 5 v n xs := by
  obtain ⟨hl, h | ⟨g, cap, cur, rfl, h1, h2, h3, h4, h5, h6⟩⟩ := h
  · exact ⟨hl, Or.inl h⟩
  · exact ⟨hl, Or.inr ⟨g, cap, cur, rfl, h1, (hb g rfl).trans h2, h3, h4, h5, h6⟩⟩


theorem ownsRow_lt {w : World} {base : Nat} {e : TypeId} {v : Value} {n : Nat} {xs : List Value} (h : w.ownsRow base e 5 v n xs) (g : Nat) (hg : v.ownBlock = some g) : base ≤ g ∧ g < w.heap.size := by
  obtain ⟨_, ⟨rfl, _⟩ | ⟨g', cap, cur, rfl, h1, h2, _⟩⟩ := h
  · simp [Value.ownBlock] at hg
  · obtain rfl : g' = g := by simpa [Value.ownBlock] using hg
    refine ⟨h1, ?_⟩
    rcases Nat.lt_or_ge g' w.heap.size with q | q
    · exact q
    · rw [Array.getElem?_eq_none q] at h2; cases h2


/-- Behind a change of blocks ahead of the base, and new ones. -/
theorem TRows.low {w w' : World} {base : Nat} {v : Value} {ds : List Tr} (h : TRows w base v ds) (hs : w.heap.size ≤ w'.heap.size) (hb : ∀ b, base ≤ b → b < w.heap.size → w'.heap[b]? = w.heap[b]?) : TRows w' base v ds := by
  refine ⟨ownsRow_block h.1 (fun g hg => by have := ownsRow_lt h.1 g hg; exact hb g this.1 this.2), fun t ht => ?_⟩
  obtain ⟨h1, h2⟩ := h.2 t ht
  exact ⟨in_on (fun b hS => hb b hS.2.2 hS.2.1) t h1 h2, on_mono (fun b hS => ⟨hS.1, by omega, hS.2.2⟩) t h2⟩


theorem TRows.keep {w w' : World} {base : Nat} {v : Value} {ds : List Tr} (h : TRows w base v ds) (hb : Below w.heap.size w w') : TRows w' base v ds := h.low hb.size (fun b _ hl => hb.block b hl)


theorem TRows.set {w : World} {base : Nat} {v : Value} {ds : List Tr} (h : TRows w base v ds) {p : Addr} (hp : p.block < base) (u : Value) : TRows (w.setCell p u) base v ds :=
  h.low (by simp [World.setCell]) (fun b hb _ => Below.heap_setCell _ _ _ _ (by omega))


/-- Behind an append of one more. -/
theorem TRows.append {w w' : World} {base : Nat} {v v' : Value} {ds : List Tr} {t : Tr} (h : TRows w base v ds) (ho : w'.ownsRow base 27 5 v' (ds.length + 1) (ds.flatMap Tr.cells ++ t.cells)) (hg : w.grownBy w' v.ownBlock) (hv : v'.ownBlock = v.ownBlock ∨ v'.ownBlock = some w.heap.size) (ht : t.In w base) (hn : t.On (fun b => v.ownBlock ≠ some b ∧ b < w.heap.size ∧ base ≤ b)) : TRows w' base v' (ds ++ [t]) := by
  have hall : ∀ u, u ∈ ds ++ [t] → u.In w base ∧ u.On (fun b => v.ownBlock ≠ some b ∧ b < w.heap.size ∧ base ≤ b) := by
    intro u hu
    rcases List.mem_append.1 hu with hu | hu
    · exact h.2 u hu
    · obtain rfl : u = t := by simpa using hu
      exact ⟨ht, hn⟩
  refine ⟨?_, fun u hu => ?_⟩
  · rw [List.length_append, List.flatMap_append]
    simpa using ho
  · obtain ⟨h1, h2⟩ := hall u hu
    refine ⟨in_on (fun b hS => hg.block b hS.2.1 (fun e => hS.1 e.symm)) u h1 h2, on_mono (fun b hS => ⟨?_, by have := hg.size; omega, hS.2.2⟩) u h2⟩
    rcases hv with e | e
    · rw [e]; exact hS.1
    · rw [e]; intro q; have := Option.some.inj q; omega

theorem infoT5 : (Tryz.prog.info? 27).map (fun i => (i.zero, i.size, i.bytes)) = some (some (.agg #[.int .i64 0, .int .i64 0, .float .f64 0, .string ⟨#[]⟩, .slice none 0 0]), 5, 64) := by kernel_rfl


theorem tr_one (t : Tr) : ∀ u ∈ t.cells, u.oneCell' = true := by
  obtain ⟨k, n, f, s, a, c, kids⟩ := t
  intro y hy
  simp only [Tr.cells, List.mem_cons, List.not_mem_nil, or_false] at hy
  rcases hy with rfl | rfl | rfl | rfl | rfl <;> rfl


theorem tr_len (t : Tr) : t.cells.length = 5 := by cases t; rfl


/-- A term that was told lies in no block of a row that was there. -/
theorem told_off {w w' : World} {base : Nat} {v : Value} {ds : List Tr} {t : Tr} (h : TRows w base v ds) (hb : base ≤ w.heap.size) (ht : t.In w' w.heap.size) : t.In w' base ∧ t.On (fun b => v.ownBlock ≠ some b ∧ b < w'.heap.size ∧ base ≤ b) := by
  refine ⟨in_mono hb t ht, on_mono (fun b hS => ⟨fun e => ?_, hS.1, by omega⟩) t (on_in t ht)⟩
  have := ownsRow_lt h.1 b e
  omega


end Go.Proofs.YtgljglindgbjaaaGreatDoor


/- The document's Copy of any term: the same term in new memory. -/
namespace Go.Proofs.YtgljglindgbjaaaGreatDoor
open Go.RowKit Go.Deep
attribute [local go_sem] store_float f64bits
attribute [local go_sem ↓] Go.wp_at_zero Go.wp_at_succ

theorem smA_snoc {t t' : Tr} (h : Sm t t') : ∀ (l l' : List Tr), SmA l l' → SmA (l ++ [t]) (l' ++ [t'])
  | [], [], _ => by simp only [List.nil_append, SmA]; exact ⟨h, trivial⟩
  | u :: r, u' :: r', hl => by
    unfold SmA at hl
    simp only [List.cons_append, SmA]
    exact ⟨hl.1, smA_snoc h r r' hl.2⟩
  | [], _ :: _, hl => by unfold SmA at hl; exact hl.elim
  | _ :: _, [], hl => by unfold SmA at hl; exact hl.elim

set_option maxHeartbeats 2000000 in
set_option maxRecDepth 100000 in
theorem rcopy_any : ∀ (t : Tr) (w : World), t.In w 0 → Small t →
    Calls Tryz.prog 55 #[t.val] w fun e w' => ∃ t', e = .returned t'.val ∧ Sm t t' ∧ t'.In w' w.heap.size ∧ Below w.heap.size w w' := by
  refine Tr.ind fun k n f s a c kids hk => ?_
  intro w hin hsm
  show Calls Tryz.prog 55 #[.agg #[.int .i64 k, .int .i64 n, .float .f64 f, .string s, .slice a kids.length c]] w _
  have HK : Hid (∀ t, t ∈ kids → ∀ (w : World), t.In w 0 → Small t → Calls Tryz.prog 55 #[t.val] w fun e w' => ∃ t', e = .returned t'.val ∧ Sm t t' ∧ t'.In w' w.heap.size ∧ Below w.heap.size w w') := hk
  have HIN := hidb hin
  have hwf := hidb (show Tr.fit (.mk k n f s a c kids) from by unfold Tr.In at hin; exact hin.1)
  unfold Small at hsm
  have hlen := hsm.1
  have HSM := hidb hsm.2
  obtain ⟨i0, hi, hz0, hz1, hz2⟩ := info_parts infoT5
  clear hk hin hsm
  go_enter Tryz.func55, Tryz.ntmps55
  go_wp2_with fail
  go_loopw [3, 4] (fun lv iv wr => ∃ (m : Nat) (ds : List Tr), m ≤ kids.length ∧ iv = .int .i64 m ∧ TRows wr (w.heap.size + 2) lv ds ∧ SmA (kids.take m) ds ∧ Below (w.heap.size + 2) ((w.alloc (.cells #[.int .i64 k, .int .i64 n, .float .f64 f, .string s, .slice a kids.length c] 27)).alloc (.cells #[.int .i64 0, .int .i64 0, .float .f64 0, .string ⟨#[]⟩, .slice none 0 0] 27)) wr) (fun _ iv _ => kids.length - (RowKit.intOf iv).toNat)
  case atStart => exact ⟨0, [], by omega, rfl, rows_nil _ _, by simp [SmA], Below.refl _ _⟩
  case round =>
  obtain ⟨m, ds, hm, rfl, hrows, hsma, hbel⟩ := hrel
  have HR := hidb hrows
  have HS := hidb hsma
  have HBB := hidb hbel
  have hb1 : Below (w.heap.size + 1) (w.alloc (.cells #[.int .i64 k, .int .i64 n, .float .f64 f, .string s, .slice a kids.length c] 27)) wr := by
    have h0 := below_new (w.alloc (.cells #[.int .i64 k, .int .i64 n, .float .f64 f, .string s, .slice a kids.length c] 27)) (.cells #[.int .i64 0, .int .i64 0, .float .f64 0, .string ⟨#[]⟩, .slice none 0 0] 27)
    rw [show (w.alloc (.cells #[.int .i64 k, .int .i64 n, .float .f64 f, .string s, .slice a kids.length c] 27)).heap.size = w.heap.size + 1 by simp] at h0
    exact h0.trans (hbel.mono (by omega))
  obtain ⟨b0, b1, b2, b3, b4⟩ := box_at hb1
  have HB : Hid (Below w.heap.size w wr) := hidb (box_below hb1)
  have bf4 := (hb1.frozen (p := ⟨w.heap.size, 4, none⟩) (Nat.lt_succ_self _)).trans (Box.new w 27 (.int .i64 k) (.int .i64 n) (.float .f64 f) (.string s) (.slice a kids.length c)).f4
  obtain ⟨ql, cl, rfl⟩ := own_sl hrows.1
  have HDL : Hid (ds.length = m) := hidb (by have := smA_len hsma; rw [List.length_take] at this; omega)
  clear hrows hsma hbel hb1
  by_cases hml : m < kids.length
  · have hmb : (m : Int) < (kids.length : Int) := by omega
    have hmz : (0 : Int) ≤ (m : Int) := by omega
    have hmw : IntKind.i64.wrap ((m : Int) + 1) = (m : Int) + 1 := by rw [IntKind.wrap_i64]; omega
    obtain ⟨b, o, rfl, hat⟩ := kid_at (in_below HB.out HIN.out) (by omega)
    obtain ⟨k', n', f', s', a', c', kids', hu, hin', c0, c1, c2, c3, c4⟩ := hat m hml
    have IH := hidb (HK.out _ (List.mem_of_getElem? hu) wr hin' (smallAll_get HSM.out (List.mem_of_getElem? hu)))
    simp only [Tr.val, Tr.cells] at IH
    have HU := hidb hu
    have hwl : w.heap.size + 2 ≤ wr.heap.size := by have := HBB.out.size; simpa using this
    clear hat hu hin'
    go_wp2_with (first
      | (go_at_call 55; refine IH.out.mono ?_; rintro e w2 ⟨⟨k2, n2, f2, s2, a2, c2', kids2⟩, rfl, hst, hti, hb2⟩; have HST := hidb hst; have HTO := hidb (told_off HR.out hwl hti); have HR2 := hidb (HR.out.keep hb2); have HB2 := hidb (HBB.out.trans (hb2.mono hwl)); have hw2 : w.heap.size + 2 ≤ w2.heap.size := Nat.le_trans hwl hb2.size; clear hst hti hb2 IH)
      | (at_builtin; refine wpList_append_own_at _ rfl _ _ 22 rfl (w.heap.size + 2) 27 i0 (.agg #[.int .i64 0, .int .i64 0, .float .f64 0, .string ⟨#[]⟩, .slice none 0 0]) 5 64 Tryz.underlying22 hi hz0 hz1 hz2 rfl (by decide) (.slice ql ds.length cl) ds.length (ds.flatMap Tr.cells) rfl ?e1 ⟨w2.heap.size, 0, none⟩ 1 1 [.int .i64 k2, .int .i64 n2, .float .f64 f2, .string s2, .slice a2 kids2.length c2'] rfl rfl ?e6 ?e2 ?e3 ?e4 ?e5 ?_))
    case e1 => exact HR2.out.1.alloc _
    case e6 => exact World.news_of_block ((MapKept.heap_alloc w2 _).1)
    case e2 => simp [Value.oneCell']
    case e3 => have := HDL.out; unfold maxLen; omega
    case e4 => have := HDL.out; omega
    case e5 => simp; omega
    intro v' w4 hown' hgrow hnil hat
    have HR4 := hidb (TRows.append (t := .mk k2 n2 f2 s2 a2 c2' kids2) (HR2.out.keep (below_new w2 _)) hown' hgrow (by simpa using hat) (in_over (fun p v _ hv => ((below_new w2 _).cell (World.block_lt_of_cell? _ _ hv)).trans hv) _ HTO.out.1) (on_mono (fun q hq => ⟨hq.1, Nat.lt_of_lt_of_le hq.2.1 (below_new w2 _).size, hq.2.2⟩) _ HTO.out.2))
    have HB4 := hidb (HB2.out.trans (((below_new w2 _).mono hw2).trans ((grown_but hgrow).below (Nat.le_trans hw2 (below_new w2 _).size) (fun q hq => (ownsRow_lt HR2.out.1 q hq).1))))
    obtain ⟨q4, c4', rfl⟩ := own_sl hown'
    clear hown' hgrow hnil hat
    go_wp2_with fail
    go_roundw
    case rel => exact ⟨m + 1, ds ++ [.mk k2 n2 f2 s2 a2 c2' kids2], by omega, by go_num, HR4.out, by rw [List.take_add_one, HU.out]; exact smA_snoc HST.out _ _ HS.out, HB4.out⟩
    case measure => simp [RowKit.intOf]; omega
  · obtain rfl : m = kids.length := by omega
    have hmn : ¬ (kids.length : Int) < (kids.length : Int) := by omega
    rw [List.take_length] at HS
    obtain ⟨x1, x2, x3, x4, -⟩ := hwf.out
    obtain ⟨a2, c2, e2, ht⟩ := rows_tree HR.out k n f s x1 x2 x3 x4
    have BZ := Box.new (w.alloc (.cells #[.int .i64 k, .int .i64 n, .float .f64 f, .string s, .slice a kids.length c] 27)) 27 (.int .i64 0) (.int .i64 0) (.float .f64 0) (.string ⟨#[]⟩) (.slice none 0 0)
    rw [show (w.alloc (.cells #[.int .i64 k, .int .i64 n, .float .f64 f, .string s, .slice a kids.length c] 27)).heap.size = w.heap.size + 1 by simp] at BZ
    have hl2 : w.heap.size + 1 < w.heap.size + 2 := by omega
    have r0 := (HBB.out.cell (p := ⟨w.heap.size + 1, 0, none⟩) hl2).trans BZ.c0
    have r1 := (HBB.out.cell (p := ⟨w.heap.size + 1, 1, none⟩) hl2).trans BZ.c1
    have r2 := (HBB.out.cell (p := ⟨w.heap.size + 1, 2, none⟩) hl2).trans BZ.c2
    have r3 := (HBB.out.cell (p := ⟨w.heap.size + 1, 3, none⟩) hl2).trans BZ.c3
    have r4 := (HBB.out.cell (p := ⟨w.heap.size + 1, 4, none⟩) hl2).trans BZ.c4
    have g0 := (HBB.out.frozen (p := ⟨w.heap.size + 1, 0, none⟩) hl2).trans BZ.f0
    have g1 := (HBB.out.frozen (p := ⟨w.heap.size + 1, 1, none⟩) hl2).trans BZ.f1
    have g2 := (HBB.out.frozen (p := ⟨w.heap.size + 1, 2, none⟩) hl2).trans BZ.f2
    have g3 := (HBB.out.frozen (p := ⟨w.heap.size + 1, 3, none⟩) hl2).trans BZ.f3
    have g4 := (HBB.out.frozen (p := ⟨w.heap.size + 1, 4, none⟩) hl2).trans BZ.f4
    have HT := hidb ht
    have HE2 := hidb e2
    clear BZ hl2 ht e2 x1 x2 x3 x4
    go_wp2_with fail
    obtain ⟨rfl, -, rfl⟩ : ql = a2 ∧ True ∧ cl = c2 := by have := HE2.out; simp at this; exact ⟨this.1, trivial, this.2⟩
    have hA : w.heap.size < w.heap.size + 2 := by omega
    have hB : w.heap.size + 1 < w.heap.size + 2 := by omega
    exact bodyPost_ret (v := .agg #[.int .i64 k, .int .i64 n, .float .f64 f, .string s, .slice ql ds.length cl]) (by simp [results, Tryz.results55, go_sem, r0, r1, r2, r3, r4]) rfl ⟨.mk k n f s ql cl ds, rfl, by unfold Sm; exact ⟨rfl, rfl, rfl, rfl, HS.out⟩, in_base (by omega) _ (in_set (in_set (in_set (in_set (in_set (in_set HT.out (p := ⟨w.heap.size, 4, none⟩) hA _) (p := ⟨w.heap.size + 1, 0, none⟩) hB _) (p := ⟨w.heap.size + 1, 1, none⟩) hB _) (p := ⟨w.heap.size + 1, 2, none⟩) hB _) (p := ⟨w.heap.size + 1, 3, none⟩) hB _) (p := ⟨w.heap.size + 1, 4, none⟩) hB _), (((((HB.out.setCell (p := ⟨w.heap.size, 4, none⟩) (Nat.le_refl _) _).setCell (p := ⟨w.heap.size + 1, 0, none⟩) (Nat.le_succ _) _).setCell (p := ⟨w.heap.size + 1, 1, none⟩) (Nat.le_succ _) _).setCell (p := ⟨w.heap.size + 1, 2, none⟩) (Nat.le_succ _) _).setCell (p := ⟨w.heap.size + 1, 3, none⟩) (Nat.le_succ _) _).setCell (p := ⟨w.heap.size + 1, 4, none⟩) (Nat.le_succ _) _⟩
end Go.Proofs.YtgljglindgbjaaaGreatDoor


