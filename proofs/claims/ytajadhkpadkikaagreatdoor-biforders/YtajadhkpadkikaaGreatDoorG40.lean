import Derived.Test.YtajadhkpadkikaaGreatDoorG39
import Derived.Test.YtajadhkpadkikaaGreatDoorG36
/- setelement. -/
namespace Go.Proofs.YtajadhkpadkikaaGreatDoor
open Go.RowKit Go.Lib Go.Deep
attribute [local go_sem] store_float f64bits store_func store_nilFunc
attribute [local go_sem ↓] Go.wp_at_zero Go.wp_at_succ

theorem tuple_any (a : Option Addr) (l c : Nat) (w : World) : Calls Tryz.prog 108 #[.slice a l c] w fun e w' => e = .returned (.agg #[.int .i64 7, .int .i64 0, .float .f64 0, .string ⟨#[]⟩, .slice a l c]) ∧ Below w.heap.size w w' := by
  go_enter Tryz.func108, Tryz.ntmps108
  go_wp2
  exact bodyPost_ret (v := .agg #[.int .i64 7, .int .i64 0, .float .f64 0, .string ⟨#[]⟩, .slice a l c]) (by simp [results, Tryz.results108, go_sem]) rfl ⟨rfl, below_new w _⟩

theorem flat_set5 : ∀ (ks : List Tr) (j : Nat) (k n : Int) (f : Nat) (s : ByteArray) (a : Option Addr) (c : Nat) (kx : List Tr), j < ks.length →
    (ks.set j (.mk k n f s a c kx)).flatMap Tr.cells = (((((ks.flatMap Tr.cells).set (j * 5) (.int .i64 k)).set (j * 5 + 1) (.int .i64 n)).set (j * 5 + 2) (.float .f64 f)).set (j * 5 + 3) (.string s)).set (j * 5 + 4) (.slice a kx.length c)
  | [], j, _, _, _, _, _, _, _, h => by simp at h
  | .mk k0 n0 f0 s0 a0 c0 ks0 :: r, 0, k, n, f, s, a, c, kx, _ => by simp [Tr.cells]
  | .mk k0 n0 f0 s0 a0 c0 ks0 :: r, j + 1, k, n, f, s, a, c, kx, h => by
    have ih := flat_set5 r j k n f s a c kx (by simpa using h)
    simp only [List.set_cons_succ, List.flatMap_cons]
    rw [ih]
    simp only [Tr.cells, List.cons_append, List.nil_append, show (j + 1) * 5 = j * 5 + 1 + 1 + 1 + 1 + 1 by omega, show j * 5 + 1 + 1 + 1 + 1 + 1 + 1 = (j * 5 + 1) + 1 + 1 + 1 + 1 + 1 by omega, show j * 5 + 1 + 1 + 1 + 1 + 1 + 2 = (j * 5 + 2) + 1 + 1 + 1 + 1 + 1 by omega, show j * 5 + 1 + 1 + 1 + 1 + 1 + 3 = (j * 5 + 3) + 1 + 1 + 1 + 1 + 1 by omega, show j * 5 + 1 + 1 + 1 + 1 + 1 + 4 = (j * 5 + 4) + 1 + 1 + 1 + 1 + 1 by omega, List.set_cons_succ]
theorem smallAll_of {kids : List Tr} (h : ∀ t, t ∈ kids → Small t) : SmallAll kids := by
  induction kids with
  | nil => unfold SmallAll; trivial
  | cons t r ih => unfold SmallAll; exact ⟨h t (by simp), ih (fun u hu => h u (by simp [hu]))⟩
theorem cnA_le {kids : List Tr} {M : Nat} (h : ∀ t, t ∈ kids → cnT t ≤ M) : cnA kids ≤ kids.length * M := by
  induction kids with
  | nil => simp [cnA]
  | cons t r ih =>
    have h1 := h t (by simp)
    have h2 := ih (fun u hu => h u (by simp [hu]))
    unfold cnA
    simp only [List.length_cons, Nat.add_mul, Nat.one_mul]
    omega
theorem ent_place : Ent 105 := by
  intro args w
  kernel_rfl
theorem args_of {w : World} {k n : Int} {f : Nat} {s : ByteArray} {a : Option Addr} {c : Nat} {ks : List Tr} (h : (Tr.mk k n f s a c ks).In w 0) : ArgsIn w a c ks := by
  unfold Tr.In at h ⊢
  exact ⟨⟨by decide, by decide, by decide, by show 0 ≤ maxLen; omega, h.1.2.2.2.2⟩, h.2⟩
theorem clone_any {W : World} {a1 : Option Addr} {c1 : Nat} {kids : List Tr} (hin : ArgsIn W a1 c1 kids) (hl : kids.length ≤ 65536) :
    Calls Tryz.prog 107 #[.slice a1 kids.length c1] W fun e w' => ∃ v', e = .returned v' ∧ w'.ownsRow W.heap.size 25 5 v' kids.length (kids.flatMap Tr.cells) ∧ Below W.heap.size W w' := by
  cases a1 with
  | some ad => exact clone_some hin hl
  | none =>
    have h0 : kids = [] := by
      have h := hin
      unfold Tr.In at h
      have h1 := h.1.2.2.2.2.2.2 rfl
      have h2 := h.1.2.2.2.2.1
      exact List.eq_nil_of_length_eq_zero (by omega)
    subst h0
    refine (clone_none _ _).mono ?_
    rintro e w' ⟨rfl, rfl⟩
    exact ⟨_, rfl, World.ownsRow_nil _ _ _ _, Below.refl _ _⟩

set_option maxHeartbeats 1600000 in
set_option maxRecDepth 100000 in
theorem setElement_tc {w : World} {a : Option Addr} {c : Nat} {k n : Int} {f : Nat} {s : ByteArray} {a' : Option Addr} {c' : Nat} {ks0 : List Tr} {k1 n1 : Int} {f1 : Nat} {s1 : ByteArray} {a1 : Option Addr} {c1 : Nat} {ks : List Tr} {x : Tr} {nm : ByteArray} {P : Tr → Prop} {E : Int → Prop} (hin : ArgsIn w a c [.mk k n f s a' c' ks0, .mk k1 n1 f1 s1 a1 c1 ks, x])
    (hsm : ∀ t ∈ x :: ks, Small t ∧ cnT t ≤ 1000000) (hlen : ks.length ≤ 200)
    (hP : k1 = 7 → plB k n ks.length = true → ∀ a' c', P (.mk 7 0 0 ⟨#[]⟩ a' c' (ks.set (n - 1).toNat x))) (hE : (k1 ≠ 7 ∨ plB k n ks.length = false) → E 13) :
    TC 68 P E (.agg #[.string nm, .slice a 3 c, noneF]) w := by
  refine ⟨fun args w => by kernel_rfl, fun W hW => ?_⟩
  have HP := hidb hP
  have HWS := hidb hW.size
  have HE := hidb hE
  have HIW := in_below hW hin
  obtain ⟨kx, nx, fx, sx, ax, cx, ksx⟩ := x
  obtain ⟨b, o, rfl, hbW, v0, v1, v2, v3, v4, hin1⟩ := argi hin hW (i := 1) rfl
  obtain ⟨b2, o2, e2, -, u0, u1, u2, u3, u4, hinx⟩ := argi hin hW (i := 2) rfl
  obtain ⟨rfl, rfl⟩ : b = b2 ∧ o = o2 := by simpa using e2
  rw [show 2 * 5 = 10 from rfl] at u0 u1 u2 u3 u4
  have HIX := hidb hinx
  have HOX := hidb (onAll_get (t := .mk kx nx fx sx ax cx ksx) (by have := on_all _ hin; unfold Tr.On at this; exact this.2) (by simp))
  obtain ⟨lx, hlx⟩ : ∃ lx, ksx.length = lx := ⟨_, rfl⟩
  rw [hlx] at u4
  have HLX := hidb hlx
  clear hinx e2 hlx
  have HON := hidb (onAll_get (t := .mk k1 n1 f1 s1 a1 c1 ks) (by have := on_all _ hin; unfold Tr.On at this; exact this.2) (by simp))
  have HI1 := hidb hin1
  have HPL := hidb (fun W1 (hb : Below W.heap.size W W1) ax cx => place_any (nm := nm) (ax := ax) (lx := ks.length) (cx := cx) (in_below hb HIW) (by omega))
  have HSM := hidb hsm
  by_cases h7 : k1 = 7
  · subst h7
    have EL := hidb (fun W1 (hb : Below W.heap.size W W1) => elementsF_ok (nm := nm) (in_below hb HIW) (i := 1) rfl)
    simp only [List.length_cons, List.length_nil] at EL HPL
    obtain ⟨KL, hKL⟩ : ∃ KL, ks.length = KL := ⟨_, rfl⟩
    have CC := hidb (fun W1 (hb : Below W.heap.size W W1) => clone_any (args_of (in_below hb HI1.out)) (by omega))
    rw [hKL] at EL HPL CC
    have HLE : Hid (KL ≤ 200) := hidb (by omega)
    have HKL := hidb hKL
    obtain ⟨XS, hXS⟩ : ∃ XS, ks.flatMap Tr.cells = XS := ⟨_, rfl⟩
    rw [hXS] at CC
    have HXS := hidb hXS
    clear hXS
    obtain ⟨V1, hV1⟩ : ∃ V1, ((W.alloc (.cells #[.string nm, .slice (some ⟨b, o, none⟩) 3 c, noneF] CT)).alloc (.cells #[.int .i64 0, .int .i64 0, .float .f64 0, .string ⟨#[]⟩, .slice none 0 0] 25)) = V1 := ⟨_, rfl⟩
    have HX0 : Hid (Box V1 (W.heap.size + 1) (.int .i64 0) (.int .i64 0) (.float .f64 0) (.string ⟨#[]⟩) (.slice none 0 0)) := hidb (by
      rw [← hV1]
      have := Box.new (W.alloc (.cells #[.string nm, .slice (some ⟨b, o, none⟩) 3 c, noneF] CT)) 25 (.int .i64 0) (.int .i64 0) (.float .f64 0) (.string ⟨#[]⟩) (.slice none 0 0)
      simpa using this)
    have HC0 : Hid (Tri V1 W.heap.size (.string nm) (.slice (some ⟨b, o, none⟩) 3 c) noneF) := hidb (by rw [← hV1]; exact (Tri.new W _ _ _ _).keep (below_new _ _))
    have HBW : Hid (Below W.heap.size W V1) := hidb (by rw [← hV1]; exact (below_new W _).alloc (by simp) _)
    have HV1 := hidb hV1
    obtain ⟨PP, hPP⟩ : ∃ PP : Ending → World → Prop, Tld P E w.heap.size W = PP := ⟨_, rfl⟩
    have HPP := hidb hPP
    rw [hPP]
    clear hV1 hPP
    have HSA : Hid (∀ W9, Below W.heap.size W W9 → Tri W9 W.heap.size (.string nm) (.slice (some ⟨b, o, none⟩) 3 c) noneF → (fun W9 => W9.cell? ⟨W.heap.size, 0, none⟩ = some (.string nm) ∧ W9.cell? ⟨W.heap.size, 1, none⟩ = some (.slice (some ⟨b, o, none⟩) 3 c) ∧ W9.cell? ⟨W.heap.size, 2, none⟩ = some noneF ∧ W9.cell? ⟨b, o + 10, none⟩ = some (.int .i64 kx) ∧ W9.cell? ⟨b, o + 10 + 1, none⟩ = some (.int .i64 nx) ∧ W9.cell? ⟨b, o + 10 + 2, none⟩ = some (.float .f64 fx) ∧ W9.cell? ⟨b, o + 10 + 3, none⟩ = some (.string sx) ∧ W9.cell? ⟨b, o + 10 + 4, none⟩ = some (.slice ax lx cx)) W9) := hidb (fun W9 hb hc => ⟨hc.c0, hc.c1, hc.c2, (hb.cell hbW).trans u0, (hb.cell hbW).trans u1, (hb.cell hbW).trans u2, (hb.cell hbW).trans u3, (hb.cell hbW).trans u4⟩)
    clear hP hE hW hin hin1 hsm hlen hKL v0 v1 v2 v3 v4 u0 u1 u2 u3 u4
    go_enter Tryz.func68, Tryz.ntmps68
    go_wp2_with fail
    rw [HV1.out]
    refine (EL.out _ HBW.out).mono ?_
    rintro e w2 ⟨rfl, hb2⟩
    have HB2 := hidb (HBW.out.trans (hb2.mono HBW.out.size))
    have HX2 := hidb (HX0.out.keep hb2)
    have HC2 := hidb (HC0.out.keep hb2)
    have t0 := HC2.out.c0; have t1 := HC2.out.c1; have t2 := HC2.out.c2
    clear hb2
    go_wp2_with fail
    refine (CC.out _ HB2.out).mono ?_
    rintro e w3 ⟨v3, rfl, hown3, hb3⟩
    obtain ⟨q3, c3, rfl⟩ := own_sl hown3
    have HO3 := hidb hown3
    have HZ3 := hidb HB2.out.size
    have HB3 := hidb (HB2.out.trans (hb3.mono HB2.out.size))
    have HX3 := hidb (HX2.out.keep hb3)
    have HC3 := hidb (HC2.out.keep hb3)
    have t0 := HC3.out.c0; have t1 := HC3.out.c1; have t2 := HC3.out.c2
    clear hb3 hown3
    have HS0 := hidb (HSA.out w3.drew HB3.out.drew (HC3.out.keep (Below.refl _ _).drew))
    go_wp2_with fail
    clear t0 t1 t2
    refine wp_region_D (fun W9 => W9.cell? ⟨W.heap.size, 0, none⟩ = some (.string nm) ∧ W9.cell? ⟨W.heap.size, 1, none⟩ = some (.slice (some ⟨b, o, none⟩) 3 c) ∧ W9.cell? ⟨W.heap.size, 2, none⟩ = some noneF ∧ W9.cell? ⟨b, o + 10, none⟩ = some (.int .i64 kx) ∧ W9.cell? ⟨b, o + 10 + 1, none⟩ = some (.int .i64 nx) ∧ W9.cell? ⟨b, o + 10 + 2, none⟩ = some (.float .f64 fx) ∧ W9.cell? ⟨b, o + 10 + 3, none⟩ = some (.string sx) ∧ W9.cell? ⟨b, o + 10 + 4, none⟩ = some (.slice ax lx cx)) [9] (by kernel_rfl) ?_
    refine wpAnyD_takeL (i := 0) (v := ?vv0z) rfl (by kernel_rfl) (by kernel_rfl) (by kernel_rfl) (by kernel_rfl) (fun _ _ _ h => h) HS0.out rfl ?hy0z ?_
    case hy0z => intro wy hSw; obtain ⟨z0, z1, z2, z3, z4, z5, z6, z7⟩ := hSw; go_simp; try with_reducible rfl
    simp only [Act.put, List.setIfInBounds_toArray, List.set_cons_zero, List.set_cons_succ]
    refine wpAnyD_takeL (i := 1) (v := ?vv1z) rfl (by kernel_rfl) (by kernel_rfl) (by kernel_rfl) (by kernel_rfl) (fun _ _ _ h => h) HS0.out rfl ?hy1z ?_
    case hy1z => intro wy hSw; obtain ⟨z0, z1, z2, z3, z4, z5, z6, z7⟩ := hSw; go_simp; try with_reducible rfl
    simp only [Act.put, List.setIfInBounds_toArray, List.set_cons_zero, List.set_cons_succ]
    refine wpAnyD_takeL (i := 2) (v := ?vv2z) rfl (by kernel_rfl) (by kernel_rfl) (by kernel_rfl) (by kernel_rfl) (fun _ _ _ h => h) HS0.out rfl ?hy2z ?_
    case hy2z => intro wy hSw; obtain ⟨z0, z1, z2, z3, z4, z5, z6, z7⟩ := hSw; go_simp; try with_reducible rfl
    simp only [Act.put, List.setIfInBounds_toArray, List.set_cons_zero, List.set_cons_succ]
    refine wpAnyD_takeL (i := 4) (v := ?vv4z) rfl (by kernel_rfl) (by kernel_rfl) (by kernel_rfl) (by kernel_rfl) (fun _ _ _ h => h) HS0.out rfl ?hy4z ?_
    case hy4z => intro wy hSw; obtain ⟨z0, z1, z2, z3, z4, z5, z6, z7⟩ := hSw; go_simp; try with_reducible rfl
    simp only [Act.put, List.setIfInBounds_toArray, List.set_cons_zero, List.set_cons_succ]
    refine wpAnyD_takeL (i := 5) (v := ?vv5z) rfl (by kernel_rfl) (by kernel_rfl) (by kernel_rfl) (by kernel_rfl) (fun _ _ _ h => h) HS0.out rfl ?hy5z ?_
    case hy5z => intro wy hSw; obtain ⟨z0, z1, z2, z3, z4, z5, z6, z7⟩ := hSw; go_simp; try with_reducible rfl
    simp only [Act.put, List.setIfInBounds_toArray, List.set_cons_zero, List.set_cons_succ]
    refine wpAnyD_takeL (i := 6) (v := ?vv6z) rfl (by kernel_rfl) (by kernel_rfl) (by kernel_rfl) (by kernel_rfl) (fun _ _ _ h => h) HS0.out rfl ?hy6z ?_
    case hy6z => intro wy hSw; obtain ⟨z0, z1, z2, z3, z4, z5, z6, z7⟩ := hSw; go_simp; try with_reducible rfl
    simp only [Act.put, List.setIfInBounds_toArray, List.set_cons_zero, List.set_cons_succ]
    refine wpAnyD_takeL (i := 7) (v := ?vv7z) rfl (by kernel_rfl) (by kernel_rfl) (by kernel_rfl) (by kernel_rfl) (fun _ _ _ h => h) HS0.out rfl ?hy7z ?_
    case hy7z => intro wy hSw; obtain ⟨z0, z1, z2, z3, z4, z5, z6, z7⟩ := hSw; go_simp; try with_reducible rfl
    simp only [Act.put, List.setIfInBounds_toArray, List.set_cons_zero, List.set_cons_succ]
    refine wpAnyD_stepL (i := 3) (by kernel_rfl) rfl (fun K hK => ?_)
    refine step_callB (by simp [Region.wanted]) (run_call ent_place #[.tmp 8, .tmp 9] _ rfl #[.agg #[.string nm, .slice (some ⟨b, o, none⟩) 3 c, noneF], .slice q3 KL c3] rfl) (HPL.out w3.drew HB3.out.drew q3 c3) ?_
    rintro e w4 ⟨hb4, ⟨hpl, rfl⟩ | ⟨hpl, rfl⟩⟩
    · have hb4' := undrew hb4
      have HB4 := hidb (HB3.out.trans (hb4'.mono HB3.out.size))
      have HO4 := hidb (row_but HO3.out (But.of_below (S := fun _ => False) hb4') (fun _ _ h => h))
      have HX4 := hidb (HX3.out.keep hb4')
      have HC4 := hidb (HC3.out.keep hb4')
      refine hK _ _ (fun _ => HSA.out w4 HB4.out (HC3.out.keep hb4')) ?_
      clear hK K hb4 hb4'
      simp only [Act.put, List.setIfInBounds_toArray, List.set_cons_zero, List.set_cons_succ]
      have hpl' : k = 1 ∧ 1 ≤ n ∧ n ≤ (KL : Int) := by simpa [plB] using hpl
      obtain ⟨j, hj⟩ : ∃ j : Nat, n - 1 = (j : Int) := ⟨(n - 1).toNat, by omega⟩
      have hjl : j < KL := by omega
      obtain ⟨g, rfl⟩ : ∃ g, q3 = some ⟨g, 0, none⟩ := by
        rcases HO4.out.2 with ⟨h, h0⟩ | ⟨g, cap, cur, h, -⟩
        · omega
        · exact ⟨g, by simpa using (by injection h : q3 = _)⟩
      have HJ := hidb (And.intro hj (And.intro hjl hpl))
      have e1 : (j : Int) < (KL : Int) := by omega
      have e2 : (0 : Int) ≤ (j : Int) := by omega
      rw [hj]
      clear hpl hpl' hj
      refine wpAnyD_stepL (i := 8) (by kernel_rfl) rfl (fun K hK => ?_)
      go_simp
      refine hK _ _ (fun _ => HSA.out w4 HB4.out HC4.out) ?_
      clear hK K
      have hxl : XS.length = KL * 5 := by rw [← HXS.out, ← HKL.out]; exact flat_len _
      obtain ⟨o0, h0⟩ : ∃ u, w4.cell? ⟨g, j * 5, none⟩ = some u := by rw [HO4.out.cellAt _ (by omega)]; exact ⟨_, List.getElem?_eq_getElem (by omega)⟩
      obtain ⟨o1, h1⟩ : ∃ u, w4.cell? ⟨g, j * 5 + 1, none⟩ = some u := by rw [HO4.out.cellAt _ (by omega)]; exact ⟨_, List.getElem?_eq_getElem (by omega)⟩
      obtain ⟨o2, h2⟩ : ∃ u, w4.cell? ⟨g, j * 5 + 2, none⟩ = some u := by rw [HO4.out.cellAt _ (by omega)]; exact ⟨_, List.getElem?_eq_getElem (by omega)⟩
      obtain ⟨o3, h3⟩ : ∃ u, w4.cell? ⟨g, j * 5 + 3, none⟩ = some u := by rw [HO4.out.cellAt _ (by omega)]; exact ⟨_, List.getElem?_eq_getElem (by omega)⟩
      obtain ⟨o4, h4⟩ : ∃ u, w4.cell? ⟨g, j * 5 + 4, none⟩ = some u := by rw [HO4.out.cellAt _ (by omega)]; exact ⟨_, List.getElem?_eq_getElem (by omega)⟩
      have y0 := HO4.out.frozenAt (j * 5)
      have y1 := HO4.out.frozenAt (j * 5 + 1)
      have y2 := HO4.out.frozenAt (j * 5 + 2)
      have y3 := HO4.out.frozenAt (j * 5 + 3)
      have y4 := HO4.out.frozenAt (j * 5 + 4)
      clear hxl
      refine wpAnyD_stepL (i := 9) (by kernel_rfl) rfl (fun K hK => ?_)
      go_simp
      refine hK _ _ (fun h => absurd (List.mem_singleton.2 rfl) h) ?_
      clear hK K
      refine wpAnyD_done (by kernel_rfl) ?_ _
      clear y0 y1 y2 y3 y4 h0 h1 h2 h3 h4 e1 e2
      have HO5 := hidb ((((((HO4.out.stored (j * 5) (.int .i64 kx)).1.stored (j * 5 + 1) (.int .i64 nx)).1.stored (j * 5 + 2) (.float .f64 fx)).1.stored (j * 5 + 3) (.string sx)).1.stored (j * 5 + 4) (.slice ax lx cx)).1)
      have hg := ownsRow_lt HO4.out g rfl
      have HG := hidb (show W.heap.size + 2 ≤ g from by have := HX2.out.lt; have := hg.1; omega)
      have hsc : ∀ {w' : World} (hb : Below W.heap.size W w') (i : Nat) (u : Value), Below W.heap.size W (w'.setCell ⟨g, i, none⟩ u) := fun hb i u => hb.setCell (show W.heap.size ≤ g by have := HG.out; omega) u
      have HB5 := hidb (hsc (hsc (hsc (hsc (hsc HB4.out (j * 5) (.int .i64 kx)) (j * 5 + 1) (.int .i64 nx)) (j * 5 + 2) (.float .f64 fx)) (j * 5 + 3) (.string sx)) (j * 5 + 4) (.slice ax lx cx))
      have HX5 : Hid (Box (((((w4.setCell ⟨g, j * 5, none⟩ (.int .i64 kx)).setCell ⟨g, j * 5 + 1, none⟩ (.int .i64 nx)).setCell ⟨g, j * 5 + 2, none⟩ (.float .f64 fx)).setCell ⟨g, j * 5 + 3, none⟩ (.string sx)).setCell ⟨g, j * 5 + 4, none⟩ (.slice ax lx cx)) (W.heap.size + 1) (.int .i64 0) (.int .i64 0) (.float .f64 0) (.string ⟨#[]⟩) (.slice none 0 0)) := hidb (by
        have hl := HX4.out.lt
        have hG := HG.out
        have hsb : ∀ {w' : World} (hx : Box w' (W.heap.size + 1) (.int .i64 0) (.int .i64 0) (.float .f64 0) (.string ⟨#[]⟩) (.slice none 0 0)) (i : Nat) (u : Value), Box (w'.setCell ⟨g, i, none⟩ u) (W.heap.size + 1) (.int .i64 0) (.int .i64 0) (.float .f64 0) (.string ⟨#[]⟩) (.slice none 0 0) := fun hx i u => hx.other1 (c := g) (by omega) u
        exact hsb (hsb (hsb (hsb (hsb HX4.out _ _) _ _) _ _) _ _) _ _)
      rw [show (((((XS.set (j * 5) (.int .i64 kx)).set (j * 5 + 1) (.int .i64 nx)).set (j * 5 + 2) (.float .f64 fx)).set (j * 5 + 3) (.string sx)).set (j * 5 + 4) (.slice ax lx cx)) = (ks.set j (.mk kx nx fx sx ax cx ksx)).flatMap Tr.cells from by rw [flat_set5 _ _ _ _ _ _ _ _ _ (by have := HJ.out.2.1; have := HKL.out; omega), HXS.out, HLX.out]] at HO5
      generalize (((((w4.setCell ⟨g, j * 5, none⟩ (.int .i64 kx)).setCell ⟨g, j * 5 + 1, none⟩ (.int .i64 nx)).setCell ⟨g, j * 5 + 2, none⟩ (.float .f64 fx)).setCell ⟨g, j * 5 + 3, none⟩ (.string sx)).setCell ⟨g, j * 5 + 4, none⟩ (.slice ax lx cx)) = w5 at HO5 HB5 HX5 ⊢
      clear hsc hg
      go_wp2_with fail
      refine (tuple_any _ _ _ _).mono ?_
      rintro e w6 ⟨rfl, hb6⟩
      have HB6 := hidb (HB5.out.trans (hb6.mono HB5.out.size))
      have HX6 := hidb (HX5.out.keep hb6)
      have HO6 := hidb (row_but HO5.out (But.of_below (S := fun _ => False) hb6) (fun _ _ h => h))
      obtain ⟨⟨x0, x1, x2, x3, x4⟩, ⟨y0, y1, y2, y3, y4⟩, xl⟩ := Box.six HX6.out
      clear hb6
      go_wp2_with fail
      have bx9 := HX6.out.set (.int .i64 7) (.int .i64 0) (.float .f64 0) (.string ⟨#[]⟩) (.slice (some ⟨g, 0, none⟩) KL c3)
      obtain ⟨⟨k0, k1', k2, k3, k4⟩, -, -⟩ := Box.six bx9
      simp only [set5] at k0 k1' k2 k3 k4
      obtain ⟨X, hX⟩ : ∃ X, ks.set j (.mk kx nx fx sx ax cx ksx) = X := ⟨_, rfl⟩
      have hXl : X.length = KL := by rw [← hX, List.length_set]; exact HKL.out
      rw [hX] at HO6
      have hmem : ∀ t, t ∈ X → t ∈ ks ∨ t = .mk kx nx fx sx ax cx ksx := fun t ht => by rw [← hX] at ht; exact List.mem_or_eq_of_mem_set ht
      refine bodyPost_ret (v := (Tr.mk 7 0 0 ⟨#[]⟩ (some ⟨g, 0, none⟩) c3 X).val) (by simp [Tr.val, Tr.cells, hXl, results, Tryz.results68, go_sem, k0, k1', k2, k3, k4]) rfl ?_
      rw [← HPP.out]
      have hwl : w.heap.size ≤ W.heap.size := HWS.out
      have hG := HG.out
      have hkon : ∀ t, t ∈ X → t.On (fun q => q < w.heap.size) := by
        intro t ht
        rcases hmem t ht with h | rfl
        · exact on_kid HON.out h
        · exact HOX.out
      have hkin : ∀ t, t ∈ X → t.In w6 0 := by
        intro t ht
        rcases hmem t ht with h | rfl
        · have h1 := in_below HB6.out HI1.out
          unfold Tr.In at h1
          obtain ⟨i, hi⟩ := List.getElem?_of_mem h
          cases a1 with
          | none =>
            have h0 := h1.1.2.2.2.2.2.2 rfl
            have h2 := h1.1.2.2.2.2.1
            have := (List.getElem?_eq_some_iff.1 hi).1
            omega
          | some ad => exact (inAll_get (h1.2 ad rfl).2 i t hi).2
        · exact in_below HB6.out HIX.out
      have hin6 : (Tr.mk 7 0 0 ⟨#[]⟩ (some ⟨g, 0, none⟩) c3 X).In w6 0 := by
        have ho : w6.ownsRow 0 25 5 (.slice (some ⟨g, 0, none⟩) KL c3) X.length (X.flatMap Tr.cells) := by rw [hXl]; exact row_low HO6.out
        have hkk : ∀ t, t ∈ X → t.In w6 0 ∧ t.On (fun b => (Value.slice (some ⟨g, 0, none⟩) KL c3).ownBlock ≠ some b ∧ b < w6.heap.size ∧ 0 ≤ b) := by
          intro t ht
          refine ⟨hkin t ht, on_mono (fun q hq => ?_) _ (hkon t ht)⟩
          refine ⟨fun e => ?_, by have := HB6.out.size; omega, Nat.zero_le _⟩
          simp only [Value.ownBlock, Option.some.injEq] at e
          omega
        obtain ⟨a9, c9, he, hin9⟩ := rows_tree (w := w6) (base := 0) (v := .slice (some ⟨g, 0, none⟩) KL c3) (ds := X) ⟨ho, hkk⟩ 7 0 0 ⟨#[]⟩ (by decide) (by decide) (by decide) (by show 0 ≤ maxLen; omega)
        obtain ⟨rfl, -, rfl⟩ : some ⟨g, 0, none⟩ = a9 ∧ KL = X.length ∧ c3 = c9 := by simpa using he
        exact hin9
      have hon6 : (Tr.mk 7 0 0 ⟨#[]⟩ (some ⟨g, 0, none⟩) c3 X).On (fun q => q < w.heap.size ∨ W.heap.size + 2 ≤ q) := by
        unfold Tr.On
        refine ⟨fun h0 ad had => .inr ?_, ?_⟩
        · obtain rfl : (⟨g, 0, none⟩ : Addr) = ad := by simpa using had
          exact hG
        · have : ∀ l : List Tr, (∀ t ∈ l, t ∈ X) → Tr.OnAll (fun q => q < w.heap.size ∨ W.heap.size + 2 ≤ q) l := by
            intro l
            induction l with
            | nil => intro _; unfold Tr.OnAll; trivial
            | cons t r ih =>
              intro hl
              unfold Tr.OnAll
              exact ⟨on_mono (fun q hq => .inl hq) _ (hkon t (hl t (by simp))), ih (fun u hu => hl u (by simp [hu]))⟩
          exact this X (fun t h => h)
      have hks : ∀ t, t ∈ X → Small t ∧ cnT t ≤ 1000000 := fun t ht => HSM.out t (by rcases hmem t ht with h | rfl <;> simp [*])
      refine ⟨(((((HB6.out.setCell (by simp) _).setCell (by simp) _).setCell (by simp) _).setCell (by simp) _).setCell (by simp) _), .inl ⟨_, rfl, ?_, ?_, on_mono (fun q hq => by omega) _ hon6, ?_, ?_⟩⟩
      · have := HP.out (by first | rfl | trivial) (by rw [HKL.out]; exact HJ.out.2.2) (some ⟨g, 0, none⟩) c3
        rw [show (n - 1).toNat = j by have := HJ.out.1; omega, hX] at this
        exact this
      · exact in_on5 (B := w.heap.size) (c := W.heap.size + 2) hin6 hon6 (by omega) (by omega) _ _ _ _ _
      · unfold Small; exact ⟨by have := HLE.out; omega, smallAll_of fun t ht => (hks t ht).1⟩
      · unfold cnT
        have h1 := cnA_le (fun t ht => (hks t ht).2)
        have h2 : X.length * 1000000 ≤ 200 * 1000000 := Nat.mul_le_mul_right _ (by have := HLE.out; omega)
        omega
    · refine ⟨rfl, ?_⟩
      rw [← HPP.out]
      exact ⟨HB3.out.trans ((undrew hb4).mono HB3.out.size), .inr ⟨_, rfl, HE.out (.inr (by rw [HKL.out]; exact hpl))⟩⟩
  · have EL := hidb (fun W1 (hb : Below W.heap.size W W1) => elementsF_no (nm := nm) (kd := 7) (in_below hb HIW) (i := 1) rfl h7)
    simp only [List.length_cons, List.length_nil] at EL
    have HE2 := hidb (HE.out (.inl h7))
    obtain ⟨V1, hV1⟩ : ∃ V1, ((W.alloc (.cells #[.string nm, .slice (some ⟨b, o, none⟩) 3 c, noneF] CT)).alloc (.cells #[.int .i64 0, .int .i64 0, .float .f64 0, .string ⟨#[]⟩, .slice none 0 0] 25)) = V1 := ⟨_, rfl⟩
    have HC0 : Hid (Tri V1 W.heap.size (.string nm) (.slice (some ⟨b, o, none⟩) 3 c) noneF) := hidb (by rw [← hV1]; exact (Tri.new W _ _ _ _).keep (below_new _ _))
    have HBW : Hid (Below W.heap.size W V1) := hidb (by rw [← hV1]; exact (below_new W _).alloc (by simp) _)
    have HV1 := hidb hV1
    obtain ⟨PP, hPP⟩ : ∃ PP : Ending → World → Prop, Tld P E w.heap.size W = PP := ⟨_, rfl⟩
    have HPP := hidb hPP
    rw [hPP]
    clear hV1 hPP
    clear hP hE hW hin hin1 hsm hlen v0 v1 v2 v3 v4 u0 u1 u2 u3 u4 h7 HP HE HPL
    go_enter Tryz.func68, Tryz.ntmps68
    go_wp2_with fail
    rw [HV1.out]
    refine (EL.out _ HBW.out).mono ?_
    rintro e w2 ⟨rfl, hb2⟩
    refine ⟨rfl, ?_⟩
    rw [← HPP.out]
    exact ⟨HBW.out.trans (hb2.mono HBW.out.size), .inr ⟨_, rfl, HE2.out⟩⟩
end Go.Proofs.YtajadhkpadkikaaGreatDoor


/- What the law's call tells of a builtin. -/
namespace Go.Proofs.YtajadhkpadkikaaGreatDoor
open Go.RowKit Go.Lib Go.Deep
attribute [local go_sem] store_float f64bits store_func store_nilFunc
attribute [local go_sem ↓] Go.wp_at_zero Go.wp_at_succ

/-- What the law's call tells: a term of which P holds, and true; or false, where the builtin raised something, or told what is not right. -/
def LawA (P : Tr → Prop) (E : Int → Prop) (w : World) (e : Ending) (w' : World) : Prop :=
  Below w.heap.size w w' ∧ ((∃ t t' : Tr, P t ∧ errT t = 0 ∧ Sm t t' ∧ t'.In w' 0 ∧ t'.On (fun k => w.heap.size ≤ k) ∧ e = .returned (.tuple #[t'.val, .bool true])) ∨ (((∃ er, E er) ∨ ∃ t, P t ∧ errT t ≠ 0) ∧ e = .returned (.tuple #[zterm, .bool false])))
set_option maxHeartbeats 1600000 in
set_option maxRecDepth 100000 in
theorem lawcallA {W : World} {a : Option Addr} {c n : Nat} {nm : ByteArray} {P : Tr → Prop} {E : Int → Prop} (hE : ∀ er, E er → er ≠ 0) (hC : ∀ W1, Below W.heap.size W W1 → Calls Tryz.prog 16 #[.string nm, .slice a n c, noneF] W1 (Ans P E W1)) :
    Calls Tryz.prog 9 #[.string nm, .slice a n c] W (LawA P E W) := by
  have HX0 := hidb (Box.new W 25 (.int .i64 0) (.int .i64 0) (.float .f64 0) (.string ⟨#[]⟩) (.slice none 0 0))
  have HC := hidb hC
  have HE := hidb hE
  obtain ⟨PP, hPP⟩ : ∃ PP : Ending → World → Prop, LawA P E W = PP := ⟨_, rfl⟩
  have HPP := hidb hPP
  rw [hPP]
  clear hC hPP hE
  go_enter Tryz.func9, Tryz.ntmps9
  go_wp2_with fail
  refine (HC.out _ (below_new _ _)).mono ?_
  rintro e w2 ⟨hb2, ⟨t, ⟨k', n', f', s', a', c', ks'⟩, hP, he, hs, hin, rfl⟩ | ⟨er, hEr, rfl⟩⟩
  · have HX2 := hidb (HX0.out.keep hb2)
    have HB2 := hidb ((below_new W _).trans (hb2.mono (by simp)))
    obtain ⟨⟨x0, x1, x2, x3, x4⟩, ⟨y0, y1, y2, y3, y4⟩, xl⟩ := Box.six HX2.out
    have HT := hidb (And.intro hP (And.intro he (And.intro hs hin)))
    obtain ⟨L9, hL9⟩ : ∃ L9, ks'.length = L9 := ⟨_, rfl⟩
    have HL9 := hidb hL9
    simp only [Tr.val, Tr.cells]
    rw [hL9]
    clear hb2 hP he hs hin hL9
    go_wp2_with fail
    have bx9 := (HX2.out.set (.int .i64 k') (.int .i64 n') (.float .f64 f') (.string s') (.slice a' L9 c')).keep (below_new _ (.cells #[.int .i64 k', .int .i64 n', .float .f64 f', .string s', .slice a' L9 c'] 25))
    obtain ⟨⟨k0, k1', k2, k3, k4⟩, -, -⟩ := Box.six bx9
    simp only [set5] at k0 k1' k2 k3 k4
    refine bodyPost_ret (v := .tuple #[(Tr.mk k' n' f' s' a' c' ks').val, .bool true]) (by simp [Tr.val, Tr.cells, HL9.out, results, Tryz.results9, go_sem, k0, k1', k2, k3, k4]) rfl ?_
    rw [← HPP.out]
    have hl2 : W.heap.size + 1 ≤ w2.heap.size := by have := HX2.out.lt; omega
    have hon : (Tr.mk k' n' f' s' a' c' ks').On (fun q => q < 0 ∨ W.heap.size + 1 ≤ q) := on_mono (fun q hq => .inr (by have := hq.2; simpa using this)) _ (on_in _ HT.out.2.2.2)
    refine ⟨(((((HB2.out.setCell (by simp) _).setCell (by simp) _).setCell (by simp) _).setCell (by simp) _).setCell (by simp) _).alloc (by have := HB2.out.size; simpa using this) _, .inl ⟨t, _, HT.out.1, HT.out.2.1, HT.out.2.2.1, ?_, on_mono (fun q hq => by omega) _ hon, rfl⟩⟩
    exact in_below (below_new _ _) (in_on5 (B := 0) (c := W.heap.size + 1) (in_mono (Nat.zero_le _) _ HT.out.2.2.2) hon (Nat.zero_le _) (by omega) _ _ _ _ _)
  · have HX2 := hidb (HX0.out.keep hb2)
    have HB2 := hidb ((below_new W _).trans (hb2.mono (by simp)))
    obtain ⟨⟨x0, x1, x2, x3, x4⟩, ⟨y0, y1, y2, y3, y4⟩, xl⟩ := Box.six HX2.out
    have hne : er ≠ 0 := by
      rcases hEr with h | ⟨t, h1, h2, rfl⟩
      · exact HE.out er h
      · unfold mb; split <;> omega
    have HR : Hid ((∃ er, E er) ∨ ∃ t, P t ∧ errT t ≠ 0) := hidb (by
      rcases hEr with h | ⟨t, h1, h2, rfl⟩
      · exact .inl ⟨_, h⟩
      · exact .inr ⟨t, h1, h2⟩)
    have hne' : (er == 0) = false := by simpa using hne
    clear hb2 hEr hne
    go_wp2_with fail
    have bx9 := (HX2.out.set (.int .i64 0) (.int .i64 0) (.float .f64 0) (.string ⟨#[]⟩) (.slice none 0 0)).keep (below_new _ (.cells #[.int .i64 0, .int .i64 0, .float .f64 0, .string ⟨#[]⟩, .slice none 0 0] 25))
    obtain ⟨⟨k0, k1', k2, k3, k4⟩, -, -⟩ := Box.six bx9
    simp only [set5] at k0 k1' k2 k3 k4
    refine bodyPost_ret (v := .tuple #[zterm, .bool false]) (by simp [results, Tryz.results9, go_sem, k0, k1', k2, k3, k4]) rfl ?_
    rw [← HPP.out]
    exact ⟨(((((HB2.out.setCell (by simp) _).setCell (by simp) _).setCell (by simp) _).setCell (by simp) _).setCell (by simp) _).alloc (by have := HB2.out.size; simpa using this) _, .inr ⟨HR.out, rfl⟩⟩

/-- More room, and more depth, measures the same. -/
theorem measAll_more (kids : List Tr) (hk : ∀ t, t ∈ kids → ∀ d d' m m', d ≤ d' → m ≤ m' → 0 ≤ meas t d m → meas t d' m' = meas t d m) : ∀ d d' m m' n : Int, d ≤ d' → m ≤ m' → 0 ≤ measAll kids d m n → measAll kids d' m' n = measAll kids d m n := by
  induction kids with
  | nil => intro d d' m m' n _ _ _; simp [measAll]
  | cons t r ih =>
    intro d d' m m' n hd hm h
    unfold measAll at h ⊢
    split at h
    · omega
    · rename_i h1
      have e := hk t (by simp) d d' (m - n) (m' - n) hd (by omega) (by omega)
      rw [e, if_neg h1, if_neg h1]
      exact ih (fun u hu => hk u (by simp [hu])) d d' m m' _ hd hm h
theorem meas_more : ∀ t : Tr, ∀ d d' m m', d ≤ d' → m ≤ m' → 0 ≤ meas t d m → meas t d' m' = meas t d m := by
  refine Tr.ind fun k n f s a c kids hk d d' m m' hd hm h => ?_
  unfold meas at h ⊢
  split at h
  · omega
  · rename_i h1
    rw [if_neg h1, if_neg (by omega)]
    exact measAll_more kids (fun t ht => hk t ht) _ _ _ _ _ (by omega) hm h
theorem measAll_kid : ∀ (kids : List Tr) (d m n : Int), 0 ≤ n → 0 ≤ measAll kids d m n → ∀ t, t ∈ kids → 0 ≤ meas t d m
  | [], _, _, _, _, _, t, ht => by simp at ht
  | u :: r, d, m, n, hn, h, t, ht => by
    unfold measAll at h
    split at h
    · omega
    · rename_i h1
      rcases List.mem_cons.1 ht with rfl | ht
      · have := meas_more t d d (m - n) m (Int.le_refl _) (by omega) (by omega)
        omega
      · exact measAll_kid r d m _ (by omega) h t ht
theorem allAll_kid {g : Tr → Bool} : ∀ {kids : List Tr}, allAll g kids = true → ∀ t, t ∈ kids → allT g t = true
  | [], _, t, ht => by simp at ht
  | u :: r, h, t, ht => by
    unfold allAll at h
    simp only [Bool.and_eq_true] at h
    rcases List.mem_cons.1 ht with rfl | ht
    · exact h.1
    · exact allAll_kid h.2 t ht
theorem err_kid {k n : Int} {f : Nat} {s : ByteArray} {a : Option Addr} {c : Nat} {kids : List Tr} (h : errT (.mk k n f s a c kids) = 0) {t : Tr} (ht : t ∈ kids) : errT t = 0 := by
  unfold errT at h ⊢
  split at h
  · cases h
  · rename_i h1
    split at h
    · rename_i h2
      have hm : 0 ≤ meas t 199 65536 := by
        unfold meas at h1
        split at h1
        · exact absurd (by decide) h1
        · exact measAll_kid kids (200 - 1) 65536 (own k kids.length) (by have : 0 ≤ own k kids.length := own_nonneg _ _; exact this) (by omega) t ht
      have hm' := meas_more t 199 200 65536 65536 (by decide) (by decide) hm
      unfold allT at h2
      simp only [Bool.and_eq_true] at h2
      rw [if_neg (by omega), if_pos (allAll_kid h2.2 t ht)]
    · cases h
end Go.Proofs.YtajadhkpadkikaaGreatDoor


