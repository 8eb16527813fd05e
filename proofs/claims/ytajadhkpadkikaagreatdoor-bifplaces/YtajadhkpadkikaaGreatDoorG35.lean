import Derived.Test.YtajadhkpadkikaaGreatDoorG33
import Derived.Test.YtajadhkpadkikaaGreatDoorG34
import Derived.Test.YtajadhkpadkikaaGreatDoorG31
/- ++ of a list and of none. -/
namespace Go.Proofs.YtajadhkpadkikaaGreatDoor
open Go.RowKit Go.Lib Go.Deep
attribute [local go_sem] store_float f64bits store_func store_nilFunc
attribute [local go_sem ↓] Go.wp_at_zero Go.wp_at_succ

theorem ent_elements : Ent 96 := by
  intro args w
  kernel_rfl
theorem ent_concat : Ent 95 := by
  intro args w
  kernel_rfl
theorem ent_list : Ent 94 := by
  intro args w
  kernel_rfl
theorem list_any (a : Option Addr) (l c : Nat) (w : World) : Calls Tryz.prog 94 #[.slice a l c] w fun e w' => e = .returned (.agg #[.int .i64 8, .int .i64 0, .float .f64 0, .string ⟨#[]⟩, .slice a l c]) ∧ Below w.heap.size w w' := by
  go_enter Tryz.func94, Tryz.ntmps94
  go_wp2
  exact bodyPost_ret (v := .agg #[.int .i64 8, .int .i64 0, .float .f64 0, .string ⟨#[]⟩, .slice a l c]) (by simp [results, Tryz.results94, go_sem]) rfl ⟨rfl, below_new w _⟩
abbrev nolT : Tr := .mk 8 0 0 ⟨#[]⟩ none 0 []
theorem row_low {w : World} {B e size n : Nat} {V : Value} {xs : List Value} (h : w.ownsRow B e size V n xs) : w.ownsRow 0 e size V n xs := by
  refine ⟨h.1, ?_⟩
  rcases h.2 with h0 | ⟨g, cap, cur, rfl, _, r⟩
  · exact .inl h0
  · exact .inr ⟨g, cap, cur, rfl, Nat.zero_le _, r⟩

set_option maxHeartbeats 1600000 in
set_option maxRecDepth 100000 in
theorem joined_tc {w : World} {a : Option Addr} {c : Nat} {k n : Int} {f : Nat} {s : ByteArray} {a1 : Option Addr} {c1 : Nat} {ks : List Tr} {nm : ByteArray} {P : Tr → Prop} {E : Int → Prop} (hin : ArgsIn w a c [.mk k n f s a1 c1 ks, nolT])
    (hsm : Small (.mk k n f s a1 c1 ks)) (hcn : cnT (.mk k n f s a1 c1 ks) ≤ 1000000000) (hlen : k = 8 → ks.length ≤ 65536)
    (hP : k = 8 → ∀ a' c', P (.mk 8 0 0 ⟨#[]⟩ a' c' ks)) (hE : k ≠ 8 → E 13) :
    TC 44 P E (.agg #[.string nm, .slice a 2 c, .nilFunc]) w := by
  refine ⟨fun args w => by kernel_rfl, fun W hW => ?_⟩
  have HP := hidb hP
  have HE := hidb hE
  have HWS := hidb hW.size
  have HIW := hidb (in_below hW hin)
  obtain ⟨b, o, rfl, hbW, v0, v1, v2, v3, v4, hin0⟩ := argi hin hW (i := 0) rfl
  have HON := hidb (onAll_get (t := .mk k n f s a1 c1 ks) (by have := on_all _ hin; unfold Tr.On at this; exact this.2) (by simp))
  have HI0 := hidb hin0
  have HSM := hidb (And.intro hsm (And.intro hcn hlen))
  obtain ⟨V1, hV1⟩ : ∃ V1, ((W.alloc (.cells #[.string nm, .slice (some ⟨b, o, none⟩) 2 c, .nilFunc] CT)).alloc (.cells #[.int .i64 0, .int .i64 0, .float .f64 0, .string ⟨#[]⟩, .slice none 0 0] 25)) = V1 := ⟨_, rfl⟩
  have HX0 : Hid (Box V1 (W.heap.size + 1) (.int .i64 0) (.int .i64 0) (.float .f64 0) (.string ⟨#[]⟩) (.slice none 0 0)) := hidb (by
    rw [← hV1]
    have := Box.new (W.alloc (.cells #[.string nm, .slice (some ⟨b, o, none⟩) 2 c, .nilFunc] CT)) 25 (.int .i64 0) (.int .i64 0) (.float .f64 0) (.string ⟨#[]⟩) (.slice none 0 0)
    simpa using this)
  have HC0 : Hid (Tri V1 W.heap.size (.string nm) (.slice (some ⟨b, o, none⟩) 2 c) .nilFunc) := hidb (by rw [← hV1]; exact (Tri.new W _ _ _ _).keep (below_new _ _))
  have HBW : Hid (Below W.heap.size W V1) := hidb (by rw [← hV1]; exact (below_new W _).alloc (by simp) _)
  have HV1 := hidb hV1
  obtain ⟨PP, hPP⟩ : ∃ PP : Ending → World → Prop, Tld P E w.heap.size W = PP := ⟨_, rfl⟩
  have HPP := hidb hPP
  rw [hPP]
  clear hV1 hPP
  have HSA : Hid (∀ W9, Below V1.heap.size V1 W9 → (fun W9 => W9.cell? ⟨W.heap.size, 0, none⟩ = some (.string nm) ∧ W9.cell? ⟨W.heap.size, 1, none⟩ = some (.slice (some ⟨b, o, none⟩) 2 c) ∧ W9.cell? ⟨W.heap.size, 2, none⟩ = some .nilFunc) W9) := hidb (fun W9 hb => ⟨(HC0.out.keep hb).c0, (HC0.out.keep hb).c1, (HC0.out.keep hb).c2⟩)
  have HS0 := hidb (HSA.out V1.drew (Below.refl _ _).drew)
  clear hP hE hW hin hin0 hsm hcn hlen v0 v1 v2 v3 v4
  by_cases h8 : k = 8
  · subst h8
    have EL0 := hidb (fun W1 (hb : Below W.heap.size W W1) => elementsN_ok (nm := nm) (in_below hb HIW.out) (i := 0) rfl)
    have EL1 := hidb (fun W1 (hb : Below W.heap.size W W1) => elementsN_ok (nm := nm) (in_below hb HIW.out) (i := 1) rfl)
    simp only [List.length_cons, List.length_nil] at EL0 EL1
    have CC := hidb (fun W1 (hb : Below W.heap.size W W1) rb (h0 : W1.cell? ⟨rb, 0, none⟩ = some (.slice a1 ks.length c1)) (h1 : W1.cell? ⟨rb, 1, none⟩ = some (.slice none 0 0)) => concat_one (W := W1) (rb := rb) (a1 := a1) (c1 := c1) (kids := ks) (by have := in_below hb HI0.out; unfold Tr.In at this ⊢; exact ⟨⟨by decide, by decide, by decide, by show 0 ≤ maxLen; omega, this.1.2.2.2.2⟩, this.2⟩) h0 h1 (HSM.out.2.2 rfl))
    obtain ⟨N, hN⟩ : ∃ N, ks.length = N := ⟨_, rfl⟩
    have HN := hidb hN
    rw [hN] at EL0 CC
    obtain ⟨XS, hXS⟩ : ∃ XS, ks.flatMap Tr.cells = XS := ⟨_, rfl⟩
    have HXS := hidb hXS
    rw [hXS] at CC
    clear hN hXS
    go_enter Tryz.func44, Tryz.ntmps44
    go_wp2_with fail
    rw [HV1.out]
    refine wp_region_D (fun W9 => W9.cell? ⟨W.heap.size, 0, none⟩ = some (.string nm) ∧ W9.cell? ⟨W.heap.size, 1, none⟩ = some (.slice (some ⟨b, o, none⟩) 2 c) ∧ W9.cell? ⟨W.heap.size, 2, none⟩ = some .nilFunc) [7] (by kernel_rfl) ?_
    refine wpAnyD_takeL (i := 0) (v := ?vv0z) rfl (by kernel_rfl) (by kernel_rfl) (by kernel_rfl) (by kernel_rfl) (fun _ _ _ h => h) HS0.out rfl ?hy0z ?_
    case hy0z => intro wy hSw; obtain ⟨z0, z1, z2⟩ := hSw; go_simp; try with_reducible rfl
    simp only [Act.put, List.setIfInBounds_toArray, List.set_cons_zero, List.set_cons_succ]
    refine wpAnyD_takeL (i := 2) (v := ?vv2z) rfl (by kernel_rfl) (by kernel_rfl) (by kernel_rfl) (by kernel_rfl) (fun _ _ _ h => h) HS0.out rfl ?hy2z ?_
    case hy2z => intro wy hSw; obtain ⟨z0, z1, z2⟩ := hSw; go_simp; try with_reducible rfl
    simp only [Act.put, List.setIfInBounds_toArray, List.set_cons_zero, List.set_cons_succ]
    refine wpAnyD_stepL (i := 1) (by kernel_rfl) rfl (fun K hK => ?_)
    refine step_callB (by simp [Region.wanted]) (run_call ent_elements #[.tmp 3, .const (.int .i64 0), .const (.int .i64 8)] _ rfl #[.agg #[.string nm, .slice (some ⟨b, o, none⟩) 2 c, .nilFunc], .int .i64 0, .int .i64 8] rfl) (EL0.out V1.drew HBW.out.drew) ?_
    rintro e w2 ⟨rfl, hb2⟩
    have HV2 := hidb (undrew hb2)
    refine hK _ _ (fun _ => HSA.out w2 HV2.out) ?_
    clear hK K hb2 HS0
    simp only [Act.put, List.setIfInBounds_toArray, List.set_cons_zero, List.set_cons_succ]
    refine wpAnyD_stepL (i := 3) (by kernel_rfl) rfl (fun K hK => ?_)
    refine step_callB (by simp [Region.wanted]) (run_call ent_elements #[.tmp 5, .const (.int .i64 1), .const (.int .i64 8)] _ rfl #[.agg #[.string nm, .slice (some ⟨b, o, none⟩) 2 c, .nilFunc], .int .i64 1, .int .i64 8] rfl) (EL1.out w2 (HBW.out.trans (HV2.out.mono HBW.out.size))) ?_
    rintro e w3 ⟨rfl, hb3⟩
    have HV3 := hidb (HV2.out.trans (hb3.mono HV2.out.size))
    refine hK _ _ (fun _ => HSA.out w3 HV3.out) ?_
    clear hK K hb3
    simp only [Act.put, List.setIfInBounds_toArray, List.set_cons_zero, List.set_cons_succ]
    refine wpAnyD_stepL (i := 4) (by kernel_rfl) rfl (fun K hK => ?_)
    go_simp
    refine hK _ _ (fun _ => HSA.out _ (HV3.out.alloc HV3.out.size _)) ?_
    clear hK K
    obtain ⟨W4, hW4⟩ : ∃ W4, w3.alloc (.cells #[.slice a1 N c1, .slice none 0 0] 23) = W4 := ⟨_, rfl⟩
    have HV4 : Hid (Below V1.heap.size V1 W4) := hidb (by rw [← hW4]; exact HV3.out.alloc HV3.out.size _)
    have hc0 : W4.cell? ⟨w3.heap.size, 0, none⟩ = some (.slice a1 N c1) := by rw [← hW4, World.cell?_alloc_new]; rfl
    have hc1 : W4.cell? ⟨w3.heap.size, 1, none⟩ = some (.slice none 0 0) := by rw [← hW4, World.cell?_alloc_new]; rfl
    rw [hW4]
    clear hW4
    refine wpAnyD_stepL (i := 5) (by kernel_rfl) rfl (fun K hK => ?_)
    refine step_callB (by simp [Region.wanted]) (run_call ent_concat #[.tmp 7] _ rfl #[.slice (some ⟨w3.heap.size, 0, none⟩) 2 2] rfl) (CC.out W4 (HBW.out.trans (HV4.out.mono HBW.out.size)) w3.heap.size hc0 hc1) ?_
    rintro e w5 ⟨v5, rfl, hown5, hb5⟩
    obtain ⟨q5, c5, rfl⟩ := own_sl hown5
    have HV5 := hidb (HV4.out.trans (hb5.mono HV4.out.size))
    have HO5 := hidb hown5
    have HZ4 := hidb HV4.out.size
    refine hK _ _ (fun _ => HSA.out w5 HV5.out) ?_
    clear hK K hb5 hown5 hc0 hc1
    simp only [Act.put, List.setIfInBounds_toArray, List.set_cons_zero, List.set_cons_succ]
    refine wpAnyD_stepL (i := 6) (by kernel_rfl) rfl (fun K hK => ?_)
    refine step_callB (by simp [Region.wanted]) (run_call ent_list #[.tmp 8] _ rfl #[.slice q5 N c5] rfl) (list_any q5 N c5 w5) ?_
    rintro e w6 ⟨rfl, hb6⟩
    have HV6 := hidb (HV5.out.trans (hb6.mono HV5.out.size))
    have HO6 := hidb (row_but HO5.out (But.of_below (S := fun _ => False) hb6) (fun _ _ h => h))
    have HX6 := hidb (HX0.out.keep HV6.out)
    refine hK _ _ (fun _ => HSA.out w6 HV6.out) ?_
    clear hK K hb6
    simp only [Act.put, List.setIfInBounds_toArray, List.set_cons_zero, List.set_cons_succ]
    obtain ⟨⟨x0, x1, x2, x3, x4⟩, ⟨y0, y1, y2, y3, y4⟩, xl⟩ := Box.six HX6.out
    refine wpAnyD_stepL (i := 7) (by kernel_rfl) rfl (fun K hK => ?_)
    go_simp
    refine hK _ _ (fun h => absurd (List.mem_singleton.2 rfl) h) ?_
    clear hK K
    refine wpAnyD_done (by kernel_rfl) ?_ _
    go_wp2_with fail
    have bx9 := HX6.out.set (.int .i64 8) (.int .i64 0) (.float .f64 0) (.string ⟨#[]⟩) (.slice q5 N c5)
    obtain ⟨⟨k0, k1', k2, k3, k4⟩, -, -⟩ := Box.six bx9
    simp only [set5] at k0 k1' k2 k3 k4
    refine bodyPost_ret (v := (Tr.mk 8 0 0 ⟨#[]⟩ q5 c5 ks).val) (by simp [Tr.val, Tr.cells, HN.out, results, Tryz.results44, go_sem, k0, k1', k2, k3, k4]) rfl ?_
    rw [← HPP.out]
    have hbW6 : Below W.heap.size W w6 := HBW.out.trans (HV6.out.mono HBW.out.size)
    have hwl : w.heap.size ≤ W.heap.size := HWS.out
    have hvz : W.heap.size + 1 < V1.heap.size := HX0.out.lt
    have hin6 : (Tr.mk 8 0 0 ⟨#[]⟩ q5 c5 ks).In w6 0 := by
      have ho : w6.ownsRow 0 25 5 (.slice q5 N c5) ks.length (ks.flatMap Tr.cells) := by rw [HN.out, HXS.out]; exact row_low HO6.out
      have hkk : ∀ t, t ∈ ks → t.In w6 0 ∧ t.On (fun b => (Value.slice q5 N c5).ownBlock ≠ some b ∧ b < w6.heap.size ∧ 0 ≤ b) := by
        intro t ht
        constructor
        · have h1 := in_below hbW6 HI0.out
          unfold Tr.In at h1
          obtain ⟨j, hj⟩ := List.getElem?_of_mem ht
          cases a1 with
          | none =>
            have h0 := h1.1.2.2.2.2.2.2 rfl
            have h2 := h1.1.2.2.2.2.1
            have := (List.getElem?_eq_some_iff.1 hj).1
            omega
          | some ad => exact (inAll_get (h1.2 ad rfl).2 j t hj).2
        · refine on_mono (fun q hq => ?_) _ (on_kid HON.out ht)
          refine ⟨fun e => ?_, by have := hbW6.size; omega, Nat.zero_le _⟩
          have := (row_lt HO6.out q e).2
          have := HZ4.out
          have := HBW.out.size
          omega
      obtain ⟨a9, c9, he, hin9⟩ := rows_tree (w := w6) (base := 0) (v := .slice q5 N c5) (ds := ks) ⟨ho, hkk⟩ 8 0 0 ⟨#[]⟩ (by decide) (by decide) (by decide) (by show 0 ≤ maxLen; omega)
      obtain ⟨rfl, -, rfl⟩ : q5 = a9 ∧ N = ks.length ∧ c5 = c9 := by simpa using he
      exact hin9
    have hon6 : (Tr.mk 8 0 0 ⟨#[]⟩ q5 c5 ks).On (fun q => q < w.heap.size ∨ W.heap.size + 2 ≤ q) := by
      have h9 := HON.out
      unfold Tr.On at h9 ⊢
      refine ⟨fun h0 ad had => .inr ?_, ?_⟩
      · have := (row_lt HO6.out ad.block (by subst had; rcases HO6.out.2 with ⟨h, _⟩ | ⟨g, cap, cur, h, _⟩ <;> simp_all [Value.ownBlock])).2
        have := HZ4.out
        omega
      · have : ∀ l : List Tr, (∀ t ∈ l, t ∈ ks) → Tr.OnAll (fun q => q < w.heap.size ∨ W.heap.size + 2 ≤ q) l := by
          intro l
          induction l with
          | nil => intro _; unfold Tr.OnAll; trivial
          | cons t r ih =>
            intro hl
            unfold Tr.OnAll
            exact ⟨on_mono (fun q hq => .inl hq) _ (on_kid HON.out (hl t (by simp))), ih (fun u hu => hl u (by simp [hu]))⟩
        exact this ks (fun t h => h)
    refine ⟨(((((hbW6.setCell (by simp) _).setCell (by simp) _).setCell (by simp) _).setCell (by simp) _).setCell (by simp) _), .inl ⟨_, rfl, HP.out (by first | rfl | trivial) _ _, ?_, on_mono (fun q hq => by omega) _ hon6, ?_, ?_⟩⟩
    · exact in_on5 (B := w.heap.size) (c := W.heap.size + 2) hin6 hon6 (by omega) (by omega) _ _ _ _ _
    · have := HSM.out.1; unfold Small at this ⊢; exact this
    · have := HSM.out.2.1; unfold cnT at this ⊢; exact this
  · have EL0 := hidb (fun W1 (hb : Below W.heap.size W W1) => elementsN_no (nm := nm) (kd := 8) (in_below hb HIW.out) (i := 0) rfl h8)
    simp only [List.length_cons, List.length_nil] at EL0
    have HE2 := hidb (HE.out h8)
    clear h8 HP HE
    go_enter Tryz.func44, Tryz.ntmps44
    go_wp2_with fail
    rw [HV1.out]
    refine wp_region_D (fun W9 => W9.cell? ⟨W.heap.size, 0, none⟩ = some (.string nm) ∧ W9.cell? ⟨W.heap.size, 1, none⟩ = some (.slice (some ⟨b, o, none⟩) 2 c) ∧ W9.cell? ⟨W.heap.size, 2, none⟩ = some .nilFunc) [7] (by kernel_rfl) ?_
    refine wpAnyD_takeL (i := 0) (v := ?vv0y) rfl (by kernel_rfl) (by kernel_rfl) (by kernel_rfl) (by kernel_rfl) (fun _ _ _ h => h) HS0.out rfl ?hy0y ?_
    case hy0y => intro wy hSw; obtain ⟨z0, z1, z2⟩ := hSw; go_simp; try with_reducible rfl
    simp only [Act.put, List.setIfInBounds_toArray, List.set_cons_zero, List.set_cons_succ]
    refine wpAnyD_takeL (i := 2) (v := ?vv2y) rfl (by kernel_rfl) (by kernel_rfl) (by kernel_rfl) (by kernel_rfl) (fun _ _ _ h => h) HS0.out rfl ?hy2y ?_
    case hy2y => intro wy hSw; obtain ⟨z0, z1, z2⟩ := hSw; go_simp; try with_reducible rfl
    simp only [Act.put, List.setIfInBounds_toArray, List.set_cons_zero, List.set_cons_succ]
    refine wpAnyD_stepL (i := 1) (by kernel_rfl) rfl (fun K hK => ?_)
    refine step_callB (by simp [Region.wanted]) (run_call ent_elements #[.tmp 3, .const (.int .i64 0), .const (.int .i64 8)] _ rfl #[.agg #[.string nm, .slice (some ⟨b, o, none⟩) 2 c, .nilFunc], .int .i64 0, .int .i64 8] rfl) (EL0.out V1.drew HBW.out.drew) ?_
    rintro e w2 ⟨rfl, hb2⟩
    refine ⟨rfl, ?_⟩
    rw [← HPP.out]
    exact ⟨HBW.out.trans ((undrew hb2).mono HBW.out.size), .inr ⟨_, rfl, HE2.out⟩⟩
end Go.Proofs.YtajadhkpadkikaaGreatDoor


/- setelement. -/
namespace Go.Proofs.YtajadhkpadkikaaGreatDoor
open Go.RowKit Go.Lib Go.Deep
attribute [local go_sem] store_float f64bits store_func store_nilFunc
attribute [local go_sem ↓] Go.wp_at_zero Go.wp_at_succ

theorem tuple_any (a : Option Addr) (l c : Nat) (w : World) : Calls Tryz.prog 108 #[.slice a l c] w fun e w' => e = .returned (.agg #[.int .i64 7, .int .i64 0, .float .f64 0, .string ⟨#[]⟩, .slice a l c]) ∧ Below w.heap.size w w' := by
  go_enter Tryz.func108, Tryz.ntmps108
  go_wp2
  exact bodyPost_ret (v := .agg #[.int .i64 7, .int .i64 0, .float .f64 0, .string ⟨#[]⟩, .slice a l c]) (by simp [results, Tryz.results108, go_sem]) rfl ⟨rfl, below_new w _⟩

theorem flat_set5 : ∀ (ks : List Tr) (j : Nat) (k n : Int) (f : Nat) (s : ByteArray) (a : Option Addr) (c : Nat) (kx : List Tr), j < ks.length →
    (ks.set j (.mk k n f s a c kx)).flatMap Tr.cells = (((((ks.flatMap Tr.cells).set (j * 5) (.int .i64 k)).set (j * 5 + 1) (.int .i64 n)).set (j * 5 + 2) (.float .f64 f)).set (j * 5 + 3) (.string s)).set (j * 5 + 4) (.slice a kx.length c)
  | [], j, _, _, _, _, _, _, _, h => by simp at h
  | .mk k0 n0 f0 s0 a0 c0 ks0 :: r, 0, k, n, f, s, a, c, kx, _ => by simp [Tr.cells]
  | .mk k0 n0 f0 s0 a0 c0 ks0 :: r, j + 1, k, n, f, s, a, c, kx, h => by
    have ih := flat_set5 r j k n f s a c kx (by simpa using h)
    simp only [List.set_cons_succ, List.flatMap_cons]
    rw [ih]
    simp only [Tr.cells, List.cons_append, List.nil_append, show (j + 1) * 5 = j * 5 + 1 + 1 + 1 + 1 + 1 by omega, show j * 5 + 1 + 1 + 1 + 1 + 1 + 1 = (j * 5 + 1) + 1 + 1 + 1 + 1 + 1 by omega, show j * 5 + 1 + 1 + 1 + 1 + 1 + 2 = (j * 5 + 2) + 1 + 1 + 1 + 1 + 1 by omega, show j * 5 + 1 + 1 + 1 + 1 + 1 + 3 = (j * 5 + 3) + 1 + 1 + 1 + 1 + 1 by omega, show j * 5 + 1 + 1 + 1 + 1 + 1 + 4 = (j * 5 + 4) + 1 + 1 + 1 + 1 + 1 by omega, List.set_cons_succ]
theorem smallAll_of {kids : List Tr} (h : ∀ t, t ∈ kids → Small t) : SmallAll kids := by
  induction kids with
  | nil => unfold SmallAll; trivial
  | cons t r ih => unfold SmallAll; exact ⟨h t (by simp), ih (fun u hu => h u (by simp [hu]))⟩
theorem cnA_le {kids : List Tr} {M : Nat} (h : ∀ t, t ∈ kids → cnT t ≤ M) : cnA kids ≤ kids.length * M := by
  induction kids with
  | nil => simp [cnA]
  | cons t r ih =>
    have h1 := h t (by simp)
    have h2 := ih (fun u hu => h u (by simp [hu]))
    unfold cnA
    simp only [List.length_cons, Nat.add_mul, Nat.one_mul]
    omega
theorem ent_place : Ent 105 := by
  intro args w
  kernel_rfl
theorem args_of {w : World} {k n : Int} {f : Nat} {s : ByteArray} {a : Option Addr} {c : Nat} {ks : List Tr} (h : (Tr.mk k n f s a c ks).In w 0) : ArgsIn w a c ks := by
  unfold Tr.In at h ⊢
  exact ⟨⟨by decide, by decide, by decide, by show 0 ≤ maxLen; omega, h.1.2.2.2.2⟩, h.2⟩
theorem clone_any {W : World} {a1 : Option Addr} {c1 : Nat} {kids : List Tr} (hin : ArgsIn W a1 c1 kids) (hl : kids.length ≤ 65536) :
    Calls Tryz.prog 107 #[.slice a1 kids.length c1] W fun e w' => ∃ v', e = .returned v' ∧ w'.ownsRow W.heap.size 25 5 v' kids.length (kids.flatMap Tr.cells) ∧ Below W.heap.size W w' := by
  cases a1 with
  | some ad => exact clone_some hin hl
  | none =>
    have h0 : kids = [] := by
      have h := hin
      unfold Tr.In at h
      have h1 := h.1.2.2.2.2.2.2 rfl
      have h2 := h.1.2.2.2.2.1
      exact List.eq_nil_of_length_eq_zero (by omega)
    subst h0
    refine (clone_none _ _).mono ?_
    rintro e w' ⟨rfl, rfl⟩
    exact ⟨_, rfl, World.ownsRow_nil _ _ _ _, Below.refl _ _⟩

set_option maxHeartbeats 1600000 in
set_option maxRecDepth 100000 in
theorem setElement_tc {w : World} {a : Option Addr} {c : Nat} {k n : Int} {f : Nat} {s : ByteArray} {a' : Option Addr} {c' : Nat} {ks0 : List Tr} {k1 n1 : Int} {f1 : Nat} {s1 : ByteArray} {a1 : Option Addr} {c1 : Nat} {ks : List Tr} {x : Tr} {nm : ByteArray} {P : Tr → Prop} {E : Int → Prop} (hin : ArgsIn w a c [.mk k n f s a' c' ks0, .mk k1 n1 f1 s1 a1 c1 ks, x])
    (hsm : ∀ t ∈ x :: ks, Small t ∧ cnT t ≤ 1000000) (hlen : ks.length ≤ 200)
    (hP : k1 = 7 → plB k n ks.length = true → ∀ a' c', P (.mk 7 0 0 ⟨#[]⟩ a' c' (ks.set (n - 1).toNat x))) (hE : (k1 ≠ 7 ∨ plB k n ks.length = false) → E 13) :
    TC 68 P E (.agg #[.string nm, .slice a 3 c, noneF]) w := by
  refine ⟨fun args w => by kernel_rfl, fun W hW => ?_⟩
  have HP := hidb hP
  have HWS := hidb hW.size
  have HE := hidb hE
  have HIW := in_below hW hin
  obtain ⟨kx, nx, fx, sx, ax, cx, ksx⟩ := x
  obtain ⟨b, o, rfl, hbW, v0, v1, v2, v3, v4, hin1⟩ := argi hin hW (i := 1) rfl
  obtain ⟨b2, o2, e2, -, u0, u1, u2, u3, u4, hinx⟩ := argi hin hW (i := 2) rfl
  obtain ⟨rfl, rfl⟩ : b = b2 ∧ o = o2 := by simpa using e2
  rw [show 2 * 5 = 10 from rfl] at u0 u1 u2 u3 u4
  have HIX := hidb hinx
  have HOX := hidb (onAll_get (t := .mk kx nx fx sx ax cx ksx) (by have := on_all _ hin; unfold Tr.On at this; exact this.2) (by simp))
  obtain ⟨lx, hlx⟩ : ∃ lx, ksx.length = lx := ⟨_, rfl⟩
  rw [hlx] at u4
  have HLX := hidb hlx
  clear hinx e2 hlx
  have HON := hidb (onAll_get (t := .mk k1 n1 f1 s1 a1 c1 ks) (by have := on_all _ hin; unfold Tr.On at this; exact this.2) (by simp))
  have HI1 := hidb hin1
  have HPL := hidb (fun W1 (hb : Below W.heap.size W W1) ax cx => place_any (nm := nm) (ax := ax) (lx := ks.length) (cx := cx) (in_below hb HIW) (by omega))
  have HSM := hidb hsm
  by_cases h7 : k1 = 7
  · subst h7
    have EL := hidb (fun W1 (hb : Below W.heap.size W W1) => elementsF_ok (nm := nm) (in_below hb HIW) (i := 1) rfl)
    simp only [List.length_cons, List.length_nil] at EL HPL
    obtain ⟨KL, hKL⟩ : ∃ KL, ks.length = KL := ⟨_, rfl⟩
    have CC := hidb (fun W1 (hb : Below W.heap.size W W1) => clone_any (args_of (in_below hb HI1.out)) (by omega))
    rw [hKL] at EL HPL CC
    have HLE : Hid (KL ≤ 200) := hidb (by omega)
    have HKL := hidb hKL
    obtain ⟨XS, hXS⟩ : ∃ XS, ks.flatMap Tr.cells = XS := ⟨_, rfl⟩
    rw [hXS] at CC
    have HXS := hidb hXS
    clear hXS
    obtain ⟨V1, hV1⟩ : ∃ V1, ((W.alloc (.cells #[.string nm, .slice (some ⟨b, o, none⟩) 3 c, noneF] CT)).alloc (.cells #[.int .i64 0, .int .i64 0, .float .f64 0, .string ⟨#[]⟩, .slice none 0 0] 25)) = V1 := ⟨_, rfl⟩
    have HX0 : Hid (Box V1 (W.heap.size + 1) (.int .i64 0) (.int .i64 0) (.float .f64 0) (.string ⟨#[]⟩) (.slice none 0 0)) := hidb (by
      rw [← hV1]
      have := Box.new (W.alloc (.cells #[.string nm, .slice (some ⟨b, o, none⟩) 3 c, noneF] CT)) 25 (.int .i64 0) (.int .i64 0) (.float .f64 0) (.string ⟨#[]⟩) (.slice none 0 0)
      simpa using this)
    have HC0 : Hid (Tri V1 W.heap.size (.string nm) (.slice (some ⟨b, o, none⟩) 3 c) noneF) := hidb (by rw [← hV1]; exact (Tri.new W _ _ _ _).keep (below_new _ _))
    have HBW : Hid (Below W.heap.size W V1) := hidb (by rw [← hV1]; exact (below_new W _).alloc (by simp) _)
    have HV1 := hidb hV1
    obtain ⟨PP, hPP⟩ : ∃ PP : Ending → World → Prop, Tld P E w.heap.size W = PP := ⟨_, rfl⟩
    have HPP := hidb hPP
    rw [hPP]
    clear hV1 hPP
    have HSA : Hid (∀ W9, Below W.heap.size W W9 → Tri W9 W.heap.size (.string nm) (.slice (some ⟨b, o, none⟩) 3 c) noneF → (fun W9 => W9.cell? ⟨W.heap.size, 0, none⟩ = some (.string nm) ∧ W9.cell? ⟨W.heap.size, 1, none⟩ = some (.slice (some ⟨b, o, none⟩) 3 c) ∧ W9.cell? ⟨W.heap.size, 2, none⟩ = some noneF ∧ W9.cell? ⟨b, o + 10, none⟩ = some (.int .i64 kx) ∧ W9.cell? ⟨b, o + 10 + 1, none⟩ = some (.int .i64 nx) ∧ W9.cell? ⟨b, o + 10 + 2, none⟩ = some (.float .f64 fx) ∧ W9.cell? ⟨b, o + 10 + 3, none⟩ = some (.string sx) ∧ W9.cell? ⟨b, o + 10 + 4, none⟩ = some (.slice ax lx cx)) W9) := hidb (fun W9 hb hc => ⟨hc.c0, hc.c1, hc.c2, (hb.cell hbW).trans u0, (hb.cell hbW).trans u1, (hb.cell hbW).trans u2, (hb.cell hbW).trans u3, (hb.cell hbW).trans u4⟩)
    clear hP hE hW hin hin1 hsm hlen hKL v0 v1 v2 v3 v4 u0 u1 u2 u3 u4
    go_enter Tryz.func68, Tryz.ntmps68
    go_wp2_with fail
    rw [HV1.out]
    refine (EL.out _ HBW.out).mono ?_
    rintro e w2 ⟨rfl, hb2⟩
    have HB2 := hidb (HBW.out.trans (hb2.mono HBW.out.size))
    have HX2 := hidb (HX0.out.keep hb2)
    have HC2 := hidb (HC0.out.keep hb2)
    have t0 := HC2.out.c0; have t1 := HC2.out.c1; have t2 := HC2.out.c2
    clear hb2
    go_wp2_with fail
    refine (CC.out _ HB2.out).mono ?_
    rintro e w3 ⟨v3, rfl, hown3, hb3⟩
    obtain ⟨q3, c3, rfl⟩ := own_sl hown3
    have HO3 := hidb hown3
    have HZ3 := hidb HB2.out.size
    have HB3 := hidb (HB2.out.trans (hb3.mono HB2.out.size))
    have HX3 := hidb (HX2.out.keep hb3)
    have HC3 := hidb (HC2.out.keep hb3)
    have t0 := HC3.out.c0; have t1 := HC3.out.c1; have t2 := HC3.out.c2
    clear hb3 hown3
    have HS0 := hidb (HSA.out w3.drew HB3.out.drew (HC3.out.keep (Below.refl _ _).drew))
    go_wp2_with fail
    clear t0 t1 t2
    refine wp_region_D (fun W9 => W9.cell? ⟨W.heap.size, 0, none⟩ = some (.string nm) ∧ W9.cell? ⟨W.heap.size, 1, none⟩ = some (.slice (some ⟨b, o, none⟩) 3 c) ∧ W9.cell? ⟨W.heap.size, 2, none⟩ = some noneF ∧ W9.cell? ⟨b, o + 10, none⟩ = some (.int .i64 kx) ∧ W9.cell? ⟨b, o + 10 + 1, none⟩ = some (.int .i64 nx) ∧ W9.cell? ⟨b, o + 10 + 2, none⟩ = some (.float .f64 fx) ∧ W9.cell? ⟨b, o + 10 + 3, none⟩ = some (.string sx) ∧ W9.cell? ⟨b, o + 10 + 4, none⟩ = some (.slice ax lx cx)) [9] (by kernel_rfl) ?_
    refine wpAnyD_takeL (i := 0) (v := ?vv0z) rfl (by kernel_rfl) (by kernel_rfl) (by kernel_rfl) (by kernel_rfl) (fun _ _ _ h => h) HS0.out rfl ?hy0z ?_
    case hy0z => intro wy hSw; obtain ⟨z0, z1, z2, z3, z4, z5, z6, z7⟩ := hSw; go_simp; try with_reducible rfl
    simp only [Act.put, List.setIfInBounds_toArray, List.set_cons_zero, List.set_cons_succ]
    refine wpAnyD_takeL (i := 1) (v := ?vv1z) rfl (by kernel_rfl) (by kernel_rfl) (by kernel_rfl) (by kernel_rfl) (fun _ _ _ h => h) HS0.out rfl ?hy1z ?_
    case hy1z => intro wy hSw; obtain ⟨z0, z1, z2, z3, z4, z5, z6, z7⟩ := hSw; go_simp; try with_reducible rfl
    simp only [Act.put, List.setIfInBounds_toArray, List.set_cons_zero, List.set_cons_succ]
    refine wpAnyD_takeL (i := 2) (v := ?vv2z) rfl (by kernel_rfl) (by kernel_rfl) (by kernel_rfl) (by kernel_rfl) (fun _ _ _ h => h) HS0.out rfl ?hy2z ?_
    case hy2z => intro wy hSw; obtain ⟨z0, z1, z2, z3, z4, z5, z6, z7⟩ := hSw; go_simp; try with_reducible rfl
    simp only [Act.put, List.setIfInBounds_toArray, List.set_cons_zero, List.set_cons_succ]
    refine wpAnyD_takeL (i := 4) (v := ?vv4z) rfl (by kernel_rfl) (by kernel_rfl) (by kernel_rfl) (by kernel_rfl) (fun _ _ _ h => h) HS0.out rfl ?hy4z ?_
    case hy4z => intro wy hSw; obtain ⟨z0, z1, z2, z3, z4, z5, z6, z7⟩ := hSw; go_simp; try with_reducible rfl
    simp only [Act.put, List.setIfInBounds_toArray, List.set_cons_zero, List.set_cons_succ]
    refine wpAnyD_takeL (i := 5) (v := ?vv5z) rfl (by kernel_rfl) (by kernel_rfl) (by kernel_rfl) (by kernel_rfl) (fun _ _ _ h => h) HS0.out rfl ?hy5z ?_
    case hy5z => intro wy hSw; obtain ⟨z0, z1, z2, z3, z4, z5, z6, z7⟩ := hSw; go_simp; try with_reducible rfl
    simp only [Act.put, List.setIfInBounds_toArray, List.set_cons_zero, List.set_cons_succ]
    refine wpAnyD_takeL (i := 6) (v := ?vv6z) rfl (by kernel_rfl) (by kernel_rfl) (by kernel_rfl) (by kernel_rfl) (fun _ _ _ h => h) HS0.out rfl ?hy6z ?_
    case hy6z => intro wy hSw; obtain ⟨z0, z1, z2, z3, z4, z5, z6, z7⟩ := hSw; go_simp; try with_reducible rfl
    simp only [Act.put, List.setIfInBounds_toArray, List.set_cons_zero, List.set_cons_succ]
    refine wpAnyD_takeL (i := 7) (v := ?vv7z) rfl (by kernel_rfl) (by kernel_rfl) (by kernel_rfl) (by kernel_rfl) (fun _ _ _ h => h) HS0.out rfl ?hy7z ?_
    case hy7z => intro wy hSw; obtain ⟨z0, z1, z2, z3, z4, z5, z6, z7⟩ := hSw; go_simp; try with_reducible rfl
    simp only [Act.put, List.setIfInBounds_toArray, List.set_cons_zero, List.set_cons_succ]
    refine wpAnyD_stepL (i := 3) (by kernel_rfl) rfl (fun K hK => ?_)
    refine step_callB (by simp [Region.wanted]) (run_call ent_place #[.tmp 8, .tmp 9] _ rfl #[.agg #[.string nm, .slice (some ⟨b, o, none⟩) 3 c, noneF], .slice q3 KL c3] rfl) (HPL.out w3.drew HB3.out.drew q3 c3) ?_
    rintro e w4 ⟨hb4, ⟨hpl, rfl⟩ | ⟨hpl, rfl⟩⟩
    · have hb4' := undrew hb4
      have HB4 := hidb (HB3.out.trans (hb4'.mono HB3.out.size))
      have HO4 := hidb (row_but HO3.out (But.of_below (S := fun _ => False) hb4') (fun _ _ h => h))
      have HX4 := hidb (HX3.out.keep hb4')
      have HC4 := hidb (HC3.out.keep hb4')
      refine hK _ _ (fun _ => HSA.out w4 HB4.out (HC3.out.keep hb4')) ?_
      clear hK K hb4 hb4'
      simp only [Act.put, List.setIfInBounds_toArray, List.set_cons_zero, List.set_cons_succ]
      have hpl' : k = 1 ∧ 1 ≤ n ∧ n ≤ (KL : Int) := by simpa [plB] using hpl
      obtain ⟨j, hj⟩ : ∃ j : Nat, n - 1 = (j : Int) := ⟨(n - 1).toNat, by omega⟩
      have hjl : j < KL := by omega
      obtain ⟨g, rfl⟩ : ∃ g, q3 = some ⟨g, 0, none⟩ := by
        rcases HO4.out.2 with ⟨h, h0⟩ | ⟨g, cap, cur, h, -⟩
        · omega
        · exact ⟨g, by simpa using (by injection h : q3 = _)⟩
      have HJ := hidb (And.intro hj (And.intro hjl hpl))
      have e1 : (j : Int) < (KL : Int) := by omega
      have e2 : (0 : Int) ≤ (j : Int) := by omega
      rw [hj]
      clear hpl hpl' hj
      refine wpAnyD_stepL (i := 8) (by kernel_rfl) rfl (fun K hK => ?_)
      go_simp
      refine hK _ _ (fun _ => HSA.out w4 HB4.out HC4.out) ?_
      clear hK K
      have hxl : XS.length = KL * 5 := by rw [← HXS.out, ← HKL.out]; exact flat_len _
      obtain ⟨o0, h0⟩ : ∃ u, w4.cell? ⟨g, j * 5, none⟩ = some u := by rw [HO4.out.cellAt _ (by omega)]; exact ⟨_, List.getElem?_eq_getElem (by omega)⟩
      obtain ⟨o1, h1⟩ : ∃ u, w4.cell? ⟨g, j * 5 + 1, none⟩ = some u := by rw [HO4.out.cellAt _ (by omega)]; exact ⟨_, List.getElem?_eq_getElem (by omega)⟩
      obtain ⟨o2, h2⟩ : ∃ u, w4.cell? ⟨g, j * 5 + 2, none⟩ = some u := by rw [HO4.out.cellAt _ (by omega)]; exact ⟨_, List.getElem?_eq_getElem (by omega)⟩
      obtain ⟨o3, h3⟩ : ∃ u, w4.cell? ⟨g, j * 5 + 3, none⟩ = some u := by rw [HO4.out.cellAt _ (by omega)]; exact ⟨_, List.getElem?_eq_getElem (by omega)⟩
      obtain ⟨o4, h4⟩ : ∃ u, w4.cell? ⟨g, j * 5 + 4, none⟩ = some u := by rw [HO4.out.cellAt _ (by omega)]; exact ⟨_, List.getElem?_eq_getElem (by omega)⟩
      have y0 := HO4.out.frozenAt (j * 5)
      have y1 := HO4.out.frozenAt (j * 5 + 1)
      have y2 := HO4.out.frozenAt (j * 5 + 2)
      have y3 := HO4.out.frozenAt (j * 5 + 3)
      have y4 := HO4.out.frozenAt (j * 5 + 4)
      clear hxl
      refine wpAnyD_stepL (i := 9) (by kernel_rfl) rfl (fun K hK => ?_)
      go_simp
      refine hK _ _ (fun h => absurd (List.mem_singleton.2 rfl) h) ?_
      clear hK K
      refine wpAnyD_done (by kernel_rfl) ?_ _
      clear y0 y1 y2 y3 y4 h0 h1 h2 h3 h4 e1 e2
      have HO5 := hidb ((((((HO4.out.stored (j * 5) (.int .i64 kx)).1.stored (j * 5 + 1) (.int .i64 nx)).1.stored (j * 5 + 2) (.float .f64 fx)).1.stored (j * 5 + 3) (.string sx)).1.stored (j * 5 + 4) (.slice ax lx cx)).1)
      have hg := ownsRow_lt HO4.out g rfl
      have HG := hidb (show W.heap.size + 2 ≤ g from by have := HX2.out.lt; have := hg.1; omega)
      have hsc : ∀ {w' : World} (hb : Below W.heap.size W w') (i : Nat) (u : Value), Below W.heap.size W (w'.setCell ⟨g, i, none⟩ u) := fun hb i u => hb.setCell (show W.heap.size ≤ g by have := HG.out; omega) u
      have HB5 := hidb (hsc (hsc (hsc (hsc (hsc HB4.out (j * 5) (.int .i64 kx)) (j * 5 + 1) (.int .i64 nx)) (j * 5 + 2) (.float .f64 fx)) (j * 5 + 3) (.string sx)) (j * 5 + 4) (.slice ax lx cx))
      have HX5 : Hid (Box (((((w4.setCell ⟨g, j * 5, none⟩ (.int .i64 kx)).setCell ⟨g, j * 5 + 1, none⟩ (.int .i64 nx)).setCell ⟨g, j * 5 + 2, none⟩ (.float .f64 fx)).setCell ⟨g, j * 5 + 3, none⟩ (.string sx)).setCell ⟨g, j * 5 + 4, none⟩ (.slice ax lx cx)) (W.heap.size + 1) (.int .i64 0) (.int .i64 0) (.float .f64 0) (.string ⟨#[]⟩) (.slice none 0 0)) := hidb (by
        have hl := HX4.out.lt
        have hG := HG.out
        have hsb : ∀ {w' : World} (hx : Box w' (W.heap.size + 1) (.int .i64 0) (.int .i64 0) (.float .f64 0) (.string ⟨#[]⟩) (.slice none 0 0)) (i : Nat) (u : Value), Box (w'.setCell ⟨g, i, none⟩ u) (W.heap.size + 1) (.int .i64 0) (.int .i64 0) (.float .f64 0) (.string ⟨#[]⟩) (.slice none 0 0) := fun hx i u => hx.other1 (c := g) (by omega) u
        exact hsb (hsb (hsb (hsb (hsb HX4.out _ _) _ _) _ _) _ _) _ _)
      rw [show (((((XS.set (j * 5) (.int .i64 kx)).set (j * 5 + 1) (.int .i64 nx)).set (j * 5 + 2) (.float .f64 fx)).set (j * 5 + 3) (.string sx)).set (j * 5 + 4) (.slice ax lx cx)) = (ks.set j (.mk kx nx fx sx ax cx ksx)).flatMap Tr.cells from by rw [flat_set5 _ _ _ _ _ _ _ _ _ (by have := HJ.out.2.1; have := HKL.out; omega), HXS.out, HLX.out]] at HO5
      generalize (((((w4.setCell ⟨g, j * 5, none⟩ (.int .i64 kx)).setCell ⟨g, j * 5 + 1, none⟩ (.int .i64 nx)).setCell ⟨g, j * 5 + 2, none⟩ (.float .f64 fx)).setCell ⟨g, j * 5 + 3, none⟩ (.string sx)).setCell ⟨g, j * 5 + 4, none⟩ (.slice ax lx cx)) = w5 at HO5 HB5 HX5 ⊢
      clear hsc hg
      go_wp2_with fail
      refine (tuple_any _ _ _ _).mono ?_
      rintro e w6 ⟨rfl, hb6⟩
      have HB6 := hidb (HB5.out.trans (hb6.mono HB5.out.size))
      have HX6 := hidb (HX5.out.keep hb6)
      have HO6 := hidb (row_but HO5.out (But.of_below (S := fun _ => False) hb6) (fun _ _ h => h))
      obtain ⟨⟨x0, x1, x2, x3, x4⟩, ⟨y0, y1, y2, y3, y4⟩, xl⟩ := Box.six HX6.out
      clear hb6
      go_wp2_with fail
      have bx9 := HX6.out.set (.int .i64 7) (.int .i64 0) (.float .f64 0) (.string ⟨#[]⟩) (.slice (some ⟨g, 0, none⟩) KL c3)
      obtain ⟨⟨k0, k1', k2, k3, k4⟩, -, -⟩ := Box.six bx9
      simp only [set5] at k0 k1' k2 k3 k4
      obtain ⟨X, hX⟩ : ∃ X, ks.set j (.mk kx nx fx sx ax cx ksx) = X := ⟨_, rfl⟩
      have hXl : X.length = KL := by rw [← hX, List.length_set]; exact HKL.out
      rw [hX] at HO6
      have hmem : ∀ t, t ∈ X → t ∈ ks ∨ t = .mk kx nx fx sx ax cx ksx := fun t ht => by rw [← hX] at ht; exact List.mem_or_eq_of_mem_set ht
      refine bodyPost_ret (v := (Tr.mk 7 0 0 ⟨#[]⟩ (some ⟨g, 0, none⟩) c3 X).val) (by simp [Tr.val, Tr.cells, hXl, results, Tryz.results68, go_sem, k0, k1', k2, k3, k4]) rfl ?_
      rw [← HPP.out]
      have hwl : w.heap.size ≤ W.heap.size := HWS.out
      have hG := HG.out
      have hkon : ∀ t, t ∈ X → t.On (fun q => q < w.heap.size) := by
        intro t ht
        rcases hmem t ht with h | rfl
        · exact on_kid HON.out h
        · exact HOX.out
      have hkin : ∀ t, t ∈ X → t.In w6 0 := by
        intro t ht
        rcases hmem t ht with h | rfl
        · have h1 := in_below HB6.out HI1.out
          unfold Tr.In at h1
          obtain ⟨i, hi⟩ := List.getElem?_of_mem h
          cases a1 with
          | none =>
            have h0 := h1.1.2.2.2.2.2.2 rfl
            have h2 := h1.1.2.2.2.2.1
            have := (List.getElem?_eq_some_iff.1 hi).1
            omega
          | some ad => exact (inAll_get (h1.2 ad rfl).2 i t hi).2
        · exact in_below HB6.out HIX.out
      have hin6 : (Tr.mk 7 0 0 ⟨#[]⟩ (some ⟨g, 0, none⟩) c3 X).In w6 0 := by
        have ho : w6.ownsRow 0 25 5 (.slice (some ⟨g, 0, none⟩) KL c3) X.length (X.flatMap Tr.cells) := by rw [hXl]; exact row_low HO6.out
        have hkk : ∀ t, t ∈ X → t.In w6 0 ∧ t.On (fun b => (Value.slice (some ⟨g, 0, none⟩) KL c3).ownBlock ≠ some b ∧ b < w6.heap.size ∧ 0 ≤ b) := by
          intro t ht
          refine ⟨hkin t ht, on_mono (fun q hq => ?_) _ (hkon t ht)⟩
          refine ⟨fun e => ?_, by have := HB6.out.size; omega, Nat.zero_le _⟩
          simp only [Value.ownBlock, Option.some.injEq] at e
          omega
        obtain ⟨a9, c9, he, hin9⟩ := rows_tree (w := w6) (base := 0) (v := .slice (some ⟨g, 0, none⟩) KL c3) (ds := X) ⟨ho, hkk⟩ 7 0 0 ⟨#[]⟩ (by decide) (by decide) (by decide) (by show 0 ≤ maxLen; omega)
        obtain ⟨rfl, -, rfl⟩ : some ⟨g, 0, none⟩ = a9 ∧ KL = X.length ∧ c3 = c9 := by simpa using he
        exact hin9
      have hon6 : (Tr.mk 7 0 0 ⟨#[]⟩ (some ⟨g, 0, none⟩) c3 X).On (fun q => q < w.heap.size ∨ W.heap.size + 2 ≤ q) := by
        unfold Tr.On
        refine ⟨fun h0 ad had => .inr ?_, ?_⟩
        · obtain rfl : (⟨g, 0, none⟩ : Addr) = ad := by simpa using had
          exact hG
        · have : ∀ l : List Tr, (∀ t ∈ l, t ∈ X) → Tr.OnAll (fun q => q < w.heap.size ∨ W.heap.size + 2 ≤ q) l := by
            intro l
            induction l with
            | nil => intro _; unfold Tr.OnAll; trivial
            | cons t r ih =>
              intro hl
              unfold Tr.OnAll
              exact ⟨on_mono (fun q hq => .inl hq) _ (hkon t (hl t (by simp))), ih (fun u hu => hl u (by simp [hu]))⟩
          exact this X (fun t h => h)
      have hks : ∀ t, t ∈ X → Small t ∧ cnT t ≤ 1000000 := fun t ht => HSM.out t (by rcases hmem t ht with h | rfl <;> simp [*])
      refine ⟨(((((HB6.out.setCell (by simp) _).setCell (by simp) _).setCell (by simp) _).setCell (by simp) _).setCell (by simp) _), .inl ⟨_, rfl, ?_, ?_, on_mono (fun q hq => by omega) _ hon6, ?_, ?_⟩⟩
      · have := HP.out (by first | rfl | trivial) (by rw [HKL.out]; exact HJ.out.2.2) (some ⟨g, 0, none⟩) c3
        rw [show (n - 1).toNat = j by have := HJ.out.1; omega, hX] at this
        exact this
      · exact in_on5 (B := w.heap.size) (c := W.heap.size + 2) hin6 hon6 (by omega) (by omega) _ _ _ _ _
      · unfold Small; exact ⟨by have := HLE.out; omega, smallAll_of fun t ht => (hks t ht).1⟩
      · unfold cnT
        have h1 := cnA_le (fun t ht => (hks t ht).2)
        have h2 : X.length * 1000000 ≤ 200 * 1000000 := Nat.mul_le_mul_right _ (by have := HLE.out; omega)
        omega
    · refine ⟨rfl, ?_⟩
      rw [← HPP.out]
      exact ⟨HB3.out.trans ((undrew hb4).mono HB3.out.size), .inr ⟨_, rfl, HE.out (.inr (by rw [HKL.out]; exact hpl))⟩⟩
  · have EL := hidb (fun W1 (hb : Below W.heap.size W W1) => elementsF_no (nm := nm) (kd := 7) (in_below hb HIW) (i := 1) rfl h7)
    simp only [List.length_cons, List.length_nil] at EL
    have HE2 := hidb (HE.out (.inl h7))
    obtain ⟨V1, hV1⟩ : ∃ V1, ((W.alloc (.cells #[.string nm, .slice (some ⟨b, o, none⟩) 3 c, noneF] CT)).alloc (.cells #[.int .i64 0, .int .i64 0, .float .f64 0, .string ⟨#[]⟩, .slice none 0 0] 25)) = V1 := ⟨_, rfl⟩
    have HC0 : Hid (Tri V1 W.heap.size (.string nm) (.slice (some ⟨b, o, none⟩) 3 c) noneF) := hidb (by rw [← hV1]; exact (Tri.new W _ _ _ _).keep (below_new _ _))
    have HBW : Hid (Below W.heap.size W V1) := hidb (by rw [← hV1]; exact (below_new W _).alloc (by simp) _)
    have HV1 := hidb hV1
    obtain ⟨PP, hPP⟩ : ∃ PP : Ending → World → Prop, Tld P E w.heap.size W = PP := ⟨_, rfl⟩
    have HPP := hidb hPP
    rw [hPP]
    clear hV1 hPP
    clear hP hE hW hin hin1 hsm hlen v0 v1 v2 v3 v4 u0 u1 u2 u3 u4 h7 HP HE HPL
    go_enter Tryz.func68, Tryz.ntmps68
    go_wp2_with fail
    rw [HV1.out]
    refine (EL.out _ HBW.out).mono ?_
    rintro e w2 ⟨rfl, hb2⟩
    refine ⟨rfl, ?_⟩
    rw [← HPP.out]
    exact ⟨HBW.out.trans (hb2.mono HBW.out.size), .inr ⟨_, rfl, HE2.out⟩⟩
end Go.Proofs.YtajadhkpadkikaaGreatDoor


