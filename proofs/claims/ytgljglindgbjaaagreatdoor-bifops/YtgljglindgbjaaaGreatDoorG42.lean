import Derived.Test.YtgljglindgbjaaaGreatDoorG41
import Derived.Test.YtgljglindgbjaaaGreatDoorG38
import Derived.Test.YtgljglindgbjaaaGreatDoorG19
/- ++ of any two lists. -/
namespace Go.Proofs.YtgljglindgbjaaaGreatDoor
open Go.RowKit Go.Lib Go.Deep
attribute [local go_sem] store_float f64bits store_func store_nilFunc
attribute [local go_sem ↓] Go.wp_at_zero Go.wp_at_succ

set_option maxHeartbeats 1600000 in
set_option maxRecDepth 100000 in
theorem joined2_tc {w : World} {a : Option Addr} {c : Nat} {k n : Int} {f : Nat} {s : ByteArray} {a1 : Option Addr} {c1 : Nat} {ks : List Tr} {k2 n2 : Int} {f2 : Nat} {s2 : ByteArray} {a2 : Option Addr} {c2 : Nat} {ks2 : List Tr} {nm : ByteArray} {P : Tr → Prop} {E : Int → Prop} (hin : ArgsIn w a c [.mk k n f s a1 c1 ks, .mk k2 n2 f2 s2 a2 c2 ks2])
    (hsm : k = 8 → k2 = 8 → Small (.mk 8 0 0 ⟨#[]⟩ none 0 (ks ++ ks2)) ∧ cnT (.mk 8 0 0 ⟨#[]⟩ none 0 (ks ++ ks2)) ≤ 1000000000 ∧ ks.length + ks2.length ≤ 65536)
    (hP : k = 8 → k2 = 8 → ∀ a' c', P (.mk 8 0 0 ⟨#[]⟩ a' c' (ks ++ ks2))) (hE : k ≠ 8 ∨ k2 ≠ 8 → E 13) :
    TC 39 P E (.agg #[.string nm, .slice a 2 c, .nilFunc]) w := by
  refine ⟨fun args w => by kernel_rfl, fun W hW => ?_⟩
  have HP := hidb hP
  have HE := hidb hE
  have HWS := hidb hW.size
  have HIW := hidb (in_below hW hin)
  obtain ⟨b, o, rfl, hbW, v0, v1, v2, v3, v4, hin0⟩ := argi hin hW (i := 0) rfl
  obtain ⟨b2, o2, e2, -, u0, u1, u2, u3, u4, hin1⟩ := argi hin hW (i := 1) rfl
  have HON := hidb (onAll_get (t := .mk k n f s a1 c1 ks) (by have := on_all _ hin; unfold Tr.On at this; exact this.2) (by simp))
  have HI0 := hidb hin0
  have HI1 := hidb hin1
  have HON2 := hidb (onAll_get (t := .mk k2 n2 f2 s2 a2 c2 ks2) (by have := on_all _ hin; unfold Tr.On at this; exact this.2) (by simp))
  have HSM := hidb hsm
  obtain ⟨V1, hV1⟩ : ∃ V1, ((W.alloc (.cells #[.string nm, .slice (some ⟨b, o, none⟩) 2 c, .nilFunc] CT)).alloc (.cells #[.int .i64 0, .int .i64 0, .float .f64 0, .string ⟨#[]⟩, .slice none 0 0] 27)) = V1 := ⟨_, rfl⟩
  have HX0 : Hid (Box V1 (W.heap.size + 1) (.int .i64 0) (.int .i64 0) (.float .f64 0) (.string ⟨#[]⟩) (.slice none 0 0)) := hidb (by
    rw [← hV1]
    have := Box.new (W.alloc (.cells #[.string nm, .slice (some ⟨b, o, none⟩) 2 c, .nilFunc] CT)) 27 (.int .i64 0) (.int .i64 0) (.float .f64 0) (.string ⟨#[]⟩) (.slice none 0 0)
    simpa using this)
  have HC0 : Hid (Tri V1 W.heap.size (.string nm) (.slice (some ⟨b, o, none⟩) 2 c) .nilFunc) := hidb (by rw [← hV1]; exact (Tri.new W _ _ _ _).keep (below_new _ _))
  have HBW : Hid (Below W.heap.size W V1) := hidb (by rw [← hV1]; exact (below_new W _).alloc (by simp) _)
  have HV1 := hidb hV1
  obtain ⟨PP, hPP⟩ : ∃ PP : Ending → World → Prop, Tld P E w.heap.size W = PP := ⟨_, rfl⟩
  have HPP := hidb hPP
  rw [hPP]
  clear hV1 hPP
  have HSA : Hid (∀ W9, Below V1.heap.size V1 W9 → (fun W9 => W9.cell? ⟨W.heap.size, 0, none⟩ = some (.string nm) ∧ W9.cell? ⟨W.heap.size, 1, none⟩ = some (.slice (some ⟨b, o, none⟩) 2 c) ∧ W9.cell? ⟨W.heap.size, 2, none⟩ = some .nilFunc) W9) := hidb (fun W9 hb => ⟨(HC0.out.keep hb).c0, (HC0.out.keep hb).c1, (HC0.out.keep hb).c2⟩)
  have HS0 := hidb (HSA.out V1.drew (Below.refl _ _).drew)
  clear hP hE hW hin hin0 hin1 hsm v0 v1 v2 v3 v4 u0 u1 u2 u3 u4 e2
  by_cases h8 : k = 8
  · subst h8
    by_cases h82 : k2 = 8
    · subst h82
      have EL0 := hidb (fun W1 (hb : Below W.heap.size W W1) => elementsN_ok (nm := nm) (in_below hb HIW.out) (i := 0) rfl)
      have EL1 := hidb (fun W1 (hb : Below W.heap.size W W1) => elementsN_ok (nm := nm) (in_below hb HIW.out) (i := 1) rfl)
      simp only [List.length_cons, List.length_nil] at EL0 EL1
      have CC := hidb (fun W1 (hb : Below W.heap.size W W1) rb (h0 : W1.cell? ⟨rb, 0, none⟩ = some (.slice a1 ks.length c1)) (h1 : W1.cell? ⟨rb, 1, none⟩ = some (.slice a2 ks2.length c2)) => concat_two (W := W1) (rb := rb) (a1 := a1) (c1 := c1) (kids := ks) (a2 := a2) (c2 := c2) (kids2 := ks2) (by have := in_below hb HI0.out; unfold Tr.In at this ⊢; exact ⟨⟨by decide, by decide, by decide, by show 0 ≤ maxLen; omega, this.1.2.2.2.2⟩, this.2⟩) (by have := in_below hb HI1.out; unfold Tr.In at this ⊢; exact ⟨⟨by decide, by decide, by decide, by show 0 ≤ maxLen; omega, this.1.2.2.2.2⟩, this.2⟩) h0 h1 (HSM.out rfl rfl).2.2)
      obtain ⟨N, hN⟩ : ∃ N, ks.length = N := ⟨_, rfl⟩
      obtain ⟨M, hM⟩ : ∃ M, ks2.length = M := ⟨_, rfl⟩
      have HN := hidb (And.intro hN hM)
      rw [hN] at EL0 CC
      rw [hM] at EL1 CC
      obtain ⟨XS, hXS⟩ : ∃ XS, ks.flatMap Tr.cells ++ ks2.flatMap Tr.cells = XS := ⟨_, rfl⟩
      have HXS := hidb hXS
      rw [hXS] at CC
      obtain ⟨NM, hNM⟩ : ∃ NM, N + M = NM := ⟨_, rfl⟩
      have HNM := hidb hNM
      rw [hNM] at CC
      clear hN hM hXS hNM
      go_enter Tryz.func39, Tryz.ntmps39
      go_wp2_with fail
      rw [HV1.out]
      refine wp_region_D (fun W9 => W9.cell? ⟨W.heap.size, 0, none⟩ = some (.string nm) ∧ W9.cell? ⟨W.heap.size, 1, none⟩ = some (.slice (some ⟨b, o, none⟩) 2 c) ∧ W9.cell? ⟨W.heap.size, 2, none⟩ = some .nilFunc) [7] (by kernel_rfl) ?_
      refine wpAnyD_takeL (i := 0) (v := ?vv0z) rfl (by kernel_rfl) (by kernel_rfl) (by kernel_rfl) (by kernel_rfl) (fun _ _ _ h => h) HS0.out rfl ?hy0z ?_
      case hy0z => intro wy hSw; obtain ⟨z0, z1, z2⟩ := hSw; go_simp; try with_reducible rfl
      simp only [Act.put, List.setIfInBounds_toArray, List.set_cons_zero, List.set_cons_succ]
      refine wpAnyD_takeL (i := 2) (v := ?vv2z) rfl (by kernel_rfl) (by kernel_rfl) (by kernel_rfl) (by kernel_rfl) (fun _ _ _ h => h) HS0.out rfl ?hy2z ?_
      case hy2z => intro wy hSw; obtain ⟨z0, z1, z2⟩ := hSw; go_simp; try with_reducible rfl
      simp only [Act.put, List.setIfInBounds_toArray, List.set_cons_zero, List.set_cons_succ]
      refine wpAnyD_stepL (i := 1) (by kernel_rfl) rfl (fun K hK => ?_)
      refine step_callB (by simp [Region.wanted]) (run_call ent_elements #[.tmp 3, .const (.int .i64 0), .const (.int .i64 8)] _ rfl #[.agg #[.string nm, .slice (some ⟨b, o, none⟩) 2 c, .nilFunc], .int .i64 0, .int .i64 8] rfl) (EL0.out V1.drew HBW.out.drew) ?_
      rintro e w2 ⟨rfl, hb2⟩
      have HV2 := hidb (undrew hb2)
      refine hK _ _ (fun _ => HSA.out w2 HV2.out) ?_
      clear hK K hb2 HS0
      simp only [Act.put, List.setIfInBounds_toArray, List.set_cons_zero, List.set_cons_succ]
      refine wpAnyD_stepL (i := 3) (by kernel_rfl) rfl (fun K hK => ?_)
      refine step_callB (by simp [Region.wanted]) (run_call ent_elements #[.tmp 5, .const (.int .i64 1), .const (.int .i64 8)] _ rfl #[.agg #[.string nm, .slice (some ⟨b, o, none⟩) 2 c, .nilFunc], .int .i64 1, .int .i64 8] rfl) (EL1.out w2 (HBW.out.trans (HV2.out.mono HBW.out.size))) ?_
      rintro e w3 ⟨rfl, hb3⟩
      have HV3 := hidb (HV2.out.trans (hb3.mono HV2.out.size))
      refine hK _ _ (fun _ => HSA.out w3 HV3.out) ?_
      clear hK K hb3
      simp only [Act.put, List.setIfInBounds_toArray, List.set_cons_zero, List.set_cons_succ]
      refine wpAnyD_stepL (i := 4) (by kernel_rfl) rfl (fun K hK => ?_)
      go_simp
      refine hK _ _ (fun _ => HSA.out _ (HV3.out.alloc HV3.out.size _)) ?_
      clear hK K
      obtain ⟨W4, hW4⟩ : ∃ W4, w3.alloc (.cells #[.slice a1 N c1, .slice a2 M c2] 22) = W4 := ⟨_, rfl⟩
      have HV4 : Hid (Below V1.heap.size V1 W4) := hidb (by rw [← hW4]; exact HV3.out.alloc HV3.out.size _)
      have hc0 : W4.cell? ⟨w3.heap.size, 0, none⟩ = some (.slice a1 N c1) := by rw [← hW4, World.cell?_alloc_new]; rfl
      have hc1 : W4.cell? ⟨w3.heap.size, 1, none⟩ = some (.slice a2 M c2) := by rw [← hW4, World.cell?_alloc_new]; rfl
      rw [hW4]
      clear hW4
      refine wpAnyD_stepL (i := 5) (by kernel_rfl) rfl (fun K hK => ?_)
      refine step_callB (by simp [Region.wanted]) (run_call ent_concat #[.tmp 7] _ rfl #[.slice (some ⟨w3.heap.size, 0, none⟩) 2 2] rfl) (CC.out W4 (HBW.out.trans (HV4.out.mono HBW.out.size)) w3.heap.size hc0 hc1) ?_
      rintro e w5 ⟨v5, rfl, hown5, hb5⟩
      obtain ⟨q5, c5, rfl⟩ := own_sl hown5
      have HV5 := hidb (HV4.out.trans (hb5.mono HV4.out.size))
      have HO5 := hidb hown5
      have HZ4 := hidb HV4.out.size
      refine hK _ _ (fun _ => HSA.out w5 HV5.out) ?_
      clear hK K hb5 hown5 hc0 hc1
      simp only [Act.put, List.setIfInBounds_toArray, List.set_cons_zero, List.set_cons_succ]
      refine wpAnyD_stepL (i := 6) (by kernel_rfl) rfl (fun K hK => ?_)
      refine step_callB (by simp [Region.wanted]) (run_call ent_list #[.tmp 8] _ rfl #[.slice q5 NM c5] rfl) (list_any q5 NM c5 w5) ?_
      rintro e w6 ⟨rfl, hb6⟩
      have HV6 := hidb (HV5.out.trans (hb6.mono HV5.out.size))
      have HO6 := hidb (row_but HO5.out (But.of_below (S := fun _ => False) hb6) (fun _ _ h => h))
      have HX6 := hidb (HX0.out.keep HV6.out)
      refine hK _ _ (fun _ => HSA.out w6 HV6.out) ?_
      clear hK K hb6
      simp only [Act.put, List.setIfInBounds_toArray, List.set_cons_zero, List.set_cons_succ]
      obtain ⟨⟨x0, x1, x2, x3, x4⟩, ⟨y0, y1, y2, y3, y4⟩, xl⟩ := Box.six HX6.out
      refine wpAnyD_stepL (i := 7) (by kernel_rfl) rfl (fun K hK => ?_)
      go_simp
      refine hK _ _ (fun h => absurd (List.mem_singleton.2 rfl) h) ?_
      clear hK K
      refine wpAnyD_done (by kernel_rfl) ?_ _
      go_wp2_with fail
      have bx9 := HX6.out.set (.int .i64 8) (.int .i64 0) (.float .f64 0) (.string ⟨#[]⟩) (.slice q5 NM c5)
      obtain ⟨⟨k0, k1', k2, k3, k4⟩, -, -⟩ := Box.six bx9
      simp only [set5] at k0 k1' k2 k3 k4
      refine bodyPost_ret (v := (Tr.mk 8 0 0 ⟨#[]⟩ q5 c5 (ks ++ ks2)).val) (by simp [Tr.val, Tr.cells, HN.out.1, HN.out.2, HNM.out, results, Tryz.results39, go_sem, k0, k1', k2, k3, k4]) rfl ?_
      rw [← HPP.out]
      have hbW6 : Below W.heap.size W w6 := HBW.out.trans (HV6.out.mono HBW.out.size)
      have hwl : w.heap.size ≤ W.heap.size := HWS.out
      have hvz : W.heap.size + 1 < V1.heap.size := HX0.out.lt
      have hin6 : (Tr.mk 8 0 0 ⟨#[]⟩ q5 c5 (ks ++ ks2)).In w6 0 := by
        have ho : w6.ownsRow 0 27 5 (.slice q5 NM c5) (ks ++ ks2).length ((ks ++ ks2).flatMap Tr.cells) := by rw [List.length_append, HN.out.1, HN.out.2, HNM.out, List.flatMap_append, HXS.out]; exact row_low HO6.out
        have hkk : ∀ t, t ∈ ks ++ ks2 → t.In w6 0 ∧ t.On (fun b => (Value.slice q5 NM c5).ownBlock ≠ some b ∧ b < w6.heap.size ∧ 0 ≤ b) := by
          intro t ht
          rcases List.mem_append.1 ht with ht | ht
          · skip
            constructor
            · have h1 := in_below hbW6 HI0.out
              unfold Tr.In at h1
              obtain ⟨j, hj⟩ := List.getElem?_of_mem ht
              cases a1 with
              | none =>
                have h0 := h1.1.2.2.2.2.2.2 rfl
                have h2 := h1.1.2.2.2.2.1
                have := (List.getElem?_eq_some_iff.1 hj).1
                omega
              | some ad => exact (inAll_get (h1.2 ad rfl).2 j t hj).2
            · refine on_mono (fun q hq => ?_) _ (on_kid HON.out ht)
              refine ⟨fun e => ?_, by have := hbW6.size; omega, Nat.zero_le _⟩
              have := (row_lt HO6.out q e).2
              have := HZ4.out
              have := HBW.out.size
              omega
          · skip
            constructor
            · have h1 := in_below hbW6 HI1.out
              unfold Tr.In at h1
              obtain ⟨j, hj⟩ := List.getElem?_of_mem ht
              cases a2 with
              | none =>
                have h0 := h1.1.2.2.2.2.2.2 rfl
                have h2 := h1.1.2.2.2.2.1
                have := (List.getElem?_eq_some_iff.1 hj).1
                omega
              | some ad => exact (inAll_get (h1.2 ad rfl).2 j t hj).2
            · refine on_mono (fun q hq => ?_) _ (on_kid HON2.out ht)
              refine ⟨fun e => ?_, by have := hbW6.size; omega, Nat.zero_le _⟩
              have := (row_lt HO6.out q e).2
              have := HZ4.out
              have := HBW.out.size
              omega
        obtain ⟨a9, c9, he, hin9⟩ := rows_tree (w := w6) (base := 0) (v := .slice q5 NM c5) (ds := ks ++ ks2) ⟨ho, hkk⟩ 8 0 0 ⟨#[]⟩ (by decide) (by decide) (by decide) (by show 0 ≤ maxLen; omega)
        obtain ⟨rfl, -, rfl⟩ : q5 = a9 ∧ NM = (ks ++ ks2).length ∧ c5 = c9 := by simpa using he
        exact hin9
      have hon6 : (Tr.mk 8 0 0 ⟨#[]⟩ q5 c5 (ks ++ ks2)).On (fun q => q < w.heap.size ∨ W.heap.size + 2 ≤ q) := by
        unfold Tr.On
        refine ⟨fun h0 ad had => .inr ?_, ?_⟩
        · have := (row_lt HO6.out ad.block (by subst had; rcases HO6.out.2 with ⟨h, _⟩ | ⟨g, cap, cur, h, _⟩ <;> simp_all [Value.ownBlock])).2
          have := HZ4.out
          omega
        · have : ∀ l : List Tr, (∀ t ∈ l, t ∈ ks ++ ks2) → Tr.OnAll (fun q => q < w.heap.size ∨ W.heap.size + 2 ≤ q) l := by
            intro l
            induction l with
            | nil => intro _; unfold Tr.OnAll; trivial
            | cons t r ih =>
              intro hl
              unfold Tr.OnAll
              exact ⟨(by rcases List.mem_append.1 (hl t (by simp)) with h | h; exact on_mono (fun q hq => .inl hq) _ (on_kid HON.out h); exact on_mono (fun q hq => .inl hq) _ (on_kid HON2.out h)), ih (fun u hu => hl u (by simp [hu]))⟩
          exact this (ks ++ ks2) (fun t h => h)
      refine ⟨(((((hbW6.setCell (by simp) _).setCell (by simp) _).setCell (by simp) _).setCell (by simp) _).setCell (by simp) _), .inl ⟨_, rfl, HP.out (by first | rfl | trivial) (by first | rfl | trivial) _ _, ?_, on_mono (fun q hq => by omega) _ hon6, ?_, ?_⟩⟩
      · exact in_on5 (B := w.heap.size) (c := W.heap.size + 2) hin6 hon6 (by omega) (by omega) _ _ _ _ _
      · have := (HSM.out (by first | rfl | trivial) (by first | rfl | trivial)).1; unfold Small at this ⊢; exact this
      · have := (HSM.out (by first | rfl | trivial) (by first | rfl | trivial)).2.1; unfold cnT at this ⊢; exact this
    · have EL0 := hidb (fun W1 (hb : Below W.heap.size W W1) => elementsN_ok (nm := nm) (in_below hb HIW.out) (i := 0) rfl)
      have EL1 := hidb (fun W1 (hb : Below W.heap.size W W1) => elementsN_no (nm := nm) (kd := 8) (in_below hb HIW.out) (i := 1) rfl h82)
      simp only [List.length_cons, List.length_nil] at EL0 EL1
      generalize ks.length = N at EL0
      have HE2 := hidb (HE.out (.inr h82))
      clear h82 HP HE
      go_enter Tryz.func39, Tryz.ntmps39
      go_wp2_with fail
      rw [HV1.out]
      refine wp_region_D (fun W9 => W9.cell? ⟨W.heap.size, 0, none⟩ = some (.string nm) ∧ W9.cell? ⟨W.heap.size, 1, none⟩ = some (.slice (some ⟨b, o, none⟩) 2 c) ∧ W9.cell? ⟨W.heap.size, 2, none⟩ = some .nilFunc) [7] (by kernel_rfl) ?_
      refine wpAnyD_takeL (i := 0) (v := ?vv0x) rfl (by kernel_rfl) (by kernel_rfl) (by kernel_rfl) (by kernel_rfl) (fun _ _ _ h => h) HS0.out rfl ?hy0x ?_
      case hy0x => intro wy hSw; obtain ⟨z0, z1, z2⟩ := hSw; go_simp; try with_reducible rfl
      simp only [Act.put, List.setIfInBounds_toArray, List.set_cons_zero, List.set_cons_succ]
      refine wpAnyD_takeL (i := 2) (v := ?vv2x) rfl (by kernel_rfl) (by kernel_rfl) (by kernel_rfl) (by kernel_rfl) (fun _ _ _ h => h) HS0.out rfl ?hy2x ?_
      case hy2x => intro wy hSw; obtain ⟨z0, z1, z2⟩ := hSw; go_simp; try with_reducible rfl
      simp only [Act.put, List.setIfInBounds_toArray, List.set_cons_zero, List.set_cons_succ]
      refine wpAnyD_stepL (i := 1) (by kernel_rfl) rfl (fun K hK => ?_)
      refine step_callB (by simp [Region.wanted]) (run_call ent_elements #[.tmp 3, .const (.int .i64 0), .const (.int .i64 8)] _ rfl #[.agg #[.string nm, .slice (some ⟨b, o, none⟩) 2 c, .nilFunc], .int .i64 0, .int .i64 8] rfl) (EL0.out V1.drew HBW.out.drew) ?_
      rintro e w2 ⟨rfl, hb2⟩
      have HV2 := hidb (undrew hb2)
      refine hK _ _ (fun _ => HSA.out w2 HV2.out) ?_
      clear hK K hb2 HS0
      simp only [Act.put, List.setIfInBounds_toArray, List.set_cons_zero, List.set_cons_succ]
      refine wpAnyD_stepL (i := 3) (by kernel_rfl) rfl (fun K hK => ?_)
      refine step_callB (by simp [Region.wanted]) (run_call ent_elements #[.tmp 5, .const (.int .i64 1), .const (.int .i64 8)] _ rfl #[.agg #[.string nm, .slice (some ⟨b, o, none⟩) 2 c, .nilFunc], .int .i64 1, .int .i64 8] rfl) (EL1.out w2 (HBW.out.trans (HV2.out.mono HBW.out.size))) ?_
      rintro e w3 ⟨rfl, hb3⟩
      refine ⟨rfl, ?_⟩
      rw [← HPP.out]
      exact ⟨HBW.out.trans ((HV2.out.trans (hb3.mono HV2.out.size)).mono HBW.out.size), .inr ⟨_, rfl, HE2.out⟩⟩
  · have EL0 := hidb (fun W1 (hb : Below W.heap.size W W1) => elementsN_no (nm := nm) (kd := 8) (in_below hb HIW.out) (i := 0) rfl h8)
    simp only [List.length_cons, List.length_nil] at EL0
    have HE2 := hidb (HE.out (.inl h8))
    clear h8 HP HE
    go_enter Tryz.func39, Tryz.ntmps39
    go_wp2_with fail
    rw [HV1.out]
    refine wp_region_D (fun W9 => W9.cell? ⟨W.heap.size, 0, none⟩ = some (.string nm) ∧ W9.cell? ⟨W.heap.size, 1, none⟩ = some (.slice (some ⟨b, o, none⟩) 2 c) ∧ W9.cell? ⟨W.heap.size, 2, none⟩ = some .nilFunc) [7] (by kernel_rfl) ?_
    refine wpAnyD_takeL (i := 0) (v := ?vv0y) rfl (by kernel_rfl) (by kernel_rfl) (by kernel_rfl) (by kernel_rfl) (fun _ _ _ h => h) HS0.out rfl ?hy0y ?_
    case hy0y => intro wy hSw; obtain ⟨z0, z1, z2⟩ := hSw; go_simp; try with_reducible rfl
    simp only [Act.put, List.setIfInBounds_toArray, List.set_cons_zero, List.set_cons_succ]
    refine wpAnyD_takeL (i := 2) (v := ?vv2y) rfl (by kernel_rfl) (by kernel_rfl) (by kernel_rfl) (by kernel_rfl) (fun _ _ _ h => h) HS0.out rfl ?hy2y ?_
    case hy2y => intro wy hSw; obtain ⟨z0, z1, z2⟩ := hSw; go_simp; try with_reducible rfl
    simp only [Act.put, List.setIfInBounds_toArray, List.set_cons_zero, List.set_cons_succ]
    refine wpAnyD_stepL (i := 1) (by kernel_rfl) rfl (fun K hK => ?_)
    refine step_callB (by simp [Region.wanted]) (run_call ent_elements #[.tmp 3, .const (.int .i64 0), .const (.int .i64 8)] _ rfl #[.agg #[.string nm, .slice (some ⟨b, o, none⟩) 2 c, .nilFunc], .int .i64 0, .int .i64 8] rfl) (EL0.out V1.drew HBW.out.drew) ?_
    rintro e w2 ⟨rfl, hb2⟩
    refine ⟨rfl, ?_⟩
    rw [← HPP.out]
    exact ⟨HBW.out.trans ((undrew hb2).mono HBW.out.size), .inr ⟨_, rfl, HE2.out⟩⟩
end Go.Proofs.YtgljglindgbjaaaGreatDoor


/- The document's ++. -/
namespace Go.Proofs.YtgljglindgbjaaaGreatDoor
open Go.RowKit Go.Lib Go.Deep
attribute [local go_sem] store_float f64bits
attribute [local go_sem ↓] Go.wp_at_zero Go.wp_at_succ

/-- A row of terms appended, at a step of a region that draws its order. -/
theorem step_appR {w : World} {ops : Array Oper} {o : Oper} {a : Act} {K : Act → World → Prop} {Q : Exit → Act → World → Prop} {E : Prop} (hgd : o.guard = none) (s x : Operand)
    (ho : o.op = .call { callee := .builtin .append, args := #[s, x], argTypes := #[22, 22] })
    (base : Nat) {v : Value} {n : Nat} {xs : List Value} (hs : a.eval s = v) (hown : w.ownsRow base 27 5 v n xs) {a1 : Option Addr} {c1 M : Nat} {kids : List Tr} (hx : a.eval x = .slice a1 M c1) (hM : kids.length = M) (hin : ArgsIn w a1 c1 kids) (hle : n + M ≤ 200000) (hbase : base ≤ w.heap.size)
    (h : ∀ v' w', w'.ownsRow base 27 5 v' (n + M) (xs ++ kids.flatMap Tr.cells) → w.grownBy w' v.ownBlock → K (a.put o.dst v') w') :
    if Region.wanted o (yielded ops a.tmps) = true then Oper.wp Tryz.prog o a w K Q else E := by
  obtain ⟨i0, hi, hz0, hs0, hb0⟩ := infoT5'
  cases a1 with
  | none =>
    obtain ⟨rfl, rfl⟩ := row_nil hin
    obtain rfl : 0 = M := hM
    refine step_app0 hgd s x 22 ho base 27 i0 5 Tryz.underlying22 hi v n xs hs hown hx (h v w (by simpa using hown) ⟨rfl, rfl, rfl, Nat.le_refl _, fun _ _ _ => rfl⟩)
  | some ad =>
    obtain ⟨hnews, hone, hl⟩ := row_news hin
    rw [hM] at hl
    exact step_app hgd s x 22 ho base 27 i0 (.agg #[.int .i64 0, .int .i64 0, .float .f64 0, .string ⟨#[]⟩, .slice none 0 0]) 5 64 Tryz.underlying22 hi hz0 hs0 hb0 rfl (by decide) v n xs hs hown ad M c1 _ hx hl hnews hone (by unfold maxLen; omega) (by omega) hbase (fun v' w' h1 h2 _ => h v' w' h1 h2)
theorem ent_right9 : Ent 23 := by
  intro args w
  kernel_rfl
set_option maxHeartbeats 8000000 in
set_option maxRecDepth 100000 in
theorem rop_join {w : World} {a : Option Addr} {c : Nat} {k n : Int} {f : Nat} {s : ByteArray} {a' : Option Addr} {c' : Nat} {ks : List Tr} {k1 n1 : Int} {f1 : Nat} {s1 : ByteArray} {a1 : Option Addr} {c1 : Nat} {ks1 : List Tr} (hin : ArgsIn w a c [.mk k n f s a' c' ks, .mk k1 n1 f1 s1 a1 c1 ks1])
    (hsm : k = 8 → k1 = 8 → Small (.mk 8 0 0 ⟨#[]⟩ none 0 (ks ++ ks1)) ∧ SmallW (.mk 8 0 0 ⟨#[]⟩ none 0 (ks ++ ks1)) ∧ ks.length + ks1.length ≤ 65536) :
    Calls Tryz.prog 7 #[.string ⟨#[43, 43]⟩, .slice a 2 c] w (OutS (if k = 8 ∧ k1 = 8 then outT (.mk 8 0 0 ⟨#[]⟩ none 0 (ks ++ ks1)) else .inr 13) w) := by
  obtain ⟨b, o, rfl, hbW, v0, v1, v2, v3, v4, hin0⟩ := argi hin (Below.refl _ _) (i := 0) rfl
  obtain ⟨b2, o2, e, -, u0, u1, u2, u3, u4, hin1⟩ := argi hin (Below.refl _ _) (i := 1) rfl
  obtain ⟨rfl, rfl⟩ : b = b2 ∧ o = o2 := by simpa using e
  simp only [Nat.zero_mul, Nat.add_zero, Nat.one_mul] at v0 v1 v2 v3 v4 u0 u1 u2 u3 u4
  have HSM := hidb hsm
  have HI0 := hidb hin0
  have HI1 := hidb hin1
  have HON := hidb (onAll_get (t := .mk k n f s a' c' ks) (by have := on_all _ hin; unfold Tr.On at this; exact this.2) (by simp))
  have HON2 := hidb (onAll_get (t := .mk k1 n1 f1 s1 a1 c1 ks1) (by have := on_all _ hin; unfold Tr.On at this; exact this.2) (by simp))
  clear hsm hin0 hin1
  obtain ⟨l0, hl0⟩ : ∃ l, ks.length = l := ⟨_, rfl⟩
  obtain ⟨l1, hl1⟩ : ∃ l, ks1.length = l := ⟨_, rfl⟩
  rw [hl0] at v4
  rw [hl1] at u4
  have HL := hidb (And.intro hl0 hl1)
  clear hl0 hl1
  obtain ⟨PP, hPP⟩ : ∃ PP, OutS (if k = 8 ∧ k1 = 8 then outT (.mk 8 0 0 ⟨#[]⟩ none 0 (ks ++ ks1)) else .inr 13) w = PP := ⟨_, rfl⟩
  have HPP := hidb hPP
  rw [hPP]
  clear hin hPP
  obtain ⟨V3, hV3⟩ : ∃ V3, ((w.alloc (.cells #[.int .i64 0, .int .i64 0, .float .f64 0, .string ⟨#[]⟩, .slice none 0 0] 27)).alloc (.cells #[.int .i64 k, .int .i64 n, .float .f64 f, .string s, .slice a' l0 c'] 27)).alloc (.cells #[.int .i64 k1, .int .i64 n1, .float .f64 f1, .string s1, .slice a1 l1 c1] 27) = V3 := ⟨_, rfl⟩
  have hs1 : (w.alloc (.cells #[.int .i64 0, .int .i64 0, .float .f64 0, .string ⟨#[]⟩, .slice none 0 0] 27)).heap.size = w.heap.size + 1 := by simp
  have hs2 : ((w.alloc (.cells #[.int .i64 0, .int .i64 0, .float .f64 0, .string ⟨#[]⟩, .slice none 0 0] 27)).alloc (.cells #[.int .i64 k, .int .i64 n, .float .f64 f, .string s, .slice a' l0 c'] 27)).heap.size = w.heap.size + 1 + 1 := by simp
  have HX0 : Hid (Box V3 w.heap.size (.int .i64 0) (.int .i64 0) (.float .f64 0) (.string ⟨#[]⟩) (.slice none 0 0)) := hidb (by rw [← hV3]; exact ((Box.new w 27 (.int .i64 0) (.int .i64 0) (.float .f64 0) (.string ⟨#[]⟩) (.slice none 0 0)).keep (below_new _ _)).keep (below_new _ _))
  have HA0 : Hid (Box V3 (w.heap.size + 1) (.int .i64 k) (.int .i64 n) (.float .f64 f) (.string s) (.slice a' l0 c')) := hidb (by
    rw [← hV3, ← hs1]; exact (Box.new _ 27 _ _ _ _ _).keep (below_new _ _))
  have HA1 : Hid (Box V3 (w.heap.size + 1 + 1) (.int .i64 k1) (.int .i64 n1) (.float .f64 f1) (.string s1) (.slice a1 l1 c1)) := hidb (by
    rw [← hV3, ← hs2]; exact Box.new _ 27 _ _ _ _ _)
  have HB0 : Hid (Below w.heap.size w V3) := hidb (by rw [← hV3]; exact ((below_new w _).alloc (by simp) _).alloc (by simp; omega) _)
  have HV3 := hidb hV3
  clear hV3 hs1 hs2
  by_cases h8 : k = 8
  · by_cases h82 : k1 = 8
    · subst h8
      subst h82
      go_enter Tryz.func7, Tryz.ntmps7
      go_wp2_with fail
      rw [HV3.out]
      have HSA : Hid (∀ W9, Below V3.heap.size V3 W9 → W9.cell? ⟨w.heap.size + 1, 4, none⟩ = some (.slice a' l0 c') ∧ W9.cell? ⟨w.heap.size + 1 + 1, 4, none⟩ = some (.slice a1 l1 c1)) := hidb (fun W9 hb => ⟨(HA0.out.keep hb).c4, (HA1.out.keep hb).c4⟩)
      refine wp_region_D (fun W9 => W9.cell? ⟨w.heap.size + 1, 4, none⟩ = some (.slice a' l0 c') ∧ W9.cell? ⟨w.heap.size + 1 + 1, 4, none⟩ = some (.slice a1 l1 c1)) [11, 12] (by kernel_rfl) ?_
      have hbd : Below V3.heap.size V3 V3.drew := (Below.refl _ _).drew
      generalize V3.drew = W0 at hbd ⊢
      have HF := hidb hbd
      have HS0 := hidb (HSA.out W0 hbd)
      clear hbd
      refine wpAnyD_takeL (i := 1) (v := ?vv1j) rfl (by kernel_rfl) (by kernel_rfl) (by kernel_rfl) (by kernel_rfl) (fun _ _ _ h => h) HS0.out rfl ?hy1j ?_
      case hy1j => intro wy hSw; obtain ⟨q0, q1⟩ := hSw; go_simp; try with_reducible rfl
      simp only [Act.put, List.setIfInBounds_toArray, List.set_cons_zero, List.set_cons_succ]
      refine wpAnyD_takeL (i := 2) (v := ?vv2j) rfl (by kernel_rfl) (by kernel_rfl) (by kernel_rfl) (by kernel_rfl) (fun _ _ _ h => h) HS0.out rfl ?hy2j ?_
      case hy2j => intro wy hSw; obtain ⟨q0, q1⟩ := hSw; go_simp; try with_reducible rfl
      simp only [Act.put, List.setIfInBounds_toArray, List.set_cons_zero, List.set_cons_succ]
      refine wpAnyD_takeL (i := 4) (v := ?vv4j) rfl (by kernel_rfl) (by kernel_rfl) (by kernel_rfl) (by kernel_rfl) (fun _ _ _ h => h) HS0.out rfl ?hy4j ?_
      case hy4j => intro wy hSw; obtain ⟨q0, q1⟩ := hSw; go_simp; try with_reducible rfl
      simp only [Act.put, List.setIfInBounds_toArray, List.set_cons_zero, List.set_cons_succ]
      refine wpAnyD_takeL (i := 5) (v := ?vv5j) rfl (by kernel_rfl) (by kernel_rfl) (by kernel_rfl) (by kernel_rfl) (fun _ _ _ h => h) HS0.out rfl ?hy5j ?_
      case hy5j => intro wy hSw; obtain ⟨q0, q1⟩ := hSw; go_simp; try with_reducible rfl
      simp only [Act.put, List.setIfInBounds_toArray, List.set_cons_zero, List.set_cons_succ]
      refine wpAnyD_stepL (i := 0) (by kernel_rfl) rfl (fun K hK => ?_)
      go_simp
      have HO1 : Hid ((W0.alloc (.cells #[] 27)).ownsRow V3.heap.size 27 5 (.slice (some ⟨W0.heap.size, 0, none⟩) 0 0) 0 []) := hidb (World.ownsRow_made W0 #[] 0 HF.out.size (by unfold maxLen; omega) (by simp))
      have HF1 := hidb (HF.out.alloc HF.out.size (.cells #[] 27))
      refine hK _ _ (fun _ => HSA.out _ HF1.out) ?_
      clear hK K HS0
      obtain ⟨W1, hW1⟩ : ∃ W1, W0.alloc (.cells #[] 27) = W1 := ⟨_, rfl⟩
      rw [hW1] at HO1 HF1 ⊢
      have HG0 : Hid (W0.heap.size < W1.heap.size ∧ V3.heap.size ≤ W0.heap.size) := hidb ⟨by rw [← hW1]; simp, HF.out.size⟩
      clear hW1
      refine wpAnyD_stepL (i := 3) (by kernel_rfl) rfl (fun K hK => ?_)
      refine step_appR rfl _ _ rfl V3.heap.size rfl HO1.out (a1 := a') (c1 := c') (M := l0) (kids := ks) rfl HL.out.1 (args_of (in_below (HB0.out.trans (HF1.out.mono HB0.out.size)) HI0.out)) (by have := (HSM.out (by first | rfl | trivial) (by first | rfl | trivial)).2.2; have := HL.out.1; omega) HF1.out.size ?_
      intro v2 W2 hown2 hg2
      rw [Nat.zero_add, List.nil_append] at hown2
      have HF2 : Hid (Below V3.heap.size V3 W2) := hidb (grown_up HF1.out hg2 (fun q hq => (row_lt HO1.out q hq).2))
      obtain ⟨q2, c2', rfl⟩ := own_sl hown2
      have HO2 := hidb hown2
      refine hK _ _ (fun _ => HSA.out _ HF2.out) ?_
      clear hK K hg2 hown2
      simp only [Act.put, List.setIfInBounds_toArray, List.set_cons_zero, List.set_cons_succ]
      refine wpAnyD_stepL (i := 6) (by kernel_rfl) rfl (fun K hK => ?_)
      refine step_appR rfl _ _ rfl V3.heap.size rfl HO2.out (a1 := a1) (c1 := c1) (M := l1) (kids := ks1) rfl HL.out.2 (args_of (in_below (HB0.out.trans (HF2.out.mono HB0.out.size)) HI1.out)) (by have := (HSM.out (by first | rfl | trivial) (by first | rfl | trivial)).2.2; have := HL.out.1; have := HL.out.2; omega) HF2.out.size ?_
      intro v4 W4 hown4 hg4
      have HF4 : Hid (Below V3.heap.size V3 W4) := hidb (grown_up HF2.out hg4 (fun q hq => (row_lt HO2.out q hq).2))
      obtain ⟨q4, c4, rfl⟩ := own_sl hown4
      have HO4 := hidb hown4
      refine hK _ _ (fun _ => HSA.out _ HF4.out) ?_
      clear hK K hg4 hown4
      have hbW4 : Below w.heap.size w W4 := HB0.out.trans (HF4.out.mono HB0.out.size)
      have hin4 : (Tr.mk 8 0 0 ⟨#[]⟩ q4 c4 (ks ++ ks1)).In W4 0 := by
        have ho : W4.ownsRow 0 27 5 (.slice q4 (l0 + l1) c4) (ks ++ ks1).length ((ks ++ ks1).flatMap Tr.cells) := by rw [List.length_append, HL.out.1, HL.out.2, List.flatMap_append]; exact row_low HO4.out
        have hkk : ∀ t, t ∈ ks ++ ks1 → t.In W4 0 ∧ t.On (fun q => (Value.slice q4 (l0 + l1) c4).ownBlock ≠ some q ∧ q < W4.heap.size ∧ 0 ≤ q) := by
          have key : ∀ (kk nn : Int) (ff : Nat) (ss : ByteArray) (aa : Option Addr) (cc : Nat) (kids : List Tr), (Tr.mk kk nn ff ss aa cc kids).In W4 0 → (Tr.mk kk nn ff ss aa cc kids).On (fun q => q < w.heap.size) → ∀ t ∈ kids, t.In W4 0 ∧ t.On (fun q => (Value.slice q4 (l0 + l1) c4).ownBlock ≠ some q ∧ q < W4.heap.size ∧ 0 ≤ q) := by
            intro kk nn ff ss aa cc kids h1 h2 t ht
            constructor
            · unfold Tr.In at h1
              obtain ⟨j, hj⟩ := List.getElem?_of_mem ht
              cases aa with
              | none =>
                have h0 := h1.1.2.2.2.2.2.2 rfl
                have h2 := h1.1.2.2.2.2.1
                have := (List.getElem?_eq_some_iff.1 hj).1
                omega
              | some ad => exact (inAll_get (h1.2 ad rfl).2 j t hj).2
            · refine on_mono (fun q hq => ?_) _ (on_kid h2 ht)
              refine ⟨fun e => ?_, by have := hbW4.size; omega, Nat.zero_le _⟩
              have := (row_lt HO4.out q e).2
              have := HB0.out.size
              omega
          intro t ht
          rcases List.mem_append.1 ht with ht | ht
          · exact key _ _ _ _ _ _ _ (in_below hbW4 HI0.out) HON.out t ht
          · exact key _ _ _ _ _ _ _ (in_below hbW4 HI1.out) HON2.out t ht
        obtain ⟨a9, c9, he, hin9⟩ := rows_tree (w := W4) (base := 0) (v := .slice q4 (l0 + l1) c4) (ds := ks ++ ks1) ⟨ho, hkk⟩ 8 0 0 ⟨#[]⟩ (by decide) (by decide) (by decide) (by show 0 ≤ maxLen; omega)
        obtain ⟨rfl, -, rfl⟩ : q4 = a9 ∧ l0 + l1 = (ks ++ ks1).length ∧ c4 = c9 := by simpa using he
        exact hin9
      have HR9 := hidb (rright9_any 8 0 0 ⟨#[]⟩ q4 c4 (ks ++ ks1) W4 hin4 (by have := (HSM.out (by first | rfl | trivial) (by first | rfl | trivial)).1; unfold Small at this ⊢; exact this) (by have := (HSM.out (by first | rfl | trivial) (by first | rfl | trivial)).2.1; unfold SmallW at this ⊢; exact this))
      have HB4 := hidb hbW4
      clear hbW4 hin4
      simp only [Tr.val, Tr.cells, List.length_append, HL.out.1, HL.out.2] at HR9
      simp only [Act.put, List.setIfInBounds_toArray, List.set_cons_zero, List.set_cons_succ]
      have HS4 := hidb (HSA.out W4 HF4.out)
      refine wpAnyD_takeL (i := 7) (v := ?vv7k) rfl (by kernel_rfl) (by kernel_rfl) (by kernel_rfl) (by kernel_rfl) (fun _ _ _ h => h) HS4.out rfl ?hy7k ?_
      case hy7k => intro wy hSw; obtain ⟨q0, q1⟩ := hSw; go_simp; try with_reducible rfl
      simp only [Act.put, List.setIfInBounds_toArray, List.set_cons_zero, List.set_cons_succ]
      refine wpAnyD_stepL (i := 8) (by kernel_rfl) rfl (fun K hK => ?_)
      refine step_callB (by simp [Region.wanted]) (run_call ent_right9 #[.tmp 144] _ rfl #[.agg #[.int .i64 8, .int .i64 0, .float .f64 0, .string ⟨#[]⟩, .slice q4 (l0 + l1) c4]] rfl) HR9.out ?_
      rintro e w5 ⟨hb5, he5⟩
      obtain ⟨k9, n9, f9, s9, A9, N9, C9, E9, rfl, hsays⟩ : ∃ (k9 n9 : Int) (f9 : Nat) (s9 : ByteArray) (A9 : Option Addr) (N9 C9 : Nat) (E9 : Int), e = .returned (.tuple #[.agg #[.int .i64 k9, .int .i64 n9, .float .f64 f9, .string s9, .slice A9 N9 C9], .int .i64 E9]) ∧ ∀ u0 u1 u2 u3 u4, OutS (if (8 : Int) = 8 ∧ (8 : Int) = 8 then outT (.mk 8 0 0 ⟨#[]⟩ none 0 (ks ++ ks1)) else .inr 13) w (.returned (.tuple #[.agg #[.int .i64 k9, .int .i64 n9, .float .f64 f9, .string s9, .slice A9 N9 C9], .int .i64 E9])) (set5 w5 w.heap.size u0 u1 u2 u3 u4) := by
        have hbw : ∀ u0 u1 u2 u3 u4, Below w.heap.size w (set5 w5 w.heap.size u0 u1 u2 u3 u4) := fun u0 u1 u2 u3 u4 => (((((HB4.out.trans (hb5.mono HB4.out.size)).setCell (by simp) _).setCell (by simp) _).setCell (by simp) _).setCell (by simp) _).setCell (by simp) _
        have herr : errT (.mk 8 0 0 ⟨#[]⟩ q4 c4 (ks ++ ks1)) = errT (.mk 8 0 0 ⟨#[]⟩ none 0 (ks ++ ks1)) := by simp only [errT, meas, allT, goodT]
        unfold OutS
        rw [if_pos (And.intro rfl rfl)]
        unfold outT at he5 ⊢
        rw [herr] at he5
        by_cases h0 : errT (.mk 8 0 0 ⟨#[]⟩ none 0 (ks ++ ks1)) = 0
        · rw [if_pos h0] at he5 ⊢
          obtain ⟨⟨k9, n9, f9, s9, a9, c9, ks9⟩, h1, h2, h3⟩ := he5
          refine ⟨k9, n9, f9, s9, a9, ks9.length, c9, 0, by rw [h3]; rfl, fun u0 u1 u2 u3 u4 => ⟨hbw _ _ _ _ _, .mk k9 n9 f9 s9 a9 c9 ks9, by unfold Sm at h1 ⊢; exact h1, ?_, rfl⟩⟩
          exact in_set5 h2 (by have := HG0.out; have := HB0.out.size; have := HF4.out.size; have := HX0.out.lt; omega) HB4.out.size _ _ _ _ _
        · rw [if_neg h0] at he5 ⊢
          exact ⟨0, 0, 0, ⟨#[]⟩, none, 0, 0, 12, he5, fun u0 u1 u2 u3 u4 => ⟨hbw _ _ _ _ _, rfl⟩⟩
      have HF5 := hidb (HF4.out.trans (hb5.mono HF4.out.size))
      have HX5 := hidb (HX0.out.keep HF5.out)
      have HS5 := hidb (HSA.out w5 HF5.out)
      have HSY := hidb hsays
      refine hK _ _ (fun _ => HS5.out) ?_
      clear hK K hb5 he5 hsays
      simp only [Act.put, List.setIfInBounds_toArray, List.set_cons_zero, List.set_cons_succ]
      refine wpAnyD_takeL (i := 9) (v := ?vv9m) rfl (by kernel_rfl) (by kernel_rfl) (by kernel_rfl) (by kernel_rfl) (fun _ _ _ h => h) HS5.out rfl ?hy9m ?_
      case hy9m => intro wy hSw; obtain ⟨q0, q1⟩ := hSw; go_simp; try with_reducible rfl
      simp only [Act.put, List.setIfInBounds_toArray, List.set_cons_zero, List.set_cons_succ]
      refine wpAnyD_takeL (i := 10) (v := ?vv10m) rfl (by kernel_rfl) (by kernel_rfl) (by kernel_rfl) (by kernel_rfl) (fun _ _ _ h => h) HS5.out rfl ?hy10m ?_
      case hy10m => intro wy hSw; obtain ⟨q0, q1⟩ := hSw; go_simp; try with_reducible rfl
      simp only [Act.put, List.setIfInBounds_toArray, List.set_cons_zero, List.set_cons_succ]
      obtain ⟨⟨x0, x1, x2, x3, x4⟩, ⟨y0, y1, y2, y3, y4⟩, xl⟩ := Box.six HX5.out
      refine wpAnyD_stepL (i := 11) (by kernel_rfl) rfl (fun K hK => ?_)
      go_simp
      refine hK _ _ (fun h => absurd (by simp) h) ?_
      clear hK K
      refine wpAnyD_stepL (i := 12) (by kernel_rfl) rfl (fun K hK => ?_)
      go_simp
      refine hK _ _ (fun h => absurd (by simp) h) ?_
      clear hK K
      refine wpAnyD_done (by kernel_rfl) ?_ _
      go_wp2_with fail
      have bx9 := HX5.out.set (.int .i64 k9) (.int .i64 n9) (.float .f64 f9) (.string s9) (.slice A9 N9 C9)
      obtain ⟨⟨k0, k1', k2, k3, k4⟩, -, -⟩ := Box.six bx9
      simp only [set5] at k0 k1' k2 k3 k4
      refine bodyPost_ret (v := .tuple #[.agg #[.int .i64 k9, .int .i64 n9, .float .f64 f9, .string s9, .slice A9 N9 C9], .int .i64 E9]) (by simp [results, Tryz.results7, go_sem, k0, k1', k2, k3, k4]) rfl ?_
      rw [← HPP.out]
      exact HSY.out _ _ _ _ _
    · have hk2 : (k1 != 8) = true := by simpa using h82
      subst h8
      have HNO := hidb (show ¬ ((8 : Int) = 8 ∧ k1 = 8) from fun e => h82 e.2)
      rw [if_neg HNO.out] at HPP
      clear HNO
      go_enter Tryz.func7, Tryz.ntmps7
      go_wp2_with fail
      rw [HV3.out]
      refine (rbad_any _ _).mono ?_
      rintro e w3 ⟨rfl, hb3⟩
      have HB3 := hidb (HB0.out.trans (hb3.mono HB0.out.size))
      have HX3 := hidb (HX0.out.keep hb3)
      clear hb3
      obtain ⟨⟨x0, x1, x2, x3, x4⟩, ⟨y0, y1, y2, y3, y4⟩, xl⟩ := Box.six HX3.out
      go_wp2_with fail
      have bx9 := HX3.out.set (.int .i64 0) (.int .i64 0) (.float .f64 0) (.string ⟨#[]⟩) (.slice none 0 0)
      obtain ⟨⟨k0, k1', k2, k3, k4⟩, -, -⟩ := Box.six bx9
      simp only [set5] at k0 k1' k2 k3 k4
      refine bodyPost_ret (v := .tuple #[zterm, .int .i64 13]) (by simp [results, Tryz.results7, go_sem, k0, k1', k2, k3, k4]) rfl ?_
      rw [← HPP.out]
      exact outE_says 13 (((((HB3.out.setCell (by simp) _).setCell (by simp) _).setCell (by simp) _).setCell (by simp) _).setCell (by simp) _)
  · have hk2 : (k != 8) = true := by simpa using h8
    have HNO := hidb (show ¬ (k = 8 ∧ k1 = 8) from fun e => h8 e.1)
    rw [if_neg HNO.out] at HPP
    clear HNO
    go_enter Tryz.func7, Tryz.ntmps7
    go_wp2_with fail
    rw [HV3.out]
    refine (rbad_any _ _).mono ?_
    rintro e w3 ⟨rfl, hb3⟩
    have HB3 := hidb (HB0.out.trans (hb3.mono HB0.out.size))
    have HX3 := hidb (HX0.out.keep hb3)
    clear hb3
    obtain ⟨⟨x0, x1, x2, x3, x4⟩, ⟨y0, y1, y2, y3, y4⟩, xl⟩ := Box.six HX3.out
    go_wp2_with fail
    have bx9 := HX3.out.set (.int .i64 0) (.int .i64 0) (.float .f64 0) (.string ⟨#[]⟩) (.slice none 0 0)
    obtain ⟨⟨k0, k1', k2, k3, k4⟩, -, -⟩ := Box.six bx9
    simp only [set5] at k0 k1' k2 k3 k4
    refine bodyPost_ret (v := .tuple #[zterm, .int .i64 13]) (by simp [results, Tryz.results7, go_sem, k0, k1', k2, k3, k4]) rfl ?_
    rw [← HPP.out]
    exact outE_says 13 (((((HB3.out.setCell (by simp) _).setCell (by simp) _).setCell (by simp) _).setCell (by simp) _).setCell (by simp) _)
end Go.Proofs.YtgljglindgbjaaaGreatDoor


/- The other comparing operators, min and max. -/
namespace Go.Proofs.YtgljglindgbjaaaGreatDoor
open Go.RowKit Go.Lib Go.Deep
attribute [local go_sem] store_float f64bits store_func store_nilFunc
attribute [local go_sem ↓] Go.wp_at_zero Go.wp_at_succ

set_option maxHeartbeats 8000000 in
set_option maxRecDepth 100000 in
theorem unequal_tc {w : World} {a : Option Addr} {c : Nat} {t0 t1 : Tr} {nm : ByteArray} {P : Tr → Prop} {E : Int → Prop} {r : Int} (hin : ArgsIn w a c [t0, t1]) (hC : ∀ W, Below w.heap.size w W → Calls Tryz.prog 148 #[t0.val, t1.val] W fun e w' => e = .returned (.tuple #[.int .i64 r, .int .i64 0]) ∧ Below W.heap.size W w') (hP : P (bolT (decide (¬ r = 0)))) :
    TC 32 P E (.agg #[.string nm, .slice a 2 c, .nilFunc]) w := by
  refine ⟨fun args w => by kernel_rfl, fun W hW => ?_⟩
  have HP := hidb hP
  obtain ⟨k, n, f, s, a', c', ks⟩ := t0
  obtain ⟨k1, n1, f1, s1, a1, c1, ks1⟩ := t1
  obtain ⟨b, o, rfl, hbW, v0, v1, v2, v3, v4, -⟩ := argi hin hW (i := 0) rfl
  obtain ⟨b2, o2, e, -, u0, u1, u2, u3, u4, -⟩ := argi hin hW (i := 1) rfl
  obtain ⟨rfl, rfl⟩ : b = b2 ∧ o = o2 := by simpa using e
  simp only [Nat.zero_mul, Nat.add_zero, Nat.one_mul] at v0 v1 v2 v3 v4 u0 u1 u2 u3 u4
  have HC := hidb (fun W1 (hb : Below W.heap.size W W1) => hC W1 (hW.trans (hb.mono hW.size)))
  simp only [Tr.val, Tr.cells] at HC
  generalize ks.length = l0 at *
  generalize ks1.length = l1 at *
  have CM := hidb (fun W1 (hb : Below W.heap.size W W1) => compareM (nm := nm) (in_below (hW.trans (hb.mono hW.size)) hin) (fun W2 hb2 => hC W2 ((hW.trans (hb.mono hW.size)).trans (hb2.mono (hW.trans (hb.mono hW.size)).size))) .nilFunc (.inl rfl))
  obtain ⟨V1, hV1⟩ : ∃ V1, ((W.alloc (.cells #[.string nm, .slice (some ⟨b, o, none⟩) 2 c, .nilFunc] CT)).alloc (.cells #[.int .i64 0, .int .i64 0, .float .f64 0, .string ⟨#[]⟩, .slice none 0 0] 27)) = V1 := ⟨_, rfl⟩
  have HX0 : Hid (Box V1 (W.heap.size + 1) (.int .i64 0) (.int .i64 0) (.float .f64 0) (.string ⟨#[]⟩) (.slice none 0 0)) := hidb (by
    rw [← hV1]
    have := Box.new (W.alloc (.cells #[.string nm, .slice (some ⟨b, o, none⟩) 2 c, .nilFunc] CT)) 27 (.int .i64 0) (.int .i64 0) (.float .f64 0) (.string ⟨#[]⟩) (.slice none 0 0)
    simpa using this)
  have HC0 : Hid (Tri V1 W.heap.size (.string nm) (.slice (some ⟨b, o, none⟩) 2 c) .nilFunc) := hidb (by rw [← hV1]; exact (Tri.new W _ _ _ _).keep (below_new _ _))
  have HBW : Hid (Below W.heap.size W V1) := hidb (by rw [← hV1]; exact (below_new W _).alloc (by simp) _)
  have HV1 := hidb hV1
  obtain ⟨PP, hPP⟩ : ∃ PP : Ending → World → Prop, Tld P E w.heap.size W = PP := ⟨_, rfl⟩
  have HPP := hidb hPP
  rw [hPP]
  clear hV1 hPP
  clear hin hC hP hW
  go_enter Tryz.func32, Tryz.ntmps32
  go_wp2_with fail
  rw [HV1.out]
  refine (CM.out _ HBW.out).mono ?_
  rintro e w2 ⟨rfl, hb2⟩
  have HB2 := hidb (HBW.out.trans (hb2.mono HBW.out.size))
  have HX2 := hidb (HX0.out.keep hb2)
  clear hb2
  have BO := hidb (boolean_any (decide (¬ r = 0)))
  obtain ⟨D, hDD⟩ : ∃ D, decide (¬ r = 0) = D := ⟨_, rfl⟩
  have hD2 : (r != 0) = D := by rw [← hDD]; by_cases h : r = 0 <;> simp [h]
  rw [hDD] at HP BO
  clear hDD
  go_wp2_with fail
  refine (BO.out _).mono ?_
  rintro e w3 ⟨rfl, hb3⟩
  have HB3 := hidb (HB2.out.trans (hb3.mono HB2.out.size))
  have HX3 := hidb (HX2.out.keep hb3)
  clear hb3
  obtain ⟨⟨x0, x1, x2, x3, x4⟩, ⟨y0, y1, y2, y3, y4⟩, xl⟩ := Box.six HX3.out
  obtain ⟨S, hS⟩ : ∃ S, (bolT D).val = .agg #[.int .i64 3, .int .i64 0, .float .f64 0, .string S, .slice none 0 0] := ⟨_, rfl⟩
  rw [hS]
  have HS := hidb hS
  clear hS
  go_wp2_with fail
  have bx9 := HX3.out.set (.int .i64 3) (.int .i64 0) (.float .f64 0) (.string S) (.slice none 0 0)
  obtain ⟨⟨k0, k1', k2, k3, k4⟩, -, -⟩ := Box.six bx9
  simp only [set5] at k0 k1' k2 k3 k4
  refine bodyPost_ret (v := (bolT D).val) (by rw [HS.out]; simp [results, Tryz.results32, go_sem, k0, k1', k2, k3, k4]) rfl ?_
  rw [← HPP.out]
  exact tld_bool HP.out (((((HB3.out.setCell (by simp) _).setCell (by simp) _).setCell (by simp) _).setCell (by simp) _).setCell (by simp) _)

set_option maxHeartbeats 8000000 in
set_option maxRecDepth 100000 in
theorem notAbove_tc {w : World} {a : Option Addr} {c : Nat} {t0 t1 : Tr} {nm : ByteArray} {P : Tr → Prop} {E : Int → Prop} {r : Int} (hin : ArgsIn w a c [t0, t1]) (hC : ∀ W, Below w.heap.size w W → Calls Tryz.prog 148 #[t0.val, t1.val] W fun e w' => e = .returned (.tuple #[.int .i64 r, .int .i64 0]) ∧ Below W.heap.size W w') (hP : P (bolT (decide (r ≤ 0)))) :
    TC 33 P E (.agg #[.string nm, .slice a 2 c, .nilFunc]) w := by
  refine ⟨fun args w => by kernel_rfl, fun W hW => ?_⟩
  have HP := hidb hP
  obtain ⟨k, n, f, s, a', c', ks⟩ := t0
  obtain ⟨k1, n1, f1, s1, a1, c1, ks1⟩ := t1
  obtain ⟨b, o, rfl, hbW, v0, v1, v2, v3, v4, -⟩ := argi hin hW (i := 0) rfl
  obtain ⟨b2, o2, e, -, u0, u1, u2, u3, u4, -⟩ := argi hin hW (i := 1) rfl
  obtain ⟨rfl, rfl⟩ : b = b2 ∧ o = o2 := by simpa using e
  simp only [Nat.zero_mul, Nat.add_zero, Nat.one_mul] at v0 v1 v2 v3 v4 u0 u1 u2 u3 u4
  have HC := hidb (fun W1 (hb : Below W.heap.size W W1) => hC W1 (hW.trans (hb.mono hW.size)))
  simp only [Tr.val, Tr.cells] at HC
  generalize ks.length = l0 at *
  generalize ks1.length = l1 at *
  have CM := hidb (fun W1 (hb : Below W.heap.size W W1) => compareM (nm := nm) (in_below (hW.trans (hb.mono hW.size)) hin) (fun W2 hb2 => hC W2 ((hW.trans (hb.mono hW.size)).trans (hb2.mono (hW.trans (hb.mono hW.size)).size))) .nilFunc (.inl rfl))
  obtain ⟨V1, hV1⟩ : ∃ V1, ((W.alloc (.cells #[.string nm, .slice (some ⟨b, o, none⟩) 2 c, .nilFunc] CT)).alloc (.cells #[.int .i64 0, .int .i64 0, .float .f64 0, .string ⟨#[]⟩, .slice none 0 0] 27)) = V1 := ⟨_, rfl⟩
  have HX0 : Hid (Box V1 (W.heap.size + 1) (.int .i64 0) (.int .i64 0) (.float .f64 0) (.string ⟨#[]⟩) (.slice none 0 0)) := hidb (by
    rw [← hV1]
    have := Box.new (W.alloc (.cells #[.string nm, .slice (some ⟨b, o, none⟩) 2 c, .nilFunc] CT)) 27 (.int .i64 0) (.int .i64 0) (.float .f64 0) (.string ⟨#[]⟩) (.slice none 0 0)
    simpa using this)
  have HC0 : Hid (Tri V1 W.heap.size (.string nm) (.slice (some ⟨b, o, none⟩) 2 c) .nilFunc) := hidb (by rw [← hV1]; exact (Tri.new W _ _ _ _).keep (below_new _ _))
  have HBW : Hid (Below W.heap.size W V1) := hidb (by rw [← hV1]; exact (below_new W _).alloc (by simp) _)
  have HV1 := hidb hV1
  obtain ⟨PP, hPP⟩ : ∃ PP : Ending → World → Prop, Tld P E w.heap.size W = PP := ⟨_, rfl⟩
  have HPP := hidb hPP
  rw [hPP]
  clear hV1 hPP
  clear hin hC hP hW
  go_enter Tryz.func33, Tryz.ntmps33
  go_wp2_with fail
  rw [HV1.out]
  refine (CM.out _ HBW.out).mono ?_
  rintro e w2 ⟨rfl, hb2⟩
  have HB2 := hidb (HBW.out.trans (hb2.mono HBW.out.size))
  have HX2 := hidb (HX0.out.keep hb2)
  clear hb2
  have BO := hidb (boolean_any (decide (r ≤ 0)))
  obtain ⟨D, hDD⟩ : ∃ D, decide (r ≤ 0) = D := ⟨_, rfl⟩
  have hD2 := hDD
  rw [hDD] at HP BO
  go_wp2_with fail
  refine (BO.out _).mono ?_
  rintro e w3 ⟨rfl, hb3⟩
  have HB3 := hidb (HB2.out.trans (hb3.mono HB2.out.size))
  have HX3 := hidb (HX2.out.keep hb3)
  clear hb3
  obtain ⟨⟨x0, x1, x2, x3, x4⟩, ⟨y0, y1, y2, y3, y4⟩, xl⟩ := Box.six HX3.out
  obtain ⟨S, hS⟩ : ∃ S, (bolT D).val = .agg #[.int .i64 3, .int .i64 0, .float .f64 0, .string S, .slice none 0 0] := ⟨_, rfl⟩
  rw [hS]
  have HS := hidb hS
  clear hS
  go_wp2_with fail
  have bx9 := HX3.out.set (.int .i64 3) (.int .i64 0) (.float .f64 0) (.string S) (.slice none 0 0)
  obtain ⟨⟨k0, k1', k2, k3, k4⟩, -, -⟩ := Box.six bx9
  simp only [set5] at k0 k1' k2 k3 k4
  refine bodyPost_ret (v := (bolT D).val) (by rw [HS.out]; simp [results, Tryz.results33, go_sem, k0, k1', k2, k3, k4]) rfl ?_
  rw [← HPP.out]
  exact tld_bool HP.out (((((HB3.out.setCell (by simp) _).setCell (by simp) _).setCell (by simp) _).setCell (by simp) _).setCell (by simp) _)

set_option maxHeartbeats 8000000 in
set_option maxRecDepth 100000 in
theorem below_tc {w : World} {a : Option Addr} {c : Nat} {t0 t1 : Tr} {nm : ByteArray} {P : Tr → Prop} {E : Int → Prop} {r : Int} (hin : ArgsIn w a c [t0, t1]) (hC : ∀ W, Below w.heap.size w W → Calls Tryz.prog 148 #[t0.val, t1.val] W fun e w' => e = .returned (.tuple #[.int .i64 r, .int .i64 0]) ∧ Below W.heap.size W w') (hP : P (bolT (decide (r < 0)))) :
    TC 34 P E (.agg #[.string nm, .slice a 2 c, .nilFunc]) w := by
  refine ⟨fun args w => by kernel_rfl, fun W hW => ?_⟩
  have HP := hidb hP
  obtain ⟨k, n, f, s, a', c', ks⟩ := t0
  obtain ⟨k1, n1, f1, s1, a1, c1, ks1⟩ := t1
  obtain ⟨b, o, rfl, hbW, v0, v1, v2, v3, v4, -⟩ := argi hin hW (i := 0) rfl
  obtain ⟨b2, o2, e, -, u0, u1, u2, u3, u4, -⟩ := argi hin hW (i := 1) rfl
  obtain ⟨rfl, rfl⟩ : b = b2 ∧ o = o2 := by simpa using e
  simp only [Nat.zero_mul, Nat.add_zero, Nat.one_mul] at v0 v1 v2 v3 v4 u0 u1 u2 u3 u4
  have HC := hidb (fun W1 (hb : Below W.heap.size W W1) => hC W1 (hW.trans (hb.mono hW.size)))
  simp only [Tr.val, Tr.cells] at HC
  generalize ks.length = l0 at *
  generalize ks1.length = l1 at *
  have CM := hidb (fun W1 (hb : Below W.heap.size W W1) => compareM (nm := nm) (in_below (hW.trans (hb.mono hW.size)) hin) (fun W2 hb2 => hC W2 ((hW.trans (hb.mono hW.size)).trans (hb2.mono (hW.trans (hb.mono hW.size)).size))) .nilFunc (.inl rfl))
  obtain ⟨V1, hV1⟩ : ∃ V1, ((W.alloc (.cells #[.string nm, .slice (some ⟨b, o, none⟩) 2 c, .nilFunc] CT)).alloc (.cells #[.int .i64 0, .int .i64 0, .float .f64 0, .string ⟨#[]⟩, .slice none 0 0] 27)) = V1 := ⟨_, rfl⟩
  have HX0 : Hid (Box V1 (W.heap.size + 1) (.int .i64 0) (.int .i64 0) (.float .f64 0) (.string ⟨#[]⟩) (.slice none 0 0)) := hidb (by
    rw [← hV1]
    have := Box.new (W.alloc (.cells #[.string nm, .slice (some ⟨b, o, none⟩) 2 c, .nilFunc] CT)) 27 (.int .i64 0) (.int .i64 0) (.float .f64 0) (.string ⟨#[]⟩) (.slice none 0 0)
    simpa using this)
  have HC0 : Hid (Tri V1 W.heap.size (.string nm) (.slice (some ⟨b, o, none⟩) 2 c) .nilFunc) := hidb (by rw [← hV1]; exact (Tri.new W _ _ _ _).keep (below_new _ _))
  have HBW : Hid (Below W.heap.size W V1) := hidb (by rw [← hV1]; exact (below_new W _).alloc (by simp) _)
  have HV1 := hidb hV1
  obtain ⟨PP, hPP⟩ : ∃ PP : Ending → World → Prop, Tld P E w.heap.size W = PP := ⟨_, rfl⟩
  have HPP := hidb hPP
  rw [hPP]
  clear hV1 hPP
  clear hin hC hP hW
  go_enter Tryz.func34, Tryz.ntmps34
  go_wp2_with fail
  rw [HV1.out]
  refine (CM.out _ HBW.out).mono ?_
  rintro e w2 ⟨rfl, hb2⟩
  have HB2 := hidb (HBW.out.trans (hb2.mono HBW.out.size))
  have HX2 := hidb (HX0.out.keep hb2)
  clear hb2
  have BO := hidb (boolean_any (decide (r < 0)))
  obtain ⟨D, hDD⟩ : ∃ D, decide (r < 0) = D := ⟨_, rfl⟩
  have hD2 := hDD
  rw [hDD] at HP BO
  go_wp2_with fail
  refine (BO.out _).mono ?_
  rintro e w3 ⟨rfl, hb3⟩
  have HB3 := hidb (HB2.out.trans (hb3.mono HB2.out.size))
  have HX3 := hidb (HX2.out.keep hb3)
  clear hb3
  obtain ⟨⟨x0, x1, x2, x3, x4⟩, ⟨y0, y1, y2, y3, y4⟩, xl⟩ := Box.six HX3.out
  obtain ⟨S, hS⟩ : ∃ S, (bolT D).val = .agg #[.int .i64 3, .int .i64 0, .float .f64 0, .string S, .slice none 0 0] := ⟨_, rfl⟩
  rw [hS]
  have HS := hidb hS
  clear hS
  go_wp2_with fail
  have bx9 := HX3.out.set (.int .i64 3) (.int .i64 0) (.float .f64 0) (.string S) (.slice none 0 0)
  obtain ⟨⟨k0, k1', k2, k3, k4⟩, -, -⟩ := Box.six bx9
  simp only [set5] at k0 k1' k2 k3 k4
  refine bodyPost_ret (v := (bolT D).val) (by rw [HS.out]; simp [results, Tryz.results34, go_sem, k0, k1', k2, k3, k4]) rfl ?_
  rw [← HPP.out]
  exact tld_bool HP.out (((((HB3.out.setCell (by simp) _).setCell (by simp) _).setCell (by simp) _).setCell (by simp) _).setCell (by simp) _)

set_option maxHeartbeats 8000000 in
set_option maxRecDepth 100000 in
theorem notBelow_tc {w : World} {a : Option Addr} {c : Nat} {t0 t1 : Tr} {nm : ByteArray} {P : Tr → Prop} {E : Int → Prop} {r : Int} (hin : ArgsIn w a c [t0, t1]) (hC : ∀ W, Below w.heap.size w W → Calls Tryz.prog 148 #[t0.val, t1.val] W fun e w' => e = .returned (.tuple #[.int .i64 r, .int .i64 0]) ∧ Below W.heap.size W w') (hP : P (bolT (decide (0 ≤ r)))) :
    TC 35 P E (.agg #[.string nm, .slice a 2 c, .nilFunc]) w := by
  refine ⟨fun args w => by kernel_rfl, fun W hW => ?_⟩
  have HP := hidb hP
  obtain ⟨k, n, f, s, a', c', ks⟩ := t0
  obtain ⟨k1, n1, f1, s1, a1, c1, ks1⟩ := t1
  obtain ⟨b, o, rfl, hbW, v0, v1, v2, v3, v4, -⟩ := argi hin hW (i := 0) rfl
  obtain ⟨b2, o2, e, -, u0, u1, u2, u3, u4, -⟩ := argi hin hW (i := 1) rfl
  obtain ⟨rfl, rfl⟩ : b = b2 ∧ o = o2 := by simpa using e
  simp only [Nat.zero_mul, Nat.add_zero, Nat.one_mul] at v0 v1 v2 v3 v4 u0 u1 u2 u3 u4
  have HC := hidb (fun W1 (hb : Below W.heap.size W W1) => hC W1 (hW.trans (hb.mono hW.size)))
  simp only [Tr.val, Tr.cells] at HC
  generalize ks.length = l0 at *
  generalize ks1.length = l1 at *
  have CM := hidb (fun W1 (hb : Below W.heap.size W W1) => compareM (nm := nm) (in_below (hW.trans (hb.mono hW.size)) hin) (fun W2 hb2 => hC W2 ((hW.trans (hb.mono hW.size)).trans (hb2.mono (hW.trans (hb.mono hW.size)).size))) .nilFunc (.inl rfl))
  obtain ⟨V1, hV1⟩ : ∃ V1, ((W.alloc (.cells #[.string nm, .slice (some ⟨b, o, none⟩) 2 c, .nilFunc] CT)).alloc (.cells #[.int .i64 0, .int .i64 0, .float .f64 0, .string ⟨#[]⟩, .slice none 0 0] 27)) = V1 := ⟨_, rfl⟩
  have HX0 : Hid (Box V1 (W.heap.size + 1) (.int .i64 0) (.int .i64 0) (.float .f64 0) (.string ⟨#[]⟩) (.slice none 0 0)) := hidb (by
    rw [← hV1]
    have := Box.new (W.alloc (.cells #[.string nm, .slice (some ⟨b, o, none⟩) 2 c, .nilFunc] CT)) 27 (.int .i64 0) (.int .i64 0) (.float .f64 0) (.string ⟨#[]⟩) (.slice none 0 0)
    simpa using this)
  have HC0 : Hid (Tri V1 W.heap.size (.string nm) (.slice (some ⟨b, o, none⟩) 2 c) .nilFunc) := hidb (by rw [← hV1]; exact (Tri.new W _ _ _ _).keep (below_new _ _))
  have HBW : Hid (Below W.heap.size W V1) := hidb (by rw [← hV1]; exact (below_new W _).alloc (by simp) _)
  have HV1 := hidb hV1
  obtain ⟨PP, hPP⟩ : ∃ PP : Ending → World → Prop, Tld P E w.heap.size W = PP := ⟨_, rfl⟩
  have HPP := hidb hPP
  rw [hPP]
  clear hV1 hPP
  clear hin hC hP hW
  go_enter Tryz.func35, Tryz.ntmps35
  go_wp2_with fail
  rw [HV1.out]
  refine (CM.out _ HBW.out).mono ?_
  rintro e w2 ⟨rfl, hb2⟩
  have HB2 := hidb (HBW.out.trans (hb2.mono HBW.out.size))
  have HX2 := hidb (HX0.out.keep hb2)
  clear hb2
  have BO := hidb (boolean_any (decide (0 ≤ r)))
  obtain ⟨D, hDD⟩ : ∃ D, decide (0 ≤ r) = D := ⟨_, rfl⟩
  have hD2 := hDD
  rw [hDD] at HP BO
  go_wp2_with fail
  refine (BO.out _).mono ?_
  rintro e w3 ⟨rfl, hb3⟩
  have HB3 := hidb (HB2.out.trans (hb3.mono HB2.out.size))
  have HX3 := hidb (HX2.out.keep hb3)
  clear hb3
  obtain ⟨⟨x0, x1, x2, x3, x4⟩, ⟨y0, y1, y2, y3, y4⟩, xl⟩ := Box.six HX3.out
  obtain ⟨S, hS⟩ : ∃ S, (bolT D).val = .agg #[.int .i64 3, .int .i64 0, .float .f64 0, .string S, .slice none 0 0] := ⟨_, rfl⟩
  rw [hS]
  have HS := hidb hS
  clear hS
  go_wp2_with fail
  have bx9 := HX3.out.set (.int .i64 3) (.int .i64 0) (.float .f64 0) (.string S) (.slice none 0 0)
  obtain ⟨⟨k0, k1', k2, k3, k4⟩, -, -⟩ := Box.six bx9
  simp only [set5] at k0 k1' k2 k3 k4
  refine bodyPost_ret (v := (bolT D).val) (by rw [HS.out]; simp [results, Tryz.results35, go_sem, k0, k1', k2, k3, k4]) rfl ?_
  rw [← HPP.out]
  exact tld_bool HP.out (((((HB3.out.setCell (by simp) _).setCell (by simp) _).setCell (by simp) _).setCell (by simp) _).setCell (by simp) _)

set_option maxHeartbeats 8000000 in
set_option maxRecDepth 100000 in
theorem above_tc {w : World} {a : Option Addr} {c : Nat} {t0 t1 : Tr} {nm : ByteArray} {P : Tr → Prop} {E : Int → Prop} {r : Int} (hin : ArgsIn w a c [t0, t1]) (hC : ∀ W, Below w.heap.size w W → Calls Tryz.prog 148 #[t0.val, t1.val] W fun e w' => e = .returned (.tuple #[.int .i64 r, .int .i64 0]) ∧ Below W.heap.size W w') (hP : P (bolT (decide (0 < r)))) :
    TC 36 P E (.agg #[.string nm, .slice a 2 c, .nilFunc]) w := by
  refine ⟨fun args w => by kernel_rfl, fun W hW => ?_⟩
  have HP := hidb hP
  obtain ⟨k, n, f, s, a', c', ks⟩ := t0
  obtain ⟨k1, n1, f1, s1, a1, c1, ks1⟩ := t1
  obtain ⟨b, o, rfl, hbW, v0, v1, v2, v3, v4, -⟩ := argi hin hW (i := 0) rfl
  obtain ⟨b2, o2, e, -, u0, u1, u2, u3, u4, -⟩ := argi hin hW (i := 1) rfl
  obtain ⟨rfl, rfl⟩ : b = b2 ∧ o = o2 := by simpa using e
  simp only [Nat.zero_mul, Nat.add_zero, Nat.one_mul] at v0 v1 v2 v3 v4 u0 u1 u2 u3 u4
  have HC := hidb (fun W1 (hb : Below W.heap.size W W1) => hC W1 (hW.trans (hb.mono hW.size)))
  simp only [Tr.val, Tr.cells] at HC
  generalize ks.length = l0 at *
  generalize ks1.length = l1 at *
  have CM := hidb (fun W1 (hb : Below W.heap.size W W1) => compareM (nm := nm) (in_below (hW.trans (hb.mono hW.size)) hin) (fun W2 hb2 => hC W2 ((hW.trans (hb.mono hW.size)).trans (hb2.mono (hW.trans (hb.mono hW.size)).size))) .nilFunc (.inl rfl))
  obtain ⟨V1, hV1⟩ : ∃ V1, ((W.alloc (.cells #[.string nm, .slice (some ⟨b, o, none⟩) 2 c, .nilFunc] CT)).alloc (.cells #[.int .i64 0, .int .i64 0, .float .f64 0, .string ⟨#[]⟩, .slice none 0 0] 27)) = V1 := ⟨_, rfl⟩
  have HX0 : Hid (Box V1 (W.heap.size + 1) (.int .i64 0) (.int .i64 0) (.float .f64 0) (.string ⟨#[]⟩) (.slice none 0 0)) := hidb (by
    rw [← hV1]
    have := Box.new (W.alloc (.cells #[.string nm, .slice (some ⟨b, o, none⟩) 2 c, .nilFunc] CT)) 27 (.int .i64 0) (.int .i64 0) (.float .f64 0) (.string ⟨#[]⟩) (.slice none 0 0)
    simpa using this)
  have HC0 : Hid (Tri V1 W.heap.size (.string nm) (.slice (some ⟨b, o, none⟩) 2 c) .nilFunc) := hidb (by rw [← hV1]; exact (Tri.new W _ _ _ _).keep (below_new _ _))
  have HBW : Hid (Below W.heap.size W V1) := hidb (by rw [← hV1]; exact (below_new W _).alloc (by simp) _)
  have HV1 := hidb hV1
  obtain ⟨PP, hPP⟩ : ∃ PP : Ending → World → Prop, Tld P E w.heap.size W = PP := ⟨_, rfl⟩
  have HPP := hidb hPP
  rw [hPP]
  clear hV1 hPP
  clear hin hC hP hW
  go_enter Tryz.func36, Tryz.ntmps36
  go_wp2_with fail
  rw [HV1.out]
  refine (CM.out _ HBW.out).mono ?_
  rintro e w2 ⟨rfl, hb2⟩
  have HB2 := hidb (HBW.out.trans (hb2.mono HBW.out.size))
  have HX2 := hidb (HX0.out.keep hb2)
  clear hb2
  have BO := hidb (boolean_any (decide (0 < r)))
  obtain ⟨D, hDD⟩ : ∃ D, decide (0 < r) = D := ⟨_, rfl⟩
  have hD2 := hDD
  rw [hDD] at HP BO
  go_wp2_with fail
  refine (BO.out _).mono ?_
  rintro e w3 ⟨rfl, hb3⟩
  have HB3 := hidb (HB2.out.trans (hb3.mono HB2.out.size))
  have HX3 := hidb (HX2.out.keep hb3)
  clear hb3
  obtain ⟨⟨x0, x1, x2, x3, x4⟩, ⟨y0, y1, y2, y3, y4⟩, xl⟩ := Box.six HX3.out
  obtain ⟨S, hS⟩ : ∃ S, (bolT D).val = .agg #[.int .i64 3, .int .i64 0, .float .f64 0, .string S, .slice none 0 0] := ⟨_, rfl⟩
  rw [hS]
  have HS := hidb hS
  clear hS
  go_wp2_with fail
  have bx9 := HX3.out.set (.int .i64 3) (.int .i64 0) (.float .f64 0) (.string S) (.slice none 0 0)
  obtain ⟨⟨k0, k1', k2, k3, k4⟩, -, -⟩ := Box.six bx9
  simp only [set5] at k0 k1' k2 k3 k4
  refine bodyPost_ret (v := (bolT D).val) (by rw [HS.out]; simp [results, Tryz.results36, go_sem, k0, k1', k2, k3, k4]) rfl ?_
  rw [← HPP.out]
  exact tld_bool HP.out (((((HB3.out.setCell (by simp) _).setCell (by simp) _).setCell (by simp) _).setCell (by simp) _).setCell (by simp) _)

end Go.Proofs.YtgljglindgbjaaaGreatDoor


