import Derived.Test.YtajadhkpadkikaaGreatDoorG38
import Derived.Lib.SliceRun
import Derived.Test.YtajadhkpadkikaaGreatDoorG32
import Derived.Test.YtajadhkpadkikaaGreatDoorG20
/- slices.Clone of a row of terms. -/
namespace Go.Proofs.YtajadhkpadkikaaGreatDoor
open Go.RowKit Go.Lib Go.Deep
attribute [local go_sem] store_float f64bits store_func store_nilFunc
attribute [local go_sem ↓] Go.wp_at_zero Go.wp_at_succ

set_option maxHeartbeats 4000000 in
set_option maxRecDepth 100000 in
theorem clone_some {W : World} {ad : Addr} {c1 : Nat} {kids : List Tr} (hin : ArgsIn W (some ad) c1 kids) (hl : kids.length ≤ 65536) :
    Calls Tryz.prog 107 #[.slice (some ad) kids.length c1] W fun e w' => ∃ v', e = .returned v' ∧ w'.ownsRow W.heap.size 25 5 v' kids.length (kids.flatMap Tr.cells) ∧ Below W.heap.size W w' := by
  have hnews : ∀ (j : Nat) (u : Value), (kids.flatMap Tr.cells)[j]? = some u → W.cell? (ad.add j) = some u := by
    intro j u hj
    have hjl := (List.getElem?_eq_some_iff.1 hj).1
    rw [flat_len] at hjl
    obtain ⟨b, o, he, hat⟩ := kid_at (hin) (by omega)
    obtain rfl : ad = ⟨b, o, none⟩ := by simpa using he
    have hd : j = j / 5 * 5 + j % 5 := by omega
    obtain ⟨k1, n1, f1, s1, a1, c1', ks1, hu1, -, v0, v1, v2, v3, v4⟩ := hat (j / 5) (by omega)
    have hg := flat5_get kids (j / 5) _ hu1 (j % 5) (by omega)
    rw [← hd, hj] at hg
    have e1 : (⟨b, o, none⟩ : Addr).add j = ⟨b, o + j, none⟩ := by clear hd hg hat v0 v1 v2 v3 v4; unfold Addr.add; split <;> simp_all
    rw [e1, hg, show o + j = o + j / 5 * 5 + j % 5 by omega]
    have h5 : j % 5 < 5 := by omega
    generalize j % 5 = r at *
    match r, h5 with
    | 0, _ => exact v0
    | 1, _ => exact v1
    | 2, _ => exact v2
    | 3, _ => exact v3
    | 4, _ => exact v4
  have hone : ∀ u ∈ kids.flatMap Tr.cells, u.oneCell' = true := by
    intro u hu
    obtain ⟨t, -, ht⟩ := List.mem_flatMap.1 hu
    exact tr_one t u ht
  have hxl : (kids.flatMap Tr.cells).length = kids.length * 5 := flat_len _
  obtain ⟨N, hN⟩ : ∃ N, kids.length = N := ⟨_, rfl⟩
  obtain ⟨XS, hXS⟩ : ∃ XS, kids.flatMap Tr.cells = XS := ⟨_, rfl⟩
  rw [hN] at hl hxl ⊢
  rw [hXS] at hnews hone hxl ⊢
  have HL := hidb hl
  have HNW := hidb hnews
  have HON := hidb hone
  have HXL := hidb hxl
  clear hnews hone hxl hN hXS hin hl
  obtain ⟨i0, hi, hz0, hs0, hb0⟩ := infoT5'
  have q22 : ∀ (w : World) (a : Option Addr) (n c n' c' : Nat), (binOp .eql 23 (.slice a n c) (.slice none n' c')).run Tryz.prog w = .ok (.bool a.isNone) w := fun w a n c n' c' => Lib.run_eql_slice_nil w _ _ a n c n' c' Tryz.underlying23
  have u22 : ∀ w, Sem.run Tryz.prog (underlying 23) w = .ok (TypeDesc.slice 25) w := run_underlying Tryz.underlying23
  go_enter Tryz.func107, Tryz.ntmps107
  go_wp2_with (at_builtin; refine wpList_append_own_at _ rfl _ _ 23 rfl W.heap.size 25 i0 (.agg #[.int .i64 0, .int .i64 0, .float .f64 0, .string ⟨#[]⟩, .slice none 0 0]) 5 64 Tryz.underlying23 hi hz0 hs0 hb0 rfl (by decide) _ _ _ rfl (World.ownsRow_made W #[] 0 (Nat.le_refl _) (Nat.zero_le _) rfl) ad N c1 XS rfl HXL.out ?e1 HON.out ?e3 ?e4 ?e5 ?_)
  case e1 => exact fun j u hj => Lib.cell?_alloc_some _ (HNW.out j u hj)
  case e3 => have := HL.out; unfold maxLen; omega
  case e4 => have := HL.out; omega
  case e5 => simp
  intro v6 w6 hown6 hgrow6 hnil6 hat6
  have HO6 := hidb hown6
  have HB6 : Hid (Below W.heap.size W w6) := hidb (((Below.refl _ W).alloc (Nat.le_refl _) _).grown hgrow6 (by simp) (by intro k hk; simp [Value.ownBlock] at hk; omega))
  clear hown6 hgrow6 hnil6 hat6
  go_wp2_with fail
  go_ret
  exact ⟨_, rfl, by simpa using HO6.out, HB6.out⟩
set_option maxRecDepth 100000 in
theorem clone_none {W : World} (n c : Nat) : Calls Tryz.prog 107 #[.slice none n c] W fun e w' => e = .returned (.slice none 0 0) ∧ w' = W := by
  have q22 : ∀ (w : World) (a : Option Addr) (n c n' c' : Nat), (binOp .eql 23 (.slice a n c) (.slice none n' c')).run Tryz.prog w = .ok (.bool a.isNone) w := fun w a n c n' c' => Lib.run_eql_slice_nil w _ _ a n c n' c' Tryz.underlying23
  go_enter Tryz.func107, Tryz.ntmps107
  go_wp2_with fail
  go_ret
  exact ⟨rfl, rfl⟩
end Go.Proofs.YtajadhkpadkikaaGreatDoor


/- ++ of a list and of none. -/
namespace Go.Proofs.YtajadhkpadkikaaGreatDoor
open Go.RowKit Go.Lib Go.Deep
attribute [local go_sem] store_float f64bits store_func store_nilFunc
attribute [local go_sem ↓] Go.wp_at_zero Go.wp_at_succ

theorem ent_elements : Ent 96 := by
  intro args w
  kernel_rfl
theorem ent_concat : Ent 95 := by
  intro args w
  kernel_rfl
theorem ent_list : Ent 94 := by
  intro args w
  kernel_rfl
theorem list_any (a : Option Addr) (l c : Nat) (w : World) : Calls Tryz.prog 94 #[.slice a l c] w fun e w' => e = .returned (.agg #[.int .i64 8, .int .i64 0, .float .f64 0, .string ⟨#[]⟩, .slice a l c]) ∧ Below w.heap.size w w' := by
  go_enter Tryz.func94, Tryz.ntmps94
  go_wp2
  exact bodyPost_ret (v := .agg #[.int .i64 8, .int .i64 0, .float .f64 0, .string ⟨#[]⟩, .slice a l c]) (by simp [results, Tryz.results94, go_sem]) rfl ⟨rfl, below_new w _⟩
abbrev nolT : Tr := .mk 8 0 0 ⟨#[]⟩ none 0 []
theorem row_low {w : World} {B e size n : Nat} {V : Value} {xs : List Value} (h : w.ownsRow B e size V n xs) : w.ownsRow 0 e size V n xs := by
  refine ⟨h.1, ?_⟩
  rcases h.2 with h0 | ⟨g, cap, cur, rfl, _, r⟩
  · exact .inl h0
  · exact .inr ⟨g, cap, cur, rfl, Nat.zero_le _, r⟩

set_option maxHeartbeats 1600000 in
set_option maxRecDepth 100000 in
theorem joined_tc {w : World} {a : Option Addr} {c : Nat} {k n : Int} {f : Nat} {s : ByteArray} {a1 : Option Addr} {c1 : Nat} {ks : List Tr} {nm : ByteArray} {P : Tr → Prop} {E : Int → Prop} (hin : ArgsIn w a c [.mk k n f s a1 c1 ks, nolT])
    (hsm : Small (.mk k n f s a1 c1 ks)) (hcn : cnT (.mk k n f s a1 c1 ks) ≤ 1000000000) (hlen : k = 8 → ks.length ≤ 65536)
    (hP : k = 8 → ∀ a' c', P (.mk 8 0 0 ⟨#[]⟩ a' c' ks)) (hE : k ≠ 8 → E 13) :
    TC 44 P E (.agg #[.string nm, .slice a 2 c, .nilFunc]) w := by
  refine ⟨fun args w => by kernel_rfl, fun W hW => ?_⟩
  have HP := hidb hP
  have HE := hidb hE
  have HWS := hidb hW.size
  have HIW := hidb (in_below hW hin)
  obtain ⟨b, o, rfl, hbW, v0, v1, v2, v3, v4, hin0⟩ := argi hin hW (i := 0) rfl
  have HON := hidb (onAll_get (t := .mk k n f s a1 c1 ks) (by have := on_all _ hin; unfold Tr.On at this; exact this.2) (by simp))
  have HI0 := hidb hin0
  have HSM := hidb (And.intro hsm (And.intro hcn hlen))
  obtain ⟨V1, hV1⟩ : ∃ V1, ((W.alloc (.cells #[.string nm, .slice (some ⟨b, o, none⟩) 2 c, .nilFunc] CT)).alloc (.cells #[.int .i64 0, .int .i64 0, .float .f64 0, .string ⟨#[]⟩, .slice none 0 0] 25)) = V1 := ⟨_, rfl⟩
  have HX0 : Hid (Box V1 (W.heap.size + 1) (.int .i64 0) (.int .i64 0) (.float .f64 0) (.string ⟨#[]⟩) (.slice none 0 0)) := hidb (by
    rw [← hV1]
    have := Box.new (W.alloc (.cells #[.string nm, .slice (some ⟨b, o, none⟩) 2 c, .nilFunc] CT)) 25 (.int .i64 0) (.int .i64 0) (.float .f64 0) (.string ⟨#[]⟩) (.slice none 0 0)
    simpa using this)
  have HC0 : Hid (Tri V1 W.heap.size (.string nm) (.slice (some ⟨b, o, none⟩) 2 c) .nilFunc) := hidb (by rw [← hV1]; exact (Tri.new W _ _ _ _).keep (below_new _ _))
  have HBW : Hid (Below W.heap.size W V1) := hidb (by rw [← hV1]; exact (below_new W _).alloc (by simp) _)
  have HV1 := hidb hV1
  obtain ⟨PP, hPP⟩ : ∃ PP : Ending → World → Prop, Tld P E w.heap.size W = PP := ⟨_, rfl⟩
  have HPP := hidb hPP
  rw [hPP]
  clear hV1 hPP
  have HSA : Hid (∀ W9, Below V1.heap.size V1 W9 → (fun W9 => W9.cell? ⟨W.heap.size, 0, none⟩ = some (.string nm) ∧ W9.cell? ⟨W.heap.size, 1, none⟩ = some (.slice (some ⟨b, o, none⟩) 2 c) ∧ W9.cell? ⟨W.heap.size, 2, none⟩ = some .nilFunc) W9) := hidb (fun W9 hb => ⟨(HC0.out.keep hb).c0, (HC0.out.keep hb).c1, (HC0.out.keep hb).c2⟩)
  have HS0 := hidb (HSA.out V1.drew (Below.refl _ _).drew)
  clear hP hE hW hin hin0 hsm hcn hlen v0 v1 v2 v3 v4
  by_cases h8 : k = 8
  · subst h8
    have EL0 := hidb (fun W1 (hb : Below W.heap.size W W1) => elementsN_ok (nm := nm) (in_below hb HIW.out) (i := 0) rfl)
    have EL1 := hidb (fun W1 (hb : Below W.heap.size W W1) => elementsN_ok (nm := nm) (in_below hb HIW.out) (i := 1) rfl)
    simp only [List.length_cons, List.length_nil] at EL0 EL1
    have CC := hidb (fun W1 (hb : Below W.heap.size W W1) rb (h0 : W1.cell? ⟨rb, 0, none⟩ = some (.slice a1 ks.length c1)) (h1 : W1.cell? ⟨rb, 1, none⟩ = some (.slice none 0 0)) => concat_one (W := W1) (rb := rb) (a1 := a1) (c1 := c1) (kids := ks) (by have := in_below hb HI0.out; unfold Tr.In at this ⊢; exact ⟨⟨by decide, by decide, by decide, by show 0 ≤ maxLen; omega, this.1.2.2.2.2⟩, this.2⟩) h0 h1 (HSM.out.2.2 rfl))
    obtain ⟨N, hN⟩ : ∃ N, ks.length = N := ⟨_, rfl⟩
    have HN := hidb hN
    rw [hN] at EL0 CC
    obtain ⟨XS, hXS⟩ : ∃ XS, ks.flatMap Tr.cells = XS := ⟨_, rfl⟩
    have HXS := hidb hXS
    rw [hXS] at CC
    clear hN hXS
    go_enter Tryz.func44, Tryz.ntmps44
    go_wp2_with fail
    rw [HV1.out]
    refine wp_region_D (fun W9 => W9.cell? ⟨W.heap.size, 0, none⟩ = some (.string nm) ∧ W9.cell? ⟨W.heap.size, 1, none⟩ = some (.slice (some ⟨b, o, none⟩) 2 c) ∧ W9.cell? ⟨W.heap.size, 2, none⟩ = some .nilFunc) [7] (by kernel_rfl) ?_
    refine wpAnyD_takeL (i := 0) (v := ?vv0z) rfl (by kernel_rfl) (by kernel_rfl) (by kernel_rfl) (by kernel_rfl) (fun _ _ _ h => h) HS0.out rfl ?hy0z ?_
    case hy0z => intro wy hSw; obtain ⟨z0, z1, z2⟩ := hSw; go_simp; try with_reducible rfl
    simp only [Act.put, List.setIfInBounds_toArray, List.set_cons_zero, List.set_cons_succ]
    refine wpAnyD_takeL (i := 2) (v := ?vv2z) rfl (by kernel_rfl) (by kernel_rfl) (by kernel_rfl) (by kernel_rfl) (fun _ _ _ h => h) HS0.out rfl ?hy2z ?_
    case hy2z => intro wy hSw; obtain ⟨z0, z1, z2⟩ := hSw; go_simp; try with_reducible rfl
    simp only [Act.put, List.setIfInBounds_toArray, List.set_cons_zero, List.set_cons_succ]
    refine wpAnyD_stepL (i := 1) (by kernel_rfl) rfl (fun K hK => ?_)
    refine step_callB (by simp [Region.wanted]) (run_call ent_elements #[.tmp 3, .const (.int .i64 0), .const (.int .i64 8)] _ rfl #[.agg #[.string nm, .slice (some ⟨b, o, none⟩) 2 c, .nilFunc], .int .i64 0, .int .i64 8] rfl) (EL0.out V1.drew HBW.out.drew) ?_
    rintro e w2 ⟨rfl, hb2⟩
    have HV2 := hidb (undrew hb2)
    refine hK _ _ (fun _ => HSA.out w2 HV2.out) ?_
    clear hK K hb2 HS0
    simp only [Act.put, List.setIfInBounds_toArray, List.set_cons_zero, List.set_cons_succ]
    refine wpAnyD_stepL (i := 3) (by kernel_rfl) rfl (fun K hK => ?_)
    refine step_callB (by simp [Region.wanted]) (run_call ent_elements #[.tmp 5, .const (.int .i64 1), .const (.int .i64 8)] _ rfl #[.agg #[.string nm, .slice (some ⟨b, o, none⟩) 2 c, .nilFunc], .int .i64 1, .int .i64 8] rfl) (EL1.out w2 (HBW.out.trans (HV2.out.mono HBW.out.size))) ?_
    rintro e w3 ⟨rfl, hb3⟩
    have HV3 := hidb (HV2.out.trans (hb3.mono HV2.out.size))
    refine hK _ _ (fun _ => HSA.out w3 HV3.out) ?_
    clear hK K hb3
    simp only [Act.put, List.setIfInBounds_toArray, List.set_cons_zero, List.set_cons_succ]
    refine wpAnyD_stepL (i := 4) (by kernel_rfl) rfl (fun K hK => ?_)
    go_simp
    refine hK _ _ (fun _ => HSA.out _ (HV3.out.alloc HV3.out.size _)) ?_
    clear hK K
    obtain ⟨W4, hW4⟩ : ∃ W4, w3.alloc (.cells #[.slice a1 N c1, .slice none 0 0] 23) = W4 := ⟨_, rfl⟩
    have HV4 : Hid (Below V1.heap.size V1 W4) := hidb (by rw [← hW4]; exact HV3.out.alloc HV3.out.size _)
    have hc0 : W4.cell? ⟨w3.heap.size, 0, none⟩ = some (.slice a1 N c1) := by rw [← hW4, World.cell?_alloc_new]; rfl
    have hc1 : W4.cell? ⟨w3.heap.size, 1, none⟩ = some (.slice none 0 0) := by rw [← hW4, World.cell?_alloc_new]; rfl
    rw [hW4]
    clear hW4
    refine wpAnyD_stepL (i := 5) (by kernel_rfl) rfl (fun K hK => ?_)
    refine step_callB (by simp [Region.wanted]) (run_call ent_concat #[.tmp 7] _ rfl #[.slice (some ⟨w3.heap.size, 0, none⟩) 2 2] rfl) (CC.out W4 (HBW.out.trans (HV4.out.mono HBW.out.size)) w3.heap.size hc0 hc1) ?_
    rintro e w5 ⟨v5, rfl, hown5, hb5⟩
    obtain ⟨q5, c5, rfl⟩ := own_sl hown5
    have HV5 := hidb (HV4.out.trans (hb5.mono HV4.out.size))
    have HO5 := hidb hown5
    have HZ4 := hidb HV4.out.size
    refine hK _ _ (fun _ => HSA.out w5 HV5.out) ?_
    clear hK K hb5 hown5 hc0 hc1
    simp only [Act.put, List.setIfInBounds_toArray, List.set_cons_zero, List.set_cons_succ]
    refine wpAnyD_stepL (i := 6) (by kernel_rfl) rfl (fun K hK => ?_)
    refine step_callB (by simp [Region.wanted]) (run_call ent_list #[.tmp 8] _ rfl #[.slice q5 N c5] rfl) (list_any q5 N c5 w5) ?_
    rintro e w6 ⟨rfl, hb6⟩
    have HV6 := hidb (HV5.out.trans (hb6.mono HV5.out.size))
    have HO6 := hidb (row_but HO5.out (But.of_below (S := fun _ => False) hb6) (fun _ _ h => h))
    have HX6 := hidb (HX0.out.keep HV6.out)
    refine hK _ _ (fun _ => HSA.out w6 HV6.out) ?_
    clear hK K hb6
    simp only [Act.put, List.setIfInBounds_toArray, List.set_cons_zero, List.set_cons_succ]
    obtain ⟨⟨x0, x1, x2, x3, x4⟩, ⟨y0, y1, y2, y3, y4⟩, xl⟩ := Box.six HX6.out
    refine wpAnyD_stepL (i := 7) (by kernel_rfl) rfl (fun K hK => ?_)
    go_simp
    refine hK _ _ (fun h => absurd (List.mem_singleton.2 rfl) h) ?_
    clear hK K
    refine wpAnyD_done (by kernel_rfl) ?_ _
    go_wp2_with fail
    have bx9 := HX6.out.set (.int .i64 8) (.int .i64 0) (.float .f64 0) (.string ⟨#[]⟩) (.slice q5 N c5)
    obtain ⟨⟨k0, k1', k2, k3, k4⟩, -, -⟩ := Box.six bx9
    simp only [set5] at k0 k1' k2 k3 k4
    refine bodyPost_ret (v := (Tr.mk 8 0 0 ⟨#[]⟩ q5 c5 ks).val) (by simp [Tr.val, Tr.cells, HN.out, results, Tryz.results44, go_sem, k0, k1', k2, k3, k4]) rfl ?_
    rw [← HPP.out]
    have hbW6 : Below W.heap.size W w6 := HBW.out.trans (HV6.out.mono HBW.out.size)
    have hwl : w.heap.size ≤ W.heap.size := HWS.out
    have hvz : W.heap.size + 1 < V1.heap.size := HX0.out.lt
    have hin6 : (Tr.mk 8 0 0 ⟨#[]⟩ q5 c5 ks).In w6 0 := by
      have ho : w6.ownsRow 0 25 5 (.slice q5 N c5) ks.length (ks.flatMap Tr.cells) := by rw [HN.out, HXS.out]; exact row_low HO6.out
      have hkk : ∀ t, t ∈ ks → t.In w6 0 ∧ t.On (fun b => (Value.slice q5 N c5).ownBlock ≠ some b ∧ b < w6.heap.size ∧ 0 ≤ b) := by
        intro t ht
        constructor
        · have h1 := in_below hbW6 HI0.out
          unfold Tr.In at h1
          obtain ⟨j, hj⟩ := List.getElem?_of_mem ht
          cases a1 with
          | none =>
            have h0 := h1.1.2.2.2.2.2.2 rfl
            have h2 := h1.1.2.2.2.2.1
            have := (List.getElem?_eq_some_iff.1 hj).1
            omega
          | some ad => exact (inAll_get (h1.2 ad rfl).2 j t hj).2
        · refine on_mono (fun q hq => ?_) _ (on_kid HON.out ht)
          refine ⟨fun e => ?_, by have := hbW6.size; omega, Nat.zero_le _⟩
          have := (row_lt HO6.out q e).2
          have := HZ4.out
          have := HBW.out.size
          omega
      obtain ⟨a9, c9, he, hin9⟩ := rows_tree (w := w6) (base := 0) (v := .slice q5 N c5) (ds := ks) ⟨ho, hkk⟩ 8 0 0 ⟨#[]⟩ (by decide) (by decide) (by decide) (by show 0 ≤ maxLen; omega)
      obtain ⟨rfl, -, rfl⟩ : q5 = a9 ∧ N = ks.length ∧ c5 = c9 := by simpa using he
      exact hin9
    have hon6 : (Tr.mk 8 0 0 ⟨#[]⟩ q5 c5 ks).On (fun q => q < w.heap.size ∨ W.heap.size + 2 ≤ q) := by
      have h9 := HON.out
      unfold Tr.On at h9 ⊢
      refine ⟨fun h0 ad had => .inr ?_, ?_⟩
      · have := (row_lt HO6.out ad.block (by subst had; rcases HO6.out.2 with ⟨h, _⟩ | ⟨g, cap, cur, h, _⟩ <;> simp_all [Value.ownBlock])).2
        have := HZ4.out
        omega
      · have : ∀ l : List Tr, (∀ t ∈ l, t ∈ ks) → Tr.OnAll (fun q => q < w.heap.size ∨ W.heap.size + 2 ≤ q) l := by
          intro l
          induction l with
          | nil => intro _; unfold Tr.OnAll; trivial
          | cons t r ih =>
            intro hl
            unfold Tr.OnAll
            exact ⟨on_mono (fun q hq => .inl hq) _ (on_kid HON.out (hl t (by simp))), ih (fun u hu => hl u (by simp [hu]))⟩
        exact this ks (fun t h => h)
    refine ⟨(((((hbW6.setCell (by simp) _).setCell (by simp) _).setCell (by simp) _).setCell (by simp) _).setCell (by simp) _), .inl ⟨_, rfl, HP.out (by first | rfl | trivial) _ _, ?_, on_mono (fun q hq => by omega) _ hon6, ?_, ?_⟩⟩
    · exact in_on5 (B := w.heap.size) (c := W.heap.size + 2) hin6 hon6 (by omega) (by omega) _ _ _ _ _
    · have := HSM.out.1; unfold Small at this ⊢; exact this
    · have := HSM.out.2.1; unfold cnT at this ⊢; exact this
  · have EL0 := hidb (fun W1 (hb : Below W.heap.size W W1) => elementsN_no (nm := nm) (kd := 8) (in_below hb HIW.out) (i := 0) rfl h8)
    simp only [List.length_cons, List.length_nil] at EL0
    have HE2 := hidb (HE.out h8)
    clear h8 HP HE
    go_enter Tryz.func44, Tryz.ntmps44
    go_wp2_with fail
    rw [HV1.out]
    refine wp_region_D (fun W9 => W9.cell? ⟨W.heap.size, 0, none⟩ = some (.string nm) ∧ W9.cell? ⟨W.heap.size, 1, none⟩ = some (.slice (some ⟨b, o, none⟩) 2 c) ∧ W9.cell? ⟨W.heap.size, 2, none⟩ = some .nilFunc) [7] (by kernel_rfl) ?_
    refine wpAnyD_takeL (i := 0) (v := ?vv0y) rfl (by kernel_rfl) (by kernel_rfl) (by kernel_rfl) (by kernel_rfl) (fun _ _ _ h => h) HS0.out rfl ?hy0y ?_
    case hy0y => intro wy hSw; obtain ⟨z0, z1, z2⟩ := hSw; go_simp; try with_reducible rfl
    simp only [Act.put, List.setIfInBounds_toArray, List.set_cons_zero, List.set_cons_succ]
    refine wpAnyD_takeL (i := 2) (v := ?vv2y) rfl (by kernel_rfl) (by kernel_rfl) (by kernel_rfl) (by kernel_rfl) (fun _ _ _ h => h) HS0.out rfl ?hy2y ?_
    case hy2y => intro wy hSw; obtain ⟨z0, z1, z2⟩ := hSw; go_simp; try with_reducible rfl
    simp only [Act.put, List.setIfInBounds_toArray, List.set_cons_zero, List.set_cons_succ]
    refine wpAnyD_stepL (i := 1) (by kernel_rfl) rfl (fun K hK => ?_)
    refine step_callB (by simp [Region.wanted]) (run_call ent_elements #[.tmp 3, .const (.int .i64 0), .const (.int .i64 8)] _ rfl #[.agg #[.string nm, .slice (some ⟨b, o, none⟩) 2 c, .nilFunc], .int .i64 0, .int .i64 8] rfl) (EL0.out V1.drew HBW.out.drew) ?_
    rintro e w2 ⟨rfl, hb2⟩
    refine ⟨rfl, ?_⟩
    rw [← HPP.out]
    exact ⟨HBW.out.trans ((undrew hb2).mono HBW.out.size), .inr ⟨_, rfl, HE2.out⟩⟩
end Go.Proofs.YtajadhkpadkikaaGreatDoor


