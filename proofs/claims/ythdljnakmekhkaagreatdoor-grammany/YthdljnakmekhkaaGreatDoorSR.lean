import Derived.Test.YthdljnakmekhkaaGreatDoorSP
namespace Go.Proofs.YthdljnakmekhkaaGreatDoor
namespace Rf
open Go.RowKit Go.Lib
attribute [local go_sem] store_float f64bits
attribute [local go_sem ↓] Go.wp_at_zero Go.wp_at_succ
attribute [local go_sem] nd_p tk_k tk_x tk_n tk_f tk_p
variable {B g b o : Nat} {e : PM Nat}
set_option maxHeartbeats 8000000 in
set_option maxRecDepth 100000 in
theorem pBoth {m : PM Nat} (hA : Gm.All m) (hU : ∀ {P : Nat → Prop} {w : World} {V : Value} {s : PS}, At B g b o P w V s → Calls Tryz.prog 129 #[.pointer (some ⟨g, 0, none⟩)] w fun r w' => Rz B g b o P w V (m s) r w') {P : Nat → Prop} {w : World} {V : Value} {s : PS} (h : At B g b o P w V s) :
    Calls Tryz.prog 125 #[.pointer (some ⟨g, 0, none⟩)] w fun r w' => Rz B g b o P w V (Gm.right m ⟨#[97, 110, 100, 97, 108, 115, 111]⟩ s) r w' := by
  obtain ⟨i0, hi0, hz0, hz1, hz2⟩ := info_parts (P := Tryz.prog) (e := IT) (z := .int .i64 0) (size := 1) (bytes := 8) (by kernel_rfl)
  have H : Hid (St B g b o P w V w V s) := hidb h
  have HA := hidb hA
  obtain ⟨R, hR⟩ : ∃ R, Gm.right m ⟨#[97, 110, 100, 97, 108, 115, 111]⟩ s = R := ⟨_, rfl⟩
  rw [hR]
  have HR := hidb (hR.symm.trans right_is)
  have HU := hidb (fun (P : Nat → Prop) (w : World) (V : Value) (s : PS) (h : At B g b o P w V s) => hU h)
  have hgl := h.glt
  have hbl := h.blt
  have htl := h.tl
  obtain ⟨K, hK⟩ : ∃ K, s.ts.length = K := ⟨_, rfl⟩
  rw [hK] at htl
  have HR := hidb (by have := HR.out; rw [hK] at this; exact this)
  have HKK := hidb hK
  clear hR h hA hU hK
  go_enter Tryz.func125, Tryz.ntmps125
  go_wp2_with (first
    | (go_at_call 26; refine (sNow H.out).mono ?_; rintro r1 w1 ⟨t, hq, rfl, hb⟩; replace H := hidb (H.out.below hb); replace HR := hidb (HR.out.trans (Gm.bind_here hq)); have Tt := hidb hq; clear hb hq)
    | (go_at_call 129; refine (HU.out _ _ _ _ (IR.lit H.out #[iv t.p] [t.p] rfl (by simp)).2.at).mono ?_; rintro r1 w2 (⟨er, q, x0, hq, rfl, hbd⟩ | ⟨x0, s1, V1, hq, rfl, hs⟩) <;> first | (have HF := hidb (HA.out _ H.out.ne _ _ hq).1.len; have HIA := hidb ((IR.lit H.out #[iv t.p] [t.p] rfl (by simp)).1.step hs); replace H := hidb ((IR.lit H.out #[iv t.p] [t.p] rfl (by simp)).2.trans hs); replace HR := hidb (HR.out.trans (Gm.bind_ok hq)); clear hs hq) | (have HRE := hidb (HR.out.trans (Gm.bind_err hq)); have HWA := hidb ((IR.lit H.out #[iv t.p] [t.p] rfl (by simp)).1.badrow (by simp) hbd); have HGA := hidb (IR.lit H.out #[iv t.p] [t.p] rfl (by simp)).1.ng; replace H := hidb ((IR.lit H.out #[iv t.p] [t.p] rfl (by simp)).2.bad hbd); clear hbd hq HR)))
  · obtain ⟨W, hW⟩ : ∃ W, w2.alloc (.cells #[iv x0] IT) = W := ⟨_, rfl⟩
    have HWL : Hid (RB W w2.heap.size (.slice (some ⟨w2.heap.size, 0, none⟩) 1 1) [x0]) := hidb (hW ▸ lit_row w2 #[iv x0] [x0] rfl (by simp))
    have hbW : Below w2.heap.size w2 W := hW ▸ below_new w2 _
    have HGL := hidb (lit_ng H.out 1 1)
    replace HWA := hidb (RB.but HWA.out (But.of_below (S := fun _ => False) hbW) (fun _ _ h => h))
    replace H := hidb (H.out.keep hbW)
    have HN1 : Hid ([x0].length = 0 + 1) := hidb rfl
    have HN2 : Hid ([t.p].length = 0 + 1) := hidb rfl
    go_loopg [3, 4] 0 (fun gf s3 s4 wx => s3 = .slice (some ⟨w1.heap.size, 0, none⟩) 1 1 ∧ s4 = .slice (some ⟨w2.heap.size, 0, none⟩) 1 1 ∧ wx = W)
    case atStart => exact ⟨rfl, rfl, hW⟩
    case round =>
      obtain ⟨rfl, rfl, hwx⟩ := hrel
      clear hW hbW
      obtain rfl := hwx.symm
      go_wp2_with (first
        | (go_at_call 105; refine (bKept _ H.out).mono ?_; rintro r1 w4 ⟨rfl, hb⟩; replace HWA := hidb (RB.but HWA.out (But.of_below (S := fun _ => False) hb) (fun _ _ h => h)); replace HWL := hidb (RB.but HWL.out (But.of_below (S := fun _ => False) hb) (fun _ _ h => h)); replace H := hidb (H.out.keep hb); clear hb)
        | (go_at_call 126; refine (bBack _ HWL.out HWA.out HGL.out HGA.out HN1.out HN2.out H.out).mono ?_; rintro r1 w5 ⟨⟨z, rfl⟩, hd, hb⟩; replace H := hidb hd; clear hd hb))
      go_ret
      exact .inl ⟨_, _, _, HRE.out, rfl, H.out⟩
  obtain ⟨l1, l2⟩ := IR.lit H.out #[iv x0] [x0] rfl (by simp)
  have a1 := HIA.out.below (below_new w2 (.cells #[iv x0] IT))
  have hdj : ∀ k, (Value.slice (some ⟨w2.heap.size, 0, none⟩) [x0].length [x0].length).ownBlock = some k → (Value.slice (some ⟨w1.heap.size, 0, none⟩) [t.p].length [t.p].length).ownBlock ≠ some k := by
    intro k hk he
    have := row_lt HIA.out.own k he
    simp [Value.ownBlock] at hk
    omega
  go_loopg [3, 4] K (fun gf s3 s4 wx => (∃ (l : List (Nat × Nat)) (la ll : List Nat) (sx : PS) (Vx : Value) (a c : Option Addr) (ac cc k : Nat), s3 = .slice a la.length ac ∧ s4 = .slice c ll.length cc ∧ St B g b o (PV (PV P (.slice a la.length ac)) (.slice c ll.length cc)) w V wx Vx sx ∧ IR wx w.heap.size g b Vx (.slice a la.length ac) la ∧ IR wx w.heap.size g b Vx (.slice c ll.length cc) ll ∧ (∀ k, (Value.slice c ll.length cc).ownBlock = some k → (Value.slice a la.length ac).ownBlock ≠ some k) ∧ l.map Prod.fst = la ∧ l.map Prod.snd = ll ∧ R = (collC m ⟨#[97, 110, 100, 97, 108, 115, 111]⟩ k >>= fun r => layR ⟨#[97, 110, 100, 97, 108, 115, 111]⟩ (l ++ r)) sx ∧ sx.ts.length ≤ k ∧ k ≤ gf ∧ l.length + sx.ts.length ≤ 100001 ∧ l ≠ []) ∨ (∃ (la ll : List Nat) (a c : Option Addr) (ac cc n : Nat) (er : Int) (p : Nat), s3 = .slice a la.length ac ∧ s4 = .slice c ll.length cc ∧ la.length = n + 1 ∧ ll.length = n + 1 ∧ R = .error (er, p) ∧ Bd g b w V wx er p ∧ RB wx w.heap.size (.slice a la.length ac) la ∧ RB wx w.heap.size (.slice c ll.length cc) ll ∧ (Value.slice a la.length ac).ownBlock ≠ some g ∧ (Value.slice c ll.length cc).ownBlock ≠ some g))
  case atStart => exact .inl ⟨[(t.p, x0)], [t.p], [x0], s1, V1, _, _, _, _, K, rfl, rfl, l2, a1, l1, hdj, rfl, rfl, HR.out, (by have := HF.out; have := HKK.out; omega), Nat.le_refl _, (by have := HF.out; have := HKK.out; simp; omega), by simp⟩
  case round =>
    clear H HIA HR l1 l2 a1 hdj HF HKK Tt
    rcases hrel with ⟨l, la, ll, sx, Vx, a, c, ac, cc, k, hs3, hs4, hst, hia, hil, hdj, hla, hll, hmore, hk, hkg, hlen, hne⟩ | ⟨la, ll, a, c, ac, cc, n, er, p, hs3, hs4, hn2, hn1, hre, hbd, hwa, hwl, hga, hgl2⟩
    · subst hs3
      subst hs4
      have hpos := ne_pos hst.ne
      obtain ⟨k', rfl⟩ : ∃ k', k = k' + 1 := ⟨k - 1, by omega⟩
      obtain ⟨g', rfl⟩ : ∃ g', gk = g' + 1 := ⟨gk - 1, by omega⟩
      have hcl := cut_len hst.ne
      have H := hidb hst
      have HIA := hidb hia
      have HIL := hidb hil
      have HDJ := hidb hdj
      have ha0 : la.length = l.length := by rw [← hla, List.length_map]
      have hl0 : ll.length = l.length := by rw [← hll, List.length_map]
      have hc1 : la.length + 1 ≤ maxLen := by unfold maxLen; omega
      have hc2 : (la.length + 1) * 8 ≤ 140737488355328 := by omega
      have hc3 : ll.length + 1 ≤ maxLen := by unfold maxLen; omega
      have hc4 : (ll.length + 1) * 8 ≤ 140737488355328 := by omega
      have HLA := hidb hla
      have HLL := hidb hll
      have HA0 := hidb ha0
      have HL0 := hidb hl0
      have hab : la.length ≤ 100001 := by omega
      have hlb : ll.length ≤ 100001 := by omega
      clear ha0 hl0
      cases hm : Gm.isM (Gm.hd sx) ⟨#[97, 110, 100, 97, 108, 115, 111]⟩ with
      | false =>
        have HM := hidb hm
        have HR : Hid (R = layR ⟨#[97, 110, 100, 97, 108, 115, 111]⟩ l sx) := hidb (by have h2 := hmore.trans (coll_f hm); simpa only [List.append_nil] using h2)
        clear hm hst hia hil hdj hmore hla hll
        go_wp2_with (first
          | (go_at_call 105; refine (sKept (x := ⟨#[97, 110, 100, 97, 108, 115, 111]⟩) rfl H.out).mono ?_; rintro r1 w1 ⟨⟨hq, rfl⟩ | ⟨hq, rfl⟩, hb⟩ <;> first | (rw [HM.out] at hq; cases hq; done) | (replace HIA := hidb (HIA.out.below hb); replace HIL := hidb (HIL.out.below hb); replace H := hidb (H.out.below hb); clear hb hq))
          | (go_at_call 126; refine (pBack _ H.out.at l (by rw [HLL.out]; exact HIL.out) (by rw [HLA.out]; exact HIA.out) hne (by omega)).mono ?_; rintro r1 w5 (⟨er, q, z, hq, rfl, hbd⟩ | ⟨z, s2, V2, hq, rfl, hs⟩) <;> first | (replace H := hidb (H.out.trans hs); replace HR := hidb (HR.out.trans hq); clear hs hq) | (have HRE := hidb (HR.out.trans hq); replace H := hidb (H.out.bad hbd); clear hbd hq HR)))
        all_goals (
          go_ret
          first
            | exact .inr ⟨_, _, _, HR.out, rfl, H.out.drop.drop⟩
            | exact .inl ⟨_, _, _, HRE.out, rfl, H.out⟩)
      | true =>
        have HM := hidb hm
        have HR := hidb (hmore.trans (coll_t hm))
        clear hm hst hia hil hdj hmore hla hll
        go_wp2_with (first
          | (go_at_call 105; refine (sKept (x := ⟨#[97, 110, 100, 97, 108, 115, 111]⟩) rfl H.out).mono ?_; rintro r1 w1 ⟨⟨hq, rfl⟩ | ⟨hq, rfl⟩, hb⟩ <;> first | (rw [HM.out] at hq; cases hq; done) | (replace HIA := hidb (HIA.out.below hb); replace HIL := hidb (HIL.out.below hb); replace H := hidb (H.out.below hb); clear hb hq))
          | (go_at_call 29; refine (sNextT H.out.at HM.out).mono ?_; rintro r1 w1 ⟨rfl, hs⟩; replace HIA := hidb (HIA.out.step hs); replace HIL := hidb (HIL.out.step hs); replace H := hidb (H.out.trans hs); clear hs)
          | (go_at_call 26; refine (sNow H.out).mono ?_; rintro r1 w3 ⟨t, hq, rfl, hb⟩; replace HR := hidb (HR.out.trans (Gm.bind_here hq)); replace HIA := hidb (HIA.out.below hb); replace HIL := hidb (HIL.out.below hb); replace H := hidb (H.out.below hb); clear hb hq)
          | (at_builtin; refine wpList_append_own_at _ rfl _ _ 44 rfl w.heap.size IT i0 (.int .i64 0) 1 8 Tryz.underlying44 hi0 hz0 hz1 hz2 rfl (by decide) _ _ _ rfl (HIA.out.own.alloc _) ⟨w3.heap.size, 0, none⟩ 1 1 [iv t.p] rfl rfl ?_ ?_ ?_ ?_ ?_ ?_))
        all_goals first
          | (intro q u hq; exact app_ints _ _ _ rfl q u hq)
          | (intro u hu; cases List.mem_singleton.1 hu; rfl)
          | exact hc1
          | exact hc2
          | exact hc3
          | exact hc4
          | (have := H.out.but.size; simp; omega)
          | skip
        intro v' w4 hown hgrow hnil hat
        obtain ⟨j1, j2, j3, j4⟩ := two_app (xs := [t.p]) H.out.swap HIA.out HIL.out (fun k hk he => HDJ.out k he hk) hgrow hat hown
        obtain ⟨a', c', rfl⟩ : ∃ a' c', v' = .slice a' (la ++ [t.p]).length c' := by obtain ⟨a', c', h⟩ := own_sl hown; exact ⟨a', c', by simpa using h⟩
        replace HIA := hidb j1
        replace HIL := hidb j2
        replace HDJ := hidb (fun k hk he => j3 k he hk)
        replace H := hidb j4
        clear j1 j2 j3 j4 hown hgrow hnil hat
        go_wp2_with (first
          | (go_at_call 129; refine (HU.out _ _ _ _ H.out.at).mono ?_; rintro r1 w5 (⟨er, q, y, hq, rfl, hbd⟩ | ⟨y, s2, V2, hq, rfl, hs⟩) <;> first | (have HF := hidb (HA.out _ H.out.ne _ _ hq).1.len; replace HIA := hidb (HIA.out.step hs); replace HIL := hidb (HIL.out.step hs); replace H := hidb (H.out.trans hs); replace HR := hidb (HR.out.trans (Gm.bind_ok hq)); clear hs hq) | (have HRE := hidb (HR.out.trans (Gm.bind_err hq)); have HWA := hidb (HIA.out.badrow (by rw [List.length_append, List.length_singleton]; omega) hbd); have HWL := hidb (HIL.out.badrow (by omega) hbd); have HGA := hidb HIA.out.ng; replace H := hidb (H.out.bad hbd); clear hbd hq HR HIA HIL))
          | (at_builtin; refine wpList_append_own_at _ rfl _ _ 44 rfl w.heap.size IT i0 (.int .i64 0) 1 8 Tryz.underlying44 hi0 hz0 hz1 hz2 rfl (by decide) _ _ _ rfl (HIL.out.own.alloc _) ⟨w5.heap.size, 0, none⟩ 1 1 [iv y] rfl rfl ?_ ?_ ?_ ?_ ?_ ?_)
          | (at_builtin; refine wpList_append_own_at _ rfl _ _ 44 rfl w.heap.size IT i0 (.int .i64 0) 1 8 Tryz.underlying44 hi0 hz0 hz1 hz2 rfl (by decide) _ _ _ rfl (HWL.out.1.alloc _) ⟨w5.heap.size, 0, none⟩ 1 1 [iv y] rfl rfl ?_ ?_ ?_ ?_ ?_ ?_))
        all_goals first
          | (intro q u hq; exact app_ints _ _ _ rfl q u hq)
          | (intro u hu; cases List.mem_singleton.1 hu; rfl)
          | exact hc1
          | exact hc2
          | exact hc3
          | exact hc4
          | (have := H.out.but.size; simp; omega)
          | skip
        · intro v' w6 hown hgrow hnil hat
          obtain ⟨j1, j2, j3, j4⟩ := two_bad (xs := [y]) H.out hgl hbl HWL.out HWA.out HDJ.out hgrow hown (by simp; omega)
          obtain ⟨a2, c2, rfl⟩ : ∃ a' c', v' = .slice a' (ll ++ [y]).length c' := by obtain ⟨a', c', h⟩ := own_sl hown; exact ⟨a', c', by simpa using h⟩
          replace HWL := hidb j1
          replace HWA := hidb j2
          have HGL := hidb j4
          replace H := hidb j3
          clear j1 j2 j3 j4 hown hgrow hnil hat
          go_wp2_with fail
          go_roundg g'
          case measure => omega
          case rel => exact .inr ⟨la ++ [t.p], ll ++ [y], a', a2, c', c2, l.length, er, q, (by simp), (by simp), (by have := HA0.out; simp; omega), (by have := HL0.out; simp; omega), HRE.out, H.out, HWA.out, HWL.out, HGA.out, HGL.out⟩
        · intro v' w6 hown hgrow hnil hat
          obtain ⟨j1, j2, j3, j4⟩ := two_app (xs := [y]) H.out.swap HIL.out HIA.out HDJ.out hgrow hat hown
          obtain ⟨a2, c2, rfl⟩ : ∃ a' c', v' = .slice a' (ll ++ [y]).length c' := by obtain ⟨a', c', h⟩ := own_sl hown; exact ⟨a', c', by simpa using h⟩
          replace HIL := hidb j1
          replace HIA := hidb j2
          replace HDJ := hidb j3
          replace H := hidb j4
          clear j1 j2 j3 j4 hown hgrow hnil hat
          go_wp2_with fail
          go_roundg g'
          case measure => omega
          case rel => exact .inl ⟨l ++ [(t.p, y)], la ++ [t.p], ll ++ [y], s2, V2, a', a2, c', c2, k', (by simp), (by simp), H.out, HIA.out, HIL.out, HDJ.out, (by rw [List.map_append, HLA.out]; rfl), (by rw [List.map_append, HLL.out]; rfl), HR.out.trans (by simp only [List.append_assoc, List.singleton_append]), (by have := HF.out; omega), (by omega), (by have := HF.out; simp; omega), (by simp)⟩
    · subst hs3
      subst hs4
      have H := hidb hbd
      have HRE := hidb hre
      have HWA := hidb hwa
      have HWL := hidb hwl
      have HGA := hidb hga
      have HGL := hidb hgl2
      have HN1 := hidb hn1
      have HN2 := hidb hn2
      clear hbd hre hwa hwl hga hgl2 hn1 hn2
      go_wp2_with (first
        | (go_at_call 105; refine (bKept _ H.out).mono ?_; rintro r1 w4 ⟨rfl, hb⟩; replace HWA := hidb (RB.but HWA.out (But.of_below (S := fun _ => False) hb) (fun _ _ h => h)); replace HWL := hidb (RB.but HWL.out (But.of_below (S := fun _ => False) hb) (fun _ _ h => h)); replace H := hidb (H.out.keep hb); clear hb)
        | (go_at_call 126; refine (bBack _ HWL.out HWA.out HGL.out HGA.out HN1.out HN2.out H.out).mono ?_; rintro r1 w5 ⟨⟨z, rfl⟩, hd, hb⟩; replace H := hidb hd; clear hd hb))
      go_ret
      exact .inl ⟨_, _, _, HRE.out, rfl, H.out⟩
end Rf
end Go.Proofs.YthdljnakmekhkaaGreatDoor
