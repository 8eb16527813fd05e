import Derived.Test.YthdljnakmekhkaaGreatDoorG15
namespace Go.Proofs.YthdljnakmekhkaaGreatDoor
namespace Rf
open Go.RowKit Go.Lib
attribute [local go_sem] store_float f64bits
attribute [local go_sem ↓] Go.wp_at_zero Go.wp_at_succ
attribute [local go_sem] nd_p tk_k tk_x tk_n tk_f tk_p
variable {B g b o : Nat} {e : PM Nat}
theorem own_some {w : World} {C e size n : Nat} {v : Value} {xs : List Value} (h : w.ownsRow C e size v n xs) (hn0 : 0 < n) : ∃ q c, v = .slice (some ⟨q, 0, none⟩) n c := by
  rcases h.2 with ⟨_, hn⟩ | ⟨q, cap, cur, hv, _⟩
  · omega
  · exact ⟨q, _, hv⟩
theorem own_iv {w : World} {C n q c : Nat} {l : List Nat} (h : w.ownsRow C IT 1 (.slice (some ⟨q, 0, none⟩) n c) n (l.map iv)) {m y : Nat} (hy : l[m]? = some y) (hm : m < n) : w.cell? ⟨q, m, none⟩ = some (iv y) := by
  rw [h.cellAt m (by omega)]
  simp [hy]
theorem n_of {w : World} {C M : Nat} {V v : Value} {l : List (Nat × Nat)} {f : Nat × Nat → Nat} (h : IR w C g b V v (l.map f)) (hM : l.length = M) : w.ownsRow C IT 1 v M ((l.map f).map iv) := by
  have := h.own
  rwa [List.length_map, hM] at this
theorem n_of2 {w : World} {C M : Nat} {v : Value} {l : List (Nat × Nat)} {f : Nat × Nat → Nat} (h : RB w C v (l.map f)) (hM : l.length = M) : w.ownsRow C IT 1 v M ((l.map f).map iv) := by
  have := h.1
  rwa [List.length_map, hM] at this
set_option maxHeartbeats 4000000 in
set_option maxRecDepth 100000 in
theorem bBack {w0 w : World} {V0 : Value} {er : Int} {p : Nat} (x : ByteArray) {C C' M : Nat} {vl va : Value} {l a : List Nat} (hl : RB w C vl l) (ha : RB w C' va a) (hlg : vl.ownBlock ≠ some g) (hag : va.ownBlock ≠ some g) (hM : l.length = M + 1) (hM2 : a.length = M + 1) (h : Bd g b w0 V0 w er p) :
    Calls Tryz.prog 126 #[.pointer (some ⟨g, 0, none⟩), vl, va, .string x] w fun r w' => (∃ n : Nat, r = .returned (iv n)) ∧ Bd g b w0 V0 w' er p ∧ But (· = g) w w' := by
  obtain ⟨N, hN⟩ : ∃ N, M + 1 = N := ⟨_, rfl⟩
  rw [hN] at hM hM2
  have hl1 := hl.1
  have ha1 := ha.1
  have hlb := hl.2
  rw [hM] at hl1 hlb
  rw [hM2] at ha1
  obtain ⟨q1, c1, rfl⟩ := own_some hl1 (by omega)
  obtain ⟨q2, c2, rfl⟩ := own_some ha1 (by omega)
  obtain ⟨y0, hy0⟩ : ∃ y, l[M]? = some y := ⟨l[M], List.getElem?_eq_getElem (by omega)⟩
  have k0 := own_iv hl1 hy0 (by omega)
  have H := hidb h
  have HB : Hid (But (· = g) w w) := hidb (But.refl _ _)
  have HL := hidb hl1
  have HA := hidb ha1
  have e1 : IntKind.i64.wrap ((N : Int) - 1) = (M : Int) := by rw [IntKind.wrap_i64]; omega
  have e2 : IntKind.i64.wrap ((N : Int) - 2) = (M : Int) - 1 := by rw [IntKind.wrap_i64]; omega
  have e3 : (0 : Int) ≤ (M : Int) := by omega
  have e4 : (M : Int) < (N : Int) := by omega
  clear hl ha h hl1 ha1
  go_enter Tryz.func126, Tryz.ntmps126
  go_wp2_with fail
  go_loopg [9, 10] M (fun gf s9 s10 wx => ∃ (i y : Nat) (j : Int), s9 = iv y ∧ s10 = .int .i64 j ∧ j + 1 = (i : Int) ∧ i ≤ M ∧ i ≤ gf ∧ Bd g b w0 V0 wx er p ∧ But (· = g) w wx ∧ wx.ownsRow C IT 1 (.slice (some ⟨q1, 0, none⟩) N c1) N (l.map iv) ∧ wx.ownsRow C' IT 1 (.slice (some ⟨q2, 0, none⟩) N c2) N (a.map iv))
  case atStart => exact ⟨M, y0, _, rfl, rfl, by omega, Nat.le_refl _, Nat.le_refl _, H.out, HB.out, HL.out, HA.out⟩
  case round =>
    obtain ⟨i, y, j, hs9, hs10, hj, hiM, hig, hbd, hbt, hr1, hr2⟩ := hrel
    subst hs9
    subst hs10
    clear H HB HL HA k0
    cases i with
    | zero =>
      obtain rfl : j = -1 := by omega
      have H := hidb hbd
      have HB := hidb hbt
      clear hbd hbt hr1 hr2 hj
      go_wp2_with fail
      go_ret
      exact ⟨⟨_, rfl⟩, H.out, HB.out⟩
    | succ m =>
      obtain rfl : j = (m : Int) := by omega
      obtain ⟨g2, rfl⟩ : ∃ g2, gk = g2 + 1 := ⟨gk - 1, by omega⟩
      obtain ⟨z1, hz1⟩ : ∃ z, l[m]? = some z := ⟨l[m], List.getElem?_eq_getElem (by omega)⟩
      obtain ⟨z2, hz2⟩ : ∃ z, a[m]? = some z := ⟨a[m], List.getElem?_eq_getElem (by omega)⟩
      have k1 := own_iv hr1 hz1 (by omega)
      have k2 := own_iv hr2 hz2 (by omega)
      have hmw : IntKind.i64.wrap ((m : Int) - 1) = (m : Int) - 1 := by rw [IntKind.wrap_i64]; omega
      have hm0 : (0 : Int) ≤ (m : Int) := by omega
      have hm1 : (m : Int) < (N : Int) := by omega
      have H := hidb hbd
      have HB := hidb hbt
      have HL := hidb hr1
      have HA := hidb hr2
      have HZ1 := hidb hz1
      have HZ2 := hidb hz2
      clear hbd hbt hr1 hr2 hj hz1 hz2
      go_wp2_with fail
      have HX := hidb (H.out.keep (Below.drew (Below.refl _ _)))
      have HBX := hidb (HB.out.trans (But.of_below (Below.drew (Below.refl _ _))))
      have HLX := hidb (row_but HL.out (But.of_below (S := fun _ => False) (Below.drew (Below.refl _ _))) (fun _ _ h => h))
      have HAX := hidb (row_but HA.out (But.of_below (S := fun _ => False) (Below.drew (Below.refl _ _))) (fun _ _ h => h))
      go_region_held2 (fun w' => w'.cell? ⟨q1, m, none⟩ = some (iv z1) ∧ w'.cell? ⟨q2, m, none⟩ = some (iv z2))
        (first | with_reducible exact ⟨y1, y2⟩ | go_keep)
        (first
          | (go_at_call 123; refine (bTwo _ _ _ _ HX.out).mono ?_; rintro r1 w3 ⟨rfl, hd, hb⟩; have HL3 := hidb (row_but HLX.out hb (fun k hk he => hlg (by have he2 : k = g := he; exact he2 ▸ hk))); have HA3 := hidb (row_but HAX.out hb (fun k hk he => hag (by have he2 : k = g := he; exact he2 ▸ hk))); have y1 := own_iv HL3.out HZ1.out (by omega); have y2 := own_iv HA3.out HZ2.out (by omega); have HB3 := hidb (HBX.out.trans hb); have H3 := hidb hd; clear hb hd))
      all_goals (
        go_wp2_with fail
        go_roundg g2
        (case measure => omega)
        (case rel => exact ⟨m, 0, (m : Int) - 1, rfl, rfl, by omega, by omega, by omega, H3.out, HB3.out, HL3.out, HA3.out⟩))
set_option maxHeartbeats 4000000 in
set_option maxRecDepth 100000 in
theorem pBack (x : ByteArray) {P : Nat → Prop} {w : World} {V : Value} {s : PS} (h : At B g b o P w V s) {C C' : Nat} {vl va : Value} (l : List (Nat × Nat)) (hl : IR w C g b V vl (l.map Prod.snd)) (ha : IR w C' g b V va (l.map Prod.fst)) (hne : l ≠ []) (hlb : l.length ≤ 100002) :
    Calls Tryz.prog 126 #[.pointer (some ⟨g, 0, none⟩), vl, va, .string x] w fun r w' => Rz B g b o P w V (layR x l s) r w' := by
  obtain ⟨M, hM⟩ : ∃ M, l.length = M + 1 := ⟨l.length - 1, by have := List.length_pos_iff.2 hne; omega⟩
  obtain ⟨N, hN⟩ : ∃ N, M + 1 = N := ⟨_, rfl⟩
  rw [hN] at hM
  have hl1 := hl.own
  have ha1 := ha.own
  rw [List.length_map, hM] at hl1 ha1
  obtain ⟨q1, c1, rfl⟩ := own_some hl1 (by omega)
  obtain ⟨q2, c2, rfl⟩ := own_some ha1 (by omega)
  obtain ⟨y0, hy0⟩ : ∃ y, l[M]? = some y := ⟨l[M], List.getElem?_eq_getElem (by omega)⟩
  have k0 := own_iv hl1 (y := y0.2) (by rw [List.getElem?_map, hy0]; rfl) (show M < N by omega)
  have hlast : layR x l = layB x (l.take M).reverse y0.2 := by
    have h1 : l = l.take M ++ [y0] := by
      have h3 : l.take (M + 1) = l.take M ++ [y0] := by rw [List.take_add_one, hy0]; rfl
      rwa [List.take_of_length_le (by omega)] at h3
    conv => lhs; rw [h1]
    exact layR_B _ _
  have H : Hid (St B g b o P w V w V s) := hidb h
  obtain ⟨R, hR⟩ : ∃ R, layR x l s = R := ⟨_, rfl⟩
  rw [hR]
  have HR := hidb (hR.symm.trans (congrFun hlast s))
  have HL := hidb hl
  have HA := hidb ha
  have e1 : IntKind.i64.wrap ((N : Int) - 1) = (M : Int) := by rw [IntKind.wrap_i64]; omega
  have e2 : IntKind.i64.wrap ((N : Int) - 2) = (M : Int) - 1 := by rw [IntKind.wrap_i64]; omega
  have e3 : (0 : Int) ≤ (M : Int) := by omega
  have e4 : (M : Int) < (N : Int) := by omega
  have HMM := hidb hM
  clear hl ha h hl1 ha1 hR hlast
  go_enter Tryz.func126, Tryz.ntmps126
  go_wp2_with fail
  go_loopg [9, 10] M (fun gf s9 s10 wx => (∃ (i y : Nat) (j : Int) (sy : PS) (Vy : Value), s9 = iv y ∧ s10 = .int .i64 j ∧ j + 1 = (i : Int) ∧ i ≤ M ∧ i ≤ gf ∧ R = layB x (l.take i).reverse y sy ∧ St B g b o P w V wx Vy sy ∧ IR wx C g b Vy (.slice (some ⟨q1, 0, none⟩) N c1) (l.map Prod.snd) ∧ IR wx C' g b Vy (.slice (some ⟨q2, 0, none⟩) N c2) (l.map Prod.fst)) ∨ (∃ (i y : Nat) (j er : Int) (p : Nat), s9 = iv y ∧ s10 = .int .i64 j ∧ j + 1 = (i : Int) ∧ i ≤ M ∧ i ≤ gf ∧ R = .error (er, p) ∧ Bd g b w V wx er p ∧ RB wx C (.slice (some ⟨q1, 0, none⟩) N c1) (l.map Prod.snd) ∧ RB wx C' (.slice (some ⟨q2, 0, none⟩) N c2) (l.map Prod.fst) ∧ q1 ≠ g ∧ q2 ≠ g))
  case atStart => exact .inl ⟨M, y0.2, _, s, V, rfl, rfl, by omega, Nat.le_refl _, Nat.le_refl _, HR.out, H.out, HL.out, HA.out⟩
  case round =>
    clear H HR HL HA k0
    rcases hrel with ⟨i, y, j, sy, Vy, hs9, hs10, hj, hiM, hig, hmore, hst, hr1, hr2⟩ | ⟨i, y, j, er, p, hs9, hs10, hj, hiM, hig, hre, hbd, hr1, hr2, hg1, hg2⟩
    · subst hs9
      subst hs10
      cases i with
      | zero =>
        obtain rfl : j = -1 := by omega
        have H := hidb hst
        have HR := hidb hmore
        clear hst hmore hr1 hr2 hj
        go_wp2_with fail
        go_ret
        exact .inr ⟨_, _, _, HR.out, rfl, H.out⟩
      | succ m =>
        obtain rfl : j = (m : Int) := by omega
        obtain ⟨g2, rfl⟩ : ∃ g2, gk = g2 + 1 := ⟨gk - 1, by omega⟩
        have hM := HMM.out
        obtain ⟨⟨z2, z1⟩, hz1⟩ : ∃ z, l[m]? = some z := ⟨l[m], List.getElem?_eq_getElem (by omega)⟩
        have o1 := hr1.own
        have o2 := hr2.own
        rw [List.length_map, hM] at o1 o2
        have k1 := own_iv o1 (y := z1) (by rw [List.getElem?_map, hz1]; rfl) (show m < N by omega)
        have k2 := own_iv o2 (y := z2) (by rw [List.getElem?_map, hz1]; rfl) (show m < N by omega)
        have htk : l.take (m + 1) = l.take m ++ [(z2, z1)] := by rw [List.take_add_one, hz1]; rfl
        have hmw : IntKind.i64.wrap ((m : Int) - 1) = (m : Int) - 1 := by rw [IntKind.wrap_i64]; omega
        have hm0 : (0 : Int) ≤ (m : Int) := by omega
        have hm1 : (m : Int) < (N : Int) := by omega
        have H := hidb hst
        have HL := hidb hr1
        have HA := hidb hr2
        rw [htk, List.reverse_append] at hmore
        have HR : Hid (R = (Gm.op z2 x [z1, y] >>= fun z => layB x (l.take m).reverse z) sy) := hidb hmore
        have hlm : (l.map Prod.snd).length ≤ 100002 := by rw [List.length_map]; exact hlb
        have hlm2 : (l.map Prod.fst).length ≤ 100002 := by rw [List.length_map]; exact hlb
        have HZ1 := hidb (show (l.map Prod.snd)[m]? = some z1 by rw [List.getElem?_map, hz1]; rfl)
        have HZ2 := hidb (show (l.map Prod.fst)[m]? = some z2 by rw [List.getElem?_map, hz1]; rfl)
        clear hst hr1 hr2 hj hz1 o1 o2 hmore htk hM
        go_wp2_with fail
        have HX := hidb (H.out.below (Below.drew (Below.refl _ _)))
        have HLX := hidb (HL.out.below (Below.drew (Below.refl _ _)))
        have HAX := hidb (HA.out.below (Below.drew (Below.refl _ _)))
        go_region_held2 (fun w' => w'.cell? ⟨q1, m, none⟩ = some (iv z1) ∧ w'.cell? ⟨q2, m, none⟩ = some (iv z2))
          (first | with_reducible exact ⟨y1, y2⟩ | go_keep)
          (first
            | (go_at_call 123; refine (pTwo _ z1 y z2 HX.out.at).mono ?_; intro r1 w3 hrz; obtain ⟨z, rfl, hbu, hor⟩ := hrz.one; have HOR := hidb hor; have o1 := row_but (n_of HLX.out HMM.out) hbu (fun k hk he => he.elim (fun e => HLX.out.ng (e ▸ hk)) (fun e => HLX.out.nv k hk e)); have o2 := row_but (n_of HAX.out HMM.out) hbu (fun k hk he => he.elim (fun e => HAX.out.ng (e ▸ hk)) (fun e => HAX.out.nv k hk e)); have y1 := own_iv o1 HZ1.out (by omega); have y2 := own_iv o2 HZ2.out (by omega); clear hrz hbu hor o1 o2))
        all_goals (
          go_wp2_with fail
          go_roundg g2
          (case measure => omega)
          (case rel =>
            rcases HOR.out with ⟨er, q, hq, hbd⟩ | ⟨s2, V2, hq, hs⟩
            · exact .inr ⟨m, z, (m : Int) - 1, er, q, rfl, rfl, (by omega), (by omega), (by omega), HR.out.trans (Gm.bind_err hq), HX.out.bad hbd, HLX.out.badrow hlm hbd, HAX.out.badrow hlm2 hbd, (fun he => HL.out.ng (by rw [he]; rfl)), (fun he => HA.out.ng (by rw [he]; rfl))⟩
            · exact .inl ⟨m, z, (m : Int) - 1, s2, V2, rfl, rfl, (by omega), (by omega), (by omega), HR.out.trans (Gm.bind_ok hq), HX.out.trans hs, HLX.out.step hs, HAX.out.step hs⟩))
    · subst hs9
      subst hs10
      cases i with
      | zero =>
        obtain rfl : j = -1 := by omega
        have H := hidb hbd
        have HRE := hidb hre
        clear hbd hre hr1 hr2 hj
        go_wp2_with fail
        go_ret
        exact .inl ⟨_, _, _, HRE.out, rfl, H.out⟩
      | succ m =>
        obtain rfl : j = (m : Int) := by omega
        obtain ⟨g2, rfl⟩ : ∃ g2, gk = g2 + 1 := ⟨gk - 1, by omega⟩
        have hM := HMM.out
        obtain ⟨⟨z2, z1⟩, hz1⟩ : ∃ z, l[m]? = some z := ⟨l[m], List.getElem?_eq_getElem (by omega)⟩
        have o1 := hr1.1
        have o2 := hr2.1
        rw [List.length_map, hM] at o1 o2
        have k1 := own_iv o1 (y := z1) (by rw [List.getElem?_map, hz1]; rfl) (show m < N by omega)
        have k2 := own_iv o2 (y := z2) (by rw [List.getElem?_map, hz1]; rfl) (show m < N by omega)
        have hmw : IntKind.i64.wrap ((m : Int) - 1) = (m : Int) - 1 := by rw [IntKind.wrap_i64]; omega
        have hm0 : (0 : Int) ≤ (m : Int) := by omega
        have hm1 : (m : Int) < (N : Int) := by omega
        have H := hidb hbd
        have HRE := hidb hre
        have HL := hidb hr1
        have HA := hidb hr2
        have HZ1 := hidb (show (l.map Prod.snd)[m]? = some z1 by rw [List.getElem?_map, hz1]; rfl)
        have HZ2 := hidb (show (l.map Prod.fst)[m]? = some z2 by rw [List.getElem?_map, hz1]; rfl)
        clear hbd hre hr1 hr2 hj hz1 o1 o2 hM
        go_wp2_with fail
        have HX := hidb (H.out.keep (Below.drew (Below.refl _ _)))
        have HLX := hidb (HL.out.but (But.of_below (S := fun _ => False) (Below.drew (Below.refl _ _))) (fun _ _ h => h))
        have HAX := hidb (HA.out.but (But.of_below (S := fun _ => False) (Below.drew (Below.refl _ _))) (fun _ _ h => h))
        go_region_held2 (fun w' => w'.cell? ⟨q1, m, none⟩ = some (iv z1) ∧ w'.cell? ⟨q2, m, none⟩ = some (iv z2))
          (first | with_reducible exact ⟨y1, y2⟩ | go_keep)
          (first
            | (go_at_call 123; refine (bTwo _ _ _ _ HX.out).mono ?_; rintro r1 w3 ⟨rfl, hd, hb⟩; have HL3 := hidb (HLX.out.but hb (fun k hk he => hg1 (by have he2 : k = g := he; simp [Value.ownBlock] at hk; omega))); have HA3 := hidb (HAX.out.but hb (fun k hk he => hg2 (by have he2 : k = g := he; simp [Value.ownBlock] at hk; omega))); have y1 := own_iv (n_of2 HL3.out HMM.out) HZ1.out (by omega); have y2 := own_iv (n_of2 HA3.out HMM.out) HZ2.out (by omega); have H3 := hidb hd; clear hb hd))
        all_goals (
          go_wp2_with fail
          go_roundg g2
          (case measure => omega)
          (case rel => exact .inr ⟨m, 0, (m : Int) - 1, er, p, rfl, rfl, (by omega), (by omega), (by omega), HRE.out, H3.out, HL3.out, HA3.out, hg1, hg2⟩))
end Rf
end Go.Proofs.YthdljnakmekhkaaGreatDoor
