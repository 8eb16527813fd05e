import Derived.Test.YthdljnakmekhkaaGreatDoorG11
import Derived.Test.YthdljnakmekhkaaGreatDoorSU
namespace Go.Proofs.YthdljnakmekhkaaGreatDoor
namespace Rf
open Go.RowKit Go.Lib
attribute [local go_sem] store_float f64bits
attribute [local go_sem ↓] Go.wp_at_zero Go.wp_at_succ
attribute [local go_sem] nd_p tk_k tk_x tk_n tk_f tk_p
variable {B g b o : Nat} {e : PM Nat}
theorem isA_f {uk un : Int} {ux : ByteArray} {uf up : Nat} (h : ¬ Gm.isA ⟨uk, ux, un, uf, up⟩ ⟨#[109, 111, 100, 117, 108, 101]⟩ = true) : (uk != 1) = true ∨ (uk = 1 ∧ (ux.toList == [109, 111, 100, 117, 108, 101]) = false ∧ ¬ ux.toList = [109, 111, 100, 117, 108, 101]) := by
  by_cases h1 : uk = 1
  · by_cases h2 : ux = ⟨#[109, 111, 100, 117, 108, 101]⟩
    · exact absurd (by simp [Gm.isA, h1, h2]) h
    · exact .inr ⟨h1, lit_f h2, lit_F h2⟩
  · exact .inl (by simpa using h1)
theorem isA_or {uk : Int} {ux : ByteArray} : (uk != 1) = true ∨ (uk = 1 ∧ (ux.toList == [109, 111, 100, 117, 108, 101]) = false ∧ ¬ ux.toList = [109, 111, 100, 117, 108, 101]) ∨ (uk = 1 ∧ ux = ⟨#[109, 111, 100, 117, 108, 101]⟩) := by
  by_cases h1 : uk = 1
  · by_cases h2 : ux = ⟨#[109, 111, 100, 117, 108, 101]⟩
    · exact .inr (.inr ⟨h1, h2⟩)
    · exact .inr (.inl ⟨h1, lit_f h2, lit_F h2⟩)
  · exact .inl (by simpa using h1)
theorem isA_t {uk un : Int} {ux : ByteArray} {uf up : Nat} (h : Gm.isA ⟨uk, ux, un, uf, up⟩ ⟨#[109, 111, 100, 117, 108, 101]⟩ = true) : uk = 1 ∧ ux = ⟨#[109, 111, 100, 117, 108, 101]⟩ := by simpa [Gm.isA] using h
set_option maxHeartbeats 8000000 in
set_option maxRecDepth 100000 in
theorem pModule (hE : EC B g b o e) {P : Nat → Prop} {w : World} {V : Value} {s : PS} (h : At B g b o P w V s) :
    Calls Tryz.prog 18 #[.pointer (some ⟨g, 0, none⟩)] w fun r w' => Rz B g b o P w V (Gm.module e s) r w' := by
  obtain ⟨i0, hi0, hz0, hz1, hz2⟩ := info_parts (P := Tryz.prog) (e := IT) (z := .int .i64 0) (size := 1) (bytes := 8) (by kernel_rfl)
  have H : Hid (St B g b o P w V w V s) := hidb h
  have HE := hidb hE
  have HP := hidb h.plt
  obtain ⟨R, hR⟩ : ∃ R, Gm.module e s = R := ⟨_, rfl⟩
  rw [hR]
  have HR := hidb hR.symm
  have HGB := hidb (And.intro h.glt h.blt)
  have M0 : Hid True := hidb trivial
  clear hR h hE
  go_enter Tryz.func18, Tryz.ntmps18
  go_wp2_with (first
    | (go_at_call 26; clear M0; refine (sNow H.out).mono ?_; rintro r1 w1 ⟨t, hq, rfl, hb⟩; replace H := hidb (H.out.below hb); replace HR := hidb (HR.out.trans (Gm.bind_here hq)); clear hb hq)
    | (go_at_call 26; refine (sNow H.out).mono ?_; rintro r1 wt ⟨⟨uk, ux, un, uf, up⟩, hq, rfl, hb⟩; replace H := hidb (H.out.below hb); replace HR := hidb (HR.out.trans (Gm.bind_here hq)); (by_cases hA : Gm.isA ⟨uk, ux, un, uf, up⟩ ⟨#[109, 111, 100, 117, 108, 101]⟩ = true) <;> first | (have hR2 := HR.out.trans (Gm.ite_t hA); obtain ⟨rfl, rfl⟩ := isA_t hA; replace HR := hidb hR2; have TU := hidb hq; have BT := hidb (Box.new wt 41 (.int .i64 1) (.string ⟨#[109, 111, 100, 117, 108, 101]⟩) (.int .i64 un) (.float .f64 uf) (.int .i64 (up : Int))); replace H := hidb (H.out.hold (.cells #[.int .i64 1, .string ⟨#[109, 111, 100, 117, 108, 101]⟩, .int .i64 un, .float .f64 uf, .int .i64 (up : Int)] 41)); obtain ⟨y0, y1, y2, y3, y4, -, -, -, -, -, yl⟩ := BT.out; clear hb hq hA hR2) | (have HRE := hidb ((HR.out.trans (Gm.ite_f hA)).trans (show (Gm.giveUp 24 s1 : Except (Int × Nat) (Nat × PS)) = .error (24, up) by unfold Gm.giveUp; rw [hq])); have hA2 := isA_f hA; clear hb hq hA HR; (rcases hA2 with d0 | ⟨rfl, d1, d2⟩) <;> (first | (have d00 := d0; clear d00; replace H := hidb (H.out.hold (.cells #[.int .i64 uk, .string ux, .int .i64 un, .float .f64 uf, .int .i64 (up : Int)] 41)); have BT := hidb (Box.new wt 41 (.int .i64 uk) (.string ux) (.int .i64 un) (.float .f64 uf) (.int .i64 (up : Int))); obtain ⟨y0, y1, y2, y3, y4, -, -, -, -, -, yl⟩ := BT.out) | (replace H := hidb (H.out.hold (.cells #[.int .i64 1, .string ux, .int .i64 un, .float .f64 uf, .int .i64 (up : Int)] 41)); have BT := hidb (Box.new wt 41 (.int .i64 1) (.string ux) (.int .i64 un) (.float .f64 uf) (.int .i64 (up : Int))); obtain ⟨y0, y1, y2, y3, y4, -, -, -, -, -, yl⟩ := BT.out))))
    | (go_at_call 28; refine (sFail H.out.at up (by decide)).mono ?_; rintro r1 w1 ⟨rfl, hbd⟩; replace H := hidb (H.out.bad hbd); clear hbd)
    | (go_at_call 29; refine (sNext H.out.at (hk_of TU.out (by simp))).mono ?_; rintro r1 w1 ⟨rfl, hs⟩; replace HR := hidb (HR.out.trans (Gm.bind_next ⟨TU.out, rfl⟩)); replace H := hidb (H.out.trans hs).drop; clear hs)
    | (go_at_call 27; have BXX := BX; clear BXX; refine (sWant (by first | exact .inl ⟨rfl, rfl⟩ | exact .inr ⟨rfl, rfl⟩) H.out.at).mono ?_; rintro r1 w1 (⟨er, q', hq, rfl, hbd⟩ | ⟨s1, hq, rfl, hs⟩) <;> first | (replace BX := hidb (Box.but BX.out hs.but (bx_no H.out)); obtain ⟨x0, x1, x2, x3, x4, -, -, -, -, -, xl⟩ := BX.out; replace H := hidb (H.out.trans hs); replace HR := hidb (HR.out.trans (Gm.bind_ok hq)); clear hs hq) | (have HRE := hidb (HR.out.trans (Gm.bind_err hq)); replace BX := hidb (Box.but BX.out hbd.but (bx_no H.out)); have HXG := hidb (fun e => (bx_no H.out) (.inl e) : wn.heap.size ≠ g); obtain ⟨x0, x1, x2, x3, x4, -, -, -, -, -, xl⟩ := BX.out; replace H := hidb (H.out.bad hbd); clear hq hbd HR))
    | (go_at_call 27; refine (sWant (by first | exact .inl ⟨rfl, rfl⟩ | exact .inr ⟨rfl, rfl⟩) H.out.at).mono ?_; rintro r1 w1 (⟨er, q', hq, rfl, hbd⟩ | ⟨s1, hq, rfl, hs⟩) <;> first | (replace H := hidb (H.out.trans hs); replace HR := hidb (HR.out.trans (Gm.bind_ok hq)); clear hs hq) | (have HRE := hidb (HR.out.trans (Gm.bind_err hq)); replace H := hidb (H.out.bad hbd); clear hq hbd HR))
    | (go_at_call 30; refine (sKind (by decide) H.out.at).mono ?_; rintro r1 wn (⟨er, q', ⟨tk, tx, tn, tf, tp⟩, hq, rfl, hbd⟩ | ⟨⟨tk, tx, tn, tf, tp⟩, s1, hq, rfl, hs⟩) <;> first | (replace H := hidb (H.out.trans hs); replace HR := hidb (HR.out.trans (Gm.bind_ok hq)); have BX := hidb (Box.new wn 41 (.int .i64 tk) (.string tx) (.int .i64 tn) (.float .f64 tf) (.int .i64 (tp : Int))); replace H := hidb (H.out.hold (.cells #[.int .i64 tk, .string tx, .int .i64 tn, .float .f64 tf, .int .i64 (tp : Int)] 41)); obtain ⟨x0, x1, x2, x3, x4, -, -, -, -, -, xl⟩ := BX.out; clear hs hq) | (have HRE := hidb (HR.out.trans (Gm.bind_err hq)); replace H := hidb (H.out.bad hbd); have HXG := hidb (by have := H.out.glt; omega : wn.heap.size ≠ g); have BX := hidb (Box.new wn 41 (.int .i64 tk) (.string tx) (.int .i64 tn) (.float .f64 tf) (.int .i64 (tp : Int))); replace H := hidb (H.out.keep (below_new wn (.cells #[.int .i64 tk, .string tx, .int .i64 tn, .float .f64 tf, .int .i64 (tp : Int)] 41))); obtain ⟨x0, x1, x2, x3, x4, -, -, -, -, -, xl⟩ := BX.out; clear hq hbd HR))
    | (go_at_call 26; refine (bNow H.out).mono ?_; rintro r1 wt ⟨⟨uk, ux, un, uf, up⟩, rfl, hb⟩; replace H := hidb (H.out.keep hb); clear hb; (rcases (isA_or (uk := uk) (ux := ux)) with d0 | ⟨rfl, d1, d2⟩ | ⟨rfl, rfl⟩) <;> first | (have d00 := d0; clear d00; replace H := hidb (H.out.keep (below_new wt (.cells #[.int .i64 uk, .string ux, .int .i64 un, .float .f64 uf, .int .i64 (up : Int)] 41))); have BT := hidb (Box.new wt 41 (.int .i64 uk) (.string ux) (.int .i64 un) (.float .f64 uf) (.int .i64 (up : Int))); obtain ⟨y0, y1, y2, y3, y4, -, -, -, -, -, yl⟩ := BT.out) | (have d00 := d1; clear d00; replace H := hidb (H.out.keep (below_new wt (.cells #[.int .i64 1, .string ux, .int .i64 un, .float .f64 uf, .int .i64 (up : Int)] 41))); have BT := hidb (Box.new wt 41 (.int .i64 1) (.string ux) (.int .i64 un) (.float .f64 uf) (.int .i64 (up : Int))); obtain ⟨y0, y1, y2, y3, y4, -, -, -, -, -, yl⟩ := BT.out) | (replace H := hidb (H.out.keep (below_new wt (.cells #[.int .i64 1, .string ⟨#[109, 111, 100, 117, 108, 101]⟩, .int .i64 un, .float .f64 uf, .int .i64 (up : Int)] 41))); have BT := hidb (Box.new wt 41 (.int .i64 1) (.string ⟨#[109, 111, 100, 117, 108, 101]⟩) (.int .i64 un) (.float .f64 uf) (.int .i64 (up : Int))); obtain ⟨y0, y1, y2, y3, y4, -, -, -, -, -, yl⟩ := BT.out))
    | (go_at_call 28; refine (bFail _ _ H.out).mono ?_; rintro r1 w1 ⟨rfl, hd, hb⟩; replace H := hidb hd; clear hb hd)
    | (go_at_call 29; refine (bNext H.out).mono ?_; rintro r1 w1 ⟨rfl, hb⟩; replace H := hidb (H.out.keep hb); clear hb)
    | (go_at_call 27; have BXX := BX; clear BXX; refine (bWant _ _ H.out).mono ?_; rintro r1 w1 ⟨rfl, hd, hb⟩; replace BX := hidb (Box.but BX.out hb (fun e => HXG.out e)); obtain ⟨x0, x1, x2, x3, x4, -, -, -, -, -, xl⟩ := BX.out; replace H := hidb hd; clear hb hd)
    | (go_at_call 27; refine (bWant _ _ H.out).mono ?_; rintro r1 w1 ⟨rfl, hd, hb⟩; replace H := hidb hd; clear hb hd)
    | (go_at_call 30; refine (bKind _ H.out).mono ?_; rintro r1 wn ⟨⟨tk, tx, tn, tf, tp⟩, rfl, hd, hb⟩; replace H := hidb hd; have HXG := hidb (by have := H.out.glt; omega : wn.heap.size ≠ g); have BX := hidb (Box.new wn 41 (.int .i64 tk) (.string tx) (.int .i64 tn) (.float .f64 tf) (.int .i64 (tp : Int))); replace H := hidb (H.out.keep (below_new wn (.cells #[.int .i64 tk, .string tx, .int .i64 tn, .float .f64 tf, .int .i64 (tp : Int)] 41))); obtain ⟨x0, x1, x2, x3, x4, -, -, -, -, -, xl⟩ := BX.out; clear hb hd))
  all_goals first
    | (
      have hre := HRE.out
      clear hre
      go_loopg [6] 0 (fun gf s6 wx => s6 = .slice none 0 0 ∧ wx = w1)
      case atStart => exact ⟨rfl, rfl⟩
      case round =>
        obtain ⟨rfl, hwx⟩ := hrel
        obtain rfl := hwx.symm
        go_wp2_with (first
          | (go_at_call 19; refine (bBad H.out).mono ?_; rintro r1 w2 ⟨rfl, rfl⟩)
          | (go_at_call 32; refine (bNode _ _ _ _ _ _ H.out).mono ?_; rintro r1 w3 ⟨rfl, hd, hb⟩; replace H := hidb hd; clear hb hd))
        go_ret
        exact .inl ⟨_, _, _, HRE.out, rfl, H.out⟩)
    | skip
  replace HR := hidb (HR.out.trans (Gm.bind_left rfl))
  have H0 := hidb (H.out.less (Q := PV (PV P (hv wn.heap.size)) (.slice none 0 0)) (fun _ hk => hk.elim id (fun he => by simp [Value.ownBlock] at he)))
  have htl := H.out.tl
  go_loopg [6] s1.ts.length (fun gf s6 wx => (∃ (l : List Nat) (sx : PS) (Vx : Value) (a : Option Addr) (c k : Nat), s6 = .slice a l.length c ∧ St B g b o (PV (PV P (hv wn.heap.size)) (.slice a l.length c)) w V wx Vx sx ∧ IR wx w.heap.size g b Vx (.slice a l.length c) l ∧ Box wx wn.heap.size (.int .i64 tk) (.string tx) (.int .i64 tn) (.float .f64 tf) (.int .i64 (tp : Int)) ∧ R = (Gm.functions e k l >>= fun l => Gm.lay ⟨24, tx, 0, 0, l, t.p⟩) sx ∧ sx.ts.length ≤ k ∧ k ≤ gf ∧ l.length + sx.ts.length ≤ 100001 ∧ (Value.slice a l.length c).ownBlock ≠ some wn.heap.size) ∨ (∃ (a : Option Addr) (n c : Nat) (er : Int) (p : Nat), s6 = .slice a n c ∧ R = .error (er, p) ∧ Bd g b w V wx er p ∧ Box wx wn.heap.size (.int .i64 tk) (.string tx) (.int .i64 tn) (.float .f64 tf) (.int .i64 (tp : Int))))
  case atStart => exact .inl ⟨[], s1, V, none, 0, _, rfl, H0.out, IR.none _ _ _ _ _, BX.out, HR.out, Nat.le_refl _, Nat.le_refl _, by simp; omega, by simp [Value.ownBlock]⟩
  case round =>
    clear H H0 HR BX
    rcases hrel with ⟨l, sx, Vx, a, c, k, hs6, hst, hir, hbx, hmore, hk, hkg, hll, hdj⟩ | ⟨a, n, c, er, p, hs6, hre, hbd, hbx⟩
    · subst hs6
      have hpos := ne_pos hst.ne
      obtain ⟨k', rfl⟩ : ∃ k', k = k' + 1 := ⟨k - 1, by omega⟩
      obtain ⟨g', rfl⟩ : ∃ g', gk = g' + 1 := ⟨gk - 1, by omega⟩
      have H := hidb hst
      have HI := hidb hir
      have HR := hidb hmore
      have BX := hidb hbx
      have HDJ := hidb hdj
      have hc1 : l.length + 1 ≤ maxLen := by unfold maxLen; omega
      have hc2 : (l.length + 1) * 8 ≤ 140737488355328 := by omega
      have hlb : l.length ≤ 100002 := by omega
      have hgl : g < w.heap.size := HGB.out.1
      have hbl : b < w.heap.size := HGB.out.2
      clear hst hir hmore hbx hdj x0 x1 x2 x3 x4 xl
      obtain ⟨x0, x1, x2, x3, x4, -, -, -, -, -, xl⟩ := BX.out
      go_wp2_with (first
        | (go_at_call 19; refine (sBad H.out).mono ?_; rintro r1 w2 ⟨rfl, rfl⟩)
        | (go_at_call 26; refine (sNow H.out).mono ?_; rintro r1 w2 ⟨⟨uk, ux, un, uf, up⟩, hq, rfl, hb⟩; replace BX := hidb (Box.but BX.out (But.of_below (S := fun _ => False) hb) (fun h => h)); obtain ⟨x0, x1, x2, x3, x4, -, -, -, -, -, xl⟩ := BX.out; replace HI := hidb (HI.out.below hb); replace H := hidb (H.out.below hb); (by_cases h8 : uk = 8) <;> first | (replace HR := hidb (HR.out.trans (functions_end hq h8)); have d8 : (uk != 8) = false := (by simp [h8]); clear hb hq h8) | (have HQ := hidb (And.intro hq h8); have d8 : (uk != 8) = true := (by simpa using h8); clear hb hq h8))
        | (go_at_call 31; refine (pFunction HE.out H.out.at).mono ?_; rintro r1 w3 (⟨er, q', x, hq, rfl, hbd⟩ | ⟨x, s2, V2, hq, rfl, hs⟩) <;> first | (have HLN := hidb (function_lt HE.out.all H.out.ne hq); replace BX := hidb (Box.but BX.out hs.but (bx_no H.out.drop)); replace HR := hidb (HR.out.trans (functions_ok HQ.out.1 HQ.out.2 hq)); replace HI := hidb (HI.out.step hs); replace H := hidb (H.out.trans hs); clear hs hq) | (have HRE := hidb (HR.out.trans (functions_err HQ.out.1 HQ.out.2 hq)); replace BX := hidb (Box.but BX.out hbd.but (bx_no H.out.drop)); have HW := hidb (HI.out.badrow hlb hbd); replace H := hidb (H.out.bad hbd); clear hq hbd HR HI))
        | (go_at_call 32; refine (sNodeR (n := ⟨24, tx, 0, 0, l, t.p⟩) HR.out H.out.drop.drop.at (HI.out.lr HP.out)).mono ?_; rintro r1 w6 (⟨er, q, z, hq, rfl, hbd⟩ | ⟨z, s5, V5, hq, rfl, hs⟩) <;> first | (replace H := hidb (H.out.drop.drop.trans hs); replace HR := hidb hq; clear hs hq) | (have HRE := hidb hq; replace H := hidb (H.out.drop.drop.bad hbd); clear hq hbd HR))
        | (at_builtin; refine wpList_append_own_at _ rfl _ _ 44 rfl w.heap.size IT i0 (.int .i64 0) 1 8 Tryz.underlying44 hi0 hz0 hz1 hz2 rfl (by decide) _ _ _ rfl (HI.out.own.alloc _) ⟨w3.heap.size, 0, none⟩ 1 1 [iv x] rfl rfl ?_ ?_ ?_ ?_ ?_ ?_)
        | (at_builtin; refine wpList_append_own_at _ rfl _ _ 44 rfl w.heap.size IT i0 (.int .i64 0) 1 8 Tryz.underlying44 hi0 hz0 hz1 hz2 rfl (by decide) _ _ _ rfl (HW.out.1.alloc _) ⟨w3.heap.size, 0, none⟩ 1 1 [iv x] rfl rfl ?_ ?_ ?_ ?_ ?_ ?_))
      all_goals first
        | (intro q u hq; exact app_ints _ _ _ rfl q u hq)
        | (intro u hu; cases List.mem_singleton.1 hu; rfl)
        | exact hc1
        | exact hc2
        | (have := H.out.but.size; simp; omega)
        | (go_ret
           first
             | exact .inr ⟨_, _, _, HR.out, rfl, H.out⟩
             | exact .inl ⟨_, _, _, HRE.out, rfl, H.out⟩)
        | skip
      · intro v' w4 hown hgrow hnil hat
        obtain ⟨j1, j2, j3⟩ := RB.app (xs := [x]) H.out hgl hbl HW.out hgrow hown (by simp; omega)
        have jb := Box.but BX.out (grown_but2 (below_new w3 _) hgrow) (fun he => HDJ.out he)
        obtain ⟨a', c', rfl⟩ := own_sl j1.1
        replace H := hidb j2
        replace BX := hidb jb
        clear j1 j2 j3 jb hown hgrow hnil hat
        go_wp2_with fail
        go_roundg g'
        case measure => omega
        case rel => exact .inr ⟨_, _, _, er, q', rfl, HRE.out, H.out, BX.out⟩
      · intro v' w4 hown hgrow hnil hat
        obtain ⟨j1, j2⟩ := IR.app (xs := [x]) H.out HI.out hgrow hat hown
        have jb := Box.but BX.out (grown_but2 (below_new w3 _) hgrow) (fun he => HDJ.out he)
        have jd : v'.ownBlock ≠ some wn.heap.size := fun he => by
          have := BX.out.lt
          rcases hat with h | h
          · exact HDJ.out (h ▸ he)
          · rw [h] at he; have h2 := Option.some.inj he; omega
        obtain ⟨a', c', rfl⟩ : ∃ a' c', v' = .slice a' (l.length + 1) c' := by obtain ⟨a', c', h⟩ := j1.sl; exact ⟨a', c', by simpa using h⟩
        replace HDJ := hidb jd
        clear jd
        replace HI := hidb j1
        replace H := hidb j2
        replace BX := hidb jb
        clear j1 j2 jb hown hgrow hnil hat
        go_wp2_with fail
        go_roundg g'
        case measure => omega
        case rel => exact .inl ⟨l ++ [x], s2, V2, a', c', k', by simp, by simpa using H.out, by simpa using HI.out, BX.out, HR.out, by have := HLN.out; omega, by omega, by have := HLN.out; simp; omega, by simpa using HDJ.out⟩
    · subst hs6
      have H := hidb hbd
      have HRE := hidb hre
      have BX := hidb hbx
      clear hbd hre hbx x0 x1 x2 x3 x4 xl
      obtain ⟨x0, x1, x2, x3, x4, -, -, -, -, -, xl⟩ := BX.out
      go_wp2_with (first
        | (go_at_call 19; refine (bBad H.out).mono ?_; rintro r1 w2 ⟨rfl, rfl⟩)
        | (go_at_call 32; refine (bNode _ _ _ _ _ _ H.out).mono ?_; rintro r1 w3 ⟨rfl, hd, hb⟩; replace H := hidb hd; clear hb hd))
      go_ret
      exact .inl ⟨_, _, _, HRE.out, rfl, H.out⟩
end Rf
end Go.Proofs.YthdljnakmekhkaaGreatDoor
