import Derived.Test.YtajadhkpadkikaaGreatDoorG41
import Derived.Test.YtajadhkpadkikaaGreatDoorBoT
import Derived.OwnWalk
import Derived.Laws.OwnMore
/- BifOrders. -/
namespace Go.Proofs.YtajadhkpadkikaaGreatDoor
open Go.RowKit Go.Lib Go.Deep
attribute [local go_sem] store_float f64bits store_func store_nilFunc
attribute [local go_sem ↓] Go.wp_at_zero Go.wp_at_succ

theorem but_grown {w w2 : World} {row : Option Nat} (h : w.grownBy w2 row) : But (fun k => row = some k) w w2 := ⟨h.os, h.tape, h.output, h.size, fun k hk hn => h.block k hk (fun e => hn e.symm)⟩
theorem sgv_lt {r : Int} {b : Bool} (h : r < 0) : sgv r b = [true, false, false, true, false, true, b, !b] := by
  unfold sgv
  rw [decide_eq_true h, decide_eq_false (show ¬ r = 0 by omega), decide_eq_false (show ¬ 0 < r by omega), decide_eq_true (show r ≤ 0 by omega), decide_eq_false (show ¬ 0 ≤ r by omega), decide_eq_true (show ¬ r = 0 by omega)]
theorem sgv_gt {r : Int} {b : Bool} (h : 0 < r) : sgv r b = [false, false, true, false, true, true, b, !b] := by
  unfold sgv
  rw [decide_eq_false (show ¬ r < 0 by omega), decide_eq_false (show ¬ r = 0 by omega), decide_eq_true h, decide_eq_false (show ¬ r ≤ 0 by omega), decide_eq_true (show 0 ≤ r by omega), decide_eq_true (show ¬ r = 0 by omega)]
theorem sgv_eq {b : Bool} : sgv 0 b = [false, true, false, true, true, false, b, !b] := rfl
theorem law_yes {T : Tr} {w : World} {e : Ending} {w' : World} (h : LawA (fun x => x = T) (fun _ => False) w e w') (he : errT T = 0) : ∃ (sk sn : Int) (sf : Nat) (ss : ByteArray) (sa : Option Addr) (sc : Nat) (ks' : List Tr), e = .returned (.tuple #[.agg #[.int .i64 sk, .int .i64 sn, .float .f64 sf, .string ss, .slice sa ks'.length sc], .bool true]) ∧ Below w.heap.size w w' ∧ Sm T (.mk sk sn sf ss sa sc ks') ∧ (Tr.mk sk sn sf ss sa sc ks').In w' 0 := by
  obtain ⟨hb, ⟨t, ⟨k', n', f', s', a', c', ks'⟩, hP, -, hs, hin, -, rfl⟩ | ⟨hE, rfl⟩⟩ := h
  · subst hP
    exact ⟨k', n', f', s', a', c', ks', rfl, hb, hs, hin⟩
  · rcases hE with ⟨_, h⟩ | ⟨t, rfl, h⟩
    · exact h.elim
    · exact absurd he h
theorem ent_Op : Ent 12 := by
  intro args w
  kernel_rfl
theorem signs_new (w : World) (t : TypeId) : ∀ (j : Nat) (nm : ByteArray), sgn[j]? = some nm → (w.alloc (.cells #[.string ⟨#[60]⟩, .string ⟨#[61, 61]⟩, .string ⟨#[62]⟩, .string ⟨#[61, 60]⟩, .string ⟨#[62, 61]⟩, .string ⟨#[47, 61]⟩, .string ⟨#[61, 58, 61]⟩, .string ⟨#[61, 47, 61]⟩] t)).cell? ⟨w.heap.size, j, none⟩ = some (.string nm) := by
  intro j nm hj
  rw [World.cell?_alloc_new]
  have : (sgn.map Value.string).toArray[j]? = some (.string nm) := by simp [hj]
  exact this
theorem infoB : ∃ i0, Tryz.prog.info? 4 = some i0 ∧ i0.zero = some (.bool false) ∧ i0.size = 1 ∧ i0.bytes = 1 := info_parts (show (Tryz.prog.info? 4).map (fun i => (i.zero, i.size, i.bytes)) = some (some (.bool false), 1, 1) by kernel_rfl)

def osv (r : Int) (b : Bool) (i : Nat) : List Value := ((sgv r b).take i).map Value.bool
def ocn (r : Int) (b : Bool) (i : Nat) : Nat := (((sgv r b).take (min i 3)).filter id).length
theorem ocn_le (r : Int) (b : Bool) (i : Nat) : ocn r b i ≤ 3 := by
  unfold ocn
  refine Nat.le_trans (List.length_filter_le _ _) ?_
  rw [List.length_take]
  omega
theorem ocn_lo {r : Int} {b : Bool} {i : Nat} {B : Bool} (hi : i < 3) (h : (sgv r b)[i]? = some B) : ocn r b (i + 1) = ocn r b i + (if B = true then 1 else 0) := by
  unfold ocn
  rw [show min (i + 1) 3 = i + 1 by omega, show min i 3 = i by omega, List.take_add_one, h, Option.toList_some, List.filter_append, List.length_append]
  cases B <;> simp
theorem ocn_hi {r : Int} {b : Bool} {i : Nat} (hi : ¬ i < 3) : ocn r b (i + 1) = ocn r b i := by
  unfold ocn
  rw [show min (i + 1) 3 = 3 by omega, show min i 3 = 3 by omega]
theorem sgv_len (r : Int) (b : Bool) : (sgv r b).length = 8 := rfl

set_option maxHeartbeats 8000000 in
set_option maxRecDepth 100000 in
theorem BifOrders_of (k n : Int) (f : Nat) (s : ByteArray) (a : Option Addr) (c : Nat) (ks : List Tr) (k' n' : Int) (f' : Nat) (s' : ByteArray) (a' : Option Addr) (c' : Nat) (ks' : List Tr) (w : World) (hin : (Tr.mk k n f s a c ks).In w 0) (hin' : (Tr.mk k' n' f' s' a' c' ks').In w 0) (hsw : SmallW (.mk k n f s a c ks)) (hsw' : SmallW (.mk k' n' f' s' a' c' ks')) :
    Calls Tryz.prog 4 #[.agg #[.int .i64 k, .int .i64 n, .float .f64 f, .string s, .slice a ks.length c], .agg #[.int .i64 k', .int .i64 n', .float .f64 f', .string s', .slice a' ks'.length c']] w fun e w' => e = .returned (.bool true) ∧ Below w.heap.size w w' := by
  have HIN := hidb hin
  have HIN' := hidb hin'
  have HSW := hidb hsw
  have HSW' := hidb hsw'
  obtain ⟨L, hL⟩ : ∃ L, ks.length = L := ⟨_, rfl⟩
  obtain ⟨L', hL'⟩ : ∃ L', ks'.length = L' := ⟨_, rfl⟩
  have HL := hidb hL
  have HL' := hidb hL'
  rw [hL, hL']
  clear hin hin' hsw hsw' hL hL'
  obtain ⟨V0, hV0⟩ : ∃ V0, (w.alloc (.cells #[.int .i64 k, .int .i64 n, .float .f64 f, .string s, .slice a L c] 25)).alloc (.cells #[.int .i64 k', .int .i64 n', .float .f64 f', .string s', .slice a' L' c'] 25) = V0 := ⟨_, rfl⟩
  have HB0 : Hid (Below w.heap.size w V0) := hidb (by rw [← hV0]; exact (below_new w _).alloc (by simp) _)
  have HX0 : Hid (Box V0 w.heap.size (.int .i64 k) (.int .i64 n) (.float .f64 f) (.string s) (.slice a L c)) := hidb (by rw [← hV0]; exact (Box.new w _ _ _ _ _ _).keep (below_new _ _))
  have HY0 : Hid (Box V0 (w.heap.size + 1) (.int .i64 k') (.int .i64 n') (.float .f64 f') (.string s') (.slice a' L' c')) := hidb (by
    rw [← hV0]
    have := Box.new (w.alloc (.cells #[.int .i64 k, .int .i64 n, .float .f64 f, .string s, .slice a L c] 25)) 25 (.int .i64 k') (.int .i64 n') (.float .f64 f') (.string s') (.slice a' L' c')
    simpa using this)
  have HV0 := hidb hV0
  clear hV0
  go_enter Tryz.func4, Tryz.ntmps4
  go_wp2_with fail
  rw [HV0.out]
  refine (known9_any _).mono ?_
  rintro e w1 ⟨rfl, hb1⟩
  have HX1 := hidb (HX0.out.keep hb1)
  have HY1 := hidb (HY0.out.keep hb1)
  have HB1 := hidb (HB0.out.trans (hb1.mono HB0.out.size))
  obtain ⟨⟨x0, x1, x2, x3, x4⟩, -, xl⟩ := Box.six HX1.out
  obtain ⟨⟨y0, y1, y2, y3, y4⟩, -, yl⟩ := Box.six HY1.out
  clear hb1
  have HAI : Hid (∀ W, Below w1.heap.size w1 W → ArgsIn (W.alloc (.cells #[.int .i64 k, .int .i64 n, .float .f64 f, .string s, .slice a L c, .int .i64 k', .int .i64 n', .float .f64 f', .string s', .slice a' L' c'] 25)) (some ⟨W.heap.size, 0, none⟩) 2 [.mk k n f s a c ks, .mk k' n' f' s' a' c' ks']) := hidb (fun W hW => by
    have hW' := HB1.out.trans (hW.mono HB1.out.size)
    have := built_in W [.mk k n f s a c ks, .mk k' n' f' s' a' c' ks'] (fun u hu => by
      rcases List.mem_cons.1 hu with h | h
      · rw [h]; exact in_below hW' HIN.out
      · rw [List.mem_singleton.1 h]; exact in_below hW' HIN'.out) 25 (by simp)
    rw [← HL.out, ← HL'.out]
    exact this)
  go_wp2_with fail
  have RG := hidb (right9_any (HAI.out w1 (Below.refl _ _)) (fun u hu => by
        rcases List.mem_cons.1 hu with h | h
        · rw [h]; exact HSW.out
        · rw [List.mem_singleton.1 h]; exact HSW'.out) (by simp))
  obtain ⟨R, hR⟩ : ∃ R, rgt9 (some ⟨w1.heap.size, 0, none⟩) 2 [.mk k n f s a c ks, .mk k' n' f' s' a' c' ks'] = R := ⟨_, rfl⟩
  have HR := hidb hR
  rw [hR] at RG
  clear hR
  refine RG.out.mono ?_
  rintro e w2 ⟨rfl, hb2⟩
  have hw2 := (below_new w1 (.cells #[.int .i64 k, .int .i64 n, .float .f64 f, .string s, .slice a L c, .int .i64 k', .int .i64 n', .float .f64 f', .string s', .slice a' L' c'] 25)).trans (hb2.mono (by simp))
  have HW2 := hidb hw2
  have HX2 := hidb (HX1.out.keep hw2)
  have HY2 := hidb (HY1.out.keep hw2)
  have HB2 := hidb (HB1.out.trans (hw2.mono HB1.out.size))
  clear hb2 hw2 x0 x1 x2 x3 x4 xl y0 y1 y2 y3 y4 yl RG
  cases R
  · go_wp2_with fail
    go_ret
    exact ⟨rfl, HB2.out⟩
  · have HOK0 := hidb (rgt9_ok HR.out (.mk k n f s a c ks) (by simp))
    have HOK1 := hidb (rgt9_ok HR.out (.mk k' n' f' s' a' c' ks') (by simp))
    have HP2 : Hid (Pr2 (.mk k n f s a c ks) (.mk k' n' f' s' a' c' ks')) := hidb ⟨⟨HOK0.out.2.1, by have := HOK0.out.2.2; omega⟩, ⟨HOK1.out.2.1, by have := HOK1.out.2.2; omega⟩, HOK0.out.1, HOK1.out.1⟩
    have HID : Hid (idP (.mk k n f s a c ks) (.mk k' n' f' s' a' c' ks') = true → cmpT (.mk k n f s a c ks) (.mk k' n' f' s' a' c' ks') = 0) := hidb (idP_cmp _ _)
    obtain ⟨⟨x0, x1, x2, x3, x4⟩, -, xl⟩ := Box.six HX2.out
    obtain ⟨⟨y0, y1, y2, y3, y4⟩, -, yl⟩ := Box.six HY2.out
    obtain ⟨V1, hV1⟩ : ∃ V1, w2.alloc (.cells #[.int .i64 k, .int .i64 n, .float .f64 f, .string s, .slice a L c, .int .i64 k', .int .i64 n', .float .f64 f', .string s', .slice a' L' c'] 25) = V1 := ⟨_, rfl⟩
    have HBW1 : Hid (Below w.heap.size w V1) := hidb (by rw [← hV1]; exact HB2.out.alloc HB2.out.size _)
    have HA1 : Hid (ArgsIn V1 (some ⟨w2.heap.size, 0, none⟩) 2 [.mk k n f s a c ks, .mk k' n' f' s' a' c' ks']) := hidb (by rw [← hV1]; exact HAI.out w2 HW2.out)
    have HX3 : Hid (Box V1 w.heap.size (.int .i64 k) (.int .i64 n) (.float .f64 f) (.string s) (.slice a L c)) := hidb (by rw [← hV1]; exact HX2.out.keep (below_new _ _))
    have HY3 : Hid (Box V1 (w.heap.size + 1) (.int .i64 k') (.int .i64 n') (.float .f64 f') (.string s') (.slice a' L' c')) := hidb (by rw [← hV1]; exact HY2.out.keep (below_new _ _))
    have hz1 : w2.heap.size + 1 = V1.heap.size := by rw [← hV1]; simp
    have HZ1 := hidb hz1
    obtain ⟨V2, hV2⟩ : ∃ V2, V1.alloc (.cells #[.string ⟨#[60]⟩, .string ⟨#[61, 61]⟩, .string ⟨#[62]⟩, .string ⟨#[61, 60]⟩, .string ⟨#[62, 61]⟩, .string ⟨#[47, 61]⟩, .string ⟨#[61, 58, 61]⟩, .string ⟨#[61, 47, 61]⟩] 9) = V2 := ⟨_, rfl⟩
    have HBV : Hid (Below w.heap.size w V2) := hidb (by rw [← hV2]; exact HBW1.out.alloc HBW1.out.size _)
    have HA2 : Hid (ArgsIn V2 (some ⟨w2.heap.size, 0, none⟩) 2 [.mk k n f s a c ks, .mk k' n' f' s' a' c' ks']) := hidb (by rw [← hV2]; exact in_below (below_new _ _) HA1.out)
    have HX4 : Hid (Box V2 w.heap.size (.int .i64 k) (.int .i64 n) (.float .f64 f) (.string s) (.slice a L c)) := hidb (by rw [← hV2]; exact HX3.out.keep (below_new _ _))
    have HY4 : Hid (Box V2 (w.heap.size + 1) (.int .i64 k') (.int .i64 n') (.float .f64 f') (.string s') (.slice a' L' c')) := hidb (by rw [← hV2]; exact HY3.out.keep (below_new _ _))
    have HNM : Hid (∀ (j : Nat) (nm : ByteArray), sgn[j]? = some nm → V2.cell? ⟨V1.heap.size, j, none⟩ = some (.string nm)) := hidb (by rw [← hV2]; exact signs_new V1 _)
    have HZV : Hid (V1.heap.size < V2.heap.size) := hidb (by rw [← hV2]; simp)
    have HV1 := hidb hV1
    have HV2 := hidb hV2
    clear hV1 hV2 hz1
    obtain ⟨i0, hi, hz0, hz1, hz2⟩ := infoB
    go_wp2_with fail
    obtain ⟨R0, hR0⟩ : ∃ R0, cmpT (.mk k n f s a c ks) (.mk k' n' f' s' a' c' ks') = R0 := ⟨_, rfl⟩
    obtain ⟨I0, hI0⟩ : ∃ I0, idP (.mk k n f s a c ks) (.mk k' n' f' s' a' c' ks') = I0 := ⟨_, rfl⟩
    have LC : Hid (∀ (i : Nat) (nm : ByteArray) (b : Bool), sgn[i]? = some nm → (sgv R0 I0)[i]? = some b → ∀ W, Below V2.heap.size V2 W → Calls Tryz.prog 12 #[.string nm, .slice (some ⟨w2.heap.size, 0, none⟩) 2 2] W (ToldB b W)) := hidb (fun i nm b h1 h2 W hW => oc_all i nm b h1 (by rw [hR0, hI0]; exact h2) (in_below hW HA2.out) (in_below (HBV.out.trans (hW.mono HBV.out.size)) HIN.out) (in_below (HBV.out.trans (hW.mono HBV.out.size)) HIN'.out) HP2.out)
    have LMN : Hid (∀ W rb, Below V2.heap.size V2 W → ArgsIn W (some ⟨rb, 0, none⟩) 2 [.mk k n f s a c ks, .mk k' n' f' s' a' c' ks'] → Calls Tryz.prog 9 #[.string minN, .slice (some ⟨rb, 0, none⟩) 2 2] W (LawA (fun x => x = if R0 ≤ 0 then .mk k n f s a c ks else .mk k' n' f' s' a' c' ks') (fun _ => False) W)) := hidb (fun W rb hW hA => by rw [← hR0]; exact min_law hA (in_below (HBV.out.trans (hW.mono HBV.out.size)) HIN.out) (in_below (HBV.out.trans (hW.mono HBV.out.size)) HIN'.out) HP2.out)
    have LMX : Hid (∀ W rb, Below V2.heap.size V2 W → ArgsIn W (some ⟨rb, 0, none⟩) 2 [.mk k n f s a c ks, .mk k' n' f' s' a' c' ks'] → Calls Tryz.prog 9 #[.string maxN, .slice (some ⟨rb, 0, none⟩) 2 2] W (LawA (fun x => x = if 0 ≤ R0 then .mk k n f s a c ks else .mk k' n' f' s' a' c' ks') (fun _ => False) W)) := hidb (fun W rb hW hA => by rw [← hR0]; exact max_law hA (in_below (HBV.out.trans (hW.mono HBV.out.size)) HIN.out) (in_below (HBV.out.trans (hW.mono HBV.out.size)) HIN'.out) HP2.out)
    rw [hR0, hI0] at HID
    clear hR0 hI0
    rw [HV1.out, HZ1.out, HV2.out]
    go_loopw [6, 8, 9] (fun nv isv iv wr => ∃ i : Nat, i ≤ 8 ∧ iv = .int .i64 (i : Int) ∧ nv = .int .i64 (ocn R0 I0 i : Int) ∧ wr.ownsRow V2.heap.size 4 1 isv i (osv R0 I0 i) ∧ Below V2.heap.size V2 wr) (fun _ _ iv _ => 8 - (RowKit.intOf iv).toNat)
    case atStart => exact ⟨0, by omega, rfl, rfl, World.ownsRow_nil _ _ _ _, Below.refl _ _⟩
    case round =>
    obtain ⟨i, hi8, rfl, rfl, hrow, hb⟩ := hrel
    have HB := hidb hb
    have HROW := hidb hrow
    obtain ⟨qa, ca, rfl⟩ := own_sl hrow
    have HI := hidb hi8
    clear hb hrow hi8
    by_cases hil : i < 8
    · obtain ⟨nm, hnm⟩ : ∃ nm, sgn[i]? = some nm := ⟨_, List.getElem?_eq_getElem (by simpa [sgn] using hil)⟩
      obtain ⟨B, hq⟩ : ∃ B, (sgv R0 I0)[i]? = some B := ⟨_, List.getElem?_eq_getElem (by simpa [sgv] using hil)⟩
      have HSA : Hid (∀ W, Below V2.heap.size V2 W → (fun W9 => W9.cell? ⟨V1.heap.size, i, none⟩ = some (.string nm)) W) := hidb (fun W hW => (hW.cell (p := ⟨V1.heap.size, i, none⟩) HZV.out).trans (HNM.out i nm hnm))
      have LO := hidb (LC.out i nm B hnm hq)
      have e1 : (i : Int) < 8 := by omega
      have e2 : (0 : Int) ≤ (i : Int) := by omega
      have HTK : Hid (osv R0 I0 i ++ [.bool B] = osv R0 I0 (i + 1)) := hidb (by unfold osv; rw [List.take_add_one, hq]; simp)
      have HCN : Hid ((i < 3 → ocn R0 I0 (i + 1) = ocn R0 I0 i + (if B = true then 1 else 0)) ∧ (¬ i < 3 → ocn R0 I0 (i + 1) = ocn R0 I0 i) ∧ ocn R0 I0 i ≤ 3) := hidb ⟨fun h => ocn_lo h hq, fun h => ocn_hi h, ocn_le _ _ _⟩
      have HS0 := hidb (HSA.out wr.drew HB.out.drew)
      have HBd := hidb (show Below V2.heap.size V2 wr.drew from HB.out.drew)
      have HRd := hidb (show wr.drew.ownsRow V2.heap.size 4 1 (.slice qa i ca) i (osv R0 I0 i) from row_but HROW.out (But.of_below (S := fun _ => False) (Below.refl _ _).drew) (fun _ _ h => h))
      clear hnm hq
      have hcell := HSA.out wr HB.out
      go_wp2_with fail
      refine (LO.out _ HB.out).mono ?_
      rintro e w6 ⟨⟨a6, c6, rfl⟩, hb6⟩
      have HBc := hidb (HB.out.trans (hb6.mono HB.out.size))
      have HRc := hidb (row_but HROW.out (But.of_below (S := fun _ => False) hb6) (fun _ _ h => h))
      have hcn := HCN.out
      clear hb6 hcell HS0 HBd HRd HSA LO
      cases B
      · simp only [bolS, Bool.false_eq_true, if_false]
        have hw : wrap64 ((ocn R0 I0 i : Int) + 1) = (ocn R0 I0 i : Int) + 1 := by have := hcn.2.2; unfold wrap64; omega
        go_wp2_with (first
          | (at_builtin; refine wpList_append_own_at _ rfl _ _ 39 rfl V2.heap.size 4 i0 (.bool false) 1 1 Tryz.underlying39 hi hz0 hz1 hz2 rfl (by decide) (.slice qa i ca) i (osv R0 I0 i) rfl ?e10 ⟨w6.heap.size + 1, 0, none⟩ 1 1 [.bool false] rfl rfl ?e60 ?e20 ?e30 ?e40 ?e50 ?_))
        case e10 => exact (HRc.out.alloc _).alloc _
        try (case e60 => rw [show w6.heap.size + 1 = (w6.alloc (.cells #[.int .i64 3, .int .i64 0, .float .f64 0, .string falseS, .slice a6 0 c6] 25)).heap.size by simp]; exact World.news_of_block ((MapKept.heap_alloc _ _).1))
        case e20 => simp [Value.oneCell']
        case e30 => unfold maxLen; omega
        case e40 => omega
        case e50 => have := HBc.out.size; simp; omega
        intro v' w4 hown' hgrow hnil hat
        have HB4 := hidb (grown_up (HBc.out.trans (((below_new w6 _).alloc (by simp) _).mono HBc.out.size)) hgrow (fun k hk => (row_lt HRc.out k hk).2))
        rw [HTK.out] at hown'
        have HR4 := hidb hown'
        obtain ⟨qa4, ca4, rfl⟩ := own_sl hown'
        have HX4 := hidb (((Box.new w6 25 (.int .i64 3) (.int .i64 0) (.float .f64 0) (.string falseS) (.slice a6 0 c6)).keep (below_new _ _)).but (but_grown hgrow) (fun e => by have := (row_lt HRc.out _ e).1; omega))
        obtain ⟨⟨g0, g1, g2, g3, g4⟩, -, gl⟩ := Box.six HX4.out
        clear hown' hgrow hnil hat
        by_cases h3 : i < 3
        · have e3 : (i : Int) < 3 := by omega
          go_wp2_with fail
          go_roundw
          case rel => exact ⟨i + 1, by omega, by rw [Int.natCast_add]; rfl, by rw [hcn.1 h3]; simp, HR4.out, HB4.out⟩
          case measure => simp [RowKit.intOf]; omega
        · have e3 : ¬ (i : Int) < 3 := by omega
          go_wp2_with fail
          go_roundw
          case rel => exact ⟨i + 1, by omega, by rw [Int.natCast_add]; rfl, by rw [hcn.2.1 h3], HR4.out, HB4.out⟩
          case measure => simp [RowKit.intOf]; omega
      · simp only [bolS, if_true]
        have hw : wrap64 ((ocn R0 I0 i : Int) + 1) = (ocn R0 I0 i : Int) + 1 := by have := hcn.2.2; unfold wrap64; omega
        go_wp2_with (first
          | (at_builtin; refine wpList_append_own_at _ rfl _ _ 39 rfl V2.heap.size 4 i0 (.bool false) 1 1 Tryz.underlying39 hi hz0 hz1 hz2 rfl (by decide) (.slice qa i ca) i (osv R0 I0 i) rfl ?e11 ⟨w6.heap.size + 1, 0, none⟩ 1 1 [.bool true] rfl rfl ?e61 ?e21 ?e31 ?e41 ?e51 ?_))
        case e11 => exact (HRc.out.alloc _).alloc _
        try (case e61 => rw [show w6.heap.size + 1 = (w6.alloc (.cells #[.int .i64 3, .int .i64 0, .float .f64 0, .string trueS, .slice a6 0 c6] 25)).heap.size by simp]; exact World.news_of_block ((MapKept.heap_alloc _ _).1))
        case e21 => simp [Value.oneCell']
        case e31 => unfold maxLen; omega
        case e41 => omega
        case e51 => have := HBc.out.size; simp; omega
        intro v' w4 hown' hgrow hnil hat
        have HB4 := hidb (grown_up (HBc.out.trans (((below_new w6 _).alloc (by simp) _).mono HBc.out.size)) hgrow (fun k hk => (row_lt HRc.out k hk).2))
        rw [HTK.out] at hown'
        have HR4 := hidb hown'
        obtain ⟨qa4, ca4, rfl⟩ := own_sl hown'
        have HX4 := hidb (((Box.new w6 25 (.int .i64 3) (.int .i64 0) (.float .f64 0) (.string trueS) (.slice a6 0 c6)).keep (below_new _ _)).but (but_grown hgrow) (fun e => by have := (row_lt HRc.out _ e).1; omega))
        obtain ⟨⟨g0, g1, g2, g3, g4⟩, -, gl⟩ := Box.six HX4.out
        clear hown' hgrow hnil hat
        by_cases h3 : i < 3
        · have e3 : (i : Int) < 3 := by omega
          go_wp2_with fail
          go_roundw
          case rel => exact ⟨i + 1, by omega, by rw [Int.natCast_add]; rfl, by rw [hcn.1 h3]; simp, HR4.out, HB4.out⟩
          case measure => simp [RowKit.intOf]; omega
        · have e3 : ¬ (i : Int) < 3 := by omega
          go_wp2_with fail
          go_roundw
          case rel => exact ⟨i + 1, by omega, by rw [Int.natCast_add]; rfl, by rw [hcn.2.1 h3], HR4.out, HB4.out⟩
          case measure => simp [RowKit.intOf]; omega
    · have e1 : ¬ (i : Int) < 8 := by omega
      obtain rfl : i = 8 := by have := HI.out; omega
      obtain ⟨⟨x0, x1, x2, x3, x4⟩, -, xl⟩ := Box.six (HX4.out.keep HB.out)
      obtain ⟨⟨y0, y1, y2, y3, y4⟩, -, yl⟩ := Box.six (HY4.out.keep HB.out)
      obtain ⟨g, cg, hqa⟩ : ∃ g cg, Value.slice qa 8 ca = .slice (some ⟨g, 0, none⟩) 8 cg := by
        rcases HROW.out.2 with ⟨h0, _⟩ | ⟨g, cap, cur, h0, _⟩
        · cases h0
        · exact ⟨g, cap, h0⟩
      obtain ⟨rfl, rfl⟩ : qa = some ⟨g, 0, none⟩ ∧ ca = cg := by simpa using hqa
      have HAJ : Hid (∀ W, Below V2.heap.size V2 W → ArgsIn (W.alloc (.cells #[.int .i64 k, .int .i64 n, .float .f64 f, .string s, .slice a L c, .int .i64 k', .int .i64 n', .float .f64 f', .string s', .slice a' L' c'] 25)) (some ⟨W.heap.size, 0, none⟩) 2 [.mk k n f s a c ks, .mk k' n' f' s' a' c' ks']) := hidb (fun W hW => by
        have hW' := HBV.out.trans (hW.mono HBV.out.size)
        have := built_in W [.mk k n f s a c ks, .mk k' n' f' s' a' c' ks'] (fun u hu => by
          rcases List.mem_cons.1 hu with h | h
          · rw [h]; exact in_below hW' HIN.out
          · rw [List.mem_singleton.1 h]; exact in_below hW' HIN'.out) 25 (by simp)
        rw [← HL.out, ← HL'.out]
        exact this)
      clear hqa e1 HNM HI HAI LC
      by_cases hlt : R0 < 0
      · obtain rfl : I0 = false := by cases I0 with | false => rfl | true => (have := HID.out rfl; omega)
        clear HID
        have hon : ocn R0 false 8 = 1 := by unfold ocn; rw [sgv_lt hlt]; rfl
        rw [hon]
        have hv0 : wr.cell? ⟨g, 0, none⟩ = some (.bool true) := (HROW.out.cellAt 0 (by omega)).trans (by unfold osv; rw [sgv_lt hlt]; rfl)
        have hv1 : wr.cell? ⟨g, 1, none⟩ = some (.bool false) := (HROW.out.cellAt 1 (by omega)).trans (by unfold osv; rw [sgv_lt hlt]; rfl)
        have hv2 : wr.cell? ⟨g, 2, none⟩ = some (.bool false) := (HROW.out.cellAt 2 (by omega)).trans (by unfold osv; rw [sgv_lt hlt]; rfl)
        have hv3 : wr.cell? ⟨g, 3, none⟩ = some (.bool true) := (HROW.out.cellAt 3 (by omega)).trans (by unfold osv; rw [sgv_lt hlt]; rfl)
        have hv4 : wr.cell? ⟨g, 4, none⟩ = some (.bool false) := (HROW.out.cellAt 4 (by omega)).trans (by unfold osv; rw [sgv_lt hlt]; rfl)
        have hv5 : wr.cell? ⟨g, 5, none⟩ = some (.bool true) := (HROW.out.cellAt 5 (by omega)).trans (by unfold osv; rw [sgv_lt hlt]; rfl)
        have hv6 : wr.cell? ⟨g, 6, none⟩ = some (.bool false) := (HROW.out.cellAt 6 (by omega)).trans (by unfold osv; rw [sgv_lt hlt]; rfl)
        have hv7 : wr.cell? ⟨g, 7, none⟩ = some (.bool true) := (HROW.out.cellAt 7 (by omega)).trans (by unfold osv; rw [sgv_lt hlt]; rfl)
        have hgl : g < wr.heap.size := World.block_lt_of_cell? _ _ hv0
        have LM1 : Hid (∀ W rb, Below V2.heap.size V2 W → ArgsIn W (some ⟨rb, 0, none⟩) 2 [.mk k n f s a c ks, .mk k' n' f' s' a' c' ks'] → Calls Tryz.prog 9 #[.string minN, .slice (some ⟨rb, 0, none⟩) 2 2] W (LawA (fun x => x = .mk k n f s a c ks) (fun _ => False) W)) := hidb (fun W rb h1 h2 => by have := LMN.out W rb h1 h2; rw [if_pos (by omega)] at this; exact this)
        have LM2 : Hid (∀ W rb, Below V2.heap.size V2 W → ArgsIn W (some ⟨rb, 0, none⟩) 2 [.mk k n f s a c ks, .mk k' n' f' s' a' c' ks'] → Calls Tryz.prog 9 #[.string maxN, .slice (some ⟨rb, 0, none⟩) 2 2] W (LawA (fun x => x = .mk k' n' f' s' a' c' ks') (fun _ => False) W)) := hidb (fun W rb h1 h2 => by have := LMX.out W rb h1 h2; rw [if_neg (by omega)] at this; exact this)
        clear hon LMN LMX
        go_wp2_with fail
        go_big_quiet (fail)
        go_wp2_with fail
        have HBq : Hid (Below V2.heap.size V2 (wr.drewN nq)) := hidb (below_drewN HB.out nq)
        have hvq : ∀ j v, wr.cell? ⟨g, j, none⟩ = some v → (wr.drewN nq).cell? ⟨g, j, none⟩ = some v := fun j v h => ((below_drewN (Below.refl wr.heap.size wr) nq).cell (p := ⟨g, j, none⟩) hgl).trans h
        have hv1 := hvq _ _ hv1
        have hv2 := hvq _ _ hv2
        have hzq : (wr.drewN nq).heap.size = wr.heap.size := rfl
        have HGL : Hid (g < (wr.drewN nq).heap.size) := hidb hgl
        rw [← hzq]
        clear hvq hgl hzq hv0 hv3 hv4 hv5 hv6 hv7 x0 x1 x2 x3 x4 xl y0 y1 y2 y3 y4 yl HROW HB
        generalize wr.drewN nq = Wq at *
        refine (LM1.out _ _ (HBq.out.alloc HBq.out.size _) (HAJ.out Wq HBq.out)).mono ?_
        intro e w5 hlw
        obtain ⟨sk, sn, sf, ss, sa, sc, ks5, rfl, hb5, hs5, hi5⟩ := law_yes hlw HP2.out.e0
        have hw5 := (below_new Wq (.cells #[.int .i64 k, .int .i64 n, .float .f64 f, .string s, .slice a L c, .int .i64 k', .int .i64 n', .float .f64 f', .string s', .slice a' L' c'] 25)).trans (hb5.mono (by simp))
        have HB5 := hidb (HBq.out.trans (hw5.mono HBq.out.size))
        have HS5 := hidb hs5
        have HI5 := hidb hi5
        have hv1 := (hw5.cell (p := ⟨g, 1, none⟩) HGL.out).trans hv1
        have hv2 := (hw5.cell (p := ⟨g, 2, none⟩) HGL.out).trans hv2
        have HG5 : Hid (g < w5.heap.size) := hidb (World.block_lt_of_cell? _ _ hv1)
        obtain ⟨sl, hsl⟩ : ∃ sl, ks5.length = sl := ⟨_, rfl⟩
        have HSL := hidb hsl
        rw [hsl]
        obtain ⟨⟨x0, x1, x2, x3, x4⟩, -, xl⟩ := Box.six (HX4.out.keep HB5.out)
        obtain ⟨⟨y0, y1, y2, y3, y4⟩, -, yl⟩ := Box.six (HY4.out.keep HB5.out)
        clear hlw hb5 hw5 hs5 hi5 hsl
        go_wp2_with fail
        have HBl : Hid (Below V2.heap.size V2 (w5.alloc (.cells #[.int .i64 sk, .int .i64 sn, .float .f64 sf, .string ss, .slice sa sl sc] 25))) := hidb (HB5.out.alloc HB5.out.size _)
        have HXl := hidb (Box.new w5 25 (.int .i64 sk) (.int .i64 sn) (.float .f64 sf) (.string ss) (.slice sa sl sc))
        have hzl : (w5.alloc (.cells #[.int .i64 sk, .int .i64 sn, .float .f64 sf, .string ss, .slice sa sl sc] 25)).heap.size = w5.heap.size + 1 := by simp
        rw [← hzl]
        have hv1 := ((below_new w5 (.cells #[.int .i64 sk, .int .i64 sn, .float .f64 sf, .string ss, .slice sa sl sc] 25)).cell (p := ⟨g, 1, none⟩) HG5.out).trans hv1
        have hv2 := ((below_new w5 (.cells #[.int .i64 sk, .int .i64 sn, .float .f64 sf, .string ss, .slice sa sl sc] 25)).cell (p := ⟨g, 2, none⟩) HG5.out).trans hv2
        have HG6 : Hid (g < (w5.alloc (.cells #[.int .i64 sk, .int .i64 sn, .float .f64 sf, .string ss, .slice sa sl sc] 25)).heap.size) := hidb (World.block_lt_of_cell? _ _ hv1)
        have HI6 := hidb (in_below (below_new w5 (.cells #[.int .i64 sk, .int .i64 sn, .float .f64 sf, .string ss, .slice sa sl sc] 25)) HI5.out)
        clear hzl x0 x1 x2 x3 x4 xl y0 y1 y2 y3 y4 yl
        generalize w5.alloc (.cells #[.int .i64 sk, .int .i64 sn, .float .f64 sf, .string ss, .slice sa sl sc] 25) = Wl at *
        refine (LM2.out _ _ (HBl.out.alloc HBl.out.size _) (HAJ.out Wl HBl.out)).mono ?_
        intro e w7 hlw
        obtain ⟨hk, hn, hf, hs, ha, hc, ks7, rfl, hb7, hs7, hi7⟩ := law_yes hlw HP2.out.e1
        have hw7 := (below_new Wl (.cells #[.int .i64 k, .int .i64 n, .float .f64 f, .string s, .slice a L c, .int .i64 k', .int .i64 n', .float .f64 f', .string s', .slice a' L' c'] 25)).trans (hb7.mono (by simp))
        have HB7 := hidb (HBl.out.trans (hw7.mono HBl.out.size))
        have HS7 := hidb hs7
        have HI7 := hidb hi7
        have HI6' := hidb (in_below hw7 HI6.out)
        have HXl7 := hidb (HXl.out.keep hw7)
        have hv1 := (hw7.cell (p := ⟨g, 1, none⟩) HG6.out).trans hv1
        have hv2 := (hw7.cell (p := ⟨g, 2, none⟩) HG6.out).trans hv2
        have HG7 : Hid (g < w7.heap.size) := hidb (World.block_lt_of_cell? _ _ hv1)
        obtain ⟨hl, hhl⟩ : ∃ hl, ks7.length = hl := ⟨_, rfl⟩
        have HHL := hidb hhl
        rw [hhl]
        clear hlw hb7 hw7 hs7 hi7 hhl
        have HGW : Hid (w7.cell? ⟨g, 1, none⟩ = some (.bool false) ∧ w7.cell? ⟨g, 2, none⟩ = some (.bool false)) := hidb ⟨hv1, hv2⟩
        obtain ⟨Wh, hWh⟩ : ∃ Wh, w7.alloc (.cells #[.int .i64 hk, .int .i64 hn, .float .f64 hf, .string hs, .slice ha hl hc] 25) = Wh := ⟨_, rfl⟩
        have hb8 : Below w7.heap.size w7 Wh := by rw [← hWh]; exact below_new _ _
        have HBh : Hid (Below V2.heap.size V2 Wh) := hidb (HB7.out.trans (hb8.mono HB7.out.size))
        have HXh : Hid (Box Wh w7.heap.size (.int .i64 hk) (.int .i64 hn) (.float .f64 hf) (.string hs) (.slice ha hl hc)) := hidb (by rw [← hWh]; exact Box.new w7 25 _ _ _ _ _)
        have HXl8 := hidb (HXl7.out.keep hb8)
        have HI8 := hidb (in_below hb8 HI7.out)
        have HI9 := hidb (in_below hb8 HI6'.out)
        have hgl : g < w7.heap.size := HG7.out
        have HGH : Hid (Wh.cell? ⟨g, 1, none⟩ = some (.bool false) ∧ g < Wh.heap.size) := hidb ⟨(hb8.cell (p := ⟨g, 1, none⟩) HG7.out).trans hv1, Nat.lt_of_lt_of_le HG7.out hb8.size⟩
        have HWh := hidb hWh
        have HALL : Hid (∀ W, Below Wh.heap.size Wh W → Box W w7.heap.size (.int .i64 hk) (.int .i64 hn) (.float .f64 hf) (.string hs) (.slice ha hl hc) ∧ Box W w.heap.size (.int .i64 k) (.int .i64 n) (.float .f64 f) (.string s) (.slice a L c) ∧ Box W (w.heap.size + 1) (.int .i64 k') (.int .i64 n') (.float .f64 f') (.string s') (.slice a' L' c') ∧ W.cell? ⟨g, 1, none⟩ = some (.bool false) ∧ g < W.heap.size) := hidb (fun W hW => ⟨HXh.out.keep hW, HX4.out.keep (HBh.out.trans (hW.mono HBh.out.size)), HY4.out.keep (HBh.out.trans (hW.mono HBh.out.size)), (hW.cell (p := ⟨g, 1, none⟩) HGH.out.2).trans HGH.out.1, Nat.lt_of_lt_of_le HGH.out.2 hW.size⟩)
        have HFIN : Hid (∀ W, Below Wh.heap.size Wh W → Below w.heap.size w W) := hidb (fun W hW => HBV.out.trans ((HBh.out.trans (hW.mono HBh.out.size)).mono HBV.out.size))
        have TA : Hid (∀ W, Below Wh.heap.size Wh W → Calls Tryz.prog 10 #[.agg #[.int .i64 sk, .int .i64 sn, .float .f64 sf, .string ss, .slice sa sl sc], .agg #[.int .i64 k, .int .i64 n, .float .f64 f, .string s, .slice a L c]] W fun e w' => e = .returned (.bool true) ∧ Below W.heap.size W w') := hidb (fun W hW => by
          have := twin_same _ _ (sm_symm _ _ HS5.out) W (in_below hW HI9.out) (in_below (HFIN.out W hW) HIN.out)
          simp only [Tr.val, Tr.cells] at this
          rw [HSL.out, HL.out] at this
          exact this)
        have TB : Hid (∀ W, Below Wh.heap.size Wh W → Calls Tryz.prog 10 #[.agg #[.int .i64 hk, .int .i64 hn, .float .f64 hf, .string hs, .slice ha hl hc], .agg #[.int .i64 k', .int .i64 n', .float .f64 f', .string s', .slice a' L' c']] W fun e w' => e = .returned (.bool true) ∧ Below W.heap.size W w') := hidb (fun W hW => by
          have := twin_same _ _ (sm_symm _ _ HS7.out) W (in_below hW HI8.out) (in_below (HFIN.out W hW) HIN'.out)
          simp only [Tr.val, Tr.cells] at this
          rw [HHL.out, HL'.out] at this
          exact this)
        clear hWh hb8
        obtain ⟨⟨l0, l1, l2, l3, l4⟩, -, ll⟩ := Box.six HXl7.out
        obtain ⟨⟨x0, x1, x2, x3, x4⟩, -, xl⟩ := Box.six (HX4.out.keep HB7.out)
        obtain ⟨⟨y0, y1, y2, y3, y4⟩, -, yl⟩ := Box.six (HY4.out.keep HB7.out)
        go_wp2_with fail
        rw [HWh.out]
        clear l0 l1 l2 l3 l4 ll x0 x1 x2 x3 x4 xl y0 y1 y2 y3 y4 yl hv1 hv2 hgl
        refine (TA.out _ (Below.refl _ _)).mono ?_
        rintro e w20 ⟨rfl, hb20⟩
        have HT20 : Hid (Below Wh.heap.size Wh w20) := hidb (hb20)
        obtain ⟨bh, bx, by_, hv1, hgl⟩ := HALL.out _ HT20.out
        obtain ⟨⟨h0, h1, h2, h3, h4⟩, -, hl0⟩ := Box.six bh
        obtain ⟨⟨x0, x1, x2, x3, x4⟩, -, xl⟩ := Box.six bx
        obtain ⟨⟨y0, y1, y2, y3, y4⟩, -, yl⟩ := Box.six by_
        clear hb20 bh bx by_
        go_wp2_with fail
        clear h0 h1 h2 h3 h4 hl0 x0 x1 x2 x3 x4 xl y0 y1 y2 y3 y4 yl hv1 hgl
        refine (TB.out _ HT20.out).mono ?_
        rintro e w21 ⟨rfl, hb21⟩
        have HT21 : Hid (Below Wh.heap.size Wh w21) := hidb (HT20.out.trans (hb21.mono HT20.out.size))
        obtain ⟨bh, bx, by_, hv1, hgl⟩ := HALL.out _ HT21.out
        obtain ⟨⟨h0, h1, h2, h3, h4⟩, -, hl0⟩ := Box.six bh
        obtain ⟨⟨x0, x1, x2, x3, x4⟩, -, xl⟩ := Box.six bx
        obtain ⟨⟨y0, y1, y2, y3, y4⟩, -, yl⟩ := Box.six by_
        clear hb21 bh bx by_
        go_wp2_with fail
        go_ret
        exact ⟨rfl, HFIN.out _ HT21.out⟩
      · by_cases hgt : 0 < R0
        · obtain rfl : I0 = false := by cases I0 with | false => rfl | true => (have := HID.out rfl; omega)
          clear HID
          have hon : ocn R0 false 8 = 1 := by unfold ocn; rw [sgv_gt hgt]; rfl
          rw [hon]
          have hv0 : wr.cell? ⟨g, 0, none⟩ = some (.bool false) := (HROW.out.cellAt 0 (by omega)).trans (by unfold osv; rw [sgv_gt hgt]; rfl)
          have hv1 : wr.cell? ⟨g, 1, none⟩ = some (.bool false) := (HROW.out.cellAt 1 (by omega)).trans (by unfold osv; rw [sgv_gt hgt]; rfl)
          have hv2 : wr.cell? ⟨g, 2, none⟩ = some (.bool true) := (HROW.out.cellAt 2 (by omega)).trans (by unfold osv; rw [sgv_gt hgt]; rfl)
          have hv3 : wr.cell? ⟨g, 3, none⟩ = some (.bool false) := (HROW.out.cellAt 3 (by omega)).trans (by unfold osv; rw [sgv_gt hgt]; rfl)
          have hv4 : wr.cell? ⟨g, 4, none⟩ = some (.bool true) := (HROW.out.cellAt 4 (by omega)).trans (by unfold osv; rw [sgv_gt hgt]; rfl)
          have hv5 : wr.cell? ⟨g, 5, none⟩ = some (.bool true) := (HROW.out.cellAt 5 (by omega)).trans (by unfold osv; rw [sgv_gt hgt]; rfl)
          have hv6 : wr.cell? ⟨g, 6, none⟩ = some (.bool false) := (HROW.out.cellAt 6 (by omega)).trans (by unfold osv; rw [sgv_gt hgt]; rfl)
          have hv7 : wr.cell? ⟨g, 7, none⟩ = some (.bool true) := (HROW.out.cellAt 7 (by omega)).trans (by unfold osv; rw [sgv_gt hgt]; rfl)
          have hgl : g < wr.heap.size := World.block_lt_of_cell? _ _ hv0
          have LM1 : Hid (∀ W rb, Below V2.heap.size V2 W → ArgsIn W (some ⟨rb, 0, none⟩) 2 [.mk k n f s a c ks, .mk k' n' f' s' a' c' ks'] → Calls Tryz.prog 9 #[.string minN, .slice (some ⟨rb, 0, none⟩) 2 2] W (LawA (fun x => x = .mk k' n' f' s' a' c' ks') (fun _ => False) W)) := hidb (fun W rb h1 h2 => by have := LMN.out W rb h1 h2; rw [if_neg (by omega)] at this; exact this)
          have LM2 : Hid (∀ W rb, Below V2.heap.size V2 W → ArgsIn W (some ⟨rb, 0, none⟩) 2 [.mk k n f s a c ks, .mk k' n' f' s' a' c' ks'] → Calls Tryz.prog 9 #[.string maxN, .slice (some ⟨rb, 0, none⟩) 2 2] W (LawA (fun x => x = .mk k n f s a c ks) (fun _ => False) W)) := hidb (fun W rb h1 h2 => by have := LMX.out W rb h1 h2; rw [if_pos (by omega)] at this; exact this)
          clear hon LMN LMX
          go_wp2_with fail
          go_big_quiet (fail)
          go_wp2_with fail
          have HBq : Hid (Below V2.heap.size V2 (wr.drewN nq)) := hidb (below_drewN HB.out nq)
          have hvq : ∀ j v, wr.cell? ⟨g, j, none⟩ = some v → (wr.drewN nq).cell? ⟨g, j, none⟩ = some v := fun j v h => ((below_drewN (Below.refl wr.heap.size wr) nq).cell (p := ⟨g, j, none⟩) hgl).trans h
          have hv1 := hvq _ _ hv1
          have hv2 := hvq _ _ hv2
          have hzq : (wr.drewN nq).heap.size = wr.heap.size := rfl
          have HGL : Hid (g < (wr.drewN nq).heap.size) := hidb hgl
          rw [← hzq]
          clear hvq hgl hzq hv0 hv3 hv4 hv5 hv6 hv7 x0 x1 x2 x3 x4 xl y0 y1 y2 y3 y4 yl HROW HB
          generalize wr.drewN nq = Wq at *
          refine (LM1.out _ _ (HBq.out.alloc HBq.out.size _) (HAJ.out Wq HBq.out)).mono ?_
          intro e w5 hlw
          obtain ⟨sk, sn, sf, ss, sa, sc, ks5, rfl, hb5, hs5, hi5⟩ := law_yes hlw HP2.out.e1
          have hw5 := (below_new Wq (.cells #[.int .i64 k, .int .i64 n, .float .f64 f, .string s, .slice a L c, .int .i64 k', .int .i64 n', .float .f64 f', .string s', .slice a' L' c'] 25)).trans (hb5.mono (by simp))
          have HB5 := hidb (HBq.out.trans (hw5.mono HBq.out.size))
          have HS5 := hidb hs5
          have HI5 := hidb hi5
          have hv1 := (hw5.cell (p := ⟨g, 1, none⟩) HGL.out).trans hv1
          have hv2 := (hw5.cell (p := ⟨g, 2, none⟩) HGL.out).trans hv2
          have HG5 : Hid (g < w5.heap.size) := hidb (World.block_lt_of_cell? _ _ hv1)
          obtain ⟨sl, hsl⟩ : ∃ sl, ks5.length = sl := ⟨_, rfl⟩
          have HSL := hidb hsl
          rw [hsl]
          obtain ⟨⟨x0, x1, x2, x3, x4⟩, -, xl⟩ := Box.six (HX4.out.keep HB5.out)
          obtain ⟨⟨y0, y1, y2, y3, y4⟩, -, yl⟩ := Box.six (HY4.out.keep HB5.out)
          clear hlw hb5 hw5 hs5 hi5 hsl
          go_wp2_with fail
          have HBl : Hid (Below V2.heap.size V2 (w5.alloc (.cells #[.int .i64 sk, .int .i64 sn, .float .f64 sf, .string ss, .slice sa sl sc] 25))) := hidb (HB5.out.alloc HB5.out.size _)
          have HXl := hidb (Box.new w5 25 (.int .i64 sk) (.int .i64 sn) (.float .f64 sf) (.string ss) (.slice sa sl sc))
          have hzl : (w5.alloc (.cells #[.int .i64 sk, .int .i64 sn, .float .f64 sf, .string ss, .slice sa sl sc] 25)).heap.size = w5.heap.size + 1 := by simp
          rw [← hzl]
          have hv1 := ((below_new w5 (.cells #[.int .i64 sk, .int .i64 sn, .float .f64 sf, .string ss, .slice sa sl sc] 25)).cell (p := ⟨g, 1, none⟩) HG5.out).trans hv1
          have hv2 := ((below_new w5 (.cells #[.int .i64 sk, .int .i64 sn, .float .f64 sf, .string ss, .slice sa sl sc] 25)).cell (p := ⟨g, 2, none⟩) HG5.out).trans hv2
          have HG6 : Hid (g < (w5.alloc (.cells #[.int .i64 sk, .int .i64 sn, .float .f64 sf, .string ss, .slice sa sl sc] 25)).heap.size) := hidb (World.block_lt_of_cell? _ _ hv1)
          have HI6 := hidb (in_below (below_new w5 (.cells #[.int .i64 sk, .int .i64 sn, .float .f64 sf, .string ss, .slice sa sl sc] 25)) HI5.out)
          clear hzl x0 x1 x2 x3 x4 xl y0 y1 y2 y3 y4 yl
          generalize w5.alloc (.cells #[.int .i64 sk, .int .i64 sn, .float .f64 sf, .string ss, .slice sa sl sc] 25) = Wl at *
          refine (LM2.out _ _ (HBl.out.alloc HBl.out.size _) (HAJ.out Wl HBl.out)).mono ?_
          intro e w7 hlw
          obtain ⟨hk, hn, hf, hs, ha, hc, ks7, rfl, hb7, hs7, hi7⟩ := law_yes hlw HP2.out.e0
          have hw7 := (below_new Wl (.cells #[.int .i64 k, .int .i64 n, .float .f64 f, .string s, .slice a L c, .int .i64 k', .int .i64 n', .float .f64 f', .string s', .slice a' L' c'] 25)).trans (hb7.mono (by simp))
          have HB7 := hidb (HBl.out.trans (hw7.mono HBl.out.size))
          have HS7 := hidb hs7
          have HI7 := hidb hi7
          have HI6' := hidb (in_below hw7 HI6.out)
          have HXl7 := hidb (HXl.out.keep hw7)
          have hv1 := (hw7.cell (p := ⟨g, 1, none⟩) HG6.out).trans hv1
          have hv2 := (hw7.cell (p := ⟨g, 2, none⟩) HG6.out).trans hv2
          have HG7 : Hid (g < w7.heap.size) := hidb (World.block_lt_of_cell? _ _ hv1)
          obtain ⟨hl, hhl⟩ : ∃ hl, ks7.length = hl := ⟨_, rfl⟩
          have HHL := hidb hhl
          rw [hhl]
          clear hlw hb7 hw7 hs7 hi7 hhl
          have HGW : Hid (w7.cell? ⟨g, 1, none⟩ = some (.bool false) ∧ w7.cell? ⟨g, 2, none⟩ = some (.bool true)) := hidb ⟨hv1, hv2⟩
          obtain ⟨Wh, hWh⟩ : ∃ Wh, w7.alloc (.cells #[.int .i64 hk, .int .i64 hn, .float .f64 hf, .string hs, .slice ha hl hc] 25) = Wh := ⟨_, rfl⟩
          have hb8 : Below w7.heap.size w7 Wh := by rw [← hWh]; exact below_new _ _
          have HBh : Hid (Below V2.heap.size V2 Wh) := hidb (HB7.out.trans (hb8.mono HB7.out.size))
          have HXh : Hid (Box Wh w7.heap.size (.int .i64 hk) (.int .i64 hn) (.float .f64 hf) (.string hs) (.slice ha hl hc)) := hidb (by rw [← hWh]; exact Box.new w7 25 _ _ _ _ _)
          have HXl8 := hidb (HXl7.out.keep hb8)
          have HI8 := hidb (in_below hb8 HI7.out)
          have HI9 := hidb (in_below hb8 HI6'.out)
          have hgl : g < w7.heap.size := HG7.out
          have HGH : Hid (Wh.cell? ⟨g, 1, none⟩ = some (.bool false) ∧ g < Wh.heap.size) := hidb ⟨(hb8.cell (p := ⟨g, 1, none⟩) HG7.out).trans hv1, Nat.lt_of_lt_of_le HG7.out hb8.size⟩
          have HWh := hidb hWh
          have HALL : Hid (∀ W, Below Wh.heap.size Wh W → Box W w7.heap.size (.int .i64 hk) (.int .i64 hn) (.float .f64 hf) (.string hs) (.slice ha hl hc) ∧ Box W w.heap.size (.int .i64 k) (.int .i64 n) (.float .f64 f) (.string s) (.slice a L c) ∧ Box W (w.heap.size + 1) (.int .i64 k') (.int .i64 n') (.float .f64 f') (.string s') (.slice a' L' c') ∧ W.cell? ⟨g, 1, none⟩ = some (.bool false) ∧ g < W.heap.size) := hidb (fun W hW => ⟨HXh.out.keep hW, HX4.out.keep (HBh.out.trans (hW.mono HBh.out.size)), HY4.out.keep (HBh.out.trans (hW.mono HBh.out.size)), (hW.cell (p := ⟨g, 1, none⟩) HGH.out.2).trans HGH.out.1, Nat.lt_of_lt_of_le HGH.out.2 hW.size⟩)
          have HFIN : Hid (∀ W, Below Wh.heap.size Wh W → Below w.heap.size w W) := hidb (fun W hW => HBV.out.trans ((HBh.out.trans (hW.mono HBh.out.size)).mono HBV.out.size))
          have TA : Hid (∀ W, Below Wh.heap.size Wh W → Calls Tryz.prog 10 #[.agg #[.int .i64 sk, .int .i64 sn, .float .f64 sf, .string ss, .slice sa sl sc], .agg #[.int .i64 k', .int .i64 n', .float .f64 f', .string s', .slice a' L' c']] W fun e w' => e = .returned (.bool true) ∧ Below W.heap.size W w') := hidb (fun W hW => by
            have := twin_same _ _ (sm_symm _ _ HS5.out) W (in_below hW HI9.out) (in_below (HFIN.out W hW) HIN'.out)
            simp only [Tr.val, Tr.cells] at this
            rw [HSL.out, HL'.out] at this
            exact this)
          have TB : Hid (∀ W, Below Wh.heap.size Wh W → Calls Tryz.prog 10 #[.agg #[.int .i64 hk, .int .i64 hn, .float .f64 hf, .string hs, .slice ha hl hc], .agg #[.int .i64 k, .int .i64 n, .float .f64 f, .string s, .slice a L c]] W fun e w' => e = .returned (.bool true) ∧ Below W.heap.size W w') := hidb (fun W hW => by
            have := twin_same _ _ (sm_symm _ _ HS7.out) W (in_below hW HI8.out) (in_below (HFIN.out W hW) HIN.out)
            simp only [Tr.val, Tr.cells] at this
            rw [HHL.out, HL.out] at this
            exact this)
          clear hWh hb8
          obtain ⟨⟨l0, l1, l2, l3, l4⟩, -, ll⟩ := Box.six HXl7.out
          obtain ⟨⟨x0, x1, x2, x3, x4⟩, -, xl⟩ := Box.six (HX4.out.keep HB7.out)
          obtain ⟨⟨y0, y1, y2, y3, y4⟩, -, yl⟩ := Box.six (HY4.out.keep HB7.out)
          go_wp2_with fail
          rw [HWh.out]
          clear l0 l1 l2 l3 l4 ll x0 x1 x2 x3 x4 xl y0 y1 y2 y3 y4 yl hv1 hv2 hgl
          refine (TA.out _ (Below.refl _ _)).mono ?_
          rintro e w20 ⟨rfl, hb20⟩
          have HT20 : Hid (Below Wh.heap.size Wh w20) := hidb (hb20)
          obtain ⟨bh, bx, by_, hv1, hgl⟩ := HALL.out _ HT20.out
          obtain ⟨⟨h0, h1, h2, h3, h4⟩, -, hl0⟩ := Box.six bh
          obtain ⟨⟨x0, x1, x2, x3, x4⟩, -, xl⟩ := Box.six bx
          obtain ⟨⟨y0, y1, y2, y3, y4⟩, -, yl⟩ := Box.six by_
          clear hb20 bh bx by_
          go_wp2_with fail
          clear h0 h1 h2 h3 h4 hl0 x0 x1 x2 x3 x4 xl y0 y1 y2 y3 y4 yl hv1 hgl
          refine (TB.out _ HT20.out).mono ?_
          rintro e w21 ⟨rfl, hb21⟩
          have HT21 : Hid (Below Wh.heap.size Wh w21) := hidb (HT20.out.trans (hb21.mono HT20.out.size))
          obtain ⟨bh, bx, by_, hv1, hgl⟩ := HALL.out _ HT21.out
          obtain ⟨⟨h0, h1, h2, h3, h4⟩, -, hl0⟩ := Box.six bh
          obtain ⟨⟨x0, x1, x2, x3, x4⟩, -, xl⟩ := Box.six bx
          obtain ⟨⟨y0, y1, y2, y3, y4⟩, -, yl⟩ := Box.six by_
          clear hb21 bh bx by_
          go_wp2_with fail
          go_ret
          exact ⟨rfl, HFIN.out _ HT21.out⟩
        · obtain rfl : R0 = 0 := by omega
          clear HID
          cases I0
          · skip
            have hon : ocn 0 false 8 = 1 := by unfold ocn; rw [sgv_eq]; rfl
            rw [hon]
            have hv0 : wr.cell? ⟨g, 0, none⟩ = some (.bool false) := (HROW.out.cellAt 0 (by omega)).trans (by unfold osv; rw [sgv_eq]; rfl)
            have hv1 : wr.cell? ⟨g, 1, none⟩ = some (.bool true) := (HROW.out.cellAt 1 (by omega)).trans (by unfold osv; rw [sgv_eq]; rfl)
            have hv2 : wr.cell? ⟨g, 2, none⟩ = some (.bool false) := (HROW.out.cellAt 2 (by omega)).trans (by unfold osv; rw [sgv_eq]; rfl)
            have hv3 : wr.cell? ⟨g, 3, none⟩ = some (.bool true) := (HROW.out.cellAt 3 (by omega)).trans (by unfold osv; rw [sgv_eq]; rfl)
            have hv4 : wr.cell? ⟨g, 4, none⟩ = some (.bool true) := (HROW.out.cellAt 4 (by omega)).trans (by unfold osv; rw [sgv_eq]; rfl)
            have hv5 : wr.cell? ⟨g, 5, none⟩ = some (.bool false) := (HROW.out.cellAt 5 (by omega)).trans (by unfold osv; rw [sgv_eq]; rfl)
            have hv6 : wr.cell? ⟨g, 6, none⟩ = some (.bool false) := (HROW.out.cellAt 6 (by omega)).trans (by unfold osv; rw [sgv_eq]; rfl)
            have hv7 : wr.cell? ⟨g, 7, none⟩ = some (.bool true) := (HROW.out.cellAt 7 (by omega)).trans (by unfold osv; rw [sgv_eq]; rfl)
            have hgl : g < wr.heap.size := World.block_lt_of_cell? _ _ hv0
            have LM1 : Hid (∀ W rb, Below V2.heap.size V2 W → ArgsIn W (some ⟨rb, 0, none⟩) 2 [.mk k n f s a c ks, .mk k' n' f' s' a' c' ks'] → Calls Tryz.prog 9 #[.string minN, .slice (some ⟨rb, 0, none⟩) 2 2] W (LawA (fun x => x = .mk k n f s a c ks) (fun _ => False) W)) := hidb (fun W rb h1 h2 => by have := LMN.out W rb h1 h2; rw [if_pos (by omega)] at this; exact this)
            have LM2 : Hid (∀ W rb, Below V2.heap.size V2 W → ArgsIn W (some ⟨rb, 0, none⟩) 2 [.mk k n f s a c ks, .mk k' n' f' s' a' c' ks'] → Calls Tryz.prog 9 #[.string maxN, .slice (some ⟨rb, 0, none⟩) 2 2] W (LawA (fun x => x = .mk k n f s a c ks) (fun _ => False) W)) := hidb (fun W rb h1 h2 => by have := LMX.out W rb h1 h2; rw [if_pos (by omega)] at this; exact this)
            clear hon LMN LMX
            go_wp2_with fail
            go_big_quiet (fail)
            go_wp2_with fail
            have HBq : Hid (Below V2.heap.size V2 (wr.drewN nq)) := hidb (below_drewN HB.out nq)
            have hvq : ∀ j v, wr.cell? ⟨g, j, none⟩ = some v → (wr.drewN nq).cell? ⟨g, j, none⟩ = some v := fun j v h => ((below_drewN (Below.refl wr.heap.size wr) nq).cell (p := ⟨g, j, none⟩) hgl).trans h
            have hv1 := hvq _ _ hv1
            have hv2 := hvq _ _ hv2
            have hzq : (wr.drewN nq).heap.size = wr.heap.size := rfl
            have HGL : Hid (g < (wr.drewN nq).heap.size) := hidb hgl
            rw [← hzq]
            clear hvq hgl hzq hv0 hv3 hv4 hv5 hv6 hv7 x0 x1 x2 x3 x4 xl y0 y1 y2 y3 y4 yl HROW HB
            generalize wr.drewN nq = Wq at *
            refine (LM1.out _ _ (HBq.out.alloc HBq.out.size _) (HAJ.out Wq HBq.out)).mono ?_
            intro e w5 hlw
            obtain ⟨sk, sn, sf, ss, sa, sc, ks5, rfl, hb5, hs5, hi5⟩ := law_yes hlw HP2.out.e0
            have hw5 := (below_new Wq (.cells #[.int .i64 k, .int .i64 n, .float .f64 f, .string s, .slice a L c, .int .i64 k', .int .i64 n', .float .f64 f', .string s', .slice a' L' c'] 25)).trans (hb5.mono (by simp))
            have HB5 := hidb (HBq.out.trans (hw5.mono HBq.out.size))
            have HS5 := hidb hs5
            have HI5 := hidb hi5
            have hv1 := (hw5.cell (p := ⟨g, 1, none⟩) HGL.out).trans hv1
            have hv2 := (hw5.cell (p := ⟨g, 2, none⟩) HGL.out).trans hv2
            have HG5 : Hid (g < w5.heap.size) := hidb (World.block_lt_of_cell? _ _ hv1)
            obtain ⟨sl, hsl⟩ : ∃ sl, ks5.length = sl := ⟨_, rfl⟩
            have HSL := hidb hsl
            rw [hsl]
            obtain ⟨⟨x0, x1, x2, x3, x4⟩, -, xl⟩ := Box.six (HX4.out.keep HB5.out)
            obtain ⟨⟨y0, y1, y2, y3, y4⟩, -, yl⟩ := Box.six (HY4.out.keep HB5.out)
            clear hlw hb5 hw5 hs5 hi5 hsl
            go_wp2_with fail
            have HBl : Hid (Below V2.heap.size V2 (w5.alloc (.cells #[.int .i64 sk, .int .i64 sn, .float .f64 sf, .string ss, .slice sa sl sc] 25))) := hidb (HB5.out.alloc HB5.out.size _)
            have HXl := hidb (Box.new w5 25 (.int .i64 sk) (.int .i64 sn) (.float .f64 sf) (.string ss) (.slice sa sl sc))
            have hzl : (w5.alloc (.cells #[.int .i64 sk, .int .i64 sn, .float .f64 sf, .string ss, .slice sa sl sc] 25)).heap.size = w5.heap.size + 1 := by simp
            rw [← hzl]
            have hv1 := ((below_new w5 (.cells #[.int .i64 sk, .int .i64 sn, .float .f64 sf, .string ss, .slice sa sl sc] 25)).cell (p := ⟨g, 1, none⟩) HG5.out).trans hv1
            have hv2 := ((below_new w5 (.cells #[.int .i64 sk, .int .i64 sn, .float .f64 sf, .string ss, .slice sa sl sc] 25)).cell (p := ⟨g, 2, none⟩) HG5.out).trans hv2
            have HG6 : Hid (g < (w5.alloc (.cells #[.int .i64 sk, .int .i64 sn, .float .f64 sf, .string ss, .slice sa sl sc] 25)).heap.size) := hidb (World.block_lt_of_cell? _ _ hv1)
            have HI6 := hidb (in_below (below_new w5 (.cells #[.int .i64 sk, .int .i64 sn, .float .f64 sf, .string ss, .slice sa sl sc] 25)) HI5.out)
            clear hzl x0 x1 x2 x3 x4 xl y0 y1 y2 y3 y4 yl
            generalize w5.alloc (.cells #[.int .i64 sk, .int .i64 sn, .float .f64 sf, .string ss, .slice sa sl sc] 25) = Wl at *
            refine (LM2.out _ _ (HBl.out.alloc HBl.out.size _) (HAJ.out Wl HBl.out)).mono ?_
            intro e w7 hlw
            obtain ⟨hk, hn, hf, hs, ha, hc, ks7, rfl, hb7, hs7, hi7⟩ := law_yes hlw HP2.out.e0
            have hw7 := (below_new Wl (.cells #[.int .i64 k, .int .i64 n, .float .f64 f, .string s, .slice a L c, .int .i64 k', .int .i64 n', .float .f64 f', .string s', .slice a' L' c'] 25)).trans (hb7.mono (by simp))
            have HB7 := hidb (HBl.out.trans (hw7.mono HBl.out.size))
            have HS7 := hidb hs7
            have HI7 := hidb hi7
            have HI6' := hidb (in_below hw7 HI6.out)
            have HXl7 := hidb (HXl.out.keep hw7)
            have hv1 := (hw7.cell (p := ⟨g, 1, none⟩) HG6.out).trans hv1
            have hv2 := (hw7.cell (p := ⟨g, 2, none⟩) HG6.out).trans hv2
            have HG7 : Hid (g < w7.heap.size) := hidb (World.block_lt_of_cell? _ _ hv1)
            obtain ⟨hl, hhl⟩ : ∃ hl, ks7.length = hl := ⟨_, rfl⟩
            have HHL := hidb hhl
            rw [hhl]
            clear hlw hb7 hw7 hs7 hi7 hhl
            have HGW : Hid (w7.cell? ⟨g, 1, none⟩ = some (.bool true) ∧ w7.cell? ⟨g, 2, none⟩ = some (.bool false)) := hidb ⟨hv1, hv2⟩
            obtain ⟨Wh, hWh⟩ : ∃ Wh, w7.alloc (.cells #[.int .i64 hk, .int .i64 hn, .float .f64 hf, .string hs, .slice ha hl hc] 25) = Wh := ⟨_, rfl⟩
            have hb8 : Below w7.heap.size w7 Wh := by rw [← hWh]; exact below_new _ _
            have HBh : Hid (Below V2.heap.size V2 Wh) := hidb (HB7.out.trans (hb8.mono HB7.out.size))
            have HXh : Hid (Box Wh w7.heap.size (.int .i64 hk) (.int .i64 hn) (.float .f64 hf) (.string hs) (.slice ha hl hc)) := hidb (by rw [← hWh]; exact Box.new w7 25 _ _ _ _ _)
            have HXl8 := hidb (HXl7.out.keep hb8)
            have HI8 := hidb (in_below hb8 HI7.out)
            have HI9 := hidb (in_below hb8 HI6'.out)
            have hgl : g < w7.heap.size := HG7.out
            have HGH : Hid (Wh.cell? ⟨g, 1, none⟩ = some (.bool true) ∧ g < Wh.heap.size) := hidb ⟨(hb8.cell (p := ⟨g, 1, none⟩) HG7.out).trans hv1, Nat.lt_of_lt_of_le HG7.out hb8.size⟩
            have HWh := hidb hWh
            have HALL : Hid (∀ W, Below Wh.heap.size Wh W → Box W w7.heap.size (.int .i64 hk) (.int .i64 hn) (.float .f64 hf) (.string hs) (.slice ha hl hc) ∧ Box W w.heap.size (.int .i64 k) (.int .i64 n) (.float .f64 f) (.string s) (.slice a L c) ∧ Box W (w.heap.size + 1) (.int .i64 k') (.int .i64 n') (.float .f64 f') (.string s') (.slice a' L' c') ∧ W.cell? ⟨g, 1, none⟩ = some (.bool true) ∧ g < W.heap.size) := hidb (fun W hW => ⟨HXh.out.keep hW, HX4.out.keep (HBh.out.trans (hW.mono HBh.out.size)), HY4.out.keep (HBh.out.trans (hW.mono HBh.out.size)), (hW.cell (p := ⟨g, 1, none⟩) HGH.out.2).trans HGH.out.1, Nat.lt_of_lt_of_le HGH.out.2 hW.size⟩)
            have HFIN : Hid (∀ W, Below Wh.heap.size Wh W → Below w.heap.size w W) := hidb (fun W hW => HBV.out.trans ((HBh.out.trans (hW.mono HBh.out.size)).mono HBV.out.size))
            have TA : Hid (∀ W, Below Wh.heap.size Wh W → Calls Tryz.prog 10 #[.agg #[.int .i64 sk, .int .i64 sn, .float .f64 sf, .string ss, .slice sa sl sc], .agg #[.int .i64 k, .int .i64 n, .float .f64 f, .string s, .slice a L c]] W fun e w' => e = .returned (.bool true) ∧ Below W.heap.size W w') := hidb (fun W hW => by
              have := twin_same _ _ (sm_symm _ _ HS5.out) W (in_below hW HI9.out) (in_below (HFIN.out W hW) HIN.out)
              simp only [Tr.val, Tr.cells] at this
              rw [HSL.out, HL.out] at this
              exact this)
            have TB : Hid (∀ W, Below Wh.heap.size Wh W → Calls Tryz.prog 10 #[.agg #[.int .i64 hk, .int .i64 hn, .float .f64 hf, .string hs, .slice ha hl hc], .agg #[.int .i64 k', .int .i64 n', .float .f64 f', .string s', .slice a' L' c']] W fun e w' => (∃ x, e = .returned (.bool x)) ∧ Below W.heap.size W w') := hidb (fun W hW => by
              have := twin_tot _ _ W (in_below hW HI8.out) (in_below (HFIN.out W hW) HIN'.out)
              simp only [Tr.val, Tr.cells] at this
              rw [HHL.out, HL'.out] at this
              exact this)
            have TC2 : Hid (∀ W, Below Wh.heap.size Wh W → Calls Tryz.prog 10 #[.agg #[.int .i64 hk, .int .i64 hn, .float .f64 hf, .string hs, .slice ha hl hc], .agg #[.int .i64 k, .int .i64 n, .float .f64 f, .string s, .slice a L c]] W fun e w' => e = .returned (.bool true) ∧ Below W.heap.size W w') := hidb (fun W hW => by
              have := twin_same _ _ (sm_symm _ _ HS7.out) W (in_below hW HI8.out) (in_below (HFIN.out W hW) HIN.out)
              simp only [Tr.val, Tr.cells] at this
              rw [HHL.out, HL.out] at this
              exact this)
            clear hWh hb8
            obtain ⟨⟨l0, l1, l2, l3, l4⟩, -, ll⟩ := Box.six HXl7.out
            obtain ⟨⟨x0, x1, x2, x3, x4⟩, -, xl⟩ := Box.six (HX4.out.keep HB7.out)
            obtain ⟨⟨y0, y1, y2, y3, y4⟩, -, yl⟩ := Box.six (HY4.out.keep HB7.out)
            go_wp2_with fail
            rw [HWh.out]
            clear l0 l1 l2 l3 l4 ll x0 x1 x2 x3 x4 xl y0 y1 y2 y3 y4 yl hv1 hv2 hgl
            refine (TA.out _ (Below.refl _ _)).mono ?_
            rintro e w20 ⟨rfl, hb20⟩
            have HT20 : Hid (Below Wh.heap.size Wh w20) := hidb (hb20)
            obtain ⟨bh, bx, by_, hv1, hgl⟩ := HALL.out _ HT20.out
            obtain ⟨⟨h0, h1, h2, h3, h4⟩, -, hl0⟩ := Box.six bh
            obtain ⟨⟨x0, x1, x2, x3, x4⟩, -, xl⟩ := Box.six bx
            obtain ⟨⟨y0, y1, y2, y3, y4⟩, -, yl⟩ := Box.six by_
            clear hb20 bh bx by_
            go_wp2_with fail
            clear h0 h1 h2 h3 h4 hl0 x0 x1 x2 x3 x4 xl y0 y1 y2 y3 y4 yl hv1 hgl
            refine (TB.out _ HT20.out).mono ?_
            rintro e w21 ⟨⟨xb, rfl⟩, hb21⟩
            have HT21 : Hid (Below Wh.heap.size Wh w21) := hidb (HT20.out.trans (hb21.mono HT20.out.size))
            obtain ⟨bh, bx, by_, hv1, hgl⟩ := HALL.out _ HT21.out
            obtain ⟨⟨h0, h1, h2, h3, h4⟩, -, hl0⟩ := Box.six bh
            obtain ⟨⟨x0, x1, x2, x3, x4⟩, -, xl⟩ := Box.six bx
            obtain ⟨⟨y0, y1, y2, y3, y4⟩, -, yl⟩ := Box.six by_
            clear hb21 bh bx by_
            cases xb
            · go_wp2_with fail
              clear h0 h1 h2 h3 h4 hl0 x0 x1 x2 x3 x4 xl y0 y1 y2 y3 y4 yl hv1 hgl
              refine (TC2.out _ HT21.out).mono ?_
              rintro e w22 ⟨rfl, hb22⟩
              have HT22 : Hid (Below Wh.heap.size Wh w22) := hidb (HT21.out.trans (hb22.mono HT21.out.size))
              obtain ⟨bh, bx, by_, hv1, hgl⟩ := HALL.out _ HT22.out
              obtain ⟨⟨h0, h1, h2, h3, h4⟩, -, hl0⟩ := Box.six bh
              obtain ⟨⟨x0, x1, x2, x3, x4⟩, -, xl⟩ := Box.six bx
              obtain ⟨⟨y0, y1, y2, y3, y4⟩, -, yl⟩ := Box.six by_
              clear hb22 bh bx by_
              go_wp2_with fail
              go_ret
              exact ⟨rfl, HFIN.out _ HT22.out⟩
            · go_wp2_with fail
              go_ret
              exact ⟨rfl, HFIN.out _ HT21.out⟩
          · skip
            have hon : ocn 0 true 8 = 1 := by unfold ocn; rw [sgv_eq]; rfl
            rw [hon]
            have hv0 : wr.cell? ⟨g, 0, none⟩ = some (.bool false) := (HROW.out.cellAt 0 (by omega)).trans (by unfold osv; rw [sgv_eq]; rfl)
            have hv1 : wr.cell? ⟨g, 1, none⟩ = some (.bool true) := (HROW.out.cellAt 1 (by omega)).trans (by unfold osv; rw [sgv_eq]; rfl)
            have hv2 : wr.cell? ⟨g, 2, none⟩ = some (.bool false) := (HROW.out.cellAt 2 (by omega)).trans (by unfold osv; rw [sgv_eq]; rfl)
            have hv3 : wr.cell? ⟨g, 3, none⟩ = some (.bool true) := (HROW.out.cellAt 3 (by omega)).trans (by unfold osv; rw [sgv_eq]; rfl)
            have hv4 : wr.cell? ⟨g, 4, none⟩ = some (.bool true) := (HROW.out.cellAt 4 (by omega)).trans (by unfold osv; rw [sgv_eq]; rfl)
            have hv5 : wr.cell? ⟨g, 5, none⟩ = some (.bool false) := (HROW.out.cellAt 5 (by omega)).trans (by unfold osv; rw [sgv_eq]; rfl)
            have hv6 : wr.cell? ⟨g, 6, none⟩ = some (.bool true) := (HROW.out.cellAt 6 (by omega)).trans (by unfold osv; rw [sgv_eq]; rfl)
            have hv7 : wr.cell? ⟨g, 7, none⟩ = some (.bool false) := (HROW.out.cellAt 7 (by omega)).trans (by unfold osv; rw [sgv_eq]; rfl)
            have hgl : g < wr.heap.size := World.block_lt_of_cell? _ _ hv0
            have LM1 : Hid (∀ W rb, Below V2.heap.size V2 W → ArgsIn W (some ⟨rb, 0, none⟩) 2 [.mk k n f s a c ks, .mk k' n' f' s' a' c' ks'] → Calls Tryz.prog 9 #[.string minN, .slice (some ⟨rb, 0, none⟩) 2 2] W (LawA (fun x => x = .mk k n f s a c ks) (fun _ => False) W)) := hidb (fun W rb h1 h2 => by have := LMN.out W rb h1 h2; rw [if_pos (by omega)] at this; exact this)
            have LM2 : Hid (∀ W rb, Below V2.heap.size V2 W → ArgsIn W (some ⟨rb, 0, none⟩) 2 [.mk k n f s a c ks, .mk k' n' f' s' a' c' ks'] → Calls Tryz.prog 9 #[.string maxN, .slice (some ⟨rb, 0, none⟩) 2 2] W (LawA (fun x => x = .mk k n f s a c ks) (fun _ => False) W)) := hidb (fun W rb h1 h2 => by have := LMX.out W rb h1 h2; rw [if_pos (by omega)] at this; exact this)
            clear hon LMN LMX
            go_wp2_with fail
            go_big_quiet (fail)
            go_wp2_with fail
            have HBq : Hid (Below V2.heap.size V2 (wr.drewN nq)) := hidb (below_drewN HB.out nq)
            have hvq : ∀ j v, wr.cell? ⟨g, j, none⟩ = some v → (wr.drewN nq).cell? ⟨g, j, none⟩ = some v := fun j v h => ((below_drewN (Below.refl wr.heap.size wr) nq).cell (p := ⟨g, j, none⟩) hgl).trans h
            have hv1 := hvq _ _ hv1
            have hv2 := hvq _ _ hv2
            have hzq : (wr.drewN nq).heap.size = wr.heap.size := rfl
            have HGL : Hid (g < (wr.drewN nq).heap.size) := hidb hgl
            rw [← hzq]
            clear hvq hgl hzq hv0 hv3 hv4 hv5 hv6 hv7 x0 x1 x2 x3 x4 xl y0 y1 y2 y3 y4 yl HROW HB
            generalize wr.drewN nq = Wq at *
            refine (LM1.out _ _ (HBq.out.alloc HBq.out.size _) (HAJ.out Wq HBq.out)).mono ?_
            intro e w5 hlw
            obtain ⟨sk, sn, sf, ss, sa, sc, ks5, rfl, hb5, hs5, hi5⟩ := law_yes hlw HP2.out.e0
            have hw5 := (below_new Wq (.cells #[.int .i64 k, .int .i64 n, .float .f64 f, .string s, .slice a L c, .int .i64 k', .int .i64 n', .float .f64 f', .string s', .slice a' L' c'] 25)).trans (hb5.mono (by simp))
            have HB5 := hidb (HBq.out.trans (hw5.mono HBq.out.size))
            have HS5 := hidb hs5
            have HI5 := hidb hi5
            have hv1 := (hw5.cell (p := ⟨g, 1, none⟩) HGL.out).trans hv1
            have hv2 := (hw5.cell (p := ⟨g, 2, none⟩) HGL.out).trans hv2
            have HG5 : Hid (g < w5.heap.size) := hidb (World.block_lt_of_cell? _ _ hv1)
            obtain ⟨sl, hsl⟩ : ∃ sl, ks5.length = sl := ⟨_, rfl⟩
            have HSL := hidb hsl
            rw [hsl]
            obtain ⟨⟨x0, x1, x2, x3, x4⟩, -, xl⟩ := Box.six (HX4.out.keep HB5.out)
            obtain ⟨⟨y0, y1, y2, y3, y4⟩, -, yl⟩ := Box.six (HY4.out.keep HB5.out)
            clear hlw hb5 hw5 hs5 hi5 hsl
            go_wp2_with fail
            have HBl : Hid (Below V2.heap.size V2 (w5.alloc (.cells #[.int .i64 sk, .int .i64 sn, .float .f64 sf, .string ss, .slice sa sl sc] 25))) := hidb (HB5.out.alloc HB5.out.size _)
            have HXl := hidb (Box.new w5 25 (.int .i64 sk) (.int .i64 sn) (.float .f64 sf) (.string ss) (.slice sa sl sc))
            have hzl : (w5.alloc (.cells #[.int .i64 sk, .int .i64 sn, .float .f64 sf, .string ss, .slice sa sl sc] 25)).heap.size = w5.heap.size + 1 := by simp
            rw [← hzl]
            have hv1 := ((below_new w5 (.cells #[.int .i64 sk, .int .i64 sn, .float .f64 sf, .string ss, .slice sa sl sc] 25)).cell (p := ⟨g, 1, none⟩) HG5.out).trans hv1
            have hv2 := ((below_new w5 (.cells #[.int .i64 sk, .int .i64 sn, .float .f64 sf, .string ss, .slice sa sl sc] 25)).cell (p := ⟨g, 2, none⟩) HG5.out).trans hv2
            have HG6 : Hid (g < (w5.alloc (.cells #[.int .i64 sk, .int .i64 sn, .float .f64 sf, .string ss, .slice sa sl sc] 25)).heap.size) := hidb (World.block_lt_of_cell? _ _ hv1)
            have HI6 := hidb (in_below (below_new w5 (.cells #[.int .i64 sk, .int .i64 sn, .float .f64 sf, .string ss, .slice sa sl sc] 25)) HI5.out)
            clear hzl x0 x1 x2 x3 x4 xl y0 y1 y2 y3 y4 yl
            generalize w5.alloc (.cells #[.int .i64 sk, .int .i64 sn, .float .f64 sf, .string ss, .slice sa sl sc] 25) = Wl at *
            refine (LM2.out _ _ (HBl.out.alloc HBl.out.size _) (HAJ.out Wl HBl.out)).mono ?_
            intro e w7 hlw
            obtain ⟨hk, hn, hf, hs, ha, hc, ks7, rfl, hb7, hs7, hi7⟩ := law_yes hlw HP2.out.e0
            have hw7 := (below_new Wl (.cells #[.int .i64 k, .int .i64 n, .float .f64 f, .string s, .slice a L c, .int .i64 k', .int .i64 n', .float .f64 f', .string s', .slice a' L' c'] 25)).trans (hb7.mono (by simp))
            have HB7 := hidb (HBl.out.trans (hw7.mono HBl.out.size))
            have HS7 := hidb hs7
            have HI7 := hidb hi7
            have HI6' := hidb (in_below hw7 HI6.out)
            have HXl7 := hidb (HXl.out.keep hw7)
            have hv1 := (hw7.cell (p := ⟨g, 1, none⟩) HG6.out).trans hv1
            have hv2 := (hw7.cell (p := ⟨g, 2, none⟩) HG6.out).trans hv2
            have HG7 : Hid (g < w7.heap.size) := hidb (World.block_lt_of_cell? _ _ hv1)
            obtain ⟨hl, hhl⟩ : ∃ hl, ks7.length = hl := ⟨_, rfl⟩
            have HHL := hidb hhl
            rw [hhl]
            clear hlw hb7 hw7 hs7 hi7 hhl
            have HGW : Hid (w7.cell? ⟨g, 1, none⟩ = some (.bool true) ∧ w7.cell? ⟨g, 2, none⟩ = some (.bool false)) := hidb ⟨hv1, hv2⟩
            obtain ⟨Wh, hWh⟩ : ∃ Wh, w7.alloc (.cells #[.int .i64 hk, .int .i64 hn, .float .f64 hf, .string hs, .slice ha hl hc] 25) = Wh := ⟨_, rfl⟩
            have hb8 : Below w7.heap.size w7 Wh := by rw [← hWh]; exact below_new _ _
            have HBh : Hid (Below V2.heap.size V2 Wh) := hidb (HB7.out.trans (hb8.mono HB7.out.size))
            have HXh : Hid (Box Wh w7.heap.size (.int .i64 hk) (.int .i64 hn) (.float .f64 hf) (.string hs) (.slice ha hl hc)) := hidb (by rw [← hWh]; exact Box.new w7 25 _ _ _ _ _)
            have HXl8 := hidb (HXl7.out.keep hb8)
            have HI8 := hidb (in_below hb8 HI7.out)
            have HI9 := hidb (in_below hb8 HI6'.out)
            have hgl : g < w7.heap.size := HG7.out
            have HGH : Hid (Wh.cell? ⟨g, 1, none⟩ = some (.bool true) ∧ g < Wh.heap.size) := hidb ⟨(hb8.cell (p := ⟨g, 1, none⟩) HG7.out).trans hv1, Nat.lt_of_lt_of_le HG7.out hb8.size⟩
            have HWh := hidb hWh
            have HALL : Hid (∀ W, Below Wh.heap.size Wh W → Box W w7.heap.size (.int .i64 hk) (.int .i64 hn) (.float .f64 hf) (.string hs) (.slice ha hl hc) ∧ Box W w.heap.size (.int .i64 k) (.int .i64 n) (.float .f64 f) (.string s) (.slice a L c) ∧ Box W (w.heap.size + 1) (.int .i64 k') (.int .i64 n') (.float .f64 f') (.string s') (.slice a' L' c') ∧ W.cell? ⟨g, 1, none⟩ = some (.bool true) ∧ g < W.heap.size) := hidb (fun W hW => ⟨HXh.out.keep hW, HX4.out.keep (HBh.out.trans (hW.mono HBh.out.size)), HY4.out.keep (HBh.out.trans (hW.mono HBh.out.size)), (hW.cell (p := ⟨g, 1, none⟩) HGH.out.2).trans HGH.out.1, Nat.lt_of_lt_of_le HGH.out.2 hW.size⟩)
            have HFIN : Hid (∀ W, Below Wh.heap.size Wh W → Below w.heap.size w W) := hidb (fun W hW => HBV.out.trans ((HBh.out.trans (hW.mono HBh.out.size)).mono HBV.out.size))
            have TA : Hid (∀ W, Below Wh.heap.size Wh W → Calls Tryz.prog 10 #[.agg #[.int .i64 sk, .int .i64 sn, .float .f64 sf, .string ss, .slice sa sl sc], .agg #[.int .i64 k, .int .i64 n, .float .f64 f, .string s, .slice a L c]] W fun e w' => e = .returned (.bool true) ∧ Below W.heap.size W w') := hidb (fun W hW => by
              have := twin_same _ _ (sm_symm _ _ HS5.out) W (in_below hW HI9.out) (in_below (HFIN.out W hW) HIN.out)
              simp only [Tr.val, Tr.cells] at this
              rw [HSL.out, HL.out] at this
              exact this)
            have TB : Hid (∀ W, Below Wh.heap.size Wh W → Calls Tryz.prog 10 #[.agg #[.int .i64 hk, .int .i64 hn, .float .f64 hf, .string hs, .slice ha hl hc], .agg #[.int .i64 k', .int .i64 n', .float .f64 f', .string s', .slice a' L' c']] W fun e w' => (∃ x, e = .returned (.bool x)) ∧ Below W.heap.size W w') := hidb (fun W hW => by
              have := twin_tot _ _ W (in_below hW HI8.out) (in_below (HFIN.out W hW) HIN'.out)
              simp only [Tr.val, Tr.cells] at this
              rw [HHL.out, HL'.out] at this
              exact this)
            have TC2 : Hid (∀ W, Below Wh.heap.size Wh W → Calls Tryz.prog 10 #[.agg #[.int .i64 hk, .int .i64 hn, .float .f64 hf, .string hs, .slice ha hl hc], .agg #[.int .i64 k, .int .i64 n, .float .f64 f, .string s, .slice a L c]] W fun e w' => e = .returned (.bool true) ∧ Below W.heap.size W w') := hidb (fun W hW => by
              have := twin_same _ _ (sm_symm _ _ HS7.out) W (in_below hW HI8.out) (in_below (HFIN.out W hW) HIN.out)
              simp only [Tr.val, Tr.cells] at this
              rw [HHL.out, HL.out] at this
              exact this)
            clear hWh hb8
            obtain ⟨⟨l0, l1, l2, l3, l4⟩, -, ll⟩ := Box.six HXl7.out
            obtain ⟨⟨x0, x1, x2, x3, x4⟩, -, xl⟩ := Box.six (HX4.out.keep HB7.out)
            obtain ⟨⟨y0, y1, y2, y3, y4⟩, -, yl⟩ := Box.six (HY4.out.keep HB7.out)
            go_wp2_with fail
            rw [HWh.out]
            clear l0 l1 l2 l3 l4 ll x0 x1 x2 x3 x4 xl y0 y1 y2 y3 y4 yl hv1 hv2 hgl
            refine (TA.out _ (Below.refl _ _)).mono ?_
            rintro e w20 ⟨rfl, hb20⟩
            have HT20 : Hid (Below Wh.heap.size Wh w20) := hidb (hb20)
            obtain ⟨bh, bx, by_, hv1, hgl⟩ := HALL.out _ HT20.out
            obtain ⟨⟨h0, h1, h2, h3, h4⟩, -, hl0⟩ := Box.six bh
            obtain ⟨⟨x0, x1, x2, x3, x4⟩, -, xl⟩ := Box.six bx
            obtain ⟨⟨y0, y1, y2, y3, y4⟩, -, yl⟩ := Box.six by_
            clear hb20 bh bx by_
            go_wp2_with fail
            clear h0 h1 h2 h3 h4 hl0 x0 x1 x2 x3 x4 xl y0 y1 y2 y3 y4 yl hv1 hgl
            refine (TB.out _ HT20.out).mono ?_
            rintro e w21 ⟨⟨xb, rfl⟩, hb21⟩
            have HT21 : Hid (Below Wh.heap.size Wh w21) := hidb (HT20.out.trans (hb21.mono HT20.out.size))
            obtain ⟨bh, bx, by_, hv1, hgl⟩ := HALL.out _ HT21.out
            obtain ⟨⟨h0, h1, h2, h3, h4⟩, -, hl0⟩ := Box.six bh
            obtain ⟨⟨x0, x1, x2, x3, x4⟩, -, xl⟩ := Box.six bx
            obtain ⟨⟨y0, y1, y2, y3, y4⟩, -, yl⟩ := Box.six by_
            clear hb21 bh bx by_
            cases xb
            · go_wp2_with fail
              clear h0 h1 h2 h3 h4 hl0 x0 x1 x2 x3 x4 xl y0 y1 y2 y3 y4 yl hv1 hgl
              refine (TC2.out _ HT21.out).mono ?_
              rintro e w22 ⟨rfl, hb22⟩
              have HT22 : Hid (Below Wh.heap.size Wh w22) := hidb (HT21.out.trans (hb22.mono HT21.out.size))
              obtain ⟨bh, bx, by_, hv1, hgl⟩ := HALL.out _ HT22.out
              obtain ⟨⟨h0, h1, h2, h3, h4⟩, -, hl0⟩ := Box.six bh
              obtain ⟨⟨x0, x1, x2, x3, x4⟩, -, xl⟩ := Box.six bx
              obtain ⟨⟨y0, y1, y2, y3, y4⟩, -, yl⟩ := Box.six by_
              clear hb22 bh bx by_
              go_wp2_with fail
              go_ret
              exact ⟨rfl, HFIN.out _ HT22.out⟩
            · go_wp2_with fail
              go_ret
              exact ⟨rfl, HFIN.out _ HT21.out⟩
end Go.Proofs.YtajadhkpadkikaaGreatDoor


