import Derived.Test.YtliebilpddmhkaaGreatG21
import Derived.Test.YtliebilpddmhkaaGreatG25
import Derived.Test.YtliebilpddmhkaaGreatG12
/- The document's Copy of any term: the same term in new memory. -/
namespace Go.Proofs.YtliebilpddmhkaaGreat
open Go.RowKit Go.Deep
attribute [local go_sem] store_float f64bits
attribute [local go_sem ↓] Go.wp_at_zero Go.wp_at_succ

theorem smA_snoc {t t' : Tr} (h : Sm t t') : ∀ (l l' : List Tr), SmA l l' → SmA (l ++ [t]) (l' ++ [t'])
  | [], [], _ => by simp only [List.nil_append, SmA]; exact ⟨h, trivial⟩
  | u :: r, u' :: r', hl => by
    unfold SmA at hl
    simp only [List.cons_append, SmA]
    exact ⟨hl.1, smA_snoc h r r' hl.2⟩
  | [], _ :: _, hl => by unfold SmA at hl; exact hl.elim
  | _ :: _, [], hl => by unfold SmA at hl; exact hl.elim

set_option maxHeartbeats 2000000 in
set_option maxRecDepth 100000 in
theorem rcopy_any : ∀ (t : Tr) (w : World), t.In w 0 → Small t →
    Calls Tryz.prog 35 #[t.val] w fun e w' => ∃ t', e = .returned t'.val ∧ Sm t t' ∧ t'.In w' w.heap.size ∧ Below w.heap.size w w' := by
  refine Tr.ind fun k n f s a c kids hk => ?_
  intro w hin hsm
  show Calls Tryz.prog 35 #[.agg #[.int .i64 k, .int .i64 n, .float .f64 f, .string s, .slice a kids.length c]] w _
  have HK : Hid (∀ t, t ∈ kids → ∀ (w : World), t.In w 0 → Small t → Calls Tryz.prog 35 #[t.val] w fun e w' => ∃ t', e = .returned t'.val ∧ Sm t t' ∧ t'.In w' w.heap.size ∧ Below w.heap.size w w') := hk
  have HIN := hidb hin
  have hwf := hidb (show Tr.fit (.mk k n f s a c kids) from by unfold Tr.In at hin; exact hin.1)
  unfold Small at hsm
  have hlen := hsm.1
  have HSM := hidb hsm.2
  obtain ⟨i0, hi, hz0, hz1, hz2⟩ := info_parts infoT5
  clear hk hin hsm
  go_enter Tryz.func35, Tryz.ntmps35
  go_wp2_with fail
  go_loopw [3, 4] (fun lv iv wr => ∃ (m : Nat) (ds : List Tr), m ≤ kids.length ∧ iv = .int .i64 m ∧ TRows wr (w.heap.size + 2) lv ds ∧ SmA (kids.take m) ds ∧ Below (w.heap.size + 2) ((w.alloc (.cells #[.int .i64 k, .int .i64 n, .float .f64 f, .string s, .slice a kids.length c] 25)).alloc (.cells #[.int .i64 0, .int .i64 0, .float .f64 0, .string ⟨#[]⟩, .slice none 0 0] 25)) wr) (fun _ iv _ => kids.length - (RowKit.intOf iv).toNat)
  case atStart => exact ⟨0, [], by omega, rfl, rows_nil _ _, by simp [SmA], Below.refl _ _⟩
  case round =>
  obtain ⟨m, ds, hm, rfl, hrows, hsma, hbel⟩ := hrel
  have HR := hidb hrows
  have HS := hidb hsma
  have HBB := hidb hbel
  have hb1 : Below (w.heap.size + 1) (w.alloc (.cells #[.int .i64 k, .int .i64 n, .float .f64 f, .string s, .slice a kids.length c] 25)) wr := by
    have h0 := below_new (w.alloc (.cells #[.int .i64 k, .int .i64 n, .float .f64 f, .string s, .slice a kids.length c] 25)) (.cells #[.int .i64 0, .int .i64 0, .float .f64 0, .string ⟨#[]⟩, .slice none 0 0] 25)
    rw [show (w.alloc (.cells #[.int .i64 k, .int .i64 n, .float .f64 f, .string s, .slice a kids.length c] 25)).heap.size = w.heap.size + 1 by simp] at h0
    exact h0.trans (hbel.mono (by omega))
  obtain ⟨b0, b1, b2, b3, b4⟩ := box_at hb1
  have HB : Hid (Below w.heap.size w wr) := hidb (box_below hb1)
  have bf4 := (hb1.frozen (p := ⟨w.heap.size, 4, none⟩) (Nat.lt_succ_self _)).trans (Box.new w 25 (.int .i64 k) (.int .i64 n) (.float .f64 f) (.string s) (.slice a kids.length c)).f4
  obtain ⟨ql, cl, rfl⟩ := own_sl hrows.1
  have HDL : Hid (ds.length = m) := hidb (by have := smA_len hsma; rw [List.length_take] at this; omega)
  clear hrows hsma hbel hb1
  by_cases hml : m < kids.length
  · have hmb : (m : Int) < (kids.length : Int) := by omega
    have hmz : (0 : Int) ≤ (m : Int) := by omega
    have hmw : IntKind.i64.wrap ((m : Int) + 1) = (m : Int) + 1 := by rw [IntKind.wrap_i64]; omega
    obtain ⟨b, o, rfl, hat⟩ := kid_at (in_below HB.out HIN.out) (by omega)
    obtain ⟨k', n', f', s', a', c', kids', hu, hin', c0, c1, c2, c3, c4⟩ := hat m hml
    have IH := hidb (HK.out _ (List.mem_of_getElem? hu) wr hin' (smallAll_get HSM.out (List.mem_of_getElem? hu)))
    simp only [Tr.val, Tr.cells] at IH
    have HU := hidb hu
    have hwl : w.heap.size + 2 ≤ wr.heap.size := by have := HBB.out.size; simpa using this
    clear hat hu hin'
    go_wp2_with (first
      | (go_at_call 35; refine IH.out.mono ?_; rintro e w2 ⟨⟨k2, n2, f2, s2, a2, c2', kids2⟩, rfl, hst, hti, hb2⟩; have HST := hidb hst; have HTO := hidb (told_off HR.out hwl hti); have HR2 := hidb (HR.out.keep hb2); have HB2 := hidb (HBB.out.trans (hb2.mono hwl)); have hw2 : w.heap.size + 2 ≤ w2.heap.size := Nat.le_trans hwl hb2.size; clear hst hti hb2 IH)
      | (at_builtin; refine wpList_append_own_at _ rfl _ _ 23 rfl (w.heap.size + 2) 25 i0 (.agg #[.int .i64 0, .int .i64 0, .float .f64 0, .string ⟨#[]⟩, .slice none 0 0]) 5 64 Tryz.underlying23 hi hz0 hz1 hz2 rfl (by decide) (.slice ql ds.length cl) ds.length (ds.flatMap Tr.cells) rfl ?e1 ⟨w2.heap.size, 0, none⟩ 1 1 [.int .i64 k2, .int .i64 n2, .float .f64 f2, .string s2, .slice a2 kids2.length c2'] rfl rfl ?e6 ?e2 ?e3 ?e4 ?e5 ?_))
    case e1 => exact HR2.out.1.alloc _
    case e6 => exact World.news_of_block ((MapKept.heap_alloc w2 _).1)
    case e2 => simp [Value.oneCell']
    case e3 => have := HDL.out; unfold maxLen; omega
    case e4 => have := HDL.out; omega
    case e5 => simp; omega
    intro v' w4 hown' hgrow hnil hat
    have HR4 := hidb (TRows.append (t := .mk k2 n2 f2 s2 a2 c2' kids2) (HR2.out.keep (below_new w2 _)) hown' hgrow (by simpa using hat) (in_over (fun p v _ hv => ((below_new w2 _).cell (World.block_lt_of_cell? _ _ hv)).trans hv) _ HTO.out.1) (on_mono (fun q hq => ⟨hq.1, Nat.lt_of_lt_of_le hq.2.1 (below_new w2 _).size, hq.2.2⟩) _ HTO.out.2))
    have HB4 := hidb (HB2.out.trans (((below_new w2 _).mono hw2).trans ((grown_but hgrow).below (Nat.le_trans hw2 (below_new w2 _).size) (fun q hq => (ownsRow_lt HR2.out.1 q hq).1))))
    obtain ⟨q4, c4', rfl⟩ := own_sl hown'
    clear hown' hgrow hnil hat
    go_wp2_with fail
    go_roundw
    case rel => exact ⟨m + 1, ds ++ [.mk k2 n2 f2 s2 a2 c2' kids2], by omega, by go_num, HR4.out, by rw [List.take_add_one, HU.out]; exact smA_snoc HST.out _ _ HS.out, HB4.out⟩
    case measure => simp [RowKit.intOf]; omega
  · obtain rfl : m = kids.length := by omega
    have hmn : ¬ (kids.length : Int) < (kids.length : Int) := by omega
    rw [List.take_length] at HS
    obtain ⟨x1, x2, x3, x4, -⟩ := hwf.out
    obtain ⟨a2, c2, e2, ht⟩ := rows_tree HR.out k n f s x1 x2 x3 x4
    have BZ := Box.new (w.alloc (.cells #[.int .i64 k, .int .i64 n, .float .f64 f, .string s, .slice a kids.length c] 25)) 25 (.int .i64 0) (.int .i64 0) (.float .f64 0) (.string ⟨#[]⟩) (.slice none 0 0)
    rw [show (w.alloc (.cells #[.int .i64 k, .int .i64 n, .float .f64 f, .string s, .slice a kids.length c] 25)).heap.size = w.heap.size + 1 by simp] at BZ
    have hl2 : w.heap.size + 1 < w.heap.size + 2 := by omega
    have r0 := (HBB.out.cell (p := ⟨w.heap.size + 1, 0, none⟩) hl2).trans BZ.c0
    have r1 := (HBB.out.cell (p := ⟨w.heap.size + 1, 1, none⟩) hl2).trans BZ.c1
    have r2 := (HBB.out.cell (p := ⟨w.heap.size + 1, 2, none⟩) hl2).trans BZ.c2
    have r3 := (HBB.out.cell (p := ⟨w.heap.size + 1, 3, none⟩) hl2).trans BZ.c3
    have r4 := (HBB.out.cell (p := ⟨w.heap.size + 1, 4, none⟩) hl2).trans BZ.c4
    have g0 := (HBB.out.frozen (p := ⟨w.heap.size + 1, 0, none⟩) hl2).trans BZ.f0
    have g1 := (HBB.out.frozen (p := ⟨w.heap.size + 1, 1, none⟩) hl2).trans BZ.f1
    have g2 := (HBB.out.frozen (p := ⟨w.heap.size + 1, 2, none⟩) hl2).trans BZ.f2
    have g3 := (HBB.out.frozen (p := ⟨w.heap.size + 1, 3, none⟩) hl2).trans BZ.f3
    have g4 := (HBB.out.frozen (p := ⟨w.heap.size + 1, 4, none⟩) hl2).trans BZ.f4
    have HT := hidb ht
    have HE2 := hidb e2
    clear BZ hl2 ht e2 x1 x2 x3 x4
    go_wp2_with fail
    obtain ⟨rfl, -, rfl⟩ : ql = a2 ∧ True ∧ cl = c2 := by have := HE2.out; simp at this; exact ⟨this.1, trivial, this.2⟩
    have hA : w.heap.size < w.heap.size + 2 := by omega
    have hB : w.heap.size + 1 < w.heap.size + 2 := by omega
    exact bodyPost_ret (v := .agg #[.int .i64 k, .int .i64 n, .float .f64 f, .string s, .slice ql ds.length cl]) (by simp [results, Tryz.results35, go_sem, r0, r1, r2, r3, r4]) rfl ⟨.mk k n f s ql cl ds, rfl, by unfold Sm; exact ⟨rfl, rfl, rfl, rfl, HS.out⟩, in_base (by omega) _ (in_set (in_set (in_set (in_set (in_set (in_set HT.out (p := ⟨w.heap.size, 4, none⟩) hA _) (p := ⟨w.heap.size + 1, 0, none⟩) hB _) (p := ⟨w.heap.size + 1, 1, none⟩) hB _) (p := ⟨w.heap.size + 1, 2, none⟩) hB _) (p := ⟨w.heap.size + 1, 3, none⟩) hB _) (p := ⟨w.heap.size + 1, 4, none⟩) hB _), (((((HB.out.setCell (p := ⟨w.heap.size, 4, none⟩) (Nat.le_refl _) _).setCell (p := ⟨w.heap.size + 1, 0, none⟩) (Nat.le_succ _) _).setCell (p := ⟨w.heap.size + 1, 1, none⟩) (Nat.le_succ _) _).setCell (p := ⟨w.heap.size + 1, 2, none⟩) (Nat.le_succ _) _).setCell (p := ⟨w.heap.size + 1, 3, none⟩) (Nat.le_succ _) _).setCell (p := ⟨w.heap.size + 1, 4, none⟩) (Nat.le_succ _) _⟩
end Go.Proofs.YtliebilpddmhkaaGreat


/- What an end sends: the program's and the document's. -/
namespace Go.Proofs.YtliebilpddmhkaaGreat
open Go.RowKit Go.Lib Go.Deep
attribute [local go_sem] store_float f64bits
attribute [local go_sem ↓] Go.wp_at_zero Go.wp_at_succ

theorem tri3 {w : World} {b : Nat} {t : TypeId} {v0 v1 v2 : Value} (h : w.heap[b]? = some (.cells #[v0, v1, v2] t)) : w.cell? ⟨b, 0, none⟩ = some v0 ∧ w.cell? ⟨b, 1, none⟩ = some v1 ∧ w.cell? ⟨b, 2, none⟩ = some v2 :=
  ⟨by rw [cell_of_row w b _ _ _ _ h]; rfl, by rw [cell_of_row w b _ _ _ _ h]; rfl, by rw [cell_of_row w b _ _ _ _ h]; rfl⟩

set_option maxRecDepth 100000 in
set_option maxHeartbeats 4000000 in
theorem linkedExit_any (p q : Int) (tk tn : Int) (tf : Nat) (ts : ByteArray) (ta : Option Addr) (tc : Nat) (kids : List Tr) (w : World) (hin : (Tr.mk tk tn tf ts ta tc kids).In w 0) (hsm : Small (.mk tk tn tf ts ta tc kids)) (hcn : cnT (.mk tk tn tf ts ta tc kids) ≤ 100000) : Calls Tryz.prog 46 #[.int .i64 p, .int .i64 q, .agg #[.int .i64 tk, .int .i64 tn, .float .f64 tf, .string ts, .slice ta kids.length tc]] w (fun e w' => ∃ (k2 n2 : Int) (f2 : Nat) (s2 : ByteArray) (a2 : Option Addr) (c2 : Nat) (kids2 : List Tr), e = .returned (.agg #[.int .i64 p, .int .i64 q, .int .i64 5, .int .i64 0, .int .i64 0, .bool true, .string ⟨#[]⟩, .int .i64 k2, .int .i64 n2, .float .f64 f2, .string s2, .slice a2 kids2.length c2]) ∧ Sm (.mk tk tn tf ts ta tc kids) (.mk k2 n2 f2 s2 a2 c2 kids2) ∧ (Tr.mk k2 n2 f2 s2 a2 c2 kids2).In w' w.heap.size ∧ Below w.heap.size w w') := by
  have CP := hidb (fun (w' : World) (hb : Below w.heap.size w w') => copy_any (.mk tk tn tf ts ta tc kids) w' (in_below hb hin) hsm (by omega))
  simp only [Tr.val, Tr.cells] at CP
  clear hin hsm hcn
  generalize Tr.mk tk tn tf ts ta tc kids = T0 at *
  generalize kids.length = tl at *
  have HR : Hid (((w.alloc (.cells #[.int .i64 tk, .int .i64 tn, .float .f64 tf, .string ts, .slice ta tl tc] 25)).alloc (.cells #[.int .i64 0, .int .i64 0, .int .i64 0, .int .i64 0, .int .i64 0, .bool false, .string ⟨#[]⟩, .int .i64 0, .int .i64 0, .float .f64 0, .string ⟨#[]⟩, .slice none 0 0] 27)).heap[w.heap.size + 1]? = some (.cells #[.int .i64 0, .int .i64 0, .int .i64 0, .int .i64 0, .int .i64 0, .bool false, .string ⟨#[]⟩, .int .i64 0, .int .i64 0, .float .f64 0, .string ⟨#[]⟩, .slice none 0 0] 27)) := hidb (by have := at_new (w.alloc (.cells #[.int .i64 tk, .int .i64 tn, .float .f64 tf, .string ts, .slice ta tl tc] 25)) (.cells #[.int .i64 0, .int .i64 0, .int .i64 0, .int .i64 0, .int .i64 0, .bool false, .string ⟨#[]⟩, .int .i64 0, .int .i64 0, .float .f64 0, .string ⟨#[]⟩, .slice none 0 0] 27); simpa using this)
  have HB : Hid (Below w.heap.size w ((w.alloc (.cells #[.int .i64 tk, .int .i64 tn, .float .f64 tf, .string ts, .slice ta tl tc] 25)).alloc (.cells #[.int .i64 0, .int .i64 0, .int .i64 0, .int .i64 0, .int .i64 0, .bool false, .string ⟨#[]⟩, .int .i64 0, .int .i64 0, .float .f64 0, .string ⟨#[]⟩, .slice none 0 0] 27))) := hidb ((below_new w _).alloc (by simp) _)
  go_enter Tryz.func46, Tryz.ntmps46
  go_wp2_with (go_at_call 39; refine (CP.out _ HB.out).mono ?_; rintro e w2 ⟨⟨k2, n2, f2, s2, a2, c2, kids2⟩, rfl, hs2, hi2, hb2⟩; have HSM := hidb hs2; have HIN := hidb hi2; have HLT := hidb ((show w.heap.size + 1 < _ from (Array.getElem?_eq_some_iff.1 HR.out).1)); have HB := hidb (HB.out.trans (hb2.mono HB.out.size)); have HR := hidb (at_keep HR.out hb2); obtain ⟨r0, r1, r2, r3, r4, r5, r6, r7, r8, r9, r10, r11⟩ := box12 HR.out; obtain ⟨g0, g1, g2, g3, g4, g5, g6, g7, g8, g9, g10, g11⟩ := fro12 HR.out; clear hb2 hs2 hi2)
  refine bodyPost_ret (v := .agg #[.int .i64 p, .int .i64 q, .int .i64 5, .int .i64 0, .int .i64 0, .bool true, .string ⟨#[]⟩, .int .i64 k2, .int .i64 n2, .float .f64 f2, .string s2, .slice a2 kids2.length c2]) ?_ rfl ⟨k2, n2, f2, s2, a2, c2, kids2, rfl, HSM.out, ?_, ?_⟩
  · simp [results, Tryz.results46, go_sem, r0, r1, r2, r3, r4, r5, r6, r7, r8, r9, r10, r11]
  · exact in_base (by have := HLT.out; omega) _ (in_set (in_set (in_set (in_set (in_set (in_set (in_set (in_set (in_set (in_set (in_set (in_set HIN.out HLT.out _) HLT.out _) HLT.out _) HLT.out _) HLT.out _) HLT.out _) HLT.out _) HLT.out _) HLT.out _) HLT.out _) HLT.out _) HLT.out _)
  · (repeat (refine Below.setCell ?_ (by first | (simp; done) | (simp; omega)) _)); exact HB.out

set_option maxRecDepth 100000 in
set_option maxHeartbeats 4000000 in
theorem downSignal_any (p q r : Int) (tk tn : Int) (tf : Nat) (ts : ByteArray) (ta : Option Addr) (tc : Nat) (kids : List Tr) (w : World) (hin : (Tr.mk tk tn tf ts ta tc kids).In w 0) (hsm : Small (.mk tk tn tf ts ta tc kids)) (hcn : cnT (.mk tk tn tf ts ta tc kids) ≤ 100000) : Calls Tryz.prog 47 #[.int .i64 p, .int .i64 q, .int .i64 r, .agg #[.int .i64 tk, .int .i64 tn, .float .f64 tf, .string ts, .slice ta kids.length tc]] w (fun e w' => ∃ (k2 n2 : Int) (f2 : Nat) (s2 : ByteArray) (a2 : Option Addr) (c2 : Nat) (kids2 : List Tr), e = .returned (.agg #[.int .i64 p, .int .i64 q, .int .i64 8, .int .i64 0, .int .i64 r, .bool false, .string ⟨#[]⟩, .int .i64 k2, .int .i64 n2, .float .f64 f2, .string s2, .slice a2 kids2.length c2]) ∧ Sm (.mk tk tn tf ts ta tc kids) (.mk k2 n2 f2 s2 a2 c2 kids2) ∧ (Tr.mk k2 n2 f2 s2 a2 c2 kids2).In w' w.heap.size ∧ Below w.heap.size w w') := by
  have CP := hidb (fun (w' : World) (hb : Below w.heap.size w w') => copy_any (.mk tk tn tf ts ta tc kids) w' (in_below hb hin) hsm (by omega))
  simp only [Tr.val, Tr.cells] at CP
  clear hin hsm hcn
  generalize Tr.mk tk tn tf ts ta tc kids = T0 at *
  generalize kids.length = tl at *
  have HR : Hid (((w.alloc (.cells #[.int .i64 tk, .int .i64 tn, .float .f64 tf, .string ts, .slice ta tl tc] 25)).alloc (.cells #[.int .i64 0, .int .i64 0, .int .i64 0, .int .i64 0, .int .i64 0, .bool false, .string ⟨#[]⟩, .int .i64 0, .int .i64 0, .float .f64 0, .string ⟨#[]⟩, .slice none 0 0] 27)).heap[w.heap.size + 1]? = some (.cells #[.int .i64 0, .int .i64 0, .int .i64 0, .int .i64 0, .int .i64 0, .bool false, .string ⟨#[]⟩, .int .i64 0, .int .i64 0, .float .f64 0, .string ⟨#[]⟩, .slice none 0 0] 27)) := hidb (by have := at_new (w.alloc (.cells #[.int .i64 tk, .int .i64 tn, .float .f64 tf, .string ts, .slice ta tl tc] 25)) (.cells #[.int .i64 0, .int .i64 0, .int .i64 0, .int .i64 0, .int .i64 0, .bool false, .string ⟨#[]⟩, .int .i64 0, .int .i64 0, .float .f64 0, .string ⟨#[]⟩, .slice none 0 0] 27); simpa using this)
  have HB : Hid (Below w.heap.size w ((w.alloc (.cells #[.int .i64 tk, .int .i64 tn, .float .f64 tf, .string ts, .slice ta tl tc] 25)).alloc (.cells #[.int .i64 0, .int .i64 0, .int .i64 0, .int .i64 0, .int .i64 0, .bool false, .string ⟨#[]⟩, .int .i64 0, .int .i64 0, .float .f64 0, .string ⟨#[]⟩, .slice none 0 0] 27))) := hidb ((below_new w _).alloc (by simp) _)
  go_enter Tryz.func47, Tryz.ntmps47
  go_wp2_with (go_at_call 39; refine (CP.out _ HB.out).mono ?_; rintro e w2 ⟨⟨k2, n2, f2, s2, a2, c2, kids2⟩, rfl, hs2, hi2, hb2⟩; have HSM := hidb hs2; have HIN := hidb hi2; have HLT := hidb ((show w.heap.size + 1 < _ from (Array.getElem?_eq_some_iff.1 HR.out).1)); have HB := hidb (HB.out.trans (hb2.mono HB.out.size)); have HR := hidb (at_keep HR.out hb2); obtain ⟨r0, r1, r2, r3, r4, r5, r6, r7, r8, r9, r10, r11⟩ := box12 HR.out; obtain ⟨g0, g1, g2, g3, g4, g5, g6, g7, g8, g9, g10, g11⟩ := fro12 HR.out; clear hb2 hs2 hi2)
  refine bodyPost_ret (v := .agg #[.int .i64 p, .int .i64 q, .int .i64 8, .int .i64 0, .int .i64 r, .bool false, .string ⟨#[]⟩, .int .i64 k2, .int .i64 n2, .float .f64 f2, .string s2, .slice a2 kids2.length c2]) ?_ rfl ⟨k2, n2, f2, s2, a2, c2, kids2, rfl, HSM.out, ?_, ?_⟩
  · simp [results, Tryz.results47, go_sem, r0, r1, r2, r3, r4, r5, r6, r7, r8, r9, r10, r11]
  · exact in_base (by have := HLT.out; omega) _ (in_set (in_set (in_set (in_set (in_set (in_set (in_set (in_set (in_set (in_set (in_set (in_set HIN.out HLT.out _) HLT.out _) HLT.out _) HLT.out _) HLT.out _) HLT.out _) HLT.out _) HLT.out _) HLT.out _) HLT.out _) HLT.out _) HLT.out _)
  · (repeat (refine Below.setCell ?_ (by first | (simp; done) | (simp; omega)) _)); exact HB.out

set_option maxRecDepth 100000 in
set_option maxHeartbeats 4000000 in
theorem emit_on (self : Int) (hp hid : Int) (tk tn : Int) (tf : Nat) (ts : ByteArray) (ta : Option Addr) (tc : Nat) (kids : List Tr) (w : World) (hin : (Tr.mk tk tn tf ts ta tc kids).In w 0) (hsm : Small (.mk tk tn tf ts ta tc kids)) (hcn : cnT (.mk tk tn tf ts ta tc kids) ≤ 100000) : Calls Tryz.prog 17 #[.int .i64 self, .agg #[.int .i64 tk, .int .i64 tn, .float .f64 tf, .string ts, .slice ta kids.length tc], .agg #[.int .i64 hp, .int .i64 1, .int .i64 hid]] w (fun e w' => ∃ (k2 n2 : Int) (f2 : Nat) (s2 : ByteArray) (a2 : Option Addr) (c2 : Nat) (kids2 : List Tr), e = .returned (.tuple #[.agg #[.int .i64 self, .int .i64 hp, .int .i64 5, .int .i64 0, .int .i64 0, .bool true, .string ⟨#[]⟩, .int .i64 k2, .int .i64 n2, .float .f64 f2, .string s2, .slice a2 kids2.length c2], .bool true]) ∧ Sm (.mk tk tn tf ts ta tc kids) (.mk k2 n2 f2 s2 a2 c2 kids2) ∧ (Tr.mk k2 n2 f2 s2 a2 c2 kids2).In w' w.heap.size ∧ Below w.heap.size w w') := by
  have CP := hidb (fun (w' : World) (hb : Below w.heap.size w w') => linkedExit_any self hp tk tn tf ts ta tc kids w' (in_below hb hin) hsm hcn)
  clear hin hsm hcn
  generalize Tr.mk tk tn tf ts ta tc kids = T0 at *
  generalize kids.length = tl at *
  have HT : Hid ((((w.alloc (.cells #[.int .i64 tk, .int .i64 tn, .float .f64 tf, .string ts, .slice ta tl tc] 25)).alloc (.cells #[.int .i64 hp, .int .i64 1, .int .i64 hid] 46)).alloc (.cells #[.int .i64 0, .int .i64 0, .int .i64 0, .int .i64 0, .int .i64 0, .bool false, .string ⟨#[]⟩, .int .i64 0, .int .i64 0, .float .f64 0, .string ⟨#[]⟩, .slice none 0 0] 27)).heap[w.heap.size]? = some (.cells #[.int .i64 tk, .int .i64 tn, .float .f64 tf, .string ts, .slice ta tl tc] 25)) := hidb (at_keep (at_keep (at_new w _) (below_new _ _)) (below_new _ _))
  have HH : Hid ((((w.alloc (.cells #[.int .i64 tk, .int .i64 tn, .float .f64 tf, .string ts, .slice ta tl tc] 25)).alloc (.cells #[.int .i64 hp, .int .i64 1, .int .i64 hid] 46)).alloc (.cells #[.int .i64 0, .int .i64 0, .int .i64 0, .int .i64 0, .int .i64 0, .bool false, .string ⟨#[]⟩, .int .i64 0, .int .i64 0, .float .f64 0, .string ⟨#[]⟩, .slice none 0 0] 27)).heap[w.heap.size + 1]? = some (.cells #[.int .i64 hp, .int .i64 1, .int .i64 hid] 46)) := hidb (at_keep (by have := at_new (w.alloc (.cells #[.int .i64 tk, .int .i64 tn, .float .f64 tf, .string ts, .slice ta tl tc] 25)) (.cells #[.int .i64 hp, .int .i64 1, .int .i64 hid] 46); simpa using this) (below_new _ _))
  have HR : Hid ((((w.alloc (.cells #[.int .i64 tk, .int .i64 tn, .float .f64 tf, .string ts, .slice ta tl tc] 25)).alloc (.cells #[.int .i64 hp, .int .i64 1, .int .i64 hid] 46)).alloc (.cells #[.int .i64 0, .int .i64 0, .int .i64 0, .int .i64 0, .int .i64 0, .bool false, .string ⟨#[]⟩, .int .i64 0, .int .i64 0, .float .f64 0, .string ⟨#[]⟩, .slice none 0 0] 27)).heap[w.heap.size + 1 + 1]? = some (.cells #[.int .i64 0, .int .i64 0, .int .i64 0, .int .i64 0, .int .i64 0, .bool false, .string ⟨#[]⟩, .int .i64 0, .int .i64 0, .float .f64 0, .string ⟨#[]⟩, .slice none 0 0] 27)) := hidb (by have := at_new ((w.alloc (.cells #[.int .i64 tk, .int .i64 tn, .float .f64 tf, .string ts, .slice ta tl tc] 25)).alloc (.cells #[.int .i64 hp, .int .i64 1, .int .i64 hid] 46)) (.cells #[.int .i64 0, .int .i64 0, .int .i64 0, .int .i64 0, .int .i64 0, .bool false, .string ⟨#[]⟩, .int .i64 0, .int .i64 0, .float .f64 0, .string ⟨#[]⟩, .slice none 0 0] 27); simpa using this)
  have HB : Hid (Below w.heap.size w (((w.alloc (.cells #[.int .i64 tk, .int .i64 tn, .float .f64 tf, .string ts, .slice ta tl tc] 25)).alloc (.cells #[.int .i64 hp, .int .i64 1, .int .i64 hid] 46)).alloc (.cells #[.int .i64 0, .int .i64 0, .int .i64 0, .int .i64 0, .int .i64 0, .bool false, .string ⟨#[]⟩, .int .i64 0, .int .i64 0, .float .f64 0, .string ⟨#[]⟩, .slice none 0 0] 27))) := hidb (((below_new w _).alloc (by simp) _).alloc (by simp; omega) _)
  go_enter Tryz.func17, Tryz.ntmps17
  go_wp2_with (go_at_call 46; refine (CP.out _ HB.out).mono ?_; rintro e w2 ⟨k2, n2, f2, s2, a2, c2, kids2, rfl, hs2, hi2, hb2⟩; have HSM := hidb hs2; have HIN := hidb hi2; have HLT := hidb ((show w.heap.size + 1 + 1 < _ from (Array.getElem?_eq_some_iff.1 HR.out).1)); have HB := hidb (HB.out.trans (hb2.mono HB.out.size)); have HR := hidb (at_keep HR.out hb2); obtain ⟨r0, r1, r2, r3, r4, r5, r6, r7, r8, r9, r10, r11⟩ := box12 HR.out; obtain ⟨g0, g1, g2, g3, g4, g5, g6, g7, g8, g9, g10, g11⟩ := fro12 HR.out; clear hb2 hs2 hi2)
  refine bodyPost_ret (v := .tuple #[.agg #[.int .i64 self, .int .i64 hp, .int .i64 5, .int .i64 0, .int .i64 0, .bool true, .string ⟨#[]⟩, .int .i64 k2, .int .i64 n2, .float .f64 f2, .string s2, .slice a2 kids2.length c2], .bool true]) ?_ rfl ⟨k2, n2, f2, s2, a2, c2, kids2, rfl, HSM.out, ?_, ?_⟩
  · simp [results, Tryz.results17, go_sem, r0, r1, r2, r3, r4, r5, r6, r7, r8, r9, r10, r11]
  · exact in_base (by have := HLT.out; omega) _ (in_set (in_set (in_set (in_set (in_set (in_set (in_set (in_set (in_set (in_set (in_set (in_set HIN.out HLT.out _) HLT.out _) HLT.out _) HLT.out _) HLT.out _) HLT.out _) HLT.out _) HLT.out _) HLT.out _) HLT.out _) HLT.out _) HLT.out _)
  · (repeat (refine Below.setCell ?_ (by first | (simp; done) | (simp; omega)) _)); exact HB.out

set_option maxRecDepth 100000 in
set_option maxHeartbeats 4000000 in
theorem tell_on (self : Int) (mr mp : Int) (mn : ByteArray) (tk tn : Int) (tf : Nat) (ts : ByteArray) (ta : Option Addr) (tc : Nat) (kids : List Tr) (w : World) (hin : (Tr.mk tk tn tf ts ta tc kids).In w 0) (hsm : Small (.mk tk tn tf ts ta tc kids)) (hcn : cnT (.mk tk tn tf ts ta tc kids) ≤ 100000) : Calls Tryz.prog 20 #[.int .i64 self, .agg #[.int .i64 tk, .int .i64 tn, .float .f64 tf, .string ts, .slice ta kids.length tc], .agg #[.int .i64 mr, .int .i64 mp, .string mn]] w (fun e w' => ∃ (k2 n2 : Int) (f2 : Nat) (s2 : ByteArray) (a2 : Option Addr) (c2 : Nat) (kids2 : List Tr), e = .returned (.agg #[.int .i64 self, .int .i64 mp, .int .i64 8, .int .i64 0, .int .i64 mr, .bool false, .string ⟨#[]⟩, .int .i64 k2, .int .i64 n2, .float .f64 f2, .string s2, .slice a2 kids2.length c2]) ∧ Sm (.mk tk tn tf ts ta tc kids) (.mk k2 n2 f2 s2 a2 c2 kids2) ∧ (Tr.mk k2 n2 f2 s2 a2 c2 kids2).In w' w.heap.size ∧ Below w.heap.size w w') := by
  have CP := hidb (fun (w' : World) (hb : Below w.heap.size w w') => downSignal_any self mp mr tk tn tf ts ta tc kids w' (in_below hb hin) hsm hcn)
  clear hin hsm hcn
  generalize Tr.mk tk tn tf ts ta tc kids = T0 at *
  generalize kids.length = tl at *
  have HT : Hid ((((w.alloc (.cells #[.int .i64 tk, .int .i64 tn, .float .f64 tf, .string ts, .slice ta tl tc] 25)).alloc (.cells #[.int .i64 mr, .int .i64 mp, .string mn] 41)).alloc (.cells #[.int .i64 0, .int .i64 0, .int .i64 0, .int .i64 0, .int .i64 0, .bool false, .string ⟨#[]⟩, .int .i64 0, .int .i64 0, .float .f64 0, .string ⟨#[]⟩, .slice none 0 0] 27)).heap[w.heap.size]? = some (.cells #[.int .i64 tk, .int .i64 tn, .float .f64 tf, .string ts, .slice ta tl tc] 25)) := hidb (at_keep (at_keep (at_new w _) (below_new _ _)) (below_new _ _))
  have HH : Hid ((((w.alloc (.cells #[.int .i64 tk, .int .i64 tn, .float .f64 tf, .string ts, .slice ta tl tc] 25)).alloc (.cells #[.int .i64 mr, .int .i64 mp, .string mn] 41)).alloc (.cells #[.int .i64 0, .int .i64 0, .int .i64 0, .int .i64 0, .int .i64 0, .bool false, .string ⟨#[]⟩, .int .i64 0, .int .i64 0, .float .f64 0, .string ⟨#[]⟩, .slice none 0 0] 27)).heap[w.heap.size + 1]? = some (.cells #[.int .i64 mr, .int .i64 mp, .string mn] 41)) := hidb (at_keep (by have := at_new (w.alloc (.cells #[.int .i64 tk, .int .i64 tn, .float .f64 tf, .string ts, .slice ta tl tc] 25)) (.cells #[.int .i64 mr, .int .i64 mp, .string mn] 41); simpa using this) (below_new _ _))
  have HR : Hid ((((w.alloc (.cells #[.int .i64 tk, .int .i64 tn, .float .f64 tf, .string ts, .slice ta tl tc] 25)).alloc (.cells #[.int .i64 mr, .int .i64 mp, .string mn] 41)).alloc (.cells #[.int .i64 0, .int .i64 0, .int .i64 0, .int .i64 0, .int .i64 0, .bool false, .string ⟨#[]⟩, .int .i64 0, .int .i64 0, .float .f64 0, .string ⟨#[]⟩, .slice none 0 0] 27)).heap[w.heap.size + 1 + 1]? = some (.cells #[.int .i64 0, .int .i64 0, .int .i64 0, .int .i64 0, .int .i64 0, .bool false, .string ⟨#[]⟩, .int .i64 0, .int .i64 0, .float .f64 0, .string ⟨#[]⟩, .slice none 0 0] 27)) := hidb (by have := at_new ((w.alloc (.cells #[.int .i64 tk, .int .i64 tn, .float .f64 tf, .string ts, .slice ta tl tc] 25)).alloc (.cells #[.int .i64 mr, .int .i64 mp, .string mn] 41)) (.cells #[.int .i64 0, .int .i64 0, .int .i64 0, .int .i64 0, .int .i64 0, .bool false, .string ⟨#[]⟩, .int .i64 0, .int .i64 0, .float .f64 0, .string ⟨#[]⟩, .slice none 0 0] 27); simpa using this)
  have HB : Hid (Below w.heap.size w (((w.alloc (.cells #[.int .i64 tk, .int .i64 tn, .float .f64 tf, .string ts, .slice ta tl tc] 25)).alloc (.cells #[.int .i64 mr, .int .i64 mp, .string mn] 41)).alloc (.cells #[.int .i64 0, .int .i64 0, .int .i64 0, .int .i64 0, .int .i64 0, .bool false, .string ⟨#[]⟩, .int .i64 0, .int .i64 0, .float .f64 0, .string ⟨#[]⟩, .slice none 0 0] 27))) := hidb (((below_new w _).alloc (by simp) _).alloc (by simp; omega) _)
  go_enter Tryz.func20, Tryz.ntmps20
  go_wp2_with (go_at_call 47; refine (CP.out _ HB.out).mono ?_; rintro e w2 ⟨k2, n2, f2, s2, a2, c2, kids2, rfl, hs2, hi2, hb2⟩; have HSM := hidb hs2; have HIN := hidb hi2; have HLT := hidb ((show w.heap.size + 1 + 1 < _ from (Array.getElem?_eq_some_iff.1 HR.out).1)); have HB := hidb (HB.out.trans (hb2.mono HB.out.size)); have HR := hidb (at_keep HR.out hb2); obtain ⟨r0, r1, r2, r3, r4, r5, r6, r7, r8, r9, r10, r11⟩ := box12 HR.out; obtain ⟨g0, g1, g2, g3, g4, g5, g6, g7, g8, g9, g10, g11⟩ := fro12 HR.out; clear hb2 hs2 hi2)
  refine bodyPost_ret (v := .agg #[.int .i64 self, .int .i64 mp, .int .i64 8, .int .i64 0, .int .i64 mr, .bool false, .string ⟨#[]⟩, .int .i64 k2, .int .i64 n2, .float .f64 f2, .string s2, .slice a2 kids2.length c2]) ?_ rfl ⟨k2, n2, f2, s2, a2, c2, kids2, rfl, HSM.out, ?_, ?_⟩
  · simp [results, Tryz.results20, go_sem, r0, r1, r2, r3, r4, r5, r6, r7, r8, r9, r10, r11]
  · exact in_base (by have := HLT.out; omega) _ (in_set (in_set (in_set (in_set (in_set (in_set (in_set (in_set (in_set (in_set (in_set (in_set HIN.out HLT.out _) HLT.out _) HLT.out _) HLT.out _) HLT.out _) HLT.out _) HLT.out _) HLT.out _) HLT.out _) HLT.out _) HLT.out _) HLT.out _)
  · (repeat (refine Below.setCell ?_ (by first | (simp; done) | (simp; omega)) _)); exact HB.out

theorem ne_u1 (n : Nat) : n + 1 + 1 ≠ n := by omega
theorem ne_u2 (n : Nat) : n + 1 + 1 ≠ n + 1 := by omega

set_option maxRecDepth 100000 in
set_option maxHeartbeats 4000000 in
theorem remit_on (self : Int) (hp hid : Int) (tk tn : Int) (tf : Nat) (ts : ByteArray) (ta : Option Addr) (tc : Nat) (kids : List Tr) (w : World) (hin : (Tr.mk tk tn tf ts ta tc kids).In w 0) (hsm : Small (.mk tk tn tf ts ta tc kids)) (_hcn : cnT (.mk tk tn tf ts ta tc kids) ≤ 100000) : Calls Tryz.prog 18 #[.int .i64 self, .agg #[.int .i64 tk, .int .i64 tn, .float .f64 tf, .string ts, .slice ta kids.length tc], .agg #[.int .i64 hp, .int .i64 1, .int .i64 hid]] w (fun e w' => ∃ (k2 n2 : Int) (f2 : Nat) (s2 : ByteArray) (a2 : Option Addr) (c2 : Nat) (kids2 : List Tr), e = .returned (.tuple #[.agg #[.int .i64 self, .int .i64 hp, .int .i64 5, .int .i64 0, .int .i64 0, .bool true, .string ⟨#[]⟩, .int .i64 k2, .int .i64 n2, .float .f64 f2, .string s2, .slice a2 kids2.length c2], .bool true]) ∧ Sm (.mk tk tn tf ts ta tc kids) (.mk k2 n2 f2 s2 a2 c2 kids2) ∧ (Tr.mk k2 n2 f2 s2 a2 c2 kids2).In w' w.heap.size ∧ Below w.heap.size w w') := by
  have CP := hidb (fun (w' : World) (hb : Below w.heap.size w w') => rcopy_any (.mk tk tn tf ts ta tc kids) w' (in_below hb hin) hsm)
  simp only [Tr.val, Tr.cells] at CP
  clear hin hsm _hcn
  generalize Tr.mk tk tn tf ts ta tc kids = T0 at *
  generalize kids.length = tl at *
  have HT : Hid ((((w.alloc (.cells #[.int .i64 tk, .int .i64 tn, .float .f64 tf, .string ts, .slice ta tl tc] 25)).alloc (.cells #[.int .i64 hp, .int .i64 1, .int .i64 hid] 46)).alloc (.cells #[.int .i64 0, .int .i64 0, .int .i64 0, .int .i64 0, .int .i64 0, .bool false, .string ⟨#[]⟩, .int .i64 0, .int .i64 0, .float .f64 0, .string ⟨#[]⟩, .slice none 0 0] 27)).heap[w.heap.size]? = some (.cells #[.int .i64 tk, .int .i64 tn, .float .f64 tf, .string ts, .slice ta tl tc] 25)) := hidb (at_keep (at_keep (at_new w _) (below_new _ _)) (below_new _ _))
  have HH : Hid ((((w.alloc (.cells #[.int .i64 tk, .int .i64 tn, .float .f64 tf, .string ts, .slice ta tl tc] 25)).alloc (.cells #[.int .i64 hp, .int .i64 1, .int .i64 hid] 46)).alloc (.cells #[.int .i64 0, .int .i64 0, .int .i64 0, .int .i64 0, .int .i64 0, .bool false, .string ⟨#[]⟩, .int .i64 0, .int .i64 0, .float .f64 0, .string ⟨#[]⟩, .slice none 0 0] 27)).heap[w.heap.size + 1]? = some (.cells #[.int .i64 hp, .int .i64 1, .int .i64 hid] 46)) := hidb (at_keep (by have := at_new (w.alloc (.cells #[.int .i64 tk, .int .i64 tn, .float .f64 tf, .string ts, .slice ta tl tc] 25)) (.cells #[.int .i64 hp, .int .i64 1, .int .i64 hid] 46); simpa using this) (below_new _ _))
  have HR : Hid ((((w.alloc (.cells #[.int .i64 tk, .int .i64 tn, .float .f64 tf, .string ts, .slice ta tl tc] 25)).alloc (.cells #[.int .i64 hp, .int .i64 1, .int .i64 hid] 46)).alloc (.cells #[.int .i64 0, .int .i64 0, .int .i64 0, .int .i64 0, .int .i64 0, .bool false, .string ⟨#[]⟩, .int .i64 0, .int .i64 0, .float .f64 0, .string ⟨#[]⟩, .slice none 0 0] 27)).heap[w.heap.size + 1 + 1]? = some (.cells #[.int .i64 0, .int .i64 0, .int .i64 0, .int .i64 0, .int .i64 0, .bool false, .string ⟨#[]⟩, .int .i64 0, .int .i64 0, .float .f64 0, .string ⟨#[]⟩, .slice none 0 0] 27)) := hidb (by have := at_new ((w.alloc (.cells #[.int .i64 tk, .int .i64 tn, .float .f64 tf, .string ts, .slice ta tl tc] 25)).alloc (.cells #[.int .i64 hp, .int .i64 1, .int .i64 hid] 46)) (.cells #[.int .i64 0, .int .i64 0, .int .i64 0, .int .i64 0, .int .i64 0, .bool false, .string ⟨#[]⟩, .int .i64 0, .int .i64 0, .float .f64 0, .string ⟨#[]⟩, .slice none 0 0] 27); simpa using this)
  have HB : Hid (Below w.heap.size w (((w.alloc (.cells #[.int .i64 tk, .int .i64 tn, .float .f64 tf, .string ts, .slice ta tl tc] 25)).alloc (.cells #[.int .i64 hp, .int .i64 1, .int .i64 hid] 46)).alloc (.cells #[.int .i64 0, .int .i64 0, .int .i64 0, .int .i64 0, .int .i64 0, .bool false, .string ⟨#[]⟩, .int .i64 0, .int .i64 0, .float .f64 0, .string ⟨#[]⟩, .slice none 0 0] 27))) := hidb (((below_new w _).alloc (by simp) _).alloc (by simp; omega) _)
  obtain ⟨t0, t1, t2, t3, t4⟩ := box5 HT.out
  obtain ⟨h0, h1, h2⟩ := tri3 HH.out
  have HLT0 : Hid (w.heap.size + 1 + 1 < (((w.alloc (.cells #[.int .i64 tk, .int .i64 tn, .float .f64 tf, .string ts, .slice ta tl tc] 25)).alloc (.cells #[.int .i64 hp, .int .i64 1, .int .i64 hid] 46)).alloc (.cells #[.int .i64 0, .int .i64 0, .int .i64 0, .int .i64 0, .int .i64 0, .bool false, .string ⟨#[]⟩, .int .i64 0, .int .i64 0, .float .f64 0, .string ⟨#[]⟩, .slice none 0 0] 27)).drew.heap.size) := hidb ((Array.getElem?_eq_some_iff.1 HR.out).1)
  have HSC0 : Hid ((((w.alloc (.cells #[.int .i64 tk, .int .i64 tn, .float .f64 tf, .string ts, .slice ta tl tc] 25)).alloc (.cells #[.int .i64 hp, .int .i64 1, .int .i64 hid] 46)).alloc (.cells #[.int .i64 0, .int .i64 0, .int .i64 0, .int .i64 0, .int .i64 0, .bool false, .string ⟨#[]⟩, .int .i64 0, .int .i64 0, .float .f64 0, .string ⟨#[]⟩, .slice none 0 0] 27)).drew.cell? ⟨w.heap.size, 0, none⟩ = some (.int .i64 tk) ∧ (((w.alloc (.cells #[.int .i64 tk, .int .i64 tn, .float .f64 tf, .string ts, .slice ta tl tc] 25)).alloc (.cells #[.int .i64 hp, .int .i64 1, .int .i64 hid] 46)).alloc (.cells #[.int .i64 0, .int .i64 0, .int .i64 0, .int .i64 0, .int .i64 0, .bool false, .string ⟨#[]⟩, .int .i64 0, .int .i64 0, .float .f64 0, .string ⟨#[]⟩, .slice none 0 0] 27)).drew.cell? ⟨w.heap.size, 1, none⟩ = some (.int .i64 tn) ∧ (((w.alloc (.cells #[.int .i64 tk, .int .i64 tn, .float .f64 tf, .string ts, .slice ta tl tc] 25)).alloc (.cells #[.int .i64 hp, .int .i64 1, .int .i64 hid] 46)).alloc (.cells #[.int .i64 0, .int .i64 0, .int .i64 0, .int .i64 0, .int .i64 0, .bool false, .string ⟨#[]⟩, .int .i64 0, .int .i64 0, .float .f64 0, .string ⟨#[]⟩, .slice none 0 0] 27)).drew.cell? ⟨w.heap.size, 2, none⟩ = some (.float .f64 tf) ∧ (((w.alloc (.cells #[.int .i64 tk, .int .i64 tn, .float .f64 tf, .string ts, .slice ta tl tc] 25)).alloc (.cells #[.int .i64 hp, .int .i64 1, .int .i64 hid] 46)).alloc (.cells #[.int .i64 0, .int .i64 0, .int .i64 0, .int .i64 0, .int .i64 0, .bool false, .string ⟨#[]⟩, .int .i64 0, .int .i64 0, .float .f64 0, .string ⟨#[]⟩, .slice none 0 0] 27)).drew.cell? ⟨w.heap.size, 3, none⟩ = some (.string ts) ∧ (((w.alloc (.cells #[.int .i64 tk, .int .i64 tn, .float .f64 tf, .string ts, .slice ta tl tc] 25)).alloc (.cells #[.int .i64 hp, .int .i64 1, .int .i64 hid] 46)).alloc (.cells #[.int .i64 0, .int .i64 0, .int .i64 0, .int .i64 0, .int .i64 0, .bool false, .string ⟨#[]⟩, .int .i64 0, .int .i64 0, .float .f64 0, .string ⟨#[]⟩, .slice none 0 0] 27)).drew.cell? ⟨w.heap.size, 4, none⟩ = some (.slice ta tl tc) ∧ (((w.alloc (.cells #[.int .i64 tk, .int .i64 tn, .float .f64 tf, .string ts, .slice ta tl tc] 25)).alloc (.cells #[.int .i64 hp, .int .i64 1, .int .i64 hid] 46)).alloc (.cells #[.int .i64 0, .int .i64 0, .int .i64 0, .int .i64 0, .int .i64 0, .bool false, .string ⟨#[]⟩, .int .i64 0, .int .i64 0, .float .f64 0, .string ⟨#[]⟩, .slice none 0 0] 27)).drew.cell? ⟨w.heap.size + 1, 0, none⟩ = some (.int .i64 hp)) := hidb ⟨t0, t1, t2, t3, t4, h0⟩
  have HRd : Hid ((((w.alloc (.cells #[.int .i64 tk, .int .i64 tn, .float .f64 tf, .string ts, .slice ta tl tc] 25)).alloc (.cells #[.int .i64 hp, .int .i64 1, .int .i64 hid] 46)).alloc (.cells #[.int .i64 0, .int .i64 0, .int .i64 0, .int .i64 0, .int .i64 0, .bool false, .string ⟨#[]⟩, .int .i64 0, .int .i64 0, .float .f64 0, .string ⟨#[]⟩, .slice none 0 0] 27)).drew.heap[w.heap.size + 1 + 1]? = some (.cells #[.int .i64 0, .int .i64 0, .int .i64 0, .int .i64 0, .int .i64 0, .bool false, .string ⟨#[]⟩, .int .i64 0, .int .i64 0, .float .f64 0, .string ⟨#[]⟩, .slice none 0 0] 27)) := HR
  have HBd : Hid (Below w.heap.size w (((w.alloc (.cells #[.int .i64 tk, .int .i64 tn, .float .f64 tf, .string ts, .slice ta tl tc] 25)).alloc (.cells #[.int .i64 hp, .int .i64 1, .int .i64 hid] 46)).alloc (.cells #[.int .i64 0, .int .i64 0, .int .i64 0, .int .i64 0, .int .i64 0, .bool false, .string ⟨#[]⟩, .int .i64 0, .int .i64 0, .float .f64 0, .string ⟨#[]⟩, .slice none 0 0] 27)).drew) := hidb HB.out.drew
  clear t0 t1 t2 t3 t4 h0 h1 h2 HT HH HR HB
  go_enter Tryz.func18, Tryz.ntmps18
  go_wp2_with fail
  generalize (((w.alloc (.cells #[.int .i64 tk, .int .i64 tn, .float .f64 tf, .string ts, .slice ta tl tc] 25)).alloc (.cells #[.int .i64 hp, .int .i64 1, .int .i64 hid] 46)).alloc (.cells #[.int .i64 0, .int .i64 0, .int .i64 0, .int .i64 0, .int .i64 0, .bool false, .string ⟨#[]⟩, .int .i64 0, .int .i64 0, .float .f64 0, .string ⟨#[]⟩, .slice none 0 0] 27)) = w1 at *
  have HSC := HSC0
  have HLT := HLT0
  have HR := HRd
  have HB := HBd
  clear HSC0 HLT0 HRd HBd
  go_region_held3 (fun w' => w'.cell? ⟨w.heap.size, 0, none⟩ = some (.int .i64 tk) ∧ w'.cell? ⟨w.heap.size, 1, none⟩ = some (.int .i64 tn) ∧ w'.cell? ⟨w.heap.size, 2, none⟩ = some (.float .f64 tf) ∧ w'.cell? ⟨w.heap.size, 3, none⟩ = some (.string ts) ∧ w'.cell? ⟨w.heap.size, 4, none⟩ = some (.slice ta tl tc) ∧ w'.cell? ⟨w.heap.size + 1, 0, none⟩ = some (.int .i64 hp)) (first | with_reducible exact HSC.out | (simp only [cell_past (ne_u1 _), cell_past (ne_u2 _)]; with_reducible exact HSC.out)) (first
    | (go_at_call 35; refine (CP.out _ HB.out).mono ?_; rintro e w2 ⟨⟨k2, n2, f2, s2, a2, c2, kids2⟩, rfl, hs2, hi2, hb2⟩; have HSC : Hid (w2.cell? ⟨w.heap.size, 0, none⟩ = some (.int .i64 tk) ∧ w2.cell? ⟨w.heap.size, 1, none⟩ = some (.int .i64 tn) ∧ w2.cell? ⟨w.heap.size, 2, none⟩ = some (.float .f64 tf) ∧ w2.cell? ⟨w.heap.size, 3, none⟩ = some (.string ts) ∧ w2.cell? ⟨w.heap.size, 4, none⟩ = some (.slice ta tl tc) ∧ w2.cell? ⟨w.heap.size + 1, 0, none⟩ = some (.int .i64 hp)) := hidb ⟨(hb2.cell (p := ⟨w.heap.size, 0, none⟩) (by have := HLT.out; simp only; omega)).trans HSC.out.1, (hb2.cell (p := ⟨w.heap.size, 1, none⟩) (by have := HLT.out; simp only; omega)).trans HSC.out.2.1, (hb2.cell (p := ⟨w.heap.size, 2, none⟩) (by have := HLT.out; simp only; omega)).trans HSC.out.2.2.1, (hb2.cell (p := ⟨w.heap.size, 3, none⟩) (by have := HLT.out; simp only; omega)).trans HSC.out.2.2.2.1, (hb2.cell (p := ⟨w.heap.size, 4, none⟩) (by have := HLT.out; simp only; omega)).trans HSC.out.2.2.2.2.1, (hb2.cell (p := ⟨w.heap.size + 1, 0, none⟩) (by have := HLT.out; simp only; omega)).trans HSC.out.2.2.2.2.2⟩; have HSM := hidb hs2; have HIN := hidb hi2; have HLT := hidb ((show w.heap.size + 1 + 1 < _ from (Array.getElem?_eq_some_iff.1 HR.out).1)); have HB := hidb (HB.out.trans (hb2.mono HB.out.size)); have HR := hidb (at_keep HR.out hb2); obtain ⟨r0, r1, r2, r3, r4, r5, r6, r7, r8, r9, r10, r11⟩ := box12 HR.out; obtain ⟨g0, g1, g2, g3, g4, g5, g6, g7, g8, g9, g10, g11⟩ := fro12 HR.out; clear hb2 hs2 hi2))
  go_wp2_with fail
  refine bodyPost_ret (v := .tuple #[.agg #[.int .i64 self, .int .i64 hp, .int .i64 5, .int .i64 0, .int .i64 0, .bool true, .string ⟨#[]⟩, .int .i64 k2, .int .i64 n2, .float .f64 f2, .string s2, .slice a2 kids2.length c2], .bool true]) ?_ rfl ⟨k2, n2, f2, s2, a2, c2, kids2, rfl, HSM.out, ?_, ?_⟩
  · simp [results, Tryz.results18, go_sem, r0, r1, r2, r3, r4, r5, r6, r7, r8, r9, r10, r11]
  · exact in_base (by have := HLT.out; omega) _ (in_set (in_set (in_set (in_set (in_set (in_set (in_set (in_set (in_set (in_set (in_set (in_set HIN.out HLT.out _) HLT.out _) HLT.out _) HLT.out _) HLT.out _) HLT.out _) HLT.out _) HLT.out _) HLT.out _) HLT.out _) HLT.out _) HLT.out _)
  · (repeat (refine Below.setCell ?_ (by first | (simp; done) | (simp; omega)) _)); exact HB.out

set_option maxRecDepth 100000 in
set_option maxHeartbeats 4000000 in
theorem rtell_on (self : Int) (mr mp : Int) (mn : ByteArray) (tk tn : Int) (tf : Nat) (ts : ByteArray) (ta : Option Addr) (tc : Nat) (kids : List Tr) (w : World) (hin : (Tr.mk tk tn tf ts ta tc kids).In w 0) (hsm : Small (.mk tk tn tf ts ta tc kids)) (_hcn : cnT (.mk tk tn tf ts ta tc kids) ≤ 100000) : Calls Tryz.prog 21 #[.int .i64 self, .agg #[.int .i64 tk, .int .i64 tn, .float .f64 tf, .string ts, .slice ta kids.length tc], .agg #[.int .i64 mr, .int .i64 mp, .string mn]] w (fun e w' => ∃ (k2 n2 : Int) (f2 : Nat) (s2 : ByteArray) (a2 : Option Addr) (c2 : Nat) (kids2 : List Tr), e = .returned (.agg #[.int .i64 self, .int .i64 mp, .int .i64 8, .int .i64 0, .int .i64 mr, .bool false, .string ⟨#[]⟩, .int .i64 k2, .int .i64 n2, .float .f64 f2, .string s2, .slice a2 kids2.length c2]) ∧ Sm (.mk tk tn tf ts ta tc kids) (.mk k2 n2 f2 s2 a2 c2 kids2) ∧ (Tr.mk k2 n2 f2 s2 a2 c2 kids2).In w' w.heap.size ∧ Below w.heap.size w w') := by
  have CP := hidb (fun (w' : World) (hb : Below w.heap.size w w') => rcopy_any (.mk tk tn tf ts ta tc kids) w' (in_below hb hin) hsm)
  simp only [Tr.val, Tr.cells] at CP
  clear hin hsm _hcn
  generalize Tr.mk tk tn tf ts ta tc kids = T0 at *
  generalize kids.length = tl at *
  have HT : Hid ((((w.alloc (.cells #[.int .i64 tk, .int .i64 tn, .float .f64 tf, .string ts, .slice ta tl tc] 25)).alloc (.cells #[.int .i64 mr, .int .i64 mp, .string mn] 41)).alloc (.cells #[.int .i64 0, .int .i64 0, .int .i64 0, .int .i64 0, .int .i64 0, .bool false, .string ⟨#[]⟩, .int .i64 0, .int .i64 0, .float .f64 0, .string ⟨#[]⟩, .slice none 0 0] 27)).heap[w.heap.size]? = some (.cells #[.int .i64 tk, .int .i64 tn, .float .f64 tf, .string ts, .slice ta tl tc] 25)) := hidb (at_keep (at_keep (at_new w _) (below_new _ _)) (below_new _ _))
  have HH : Hid ((((w.alloc (.cells #[.int .i64 tk, .int .i64 tn, .float .f64 tf, .string ts, .slice ta tl tc] 25)).alloc (.cells #[.int .i64 mr, .int .i64 mp, .string mn] 41)).alloc (.cells #[.int .i64 0, .int .i64 0, .int .i64 0, .int .i64 0, .int .i64 0, .bool false, .string ⟨#[]⟩, .int .i64 0, .int .i64 0, .float .f64 0, .string ⟨#[]⟩, .slice none 0 0] 27)).heap[w.heap.size + 1]? = some (.cells #[.int .i64 mr, .int .i64 mp, .string mn] 41)) := hidb (at_keep (by have := at_new (w.alloc (.cells #[.int .i64 tk, .int .i64 tn, .float .f64 tf, .string ts, .slice ta tl tc] 25)) (.cells #[.int .i64 mr, .int .i64 mp, .string mn] 41); simpa using this) (below_new _ _))
  have HR : Hid ((((w.alloc (.cells #[.int .i64 tk, .int .i64 tn, .float .f64 tf, .string ts, .slice ta tl tc] 25)).alloc (.cells #[.int .i64 mr, .int .i64 mp, .string mn] 41)).alloc (.cells #[.int .i64 0, .int .i64 0, .int .i64 0, .int .i64 0, .int .i64 0, .bool false, .string ⟨#[]⟩, .int .i64 0, .int .i64 0, .float .f64 0, .string ⟨#[]⟩, .slice none 0 0] 27)).heap[w.heap.size + 1 + 1]? = some (.cells #[.int .i64 0, .int .i64 0, .int .i64 0, .int .i64 0, .int .i64 0, .bool false, .string ⟨#[]⟩, .int .i64 0, .int .i64 0, .float .f64 0, .string ⟨#[]⟩, .slice none 0 0] 27)) := hidb (by have := at_new ((w.alloc (.cells #[.int .i64 tk, .int .i64 tn, .float .f64 tf, .string ts, .slice ta tl tc] 25)).alloc (.cells #[.int .i64 mr, .int .i64 mp, .string mn] 41)) (.cells #[.int .i64 0, .int .i64 0, .int .i64 0, .int .i64 0, .int .i64 0, .bool false, .string ⟨#[]⟩, .int .i64 0, .int .i64 0, .float .f64 0, .string ⟨#[]⟩, .slice none 0 0] 27); simpa using this)
  have HB : Hid (Below w.heap.size w (((w.alloc (.cells #[.int .i64 tk, .int .i64 tn, .float .f64 tf, .string ts, .slice ta tl tc] 25)).alloc (.cells #[.int .i64 mr, .int .i64 mp, .string mn] 41)).alloc (.cells #[.int .i64 0, .int .i64 0, .int .i64 0, .int .i64 0, .int .i64 0, .bool false, .string ⟨#[]⟩, .int .i64 0, .int .i64 0, .float .f64 0, .string ⟨#[]⟩, .slice none 0 0] 27))) := hidb (((below_new w _).alloc (by simp) _).alloc (by simp; omega) _)
  obtain ⟨t0, t1, t2, t3, t4⟩ := box5 HT.out
  obtain ⟨h0, h1, h2⟩ := tri3 HH.out
  have HLT0 : Hid (w.heap.size + 1 + 1 < (((w.alloc (.cells #[.int .i64 tk, .int .i64 tn, .float .f64 tf, .string ts, .slice ta tl tc] 25)).alloc (.cells #[.int .i64 mr, .int .i64 mp, .string mn] 41)).alloc (.cells #[.int .i64 0, .int .i64 0, .int .i64 0, .int .i64 0, .int .i64 0, .bool false, .string ⟨#[]⟩, .int .i64 0, .int .i64 0, .float .f64 0, .string ⟨#[]⟩, .slice none 0 0] 27)).drew.heap.size) := hidb ((Array.getElem?_eq_some_iff.1 HR.out).1)
  have HSC0 : Hid ((((w.alloc (.cells #[.int .i64 tk, .int .i64 tn, .float .f64 tf, .string ts, .slice ta tl tc] 25)).alloc (.cells #[.int .i64 mr, .int .i64 mp, .string mn] 41)).alloc (.cells #[.int .i64 0, .int .i64 0, .int .i64 0, .int .i64 0, .int .i64 0, .bool false, .string ⟨#[]⟩, .int .i64 0, .int .i64 0, .float .f64 0, .string ⟨#[]⟩, .slice none 0 0] 27)).drew.cell? ⟨w.heap.size, 0, none⟩ = some (.int .i64 tk) ∧ (((w.alloc (.cells #[.int .i64 tk, .int .i64 tn, .float .f64 tf, .string ts, .slice ta tl tc] 25)).alloc (.cells #[.int .i64 mr, .int .i64 mp, .string mn] 41)).alloc (.cells #[.int .i64 0, .int .i64 0, .int .i64 0, .int .i64 0, .int .i64 0, .bool false, .string ⟨#[]⟩, .int .i64 0, .int .i64 0, .float .f64 0, .string ⟨#[]⟩, .slice none 0 0] 27)).drew.cell? ⟨w.heap.size, 1, none⟩ = some (.int .i64 tn) ∧ (((w.alloc (.cells #[.int .i64 tk, .int .i64 tn, .float .f64 tf, .string ts, .slice ta tl tc] 25)).alloc (.cells #[.int .i64 mr, .int .i64 mp, .string mn] 41)).alloc (.cells #[.int .i64 0, .int .i64 0, .int .i64 0, .int .i64 0, .int .i64 0, .bool false, .string ⟨#[]⟩, .int .i64 0, .int .i64 0, .float .f64 0, .string ⟨#[]⟩, .slice none 0 0] 27)).drew.cell? ⟨w.heap.size, 2, none⟩ = some (.float .f64 tf) ∧ (((w.alloc (.cells #[.int .i64 tk, .int .i64 tn, .float .f64 tf, .string ts, .slice ta tl tc] 25)).alloc (.cells #[.int .i64 mr, .int .i64 mp, .string mn] 41)).alloc (.cells #[.int .i64 0, .int .i64 0, .int .i64 0, .int .i64 0, .int .i64 0, .bool false, .string ⟨#[]⟩, .int .i64 0, .int .i64 0, .float .f64 0, .string ⟨#[]⟩, .slice none 0 0] 27)).drew.cell? ⟨w.heap.size, 3, none⟩ = some (.string ts) ∧ (((w.alloc (.cells #[.int .i64 tk, .int .i64 tn, .float .f64 tf, .string ts, .slice ta tl tc] 25)).alloc (.cells #[.int .i64 mr, .int .i64 mp, .string mn] 41)).alloc (.cells #[.int .i64 0, .int .i64 0, .int .i64 0, .int .i64 0, .int .i64 0, .bool false, .string ⟨#[]⟩, .int .i64 0, .int .i64 0, .float .f64 0, .string ⟨#[]⟩, .slice none 0 0] 27)).drew.cell? ⟨w.heap.size, 4, none⟩ = some (.slice ta tl tc) ∧ (((w.alloc (.cells #[.int .i64 tk, .int .i64 tn, .float .f64 tf, .string ts, .slice ta tl tc] 25)).alloc (.cells #[.int .i64 mr, .int .i64 mp, .string mn] 41)).alloc (.cells #[.int .i64 0, .int .i64 0, .int .i64 0, .int .i64 0, .int .i64 0, .bool false, .string ⟨#[]⟩, .int .i64 0, .int .i64 0, .float .f64 0, .string ⟨#[]⟩, .slice none 0 0] 27)).drew.cell? ⟨w.heap.size + 1, 1, none⟩ = some (.int .i64 mp) ∧ (((w.alloc (.cells #[.int .i64 tk, .int .i64 tn, .float .f64 tf, .string ts, .slice ta tl tc] 25)).alloc (.cells #[.int .i64 mr, .int .i64 mp, .string mn] 41)).alloc (.cells #[.int .i64 0, .int .i64 0, .int .i64 0, .int .i64 0, .int .i64 0, .bool false, .string ⟨#[]⟩, .int .i64 0, .int .i64 0, .float .f64 0, .string ⟨#[]⟩, .slice none 0 0] 27)).drew.cell? ⟨w.heap.size + 1, 0, none⟩ = some (.int .i64 mr)) := hidb ⟨t0, t1, t2, t3, t4, h1, h0⟩
  have HRd : Hid ((((w.alloc (.cells #[.int .i64 tk, .int .i64 tn, .float .f64 tf, .string ts, .slice ta tl tc] 25)).alloc (.cells #[.int .i64 mr, .int .i64 mp, .string mn] 41)).alloc (.cells #[.int .i64 0, .int .i64 0, .int .i64 0, .int .i64 0, .int .i64 0, .bool false, .string ⟨#[]⟩, .int .i64 0, .int .i64 0, .float .f64 0, .string ⟨#[]⟩, .slice none 0 0] 27)).drew.heap[w.heap.size + 1 + 1]? = some (.cells #[.int .i64 0, .int .i64 0, .int .i64 0, .int .i64 0, .int .i64 0, .bool false, .string ⟨#[]⟩, .int .i64 0, .int .i64 0, .float .f64 0, .string ⟨#[]⟩, .slice none 0 0] 27)) := HR
  have HBd : Hid (Below w.heap.size w (((w.alloc (.cells #[.int .i64 tk, .int .i64 tn, .float .f64 tf, .string ts, .slice ta tl tc] 25)).alloc (.cells #[.int .i64 mr, .int .i64 mp, .string mn] 41)).alloc (.cells #[.int .i64 0, .int .i64 0, .int .i64 0, .int .i64 0, .int .i64 0, .bool false, .string ⟨#[]⟩, .int .i64 0, .int .i64 0, .float .f64 0, .string ⟨#[]⟩, .slice none 0 0] 27)).drew) := hidb HB.out.drew
  clear t0 t1 t2 t3 t4 h0 h1 h2 HT HH HR HB
  go_enter Tryz.func21, Tryz.ntmps21
  go_wp2_with fail
  generalize (((w.alloc (.cells #[.int .i64 tk, .int .i64 tn, .float .f64 tf, .string ts, .slice ta tl tc] 25)).alloc (.cells #[.int .i64 mr, .int .i64 mp, .string mn] 41)).alloc (.cells #[.int .i64 0, .int .i64 0, .int .i64 0, .int .i64 0, .int .i64 0, .bool false, .string ⟨#[]⟩, .int .i64 0, .int .i64 0, .float .f64 0, .string ⟨#[]⟩, .slice none 0 0] 27)) = w1 at *
  have HSC := HSC0
  have HLT := HLT0
  have HR := HRd
  have HB := HBd
  clear HSC0 HLT0 HRd HBd
  go_region_held3 (fun w' => w'.cell? ⟨w.heap.size, 0, none⟩ = some (.int .i64 tk) ∧ w'.cell? ⟨w.heap.size, 1, none⟩ = some (.int .i64 tn) ∧ w'.cell? ⟨w.heap.size, 2, none⟩ = some (.float .f64 tf) ∧ w'.cell? ⟨w.heap.size, 3, none⟩ = some (.string ts) ∧ w'.cell? ⟨w.heap.size, 4, none⟩ = some (.slice ta tl tc) ∧ w'.cell? ⟨w.heap.size + 1, 1, none⟩ = some (.int .i64 mp) ∧ w'.cell? ⟨w.heap.size + 1, 0, none⟩ = some (.int .i64 mr)) (first | with_reducible exact HSC.out | (simp only [cell_past (ne_u1 _), cell_past (ne_u2 _)]; with_reducible exact HSC.out)) (first
    | (go_at_call 35; refine (CP.out _ HB.out).mono ?_; rintro e w2 ⟨⟨k2, n2, f2, s2, a2, c2, kids2⟩, rfl, hs2, hi2, hb2⟩; have HSC : Hid (w2.cell? ⟨w.heap.size, 0, none⟩ = some (.int .i64 tk) ∧ w2.cell? ⟨w.heap.size, 1, none⟩ = some (.int .i64 tn) ∧ w2.cell? ⟨w.heap.size, 2, none⟩ = some (.float .f64 tf) ∧ w2.cell? ⟨w.heap.size, 3, none⟩ = some (.string ts) ∧ w2.cell? ⟨w.heap.size, 4, none⟩ = some (.slice ta tl tc) ∧ w2.cell? ⟨w.heap.size + 1, 1, none⟩ = some (.int .i64 mp) ∧ w2.cell? ⟨w.heap.size + 1, 0, none⟩ = some (.int .i64 mr)) := hidb ⟨(hb2.cell (p := ⟨w.heap.size, 0, none⟩) (by have := HLT.out; simp only; omega)).trans HSC.out.1, (hb2.cell (p := ⟨w.heap.size, 1, none⟩) (by have := HLT.out; simp only; omega)).trans HSC.out.2.1, (hb2.cell (p := ⟨w.heap.size, 2, none⟩) (by have := HLT.out; simp only; omega)).trans HSC.out.2.2.1, (hb2.cell (p := ⟨w.heap.size, 3, none⟩) (by have := HLT.out; simp only; omega)).trans HSC.out.2.2.2.1, (hb2.cell (p := ⟨w.heap.size, 4, none⟩) (by have := HLT.out; simp only; omega)).trans HSC.out.2.2.2.2.1, (hb2.cell (p := ⟨w.heap.size + 1, 1, none⟩) (by have := HLT.out; simp only; omega)).trans HSC.out.2.2.2.2.2.1, (hb2.cell (p := ⟨w.heap.size + 1, 0, none⟩) (by have := HLT.out; simp only; omega)).trans HSC.out.2.2.2.2.2.2⟩; have HSM := hidb hs2; have HIN := hidb hi2; have HLT := hidb ((show w.heap.size + 1 + 1 < _ from (Array.getElem?_eq_some_iff.1 HR.out).1)); have HB := hidb (HB.out.trans (hb2.mono HB.out.size)); have HR := hidb (at_keep HR.out hb2); obtain ⟨r0, r1, r2, r3, r4, r5, r6, r7, r8, r9, r10, r11⟩ := box12 HR.out; obtain ⟨g0, g1, g2, g3, g4, g5, g6, g7, g8, g9, g10, g11⟩ := fro12 HR.out; clear hb2 hs2 hi2))
  go_wp2_with fail
  refine bodyPost_ret (v := .agg #[.int .i64 self, .int .i64 mp, .int .i64 8, .int .i64 0, .int .i64 mr, .bool false, .string ⟨#[]⟩, .int .i64 k2, .int .i64 n2, .float .f64 f2, .string s2, .slice a2 kids2.length c2]) ?_ rfl ⟨k2, n2, f2, s2, a2, c2, kids2, rfl, HSM.out, ?_, ?_⟩
  · simp [results, Tryz.results21, go_sem, r0, r1, r2, r3, r4, r5, r6, r7, r8, r9, r10, r11]
  · exact in_base (by have := HLT.out; omega) _ (in_set (in_set (in_set (in_set (in_set (in_set (in_set (in_set (in_set (in_set (in_set (in_set HIN.out HLT.out _) HLT.out _) HLT.out _) HLT.out _) HLT.out _) HLT.out _) HLT.out _) HLT.out _) HLT.out _) HLT.out _) HLT.out _) HLT.out _)
  · (repeat (refine Below.setCell ?_ (by first | (simp; done) | (simp; omega)) _)); exact HB.out

set_option maxHeartbeats 2000000 in
theorem emit_off (self hp hs hid : Int) (tk tn : Int) (tf : Nat) (ts : ByteArray) (ta : Option Addr) (tl tc : Nat) (hh : hs ≠ 1) (w : World) : Calls Tryz.prog 17 #[.int .i64 self, .agg #[.int .i64 tk, .int .i64 tn, .float .f64 tf, .string ts, .slice ta tl tc], .agg #[.int .i64 hp, .int .i64 hs, .int .i64 hid]] w fun e w' => e = .returned (.tuple #[.agg #[.int .i64 0, .int .i64 0, .int .i64 0, .int .i64 0, .int .i64 0, .bool false, .string ⟨#[]⟩, .int .i64 0, .int .i64 0, .float .f64 0, .string ⟨#[]⟩, .slice none 0 0], .bool false]) ∧ Below w.heap.size w w' := by
  have h1 : (hs != 1) = true := by simpa using hh
  clear hh
  go_enter Tryz.func17, Tryz.ntmps17
  go_wp2_with fail
  exact bodyPost_ret (v := .tuple #[.agg #[.int .i64 0, .int .i64 0, .int .i64 0, .int .i64 0, .int .i64 0, .bool false, .string ⟨#[]⟩, .int .i64 0, .int .i64 0, .float .f64 0, .string ⟨#[]⟩, .slice none 0 0], .bool false]) (by simp [results, Tryz.results17, go_sem]) rfl ⟨rfl, by (repeat (first | exact Below.refl _ _ | assumption | refine Below.drew ?_ | refine below_drewN ?_ _ | refine Below.setCell ?_ (by simp) _ | refine Below.alloc ?_ (by (first | exact Nat.le_refl _ | (simp; done) | (simp; omega) | omega)) _ | refine Below.trans ?_ (Below.mono (by assumption) (by first | exact Nat.le_refl _ | (simp; done) | (simp; omega) | omega))))⟩

set_option maxHeartbeats 2000000 in
theorem leave_off (self mr : Int) (mn : ByteArray)  (w : World) : Calls Tryz.prog 22 #[.int .i64 self, .agg #[.int .i64 mr, .int .i64 0, .string mn]] w fun e w' => e = .returned (.tuple #[.agg #[.int .i64 0, .int .i64 0, .int .i64 0, .int .i64 0, .int .i64 0, .bool false, .string ⟨#[]⟩, .int .i64 0, .int .i64 0, .float .f64 0, .string ⟨#[]⟩, .slice none 0 0], .bool false]) ∧ Below w.heap.size w w' := by
  go_enter Tryz.func22, Tryz.ntmps22
  go_wp2_with fail
  exact bodyPost_ret (v := .tuple #[.agg #[.int .i64 0, .int .i64 0, .int .i64 0, .int .i64 0, .int .i64 0, .bool false, .string ⟨#[]⟩, .int .i64 0, .int .i64 0, .float .f64 0, .string ⟨#[]⟩, .slice none 0 0], .bool false]) (by simp [results, Tryz.results22, go_sem]) rfl ⟨rfl, by (repeat (first | exact Below.refl _ _ | assumption | refine Below.drew ?_ | refine below_drewN ?_ _ | refine Below.setCell ?_ (by simp) _ | refine Below.alloc ?_ (by (first | exact Nat.le_refl _ | (simp; done) | (simp; omega) | omega)) _ | refine Below.trans ?_ (Below.mono (by assumption) (by first | exact Nat.le_refl _ | (simp; done) | (simp; omega) | omega))))⟩

set_option maxHeartbeats 2000000 in
theorem leave_on (self mr mp : Int) (mn : ByteArray) (hh : mp ≠ 0) (w : World) : Calls Tryz.prog 22 #[.int .i64 self, .agg #[.int .i64 mr, .int .i64 mp, .string mn]] w fun e w' => e = .returned (.tuple #[.agg #[.int .i64 self, .int .i64 mp, .int .i64 7, .int .i64 0, .int .i64 mr, .bool false, .string ⟨#[]⟩, .int .i64 0, .int .i64 0, .float .f64 0, .string ⟨#[]⟩, .slice none 0 0], .bool true]) ∧ Below w.heap.size w w' := by
  have h1 : (mp == 0) = false := by simpa using hh
  clear hh
  go_enter Tryz.func22, Tryz.ntmps22
  go_wp2_with fail
  exact bodyPost_ret (v := .tuple #[.agg #[.int .i64 self, .int .i64 mp, .int .i64 7, .int .i64 0, .int .i64 mr, .bool false, .string ⟨#[]⟩, .int .i64 0, .int .i64 0, .float .f64 0, .string ⟨#[]⟩, .slice none 0 0], .bool true]) (by simp [results, Tryz.results22, go_sem]) rfl ⟨rfl, by (repeat (first | exact Below.refl _ _ | assumption | refine Below.drew ?_ | refine below_drewN ?_ _ | refine Below.setCell ?_ (by simp) _ | refine Below.alloc ?_ (by (first | exact Nat.le_refl _ | (simp; done) | (simp; omega) | omega)) _ | refine Below.trans ?_ (Below.mono (by assumption) (by first | exact Nat.le_refl _ | (simp; done) | (simp; omega) | omega))))⟩

set_option maxHeartbeats 2000000 in
theorem remit_off (self hp hs hid : Int) (tk tn : Int) (tf : Nat) (ts : ByteArray) (ta : Option Addr) (tl tc : Nat) (hh : hs ≠ 1) (w : World) : Calls Tryz.prog 18 #[.int .i64 self, .agg #[.int .i64 tk, .int .i64 tn, .float .f64 tf, .string ts, .slice ta tl tc], .agg #[.int .i64 hp, .int .i64 hs, .int .i64 hid]] w fun e w' => e = .returned (.tuple #[.agg #[.int .i64 0, .int .i64 0, .int .i64 0, .int .i64 0, .int .i64 0, .bool false, .string ⟨#[]⟩, .int .i64 0, .int .i64 0, .float .f64 0, .string ⟨#[]⟩, .slice none 0 0], .bool false]) ∧ Below w.heap.size w w' := by
  have h1 : (hs != 1) = true := by simpa using hh
  clear hh
  go_enter Tryz.func18, Tryz.ntmps18
  go_wp2_with fail
  exact bodyPost_ret (v := .tuple #[.agg #[.int .i64 0, .int .i64 0, .int .i64 0, .int .i64 0, .int .i64 0, .bool false, .string ⟨#[]⟩, .int .i64 0, .int .i64 0, .float .f64 0, .string ⟨#[]⟩, .slice none 0 0], .bool false]) (by simp [results, Tryz.results18, go_sem]) rfl ⟨rfl, by (repeat (first | exact Below.refl _ _ | assumption | refine Below.drew ?_ | refine below_drewN ?_ _ | refine Below.setCell ?_ (by simp) _ | refine Below.alloc ?_ (by (first | exact Nat.le_refl _ | (simp; done) | (simp; omega) | omega)) _ | refine Below.trans ?_ (Below.mono (by assumption) (by first | exact Nat.le_refl _ | (simp; done) | (simp; omega) | omega))))⟩

set_option maxHeartbeats 2000000 in
theorem rleave_off (self mr : Int) (mn : ByteArray)  (w : World) : Calls Tryz.prog 23 #[.int .i64 self, .agg #[.int .i64 mr, .int .i64 0, .string mn]] w fun e w' => e = .returned (.tuple #[.agg #[.int .i64 0, .int .i64 0, .int .i64 0, .int .i64 0, .int .i64 0, .bool false, .string ⟨#[]⟩, .int .i64 0, .int .i64 0, .float .f64 0, .string ⟨#[]⟩, .slice none 0 0], .bool false]) ∧ Below w.heap.size w w' := by
  go_enter Tryz.func23, Tryz.ntmps23
  go_wp2_with fail
  exact bodyPost_ret (v := .tuple #[.agg #[.int .i64 0, .int .i64 0, .int .i64 0, .int .i64 0, .int .i64 0, .bool false, .string ⟨#[]⟩, .int .i64 0, .int .i64 0, .float .f64 0, .string ⟨#[]⟩, .slice none 0 0], .bool false]) (by simp [results, Tryz.results23, go_sem]) rfl ⟨rfl, by (repeat (first | exact Below.refl _ _ | assumption | refine Below.drew ?_ | refine below_drewN ?_ _ | refine Below.setCell ?_ (by simp) _ | refine Below.alloc ?_ (by (first | exact Nat.le_refl _ | (simp; done) | (simp; omega) | omega)) _ | refine Below.trans ?_ (Below.mono (by assumption) (by first | exact Nat.le_refl _ | (simp; done) | (simp; omega) | omega))))⟩

set_option maxHeartbeats 2000000 in
theorem rleave_on (self mr mp : Int) (mn : ByteArray) (hh : mp ≠ 0) (w : World) : Calls Tryz.prog 23 #[.int .i64 self, .agg #[.int .i64 mr, .int .i64 mp, .string mn]] w fun e w' => e = .returned (.tuple #[.agg #[.int .i64 self, .int .i64 mp, .int .i64 7, .int .i64 0, .int .i64 mr, .bool false, .string ⟨#[]⟩, .int .i64 0, .int .i64 0, .float .f64 0, .string ⟨#[]⟩, .slice none 0 0], .bool true]) ∧ Below w.heap.size w w' := by
  have h1 : (mp == 0) = false := by simpa using hh
  clear hh
  go_enter Tryz.func23, Tryz.ntmps23
  go_wp2_with fail
  exact bodyPost_ret (v := .tuple #[.agg #[.int .i64 self, .int .i64 mp, .int .i64 7, .int .i64 0, .int .i64 mr, .bool false, .string ⟨#[]⟩, .int .i64 0, .int .i64 0, .float .f64 0, .string ⟨#[]⟩, .slice none 0 0], .bool true]) (by simp [results, Tryz.results23, go_sem]) rfl ⟨rfl, by (repeat (first | exact Below.refl _ _ | assumption | refine Below.drew ?_ | refine below_drewN ?_ _ | refine Below.setCell ?_ (by simp) _ | refine Below.alloc ?_ (by (first | exact Nat.le_refl _ | (simp; done) | (simp; omega) | omega)) _ | refine Below.trans ?_ (Below.mono (by assumption) (by first | exact Nat.le_refl _ | (simp; done) | (simp; omega) | omega))))⟩
end Go.Proofs.YtliebilpddmhkaaGreat


