import Derived.Test.YtpcpdehnppfbfaaGreatG22
import Derived.Test.YtpcpdehnppfbfaaGreatG02
import Derived.Test.YtpcpdehnppfbfaaGreatG18
import Derived.LoopN
/- The document's Copy of any term: the same term in new memory. -/
namespace Go.Proofs.YtpcpdehnppfbfaaGreat
open Go.RowKit Go.Deep
attribute [local go_sem] store_float f64bits
attribute [local go_sem ↓] Go.wp_at_zero Go.wp_at_succ

theorem smA_snoc {t t' : Tr} (h : Sm t t') : ∀ (l l' : List Tr), SmA l l' → SmA (l ++ [t]) (l' ++ [t'])
  | [], [], _ => by simp only [List.nil_append, SmA]; exact ⟨h, trivial⟩
  | u :: r, u' :: r', hl => by
    unfold SmA at hl
    simp only [List.cons_append, SmA]
    exact ⟨hl.1, smA_snoc h r r' hl.2⟩
  | [], _ :: _, hl => by unfold SmA at hl; exact hl.elim
  | _ :: _, [], hl => by unfold SmA at hl; exact hl.elim

set_option maxHeartbeats 2000000 in
set_option maxRecDepth 100000 in
theorem rcopy_any : ∀ (t : Tr) (w : World), t.In w 0 → Small t →
    Calls Tryz.prog 17 #[t.val] w fun e w' => ∃ t', e = .returned t'.val ∧ Sm t t' ∧ t'.In w' w.heap.size ∧ Below w.heap.size w w' := by
  refine Tr.ind fun k n f s a c kids hk => ?_
  intro w hin hsm
  show Calls Tryz.prog 17 #[.agg #[.int .i64 k, .int .i64 n, .float .f64 f, .string s, .slice a kids.length c]] w _
  have HK : Hid (∀ t, t ∈ kids → ∀ (w : World), t.In w 0 → Small t → Calls Tryz.prog 17 #[t.val] w fun e w' => ∃ t', e = .returned t'.val ∧ Sm t t' ∧ t'.In w' w.heap.size ∧ Below w.heap.size w w') := hk
  have HIN := hidb hin
  have hwf := hidb (show Tr.fit (.mk k n f s a c kids) from by unfold Tr.In at hin; exact hin.1)
  unfold Small at hsm
  have hlen := hsm.1
  have HSM := hidb hsm.2
  obtain ⟨i0, hi, hz0, hz1, hz2⟩ := info_parts infoT5
  clear hk hin hsm
  go_enter Tryz.func17, Tryz.ntmps17
  go_wp2_with fail
  go_loopw [3, 4] (fun lv iv wr => ∃ (m : Nat) (ds : List Tr), m ≤ kids.length ∧ iv = .int .i64 m ∧ TRows wr (w.heap.size + 2) lv ds ∧ SmA (kids.take m) ds ∧ Below (w.heap.size + 2) ((w.alloc (.cells #[.int .i64 k, .int .i64 n, .float .f64 f, .string s, .slice a kids.length c] 28)).alloc (.cells #[.int .i64 0, .int .i64 0, .float .f64 0, .string ⟨#[]⟩, .slice none 0 0] 28)) wr) (fun _ iv _ => kids.length - (RowKit.intOf iv).toNat)
  case atStart => exact ⟨0, [], by omega, rfl, rows_nil _ _, by simp [SmA], Below.refl _ _⟩
  case round =>
  obtain ⟨m, ds, hm, rfl, hrows, hsma, hbel⟩ := hrel
  have HR := hidb hrows
  have HS := hidb hsma
  have HBB := hidb hbel
  have hb1 : Below (w.heap.size + 1) (w.alloc (.cells #[.int .i64 k, .int .i64 n, .float .f64 f, .string s, .slice a kids.length c] 28)) wr := by
    have h0 := below_new (w.alloc (.cells #[.int .i64 k, .int .i64 n, .float .f64 f, .string s, .slice a kids.length c] 28)) (.cells #[.int .i64 0, .int .i64 0, .float .f64 0, .string ⟨#[]⟩, .slice none 0 0] 28)
    rw [show (w.alloc (.cells #[.int .i64 k, .int .i64 n, .float .f64 f, .string s, .slice a kids.length c] 28)).heap.size = w.heap.size + 1 by simp] at h0
    exact h0.trans (hbel.mono (by omega))
  obtain ⟨b0, b1, b2, b3, b4⟩ := box_at hb1
  have HB : Hid (Below w.heap.size w wr) := hidb (box_below hb1)
  have bf4 := (hb1.frozen (p := ⟨w.heap.size, 4, none⟩) (Nat.lt_succ_self _)).trans (Box.new w 28 (.int .i64 k) (.int .i64 n) (.float .f64 f) (.string s) (.slice a kids.length c)).f4
  obtain ⟨ql, cl, rfl⟩ := own_sl hrows.1
  have HDL : Hid (ds.length = m) := hidb (by have := smA_len hsma; rw [List.length_take] at this; omega)
  clear hrows hsma hbel hb1
  by_cases hml : m < kids.length
  · have hmb : (m : Int) < (kids.length : Int) := by omega
    have hmz : (0 : Int) ≤ (m : Int) := by omega
    have hmw : IntKind.i64.wrap ((m : Int) + 1) = (m : Int) + 1 := by rw [IntKind.wrap_i64]; omega
    obtain ⟨b, o, rfl, hat⟩ := kid_at (in_below HB.out HIN.out) (by omega)
    obtain ⟨k', n', f', s', a', c', kids', hu, hin', c0, c1, c2, c3, c4⟩ := hat m hml
    have IH := hidb (HK.out _ (List.mem_of_getElem? hu) wr hin' (smallAll_get HSM.out (List.mem_of_getElem? hu)))
    simp only [Tr.val, Tr.cells] at IH
    have HU := hidb hu
    have hwl : w.heap.size + 2 ≤ wr.heap.size := by have := HBB.out.size; simpa using this
    clear hat hu hin'
    go_wp2_with (first
      | (go_at_call 17; refine IH.out.mono ?_; rintro e w2 ⟨⟨k2, n2, f2, s2, a2, c2', kids2⟩, rfl, hst, hti, hb2⟩; have HST := hidb hst; have HTO := hidb (told_off HR.out hwl hti); have HR2 := hidb (HR.out.keep hb2); have HB2 := hidb (HBB.out.trans (hb2.mono hwl)); have hw2 : w.heap.size + 2 ≤ w2.heap.size := Nat.le_trans hwl hb2.size; clear hst hti hb2 IH)
      | (at_builtin; refine wpList_append_own_at _ rfl _ _ 26 rfl (w.heap.size + 2) 28 i0 (.agg #[.int .i64 0, .int .i64 0, .float .f64 0, .string ⟨#[]⟩, .slice none 0 0]) 5 64 Tryz.underlying26 hi hz0 hz1 hz2 rfl (by decide) (.slice ql ds.length cl) ds.length (ds.flatMap Tr.cells) rfl ?e1 ⟨w2.heap.size, 0, none⟩ 1 1 [.int .i64 k2, .int .i64 n2, .float .f64 f2, .string s2, .slice a2 kids2.length c2'] rfl rfl ?e6 ?e2 ?e3 ?e4 ?e5 ?_))
    case e1 => exact HR2.out.1.alloc _
    case e6 => exact World.news_of_block ((MapKept.heap_alloc w2 _).1)
    case e2 => simp [Value.oneCell']
    case e3 => have := HDL.out; unfold maxLen; omega
    case e4 => have := HDL.out; omega
    case e5 => simp; omega
    intro v' w4 hown' hgrow hnil hat
    have HR4 := hidb (TRows.append (t := .mk k2 n2 f2 s2 a2 c2' kids2) (HR2.out.keep (below_new w2 _)) hown' hgrow (by simpa using hat) (in_over (fun p v _ hv => ((below_new w2 _).cell (World.block_lt_of_cell? _ _ hv)).trans hv) _ HTO.out.1) (on_mono (fun q hq => ⟨hq.1, Nat.lt_of_lt_of_le hq.2.1 (below_new w2 _).size, hq.2.2⟩) _ HTO.out.2))
    have HB4 := hidb (HB2.out.trans (((below_new w2 _).mono hw2).trans ((grown_but hgrow).below (Nat.le_trans hw2 (below_new w2 _).size) (fun q hq => (ownsRow_lt HR2.out.1 q hq).1))))
    obtain ⟨q4, c4', rfl⟩ := own_sl hown'
    clear hown' hgrow hnil hat
    go_wp2_with fail
    go_roundw
    case rel => exact ⟨m + 1, ds ++ [.mk k2 n2 f2 s2 a2 c2' kids2], by omega, by go_num, HR4.out, by rw [List.take_add_one, HU.out]; exact smA_snoc HST.out _ _ HS.out, HB4.out⟩
    case measure => simp [RowKit.intOf]; omega
  · obtain rfl : m = kids.length := by omega
    have hmn : ¬ (kids.length : Int) < (kids.length : Int) := by omega
    rw [List.take_length] at HS
    obtain ⟨x1, x2, x3, x4, -⟩ := hwf.out
    obtain ⟨a2, c2, e2, ht⟩ := rows_tree HR.out k n f s x1 x2 x3 x4
    have BZ := Box.new (w.alloc (.cells #[.int .i64 k, .int .i64 n, .float .f64 f, .string s, .slice a kids.length c] 28)) 28 (.int .i64 0) (.int .i64 0) (.float .f64 0) (.string ⟨#[]⟩) (.slice none 0 0)
    rw [show (w.alloc (.cells #[.int .i64 k, .int .i64 n, .float .f64 f, .string s, .slice a kids.length c] 28)).heap.size = w.heap.size + 1 by simp] at BZ
    have hl2 : w.heap.size + 1 < w.heap.size + 2 := by omega
    have r0 := (HBB.out.cell (p := ⟨w.heap.size + 1, 0, none⟩) hl2).trans BZ.c0
    have r1 := (HBB.out.cell (p := ⟨w.heap.size + 1, 1, none⟩) hl2).trans BZ.c1
    have r2 := (HBB.out.cell (p := ⟨w.heap.size + 1, 2, none⟩) hl2).trans BZ.c2
    have r3 := (HBB.out.cell (p := ⟨w.heap.size + 1, 3, none⟩) hl2).trans BZ.c3
    have r4 := (HBB.out.cell (p := ⟨w.heap.size + 1, 4, none⟩) hl2).trans BZ.c4
    have g0 := (HBB.out.frozen (p := ⟨w.heap.size + 1, 0, none⟩) hl2).trans BZ.f0
    have g1 := (HBB.out.frozen (p := ⟨w.heap.size + 1, 1, none⟩) hl2).trans BZ.f1
    have g2 := (HBB.out.frozen (p := ⟨w.heap.size + 1, 2, none⟩) hl2).trans BZ.f2
    have g3 := (HBB.out.frozen (p := ⟨w.heap.size + 1, 3, none⟩) hl2).trans BZ.f3
    have g4 := (HBB.out.frozen (p := ⟨w.heap.size + 1, 4, none⟩) hl2).trans BZ.f4
    have HT := hidb ht
    have HE2 := hidb e2
    clear BZ hl2 ht e2 x1 x2 x3 x4
    go_wp2_with fail
    obtain ⟨rfl, -, rfl⟩ : ql = a2 ∧ True ∧ cl = c2 := by have := HE2.out; simp at this; exact ⟨this.1, trivial, this.2⟩
    have hA : w.heap.size < w.heap.size + 2 := by omega
    have hB : w.heap.size + 1 < w.heap.size + 2 := by omega
    exact bodyPost_ret (v := .agg #[.int .i64 k, .int .i64 n, .float .f64 f, .string s, .slice ql ds.length cl]) (by simp [results, Tryz.results17, go_sem, r0, r1, r2, r3, r4]) rfl ⟨.mk k n f s ql cl ds, rfl, by unfold Sm; exact ⟨rfl, rfl, rfl, rfl, HS.out⟩, in_base (by omega) _ (in_set (in_set (in_set (in_set (in_set (in_set HT.out (p := ⟨w.heap.size, 4, none⟩) hA _) (p := ⟨w.heap.size + 1, 0, none⟩) hB _) (p := ⟨w.heap.size + 1, 1, none⟩) hB _) (p := ⟨w.heap.size + 1, 2, none⟩) hB _) (p := ⟨w.heap.size + 1, 3, none⟩) hB _) (p := ⟨w.heap.size + 1, 4, none⟩) hB _), (((((HB.out.setCell (p := ⟨w.heap.size, 4, none⟩) (Nat.le_refl _) _).setCell (p := ⟨w.heap.size + 1, 0, none⟩) (Nat.le_succ _) _).setCell (p := ⟨w.heap.size + 1, 1, none⟩) (Nat.le_succ _) _).setCell (p := ⟨w.heap.size + 1, 2, none⟩) (Nat.le_succ _) _).setCell (p := ⟨w.heap.size + 1, 3, none⟩) (Nat.le_succ _) _).setCell (p := ⟨w.heap.size + 1, 4, none⟩) (Nat.le_succ _) _⟩
end Go.Proofs.YtpcpdehnppfbfaaGreat


/- spoil: what a term has is written over. -/
namespace Go.Proofs.YtpcpdehnppfbfaaGreat
open Go.RowKit Go.Lib
attribute [local go_sem] store_float f64bits

/-- Five cells of a block from a place on, not frozen. -/
structure Fv (w : World) (g o : Nat) (v0 v1 v2 v3 v4 : Value) : Prop where
  c0 : w.cell? ⟨g, o, none⟩ = some v0
  c1 : w.cell? ⟨g, o + 1, none⟩ = some v1
  c2 : w.cell? ⟨g, o + 2, none⟩ = some v2
  c3 : w.cell? ⟨g, o + 3, none⟩ = some v3
  c4 : w.cell? ⟨g, o + 4, none⟩ = some v4
  f0 : w.frozen? ⟨g, o, none⟩ = false
  f1 : w.frozen? ⟨g, o + 1, none⟩ = false
  f2 : w.frozen? ⟨g, o + 2, none⟩ = false
  f3 : w.frozen? ⟨g, o + 3, none⟩ = false
  f4 : w.frozen? ⟨g, o + 4, none⟩ = false
theorem Fv.lt {w : World} {g o : Nat} {v0 v1 v2 v3 v4 : Value} (h : Fv w g o v0 v1 v2 v3 v4) : g < w.heap.size := World.block_lt_of_cell? _ _ h.c0
theorem Fv.but {S : Nat → Prop} {w w' : World} {g o : Nat} {v0 v1 v2 v3 v4 : Value} (h : Fv w g o v0 v1 v2 v3 v4) (hb : But S w w') (hs : ¬ S g) : Fv w' g o v0 v1 v2 v3 v4 :=
  ⟨(hb.cell h.lt hs).trans h.c0, (hb.cell h.lt hs).trans h.c1, (hb.cell h.lt hs).trans h.c2, (hb.cell h.lt hs).trans h.c3, (hb.cell h.lt hs).trans h.c4, (hb.frozen h.lt hs).trans h.f0, (hb.frozen h.lt hs).trans h.f1, (hb.frozen h.lt hs).trans h.f2, (hb.frozen h.lt hs).trans h.f3, (hb.frozen h.lt hs).trans h.f4⟩
def set5o (w : World) (g o : Nat) (u0 u1 u2 u3 u4 : Value) : World := ((((w.setCell ⟨g, o, none⟩ u0).setCell ⟨g, o + 1, none⟩ u1).setCell ⟨g, o + 2, none⟩ u2).setCell ⟨g, o + 3, none⟩ u3).setCell ⟨g, o + 4, none⟩ u4
theorem set5o_size (w : World) (g o : Nat) (u0 u1 u2 u3 u4 : Value) : (set5o w g o u0 u1 u2 u3 u4).heap.size = w.heap.size := by simp [set5o]
theorem set5o_frozen (w : World) (g o : Nat) (u0 u1 u2 u3 u4 : Value) (p : Addr) : (set5o w g o u0 u1 u2 u3 u4).frozen? p = w.frozen? p := by simp [set5o, World.frozen?_setCell]
theorem set5o_but (w : World) (g o : Nat) (u0 u1 u2 u3 u4 : Value) : But (fun k => k = g) w (set5o w g o u0 u1 u2 u3 u4) :=
  (((((But.refl (fun k => k = g) w).setCell (p := ⟨g, o, none⟩) (fun _ => rfl) _).setCell (p := ⟨g, o + 1, none⟩) (fun _ => rfl) _).setCell (p := ⟨g, o + 2, none⟩) (fun _ => rfl) _).setCell (p := ⟨g, o + 3, none⟩) (fun _ => rfl) _).setCell (p := ⟨g, o + 4, none⟩) (fun _ => rfl) _
theorem set5o_far {w : World} {g o : Nat} {u0 u1 u2 u3 u4 : Value} {x : Nat} (h : x < o ∨ o + 4 < x) : (set5o w g o u0 u1 u2 u3 u4).cell? ⟨g, x, none⟩ = w.cell? ⟨g, x, none⟩ := by
  unfold set5o
  rw [World.cell?_setCell_other _ _ _ _ (ne_off3 _ _ _ (by omega)), World.cell?_setCell_other _ _ _ _ (ne_off3 _ _ _ (by omega)), World.cell?_setCell_other _ _ _ _ (ne_off3 _ _ _ (by omega)), World.cell?_setCell_other _ _ _ _ (ne_off3 _ _ _ (by omega)), World.cell?_setCell_other _ _ _ _ (ne_off3 _ _ _ (by omega))]
theorem Fv.set {w : World} {g o : Nat} {v0 v1 v2 v3 v4 : Value} (h : Fv w g o v0 v1 v2 v3 v4) (u0 u1 u2 u3 u4 : Value) : Fv (set5o w g o u0 u1 u2 u3 u4) g o u0 u1 u2 u3 u4 := by
  have d0 : (w.setCell ⟨g, o, none⟩ u0).cell? ⟨g, o, none⟩ = some u0 := World.cell?_setCell_same _ _ _ h.c0
  have d1 : ((w.setCell ⟨g, o, none⟩ u0).setCell ⟨g, o + 1, none⟩ u1).cell? ⟨g, o + 1, none⟩ = some u1 := World.cell?_setCell_same _ _ _ (u := v1) (by rw [World.cell?_setCell_other _ _ _ _ (ne_off3 _ _ _ (by omega))]; exact h.c1)
  have d2 : (((w.setCell ⟨g, o, none⟩ u0).setCell ⟨g, o + 1, none⟩ u1).setCell ⟨g, o + 2, none⟩ u2).cell? ⟨g, o + 2, none⟩ = some u2 := World.cell?_setCell_same _ _ _ (u := v2) (by rw [World.cell?_setCell_other _ _ _ _ (ne_off3 _ _ _ (by omega)), World.cell?_setCell_other _ _ _ _ (ne_off3 _ _ _ (by omega))]; exact h.c2)
  have d3 : ((((w.setCell ⟨g, o, none⟩ u0).setCell ⟨g, o + 1, none⟩ u1).setCell ⟨g, o + 2, none⟩ u2).setCell ⟨g, o + 3, none⟩ u3).cell? ⟨g, o + 3, none⟩ = some u3 := World.cell?_setCell_same _ _ _ (u := v3) (by rw [World.cell?_setCell_other _ _ _ _ (ne_off3 _ _ _ (by omega)), World.cell?_setCell_other _ _ _ _ (ne_off3 _ _ _ (by omega)), World.cell?_setCell_other _ _ _ _ (ne_off3 _ _ _ (by omega))]; exact h.c3)
  have d4 : (set5o w g o u0 u1 u2 u3 u4).cell? ⟨g, o + 4, none⟩ = some u4 := World.cell?_setCell_same _ _ _ (u := v4) (by rw [World.cell?_setCell_other _ _ _ _ (ne_off3 _ _ _ (by omega)), World.cell?_setCell_other _ _ _ _ (ne_off3 _ _ _ (by omega)), World.cell?_setCell_other _ _ _ _ (ne_off3 _ _ _ (by omega)), World.cell?_setCell_other _ _ _ _ (ne_off3 _ _ _ (by omega))]; exact h.c4)
  refine ⟨?_, ?_, ?_, ?_, d4, (set5o_frozen ..).trans h.f0, (set5o_frozen ..).trans h.f1, (set5o_frozen ..).trans h.f2, (set5o_frozen ..).trans h.f3, (set5o_frozen ..).trans h.f4⟩
  · unfold set5o; rw [World.cell?_setCell_other _ _ _ _ (ne_off3 _ _ _ (by omega)), World.cell?_setCell_other _ _ _ _ (ne_off3 _ _ _ (by omega)), World.cell?_setCell_other _ _ _ _ (ne_off3 _ _ _ (by omega)), World.cell?_setCell_other _ _ _ _ (ne_off3 _ _ _ (by omega))]; exact d0
  · unfold set5o; rw [World.cell?_setCell_other _ _ _ _ (ne_off3 _ _ _ (by omega)), World.cell?_setCell_other _ _ _ _ (ne_off3 _ _ _ (by omega)), World.cell?_setCell_other _ _ _ _ (ne_off3 _ _ _ (by omega))]; exact d1
  · unfold set5o; rw [World.cell?_setCell_other _ _ _ _ (ne_off3 _ _ _ (by omega)), World.cell?_setCell_other _ _ _ _ (ne_off3 _ _ _ (by omega))]; exact d2
  · unfold set5o; rw [World.cell?_setCell_other _ _ _ _ (ne_off3 _ _ _ (by omega))]; exact d3
theorem Fv.far {w : World} {g o p : Nat} {v0 v1 v2 v3 v4 u0 u1 u2 u3 u4 : Value} (h : Fv w g p v0 v1 v2 v3 v4) (hf : p + 4 < o ∨ o + 4 < p) : Fv (set5o w g o u0 u1 u2 u3 u4) g p v0 v1 v2 v3 v4 :=
  ⟨(set5o_far (by omega)).trans h.c0, (set5o_far (by omega)).trans h.c1, (set5o_far (by omega)).trans h.c2, (set5o_far (by omega)).trans h.c3, (set5o_far (by omega)).trans h.c4, (set5o_frozen ..).trans h.f0, (set5o_frozen ..).trans h.f1, (set5o_frozen ..).trans h.f2, (set5o_frozen ..).trans h.f3, (set5o_frozen ..).trans h.f4⟩

/-- A slice of terms that may be written, down to a height, in blocks of S. -/
def SpH (S : Nat → Prop) (w : World) : Nat → Value → Prop
  | 0, v => ∃ a c, v = .slice a 0 c
  | h + 1, v => ∃ a n c, v = .slice a n c ∧ n ≤ 4000000000 ∧ (n = 0 ∨ ∃ g, a = some ⟨g, 0, none⟩ ∧ S g ∧ ∀ i, i < n → ∃ v0 v1 v2 v3 u, Fv w g (i * 5) v0 v1 v2 v3 u ∧ SpH S w h u)
theorem spH_nil (S : Nat → Prop) (w : World) (a : Option Addr) (c : Nat) : ∀ h, SpH S w h (.slice a 0 c)
  | 0 => ⟨a, c, rfl⟩
  | _ + 1 => ⟨a, 0, c, rfl, by omega, .inl rfl⟩
theorem SpH.up {S : Nat → Prop} {w : World} : ∀ {h : Nat} {v : Value}, SpH S w h v → SpH S w (h + 1) v
  | 0, v, ⟨a, c, e⟩ => ⟨a, 0, c, e, by omega, .inl rfl⟩
  | h + 1, v, ⟨a, n, c, e, hn, r⟩ => ⟨a, n, c, e, hn, r.imp id (fun ⟨g, e1, e2, e3⟩ => ⟨g, e1, e2, fun i hi => by
      obtain ⟨v0, v1, v2, v3, u, f, s⟩ := e3 i hi
      exact ⟨v0, v1, v2, v3, u, f, SpH.up s⟩⟩)⟩
theorem SpH.mono {S : Nat → Prop} {w : World} {h h' : Nat} {v : Value} (H : SpH S w h v) (hl : h ≤ h') : SpH S w h' v := by
  induction hl with
  | refl => exact H
  | step _ ih => exact ih.up
theorem SpH.but {S X : Nat → Prop} {w w' : World} (hb : But X w w') (hx : ∀ k, S k → ¬ X k) : ∀ {h : Nat} {v : Value}, SpH S w h v → SpH S w' h v
  | 0, v, H => H
  | h + 1, v, ⟨a, n, c, e, hn, r⟩ => ⟨a, n, c, e, hn, r.imp id (fun ⟨g, e1, e2, e3⟩ => ⟨g, e1, e2, fun i hi => by
      obtain ⟨v0, v1, v2, v3, u, f, s⟩ := e3 i hi
      exact ⟨v0, v1, v2, v3, u, f.but hb (hx g e2), SpH.but hb hx s⟩⟩)⟩
theorem SpH.more {S S' : Nat → Prop} {w : World} (hS : ∀ k, S k → S' k) : ∀ {h : Nat} {v : Value}, SpH S w h v → SpH S' w h v
  | 0, v, H => H
  | h + 1, v, ⟨a, n, c, e, hn, r⟩ => ⟨a, n, c, e, hn, r.imp id (fun ⟨g, e1, e2, e3⟩ => ⟨g, e1, hS g e2, fun i hi => by
      obtain ⟨v0, v1, v2, v3, u, f, s⟩ := e3 i hi
      exact ⟨v0, v1, v2, v3, u, f, SpH.more hS s⟩⟩)⟩
theorem SpH.set {S : Nat → Prop} {w : World} {g j : Nat} {v0 v1 v2 v3 v4 : Value} (hf : Fv w g (j * 5) v0 v1 v2 v3 v4) (u0 u1 u2 u3 : Value) (a : Option Addr) (c : Nat) : ∀ {h : Nat} {v : Value}, SpH S w h v → SpH S (set5o w g (j * 5) u0 u1 u2 u3 (.slice a 0 c)) h v
  | 0, v, H => H
  | h + 1, v, ⟨b, n, d, e, hn, r⟩ => ⟨b, n, d, e, hn, r.imp id (fun ⟨q, e1, e2, e3⟩ => ⟨q, e1, e2, fun i hi => by
      obtain ⟨x0, x1, x2, x3, u, f, s⟩ := e3 i hi
      by_cases hq : q = g
      · subst hq
        by_cases hij : i = j
        · subst hij
          exact ⟨_, _, _, _, _, hf.set u0 u1 u2 u3 (.slice a 0 c), spH_nil _ _ _ _ _⟩
        · exact ⟨x0, x1, x2, x3, u, f.far (by omega), SpH.set hf u0 u1 u2 u3 a c s⟩
      · exact ⟨x0, x1, x2, x3, u, f.but (set5o_but w g (j * 5) u0 u1 u2 u3 (.slice a 0 c)) hq, SpH.set hf u0 u1 u2 u3 a c s⟩⟩)⟩

set_option maxRecDepth 100000 in
set_option maxHeartbeats 2000000 in
theorem spoil_any {S : Nat → Prop} : ∀ (h : Nat) (v0 v1 v2 v3 v : Value) (w : World), (∀ k, S k → k < w.heap.size) → SpH S w h v →
    Calls Tryz.prog 9 #[.agg #[v0, v1, v2, v3, v]] w fun e w' => e = .returned (.tuple #[]) ∧ But S w w' ∧ ∀ h' v', SpH S w h' v' → SpH S w' h' v'
  | 0, v0, v1, v2, v3, v, w, hS, H => by
    obtain ⟨a, c, rfl⟩ := H
    have hb : Below w.heap.size w (w.alloc (.cells #[v0, v1, v2, v3, .slice a 0 c] 28)) := below_new _ _
    have HP : Hid (But S w (w.alloc (.cells #[v0, v1, v2, v3, .slice a 0 c] 28)) ∧ ∀ h' v', SpH S w h' v' → SpH S (w.alloc (.cells #[v0, v1, v2, v3, .slice a 0 c] 28)) h' v') := hidb ⟨But.of_below hb, fun h' v' q => SpH.but (But.of_below (S := fun _ => False) hb) (fun _ _ => id) q⟩
    clear hS hb
    go_enter Tryz.func9, Tryz.ntmps9
    go_wp2_with fail
    refine wp_loop_rounds 1 ?_
    rw [rounds_succ]
    go_wp2_with fail
    go_end0
    exact ⟨rfl, HP.out⟩
  | h + 1, v0, v1, v2, v3, v, w, hS, H => by
    obtain ⟨a, n, c, rfl, hn, hr⟩ := H
    rcases Nat.eq_zero_or_pos n with rfl | hpos
    · exact spoil_any 0 v0 v1 v2 v3 _ w hS ⟨a, c, rfl⟩
    obtain hr | ⟨g, rfl, hg, hel⟩ := hr
    · omega
    have HEL : Hid (SpH S w (h + 1) (.slice (some ⟨g, 0, none⟩) n c)) := hidb ⟨_, n, c, rfl, hn, .inr ⟨g, rfl, hg, hel⟩⟩
    have HS := hidb hS
    have HN := hidb (And.intro hn hg)
    obtain ⟨W, hW⟩ : ∃ W, w.alloc (.cells #[v0, v1, v2, v3, .slice (some ⟨g, 0, none⟩) n c] 28) = W := ⟨_, rfl⟩
    have hb0 : Below w.heap.size w W := hW ▸ below_new _ _
    have HB0 := hidb hb0
    have HBX : Hid (Box W w.heap.size v0 v1 v2 v3 (.slice (some ⟨g, 0, none⟩) n c)) := hidb (hW ▸ Box.new w _ _ _ _ _ _)
    have HIH : Hid (∀ (v0 v1 v2 v3 v : Value) (w : World), (∀ k, S k → k < w.heap.size) → SpH S w h v → Calls Tryz.prog 9 #[.agg #[v0, v1, v2, v3, v]] w fun e w' => e = .returned (.tuple #[]) ∧ But S w w' ∧ ∀ h' v', SpH S w h' v' → SpH S w' h' v') := hidb (fun v0 v1 v2 v3 v w => spoil_any h v0 v1 v2 v3 v w)
    clear hS hn hg hel hb0
    go_enter Tryz.func9, Tryz.ntmps9
    go_wp2_with fail
    clear hW
    go_loopw [2] (fun iv wr => ∃ k : Nat, iv = .int .i64 (k : Int) ∧ k ≤ n ∧ But S W wr ∧ ∀ h' v', SpH S w h' v' → SpH S wr h' v') (fun iv _ => n - (RowKit.intOf iv).toNat)
    case atStart => exact ⟨0, rfl, by omega, But.refl _ _, fun h' v' q => SpH.but (But.of_below (S := fun _ => False) HB0.out) (fun _ _ => id) q⟩
    case round =>
    obtain ⟨k, rfl, hk, hbt, hpr⟩ := hrel
    have HBT := hidb hbt
    have HPR := hidb hpr
    have HK := hidb hk
    obtain ⟨b0, b1, b2, b3, b4, -⟩ := HBX.out.but hbt (fun e => by have := HS.out _ e; omega)
    have s0 : (0 : Int) ≤ (k : Int) := by omega
    clear hk hbt hpr b0 b1 b2 b3
    by_cases hkn : k < n
    · have s1 : (k : Int) < (n : Int) := by omega
      obtain ⟨a9, n9, c9, e1, -, r1⟩ := HPR.out _ _ HEL.out
      injection e1 with i1 i2 i3
      subst i1 i2 i3
      obtain r1 | ⟨g', e2, -, r2⟩ := r1
      · omega
      obtain rfl : g = g' := by simpa using e2
      obtain ⟨x0, x1, x2, x3, u, F, hu⟩ := r2 k hkn
      have hl9 : ∀ q, S q → q < wr.heap.size := fun q hq => by have := HS.out q hq; have := HB0.out.size; have := HBT.out.size; omega
      have CC : Hid (Calls Tryz.prog 9 #[.agg #[x0, x1, x2, x3, u]] wr fun e w5 => e = .returned (.tuple #[]) ∧ w5.cell? ⟨w.heap.size, 4, none⟩ = some (.slice (some ⟨g, 0, none⟩) n c) ∧ (∃ y0 y1 y2 y3 y4, Fv w5 g (k * 5) y0 y1 y2 y3 y4) ∧ Hid (But S W w5 ∧ ∀ h' v', SpH S w h' v' → SpH S w5 h' v')) := by
        refine hidb ((HIH.out x0 x1 x2 x3 u wr hl9 hu).mono ?_)
        rintro e w5 ⟨rfl, hb5, hp5⟩
        have hbb := HBT.out.trans hb5
        obtain ⟨a9, n9, c9, e1, -, r1⟩ := hp5 _ _ (HPR.out _ _ HEL.out)
        injection e1 with i1 i2 i3
        subst i1 i2 i3
        obtain r1 | ⟨g', e2, -, r2⟩ := r1
        · omega
        obtain rfl : g = g' := by simpa using e2
        obtain ⟨y0, y1, y2, y3, y4, F5, -⟩ := r2 k hkn
        exact ⟨rfl, (HBX.out.but hbb (fun e => by have := HS.out _ e; omega)).c4, ⟨y0, y1, y2, y3, y4, F5⟩, hidb ⟨hbb, fun h' v' q => hp5 _ _ (HPR.out _ _ q)⟩⟩
      have p0 := F.c0; have p1 := F.c1; have p2 := F.c2; have p3 := F.c3; have p4 := F.c4
      have HW : Hid (wrap64 ((k : Int) + 1) = ((k + 1 : Nat) : Int)) := hidb (by have := HN.out.1; unfold wrap64; omega)
      have HKN := hidb hkn
      clear e2 r2 hu F hl9 hkn
      go_wp2_with (go_at_call 9; refine CC.out.mono ?_; clear CC; rintro e w5 ⟨rfl, b45, ⟨y0, y1, y2, y3, y4, F5⟩, HQ⟩; have HF5 := hidb F5; obtain ⟨z0, z1, z2, z3, z4, fz0, fz1, fz2, fz3, fz4⟩ := F5)
      go_roundw
      case rel =>
        have hq := HQ.out
        refine ⟨k + 1, by rw [HW.out], by have := HKN.out; omega, ?_, fun h' v' q => SpH.set HF5.out _ _ _ _ _ _ (hq.2 h' v' q)⟩
        exact hq.1.trans ((set5o_but w5 g (k * 5) _ _ _ _ _).mono (fun q _ e => e ▸ HN.out.2))
      case measure =>
        rw [HW.out]
        simp only [RowKit.intOf, Int.toNat_natCast]
        have := HKN.out
        omega
    · have s1 : ¬ (k : Int) < (n : Int) := by omega
      clear hkn
      go_wp2_with fail
      go_end0
      exact ⟨rfl, (But.of_below HB0.out).trans HBT.out, HPR.out⟩
end Go.Proofs.YtpcpdehnppfbfaaGreat


