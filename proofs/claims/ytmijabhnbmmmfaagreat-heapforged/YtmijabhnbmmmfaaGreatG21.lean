import Derived.Test.YtmijabhnbmmmfaaGreatG20
/- A list laid: the walk. -/
namespace Go.Proofs.YtmijabhnbmmmfaaGreat
open Go.RowKit Go.Deep
attribute [local go_sem] store_float f64bits
attribute [local go_sem ↓] Go.wp_at_zero Go.wp_at_succ

theorem list_0 (lb c : Nat) (a : Option Addr) (w : World) : Calls Tryz.prog 60 #[.pointer (some ⟨lb, 0, none⟩), .slice a 0 c] w fun e w' => e = .returned (.int .u64 (ofW 4 0)) ∧ w' = w := by
  go_enter Tryz.func60, Tryz.ntmps60
  go_wp2_with (go_at_call 58; refine (hof_any 4 0 (by omega) _).mono ?_; rintro e w' ⟨rfl, rfl⟩)
  go_ret
  exact ⟨rfl, rfl⟩

set_option maxHeartbeats 1600000 in
set_option maxRecDepth 100000 in
theorem list_k (P : Nat → Prop) (w0 : World) (k n : Int) (f : Nat) (s : ByteArray) (a : Option Addr) (c : Nat) (kids : List Tr) (hin : (Tr.mk k n f s a c kids).In w0 0) (hon : (Tr.mk k n f s a c kids).On P) (hk : ∀ t, t ∈ kids → LayOk P w0 t) (hpos : 0 < kids.length)
    (lb ab p g ro r : Nat) (L : List ByteArray) (F : List Nat) (C : Nat) (cs : Nat → Int) (w : World) (h : LW P w0 w lb ab p g ro r L F C cs) (hr : 2 * kids.length + wAll kids ≤ r) (hL : L.length + 1 + cntAll kids ≤ 100000) (hml : kids.length ≤ 16777216) :
    Calls Tryz.prog 60 #[.pointer (some ⟨lb, 0, none⟩), .slice a kids.length c] w fun e w' => e = .returned (.int .u64 (ofW 6 p)) ∧
      ∃ F' cs', LW P w0 w' lb ab (p + (2 * kids.length + wAll kids)) g (ro + (2 * kids.length + wAll kids)) (r - (2 * kids.length + wAll kids)) (layAll kids (p + 2 * kids.length) L).2.2 F' C cs' ∧ (∀ k, k ∈ F' → k ∈ F ∨ w.heap.size ≤ k) ∧ Kept (lb :: g :: F) w w' ∧ Put cs cs' ro (pairs (layAll kids (p + 2 * kids.length) L).1 p ++ (layAll kids (p + 2 * kids.length) L).2.1) := by
  have HK := hidb hk
  have HIN := hidb hin
  have HON := hidb hon
  have HLW := hidb h
  obtain ⟨v, hq, hv⟩ := h.ls.quad
  have HV := hidb hv
  have HQ := hidb hq
  have hsm := h.small
  clear hk hin hon h hq hv
  have hlt := HQ.out.lt
  have hn0 : ¬ kids = [] := by intro e; rw [e] at hpos; simp at hpos
  go_enter Tryz.func60, Tryz.ntmps60
  go_wp2_with fail
  have e1 : ((2 * kids.length : Nat) : Int) = 2 * (kids.length : Int) := by omega
  have CUT := cut_any lb ab g p 0 ro (2 * kids.length) r v _ HQ.out HV.out (by omega) (by omega) (by omega) (by omega) (by omega)
  rw [e1] at CUT
  refine CUT.mono ?_
  rintro e w1 ⟨rfl, v1, hq1, hv1, hk1⟩
  have HL1 := hidb (HLW.out.cut (n := 2 * kids.length) (by rw [e1]; exact hq1) hv1 hk1 (by omega))
  have HKW := hidb (hk1.mono (G := lb :: g :: F) (fun k hk _ => by simp at hk; simp [hk]))
  clear CUT hq1 hv1 hk1 HQ HV e1
  go_wp2_with fail
  go_loopw [23] (fun iv wr => ∃ (m : Nat) (F' : List Nat) (cs' : Nat → Int), m ≤ kids.length ∧ iv = .int .i64 m ∧
    LW P w0 wr lb ab (p + 2 * kids.length + wAll (kids.take m)) g (ro + 2 * kids.length + wAll (kids.take m)) (r - 2 * kids.length - wAll (kids.take m)) (layAll (kids.take m) (p + 2 * kids.length) L).2.2 F' C cs' ∧ (∀ k, k ∈ F' → k ∈ F ∨ w.heap.size ≤ k) ∧ Kept (lb :: g :: F) w wr ∧ MidL kids p L cs cs' ro m) (fun iv _ => kids.length - (intOf iv).toNat)
  case atStart =>
    refine ⟨0, F, cs, by omega, rfl, ?_, fun k hk => Or.inl hk, HKW.out, ?_⟩
    · have := HL1.out
      simp only [List.take_zero, wAll, layAll, Nat.add_zero, Nat.sub_zero]
      exact this
    · refine ⟨fun j hj => rfl, fun i x hi => ?_, fun i hi => by omega, fun i x hi => ?_⟩
      · simp [layAll] at hi
      · simp [layAll] at hi
  case round =>
    obtain ⟨m, F', cs', hm, rfl, hlw, hF', hkw, hmid⟩ := hrel
    have HLM := hidb hlw
    have HFM := hidb hF'
    have HKM := hidb hkw
    have HMD := hidb hmid
    clear hlw hF' hkw hmid HL1 HKW
    by_cases hml' : m < kids.length
    · have hmb : (m : Int) < (kids.length : Int) := by omega
      obtain ⟨b', o, rfl, hat⟩ := kid_at HIN.out (by omega)
      obtain ⟨k', n', f', s', a', c', kids', hu', hin', x0, x1, x2, x3, x4⟩ := hat m hml'
      have hlb : b' < w0.heap.size := World.block_lt_of_cell? w0 _ x0
      have hPb : P b' := by have := HON.out; unfold Tr.On at this; exact this.1 (by omega) _ rfl
      have v0 := (HLM.out.below.cell hPb hlb).trans x0
      have v1 := (HLM.out.below.cell hPb hlb).trans x1
      have v2 := (HLM.out.below.cell hPb hlb).trans x2
      have v3 := (HLM.out.below.cell hPb hlb).trans x3
      have v4 := (HLM.out.below.cell hPb hlb).trans x4
      have IH := hidb (HK.out _ (List.mem_of_getElem? hu'))
      have HUU := hidb hu'
      clear hu' hin' hat x0 x1 x2 x3 x4
      have hmz : (0 : Int) ≤ (m : Int) := by omega
      have CALL := hidb (lay_stepL (wa := wr.alloc (.cells #[.int .i64 k', .int .i64 n', .float .f64 f', .string s', .slice a' kids'.length c'] 44)) IH.out HUU.out HLM.out HFM.out HKM.out HMD.out hr hL (below_new wr _))
      have ec : ((p + 2 * m + 2 : Nat) : Int) = (p : Int) + 2 * (m : Int) + 2 := by omega
      rw [ec] at CALL
      clear ec
      go_wp2_with fail
      refine CALL.out.mono ?_
      rintro e wz ⟨xw, F2, cs2, rfl, hlw2, hF2, hk2, hmid2, ⟨u, hcu⟩, hfu, ⟨u2, hcu2⟩, hfu2⟩
      have H1 := hidb hlw2
      have H2 := hidb hF2
      have H3 := hidb hk2
      have H4 := hidb hmid2
      clear hlw2 hF2 hk2 hmid2 CALL IH v0 v1 v2 v3 v4
      have hil : 2 * (m : Int) < ((2 * kids.length : Nat) : Int) := by omega
      have hil2 : 2 * (m : Int) + 1 < ((2 * kids.length : Nat) : Int) := by omega
      have hi0 : (0 : Int) ≤ 2 * (m : Int) := by omega
      have hi2 : (0 : Int) ≤ 2 * (m : Int) + 1 := by omega
      have hia : (2 * (m : Int)).toNat = 2 * m := by omega
      have hib : (2 * (m : Int) + 1).toNat = 2 * m + 1 := by omega
      go_wp2_with (go_at_call 58; refine (hof_any 6 ((p : Int) + 2 * (m : Int) + 2) (by omega) _).mono ?_; rintro e w' ⟨rfl, rfl⟩)
      exact ⟨⟨m + 1, F2, cs2, by omega, by go_num, H1.out, H2.out, H3.out, H4.out⟩, by simp [intOf]; omega⟩
    · have hmn : ¬ (m : Int) < (kids.length : Int) := by omega
      obtain rfl : m = kids.length := by omega
      have hcl : (2 : Int) * (kids.length : Int) - 1 < ((2 * kids.length : Nat) : Int) := by omega
      have hc0 : (0 : Int) ≤ 2 * (kids.length : Int) - 1 := by omega
      have hca : (2 * (kids.length : Int) - 1).toNat = 2 * kids.length - 1 := by omega
      have hcc := HLM.out.cells (ro + (2 * kids.length - 1)) (by have := HLM.out.room; omega)
      obtain ⟨q0, q1⟩ := hcc
      go_wp2_with fail
      refine (hof_any 4 0 (by omega) _).mono ?_
      rintro e w' ⟨rfl, rfl⟩
      go_wp2_with fail
      refine (hof_any 6 p (by omega) _).mono ?_
      rintro e w'' ⟨rfl, rfl⟩
      go_wp2
      go_ret
      have hd := HMD.out.done hpos
      have hlw := HLM.out.set (ro + (2 * kids.length - 1)) (ofW 4 0)
      rw [List.take_length] at hlw
      refine ⟨rfl, F', _, ?_, HFM.out, HKM.out.sets _ _ (by simp), hd⟩
      have e4 : p + (2 * kids.length + wAll kids) = p + 2 * kids.length + wAll kids := by omega
      have e5 : ro + (2 * kids.length + wAll kids) = ro + 2 * kids.length + wAll kids := by omega
      have e6 : r - (2 * kids.length + wAll kids) = r - 2 * kids.length - wAll kids := by omega
      rw [e4, e5, e6]
      exact hlw
end Go.Proofs.YtmijabhnbmmmfaaGreat


/- A term laid: by induction on the tree. -/
namespace Go.Proofs.YtmijabhnbmmmfaaGreat
open Go.RowKit Go.Deep
attribute [local go_sem] store_float f64bits
attribute [local go_sem ↓] Go.wp_at_zero Go.wp_at_succ

theorem good_kids {good : Tr → Bool} {kids : List Tr} (h : allAll good kids = true) {t : Tr} (ht : t ∈ kids) : allT good t = true := by
  induction kids with
  | nil => simp at ht
  | cons u r ih =>
    simp only [allAll, Bool.and_eq_true] at h
    rcases List.mem_cons.1 ht with rfl | ht
    · exact h.1
    · exact ih h.2 ht

theorem cell_drew (w : World) (o : Obj) (v : Value) (t : TypeId) : ((w.alloc o).drew.alloc (.cells #[v] t)).cell? ⟨w.heap.size + 1, 0, none⟩ = some v := by
  have h := World.cell?_alloc_new (w := (w.alloc o).drew) #[v] t 0
  have e : (w.alloc o).drew.heap.size = w.heap.size + 1 := by
    show (w.alloc o).heap.size = _
    simp
  rw [e] at h
  exact h

theorem kept_box {F : List Nat} {w w' : World} {o : Obj} (h : Kept F (w.alloc o) w') : Kept F w w' := (Kept.of_below (below_new w o)).trans h

theorem sub_box {F F' : List Nat} {w : World} {o : Obj} (h : ∀ k, k ∈ F' → k ∈ F ∨ (w.alloc o).heap.size ≤ k) : ∀ k, k ∈ F' → k ∈ F ∨ w.heap.size ≤ k := by
  intro k hk
  rcases h k hk with h | h
  · exact Or.inl h
  · right; simp at h; omega

set_option maxHeartbeats 1600000 in
set_option maxRecDepth 100000 in
theorem lay_box_2 (lb : Nat) (n : Int) (f : Nat) (s : ByteArray) (a : Option Addr) (l c : Nat) (V : Int) (R : World → Prop) (w : World)
    (B : Calls Tryz.prog 61 #[.pointer (some ⟨lb, 0, none⟩), .agg #[.int .i64 2, .int .i64 n, .float .f64 f, .string s, .slice a l c], .int .i64 1, .slice (some ⟨w.heap.size + 1, 0, none⟩) 1 1] ((w.alloc (.cells #[.int .i64 2, .int .i64 n, .float .f64 f, .string s, .slice a l c] 44)).drew.alloc (.cells #[.int .u64 (f : Int)] 51)) fun e w' => e = .returned (.int .u64 V) ∧ R w') :
    Calls Tryz.prog 43 #[.pointer (some ⟨lb, 0, none⟩), .agg #[.int .i64 2, .int .i64 n, .float .f64 f, .string s, .slice a l c]] w fun e w' => e = .returned (.int .u64 V) ∧ R w' := by
  have BOX := hidb B
  clear B
  go_enter Tryz.func43, Tryz.ntmps43
  go_wp2_with fail
  go_region_with (go_at_call 61; refine BOX.out.mono ?_; rintro e w1 ⟨rfl, q1⟩)
  all_goals
    have A1 := hidb q1
    clear q1 BOX
    go_wp2
    go_ret
    exact ⟨rfl, A1.out⟩

set_option maxHeartbeats 1600000 in
set_option maxRecDepth 100000 in
theorem lay_box_4 (lb : Nat) (n : Int) (f : Nat) (s : ByteArray) (a : Option Addr) (l c : Nat) (hn0 : 0 ≤ n) (hn1 : n ≤ 1099511627776) (V : Int) (R : World → Prop) (w : World)
    (B : Calls Tryz.prog 61 #[.pointer (some ⟨lb, 0, none⟩), .agg #[.int .i64 4, .int .i64 n, .float .f64 f, .string s, .slice a l c], .int .i64 1, .slice (some ⟨w.heap.size + 1, 0, none⟩) 1 1] ((w.alloc (.cells #[.int .i64 4, .int .i64 n, .float .f64 f, .string s, .slice a l c] 44)).alloc (.cells #[.int .u64 n] 51)) fun e w' => e = .returned (.int .u64 V) ∧ R w') :
    Calls Tryz.prog 43 #[.pointer (some ⟨lb, 0, none⟩), .agg #[.int .i64 4, .int .i64 n, .float .f64 f, .string s, .slice a l c]] w fun e w' => e = .returned (.int .u64 V) ∧ R w' := by
  have BOX := hidb B
  clear B
  go_enter Tryz.func43, Tryz.ntmps43
  go_wp2_with fail
  refine BOX.out.mono ?_
  rintro e w1 ⟨rfl, q1⟩
  have A1 := hidb q1
  clear q1 BOX
  go_wp2
  go_ret
  exact ⟨rfl, A1.out⟩

set_option maxHeartbeats 1600000 in
set_option maxRecDepth 100000 in
theorem lay_box_5 (lb : Nat) (n : Int) (f : Nat) (s : ByteArray) (a : Option Addr) (l c : Nat) (hn0 : 0 ≤ n) (hn1 : n ≤ 1099511627776) (V : Int) (R : World → Prop) (w : World)
    (B : Calls Tryz.prog 61 #[.pointer (some ⟨lb, 0, none⟩), .agg #[.int .i64 5, .int .i64 n, .float .f64 f, .string s, .slice a l c], .int .i64 l, .slice (some ⟨w.heap.size + 1, 0, none⟩) 1 1] ((w.alloc (.cells #[.int .i64 5, .int .i64 n, .float .f64 f, .string s, .slice a l c] 44)).alloc (.cells #[.int .u64 n] 51)) fun e w' => e = .returned (.int .u64 V) ∧ R w') :
    Calls Tryz.prog 43 #[.pointer (some ⟨lb, 0, none⟩), .agg #[.int .i64 5, .int .i64 n, .float .f64 f, .string s, .slice a l c]] w fun e w' => e = .returned (.int .u64 V) ∧ R w' := by
  have BOX := hidb B
  clear B
  go_enter Tryz.func43, Tryz.ntmps43
  go_wp2_with fail
  refine BOX.out.mono ?_
  rintro e w1 ⟨rfl, q1⟩
  have A1 := hidb q1
  clear q1 BOX
  go_wp2
  go_ret
  exact ⟨rfl, A1.out⟩

set_option maxHeartbeats 1600000 in
set_option maxRecDepth 100000 in
theorem lay_box_7 (lb : Nat) (n : Int) (f : Nat) (s : ByteArray) (a : Option Addr) (l c : Nat) (V : Int) (R : World → Prop) (w : World)
    (B : Calls Tryz.prog 61 #[.pointer (some ⟨lb, 0, none⟩), .agg #[.int .i64 7, .int .i64 n, .float .f64 f, .string s, .slice a l c], .int .i64 l, .slice none 0 0] (w.alloc (.cells #[.int .i64 7, .int .i64 n, .float .f64 f, .string s, .slice a l c] 44)) fun e w' => e = .returned (.int .u64 V) ∧ R w') :
    Calls Tryz.prog 43 #[.pointer (some ⟨lb, 0, none⟩), .agg #[.int .i64 7, .int .i64 n, .float .f64 f, .string s, .slice a l c]] w fun e w' => e = .returned (.int .u64 V) ∧ R w' := by
  have BOX := hidb B
  clear B
  go_enter Tryz.func43, Tryz.ntmps43
  go_wp2_with fail
  refine BOX.out.mono ?_
  rintro e w1 ⟨rfl, q1⟩
  have A1 := hidb q1
  clear q1 BOX
  go_wp2
  go_ret
  exact ⟨rfl, A1.out⟩

/-- A block with a word without a tag, as lay asks for it. -/
theorem box_in (P : Nat → Prop) (w0 : World) (k n : Int) (f : Nat) (s : ByteArray) (a : Option Addr) (c : Nat) (kids : List Tr) (hin : (Tr.mk k n f s a c kids).In w0 0) (hon : (Tr.mk k n f s a c kids).On P) (hk : ∀ t, t ∈ kids → LayOk P w0 t) (sz x : Int)
    (lb ab p g ro r : Nat) (L : List ByteArray) (F : List Nat) (C : Nat) (cs : Nat → Int) (w : World) (h : LW P w0 w lb ab p g ro r L F C cs) (hr : 2 + kids.length + wAll kids ≤ r) (hL : L.length + (1 + cntAll kids) ≤ 100000)
    (hfr : front k n f kids.length = [hdW k sz, x]) (h1 : ¬ k = 1) (h6 : ¬ k = 6) (h3 : ¬ k = 3) (h8 : ¬ k = 8) (wb : World) (hb : Below w.heap.size w wb) (hub : wb.cell? ⟨w.heap.size + 1, 0, none⟩ = some (.int .u64 x)) :
    Calls Tryz.prog 61 #[.pointer (some ⟨lb, 0, none⟩), .agg #[.int .i64 k, .int .i64 n, .float .f64 f, .string s, .slice a kids.length c], .int .i64 sz, .slice (some ⟨w.heap.size + 1, 0, none⟩) 1 1] wb fun e w' => e = .returned (.int .u64 (layT (.mk k n f s a c kids) p L).1) ∧
      ∃ F' cs', LW P w0 w' lb ab (p + wN (.mk k n f s a c kids)) g (ro + wN (.mk k n f s a c kids)) (r - wN (.mk k n f s a c kids)) (layT (.mk k n f s a c kids) p L).2.2 F' C cs' ∧ (∀ k, k ∈ F' → k ∈ F ∨ w.heap.size ≤ k) ∧ Kept (lb :: g :: F) w w' ∧ Put cs cs' ro (layT (.mk k n f s a c kids) p L).2.1 := by
  have hlw := h.keep hb
  have hgl := h.ls.gl
  have hsm := h.small
  obtain ⟨_, hq, _⟩ := h.ls.quad
  have hll := hq.lt
  refine (box_uk P w0 k n f s a c kids hin hon hk sz (w.heap.size + 1) x lb ab p g ro r L F C cs _ hlw hub (by omega) (by omega) hr (by omega) (by omega)).mono ?_
  rintro e w1 ⟨rfl, F', cs', q1, q2, q3, q4⟩
  have el : (front k n f kids.length).length = 2 := by rw [hfr]; rfl
  simp only [layT, wN, if_neg h1, if_neg h6, if_neg h3, if_neg h8, el]
  refine ⟨trivial, F', cs', q1, fun x hx => (q2 x hx).imp (fun h => h) (fun h => Nat.le_trans hb.size h), (Kept.of_below hb).trans q3, ?_⟩
  rw [hfr]
  exact q4

set_option maxHeartbeats 1600000 in
set_option maxRecDepth 100000 in
theorem lay_any (P : Nat → Prop) (w0 : World) : ∀ t : Tr, t.In w0 0 → t.On P → allT goodT t = true → LayOk P w0 t := by
  refine Tr.ind fun k n f s a c kids hk => ?_
  intro hin hon hgood
  have hkids : ∀ t, t ∈ kids → LayOk P w0 t := by
    intro t ht
    obtain ⟨j, hj⟩ := List.getElem?_of_mem ht
    refine hk t ht ?_ (by unfold Tr.On at hon; exact onAll_get hon.2 ht) ?_
    · unfold Tr.In at hin
      cases a with
      | none =>
        have h0 := hin.1.2.2.2.2.2.2 rfl
        have h1 := hin.1.2.2.2.2.1
        have : j < kids.length := by
          rcases Nat.lt_or_ge j kids.length with h | h
          · exact h
          · rw [List.getElem?_eq_none h] at hj; simp at hj
        omega
      | some ad => exact (inAll_get (hin.2 ad rfl).2 j t hj).2
    · simp only [allT, Bool.and_eq_true] at hgood
      exact good_kids hgood.2 ht
  have hg : goodT (.mk k n f s a c kids) = true := by simp only [allT, Bool.and_eq_true] at hgood; exact hgood.1
  have HIN := hidb hin
  have HKD := hidb hkids
  have HON := hidb hon
  clear hin hon hk hkids hgood
  intro lb ab p g ro r L F C cs w h hr hL
  have HLW := hidb h
  have hsm := h.small
  clear h
  show Calls Tryz.prog 43 #[.pointer (some ⟨lb, 0, none⟩), .agg #[.int .i64 k, .int .i64 n, .float .f64 f, .string s, .slice a kids.length c]] w _
  by_cases h1 : k = 1
  · subst h1
    simp only [layT, wN, if_true]
    clear hr hL hg
    go_enter Tryz.func43, Tryz.ntmps43
    go_wp2_with (go_at_call 58; refine (hof_any 1 n (by omega) _).mono ?_; rintro e w' ⟨rfl, rfl⟩)
    go_ret
    exact ⟨rfl, F, cs, HLW.out.keep (below_new w _), fun k hk => Or.inl hk, Kept.of_below (below_new w _), fun _ _ => rfl, fun i x hi => by simp at hi⟩
  by_cases h6 : k = 6
  · subst h6
    simp only [layT, wN, if_true, if_neg h1]
    clear hr hL hg
    go_enter Tryz.func43, Tryz.ntmps43
    go_wp2_with (go_at_call 58; refine (hof_any 3 n (by omega) _).mono ?_; rintro e w' ⟨rfl, rfl⟩)
    go_ret
    exact ⟨rfl, F, cs, HLW.out.keep (below_new w _), fun k hk => Or.inl hk, Kept.of_below (below_new w _), fun _ _ => rfl, fun i x hi => by simp at hi⟩
  by_cases h3 : k = 3
  · subst h3
    simp only [layT, wN, if_true, if_neg h1, if_neg h6]
    have hs : s.size ≤ 64 := by simp [goodT] at hg; exact hg.1
    have hl1 : L.length ≤ 100000 := by omega
    have AT := hidb (atom_any (s := s) (HLW.out.keep (below_new w (.cells #[.int .i64 3, .int .i64 n, .float .f64 f, .string s, .slice a kids.length c] 44))).ls hs hl1)
    clear hr hL hg hs hl1
    go_enter Tryz.func43, Tryz.ntmps43
    go_wp2_with fail
    refine AT.out.mono ?_
    rintro e w1 ⟨rfl, F', hls, hF, hk⟩
    have A1 := hidb hls
    have A2 := hidb hF
    have A3 := hidb hk
    clear hls hF hk AT
    go_wp2
    go_ret
    have hlw := HLW.out.keep (below_new w (.cells #[.int .i64 3, .int .i64 n, .float .f64 f, .string s, .slice a kids.length c] 44))
    have hgF : g ∉ lb :: F := by simp only [List.mem_cons, not_or]; exact ⟨fun e => hlw.ls.ne e.symm, hlw.ls.ng⟩
    refine ⟨rfl, F', cs, ⟨A1.out, hlw.cells.at (A3.out.block g hlw.ls.gl hgF), hlw.below.kept A3.out ?_, hlw.hl, hlw.hg, ?_, hlw.pl, hlw.room, hlw.small⟩, sub_box A2.out, kept_box (A3.out.mono ?_), fun _ _ => rfl, fun i x hi => by simp at hi⟩
    · intro x hx
      rcases List.mem_cons.1 hx with rfl | hx
      · exact hlw.hl
      · exact hlw.hF x hx
    · intro x hx
      rcases A2.out x hx with h | h
      · exact hlw.hF x h
      · intro hp
        have h1 := hlw.pl x hp
        have h2 := hlw.below.size
        omega
    · intro x hx _
      rcases List.mem_cons.1 hx with rfl | hx
      · simp
      · simp [hx]
  by_cases h8 : k = 8
  · subst h8
    by_cases h0 : kids.length = 0
    · have e0 : kids = [] := List.length_eq_zero_iff.1 h0
      subst e0
      simp only [layT, wN, if_neg h1, if_neg h6, if_neg h3, if_true, List.length_nil, layAll, wAll, pairs]
      clear hr hL hg h0
      go_enter Tryz.func43, Tryz.ntmps43
      go_wp2_with (go_at_call 60; refine (list_0 lb c a _).mono ?_; rintro e w' ⟨rfl, rfl⟩)
      go_ret
      exact ⟨rfl, F, cs, HLW.out.keep (below_new w _), fun k hk => Or.inl hk, Kept.of_below (below_new w _), fun _ _ => rfl, fun i x hi => by simp at hi⟩
    · have hr' : 2 * kids.length + wAll kids ≤ r := by simpa only [wN, if_neg h1, if_neg h6, if_neg h3, if_true] using hr
      have LI := hidb (list_k P w0 8 n f s a c kids HIN.out HON.out HKD.out (by omega) lb ab p g ro r L F C cs _ (HLW.out.keep (below_new w (.cells #[.int .i64 8, .int .i64 n, .float .f64 f, .string s, .slice a kids.length c] 44))) hr' (by simp only [cntT] at hL; omega) (by omega))
      simp only [layT, wN, if_neg h1, if_neg h6, if_neg h3, if_true, if_neg h0]
      clear hr hL hg hr' h0
      go_enter Tryz.func43, Tryz.ntmps43
      go_wp2_with fail
      refine LI.out.mono ?_
      rintro e w1 ⟨rfl, F', cs', q1, q2, q3, q4⟩
      have A1 := hidb q1
      have A2 := hidb q2
      have A3 := hidb q3
      have A4 := hidb q4
      clear q1 q2 q3 q4 LI
      go_wp2
      go_ret
      exact ⟨rfl, F', cs', A1.out, sub_box A2.out, kept_box A3.out, A4.out⟩
  by_cases h2 : k = 2
  · subst h2
    have e0 : kids = [] := by
      simp [goodT] at hg
      exact List.length_eq_zero_iff.1 (rightB_cases0 hg).2.1
    subst e0
    refine lay_box_2 lb n f s a _ c _ _ w ?_
    exact box_in P w0 2 n f s a c [] HIN.out HON.out HKD.out 1 (f : Int) lb ab p g ro r L F C cs w HLW.out (by simpa [wN, front, wAll] using hr) (by simpa [cntT, cntAll] using hL) (by simp [front]) h1 h6 h3 h8 _ ((below_new w _).drew.alloc (by show w.heap.size ≤ (w.alloc _).heap.size; simp) _) (cell_drew _ _ _ _)
  by_cases h4 : k = 4
  · subst h4
    have e0 : kids = [] := by simp [goodT] at hg; exact hg.2.2
    subst e0
    have hn : 0 ≤ n ∧ n ≤ 1099511627776 := by simp [goodT] at hg; exact hg.1
    refine lay_box_4 lb n f s a _ c hn.1 hn.2 _ _ w ?_
    exact box_in P w0 4 n f s a c [] HIN.out HON.out HKD.out 1 n lb ab p g ro r L F C cs w HLW.out (by simpa [wN, front, wAll] using hr) (by simpa [cntT, cntAll] using hL) (by simp [front]) h1 h6 h3 h8 _ ((below_new w _).alloc (by simp) _) (by simp)
  by_cases h5 : k = 5
  · subst h5
    have hn : 0 ≤ n ∧ n ≤ 16384 := by simp [goodT] at hg; exact hg.1
    refine lay_box_5 lb n f s a _ c hn.1 (by omega) _ _ w ?_
    exact box_in P w0 5 n f s a c kids HIN.out HON.out HKD.out kids.length n lb ab p g ro r L F C cs w HLW.out (by simpa [wN, front] using hr) (by simpa [cntT] using hL) (by simp [front]) h1 h6 h3 h8 _ ((below_new w _).alloc (by simp) _) (by simp)
  have h7 : k = 7 := by
    simp only [goodT, h1, h2, h3, h4, h5, h6, h8, or_self, if_false] at hg
    by_cases h : k = 7
    · exact h
    · simp [h] at hg
  subst h7
  refine lay_box_7 lb n f s a _ c _ _ w ?_
  have hb := below_new w (.cells #[.int .i64 7, .int .i64 n, .float .f64 f, .string s, .slice a kids.length c] 44)
  have hlw := HLW.out.keep hb
  have hr' : 1 + kids.length + wAll kids ≤ r := by simpa [wN, front] using hr
  have hL' : L.length + 1 + cntAll kids ≤ 100000 := by simp only [cntT] at hL; omega
  by_cases h0 : kids = []
  · subst h0
    refine (box_t0 P w0 7 n f s a c rfl lb ab p g ro r L F C cs _ hlw (by simpa [wAll] using hr')).mono ?_
    rintro e w1 ⟨rfl, cs', q1, q2, q3⟩
    simp only [layT, wN, front, layAll, wAll, if_neg h1, if_neg h6, if_neg h3, if_neg h8, if_neg h2, if_neg h4, if_neg h5]
    exact ⟨trivial, F, cs', by simpa using q1, fun k hk => Or.inl hk, (Kept.of_below hb).trans q2, by simpa using q3⟩
  · refine (box_tk P w0 7 n f s a c kids HIN.out HON.out HKD.out rfl h0 lb ab p g ro r L F C cs _ hlw hr' hL' (by omega)).mono ?_
    rintro e w1 ⟨rfl, F', cs', q1, q2, q3, q4⟩
    simp only [layT, wN, front, if_neg h1, if_neg h6, if_neg h3, if_neg h8, if_neg h2, if_neg h4, if_neg h5, List.length_cons, List.length_nil]
    exact ⟨trivial, F', cs', q1, sub_box q2, kept_box q3, q4⟩
end Go.Proofs.YtmijabhnbmmmfaaGreat


