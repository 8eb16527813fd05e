import Derived.Test.YtmijabhnbmmmfaaGreatG20
import Derived.Lib.AppendZerosOnto
import Derived.Lib.AppendZeros
import Derived.Laws.Append
import Derived.Laws.AppendOwn
import Derived.Lib.SliceRun
import Derived.Lib.Walk
/- A term laid: by induction on the tree. -/
namespace Go.Proofs.YtmijabhnbmmmfaaGreat
open Go.RowKit Go.Deep
attribute [local go_sem] store_float f64bits
attribute [local go_sem ↓] Go.wp_at_zero Go.wp_at_succ

theorem good_kids {good : Tr → Bool} {kids : List Tr} (h : allAll good kids = true) {t : Tr} (ht : t ∈ kids) : allT good t = true := by
  induction kids with
  | nil => simp at ht
  | cons u r ih =>
    simp only [allAll, Bool.and_eq_true] at h
    rcases List.mem_cons.1 ht with rfl | ht
    · exact h.1
    · exact ih h.2 ht

theorem cell_drew (w : World) (o : Obj) (v : Value) (t : TypeId) : ((w.alloc o).drew.alloc (.cells #[v] t)).cell? ⟨w.heap.size + 1, 0, none⟩ = some v := by
  have h := World.cell?_alloc_new (w := (w.alloc o).drew) #[v] t 0
  have e : (w.alloc o).drew.heap.size = w.heap.size + 1 := by
    show (w.alloc o).heap.size = _
    simp
  rw [e] at h
  exact h

theorem kept_box {F : List Nat} {w w' : World} {o : Obj} (h : Kept F (w.alloc o) w') : Kept F w w' := (Kept.of_below (below_new w o)).trans h

theorem sub_box {F F' : List Nat} {w : World} {o : Obj} (h : ∀ k, k ∈ F' → k ∈ F ∨ (w.alloc o).heap.size ≤ k) : ∀ k, k ∈ F' → k ∈ F ∨ w.heap.size ≤ k := by
  intro k hk
  rcases h k hk with h | h
  · exact Or.inl h
  · right; simp at h; omega

set_option maxHeartbeats 1600000 in
set_option maxRecDepth 100000 in
theorem lay_box_2 (lb : Nat) (n : Int) (f : Nat) (s : ByteArray) (a : Option Addr) (l c : Nat) (V : Int) (R : World → Prop) (w : World)
    (B : Calls Tryz.prog 61 #[.pointer (some ⟨lb, 0, none⟩), .agg #[.int .i64 2, .int .i64 n, .float .f64 f, .string s, .slice a l c], .int .i64 1, .slice (some ⟨w.heap.size + 1, 0, none⟩) 1 1] ((w.alloc (.cells #[.int .i64 2, .int .i64 n, .float .f64 f, .string s, .slice a l c] 44)).drew.alloc (.cells #[.int .u64 (f : Int)] 51)) fun e w' => e = .returned (.int .u64 V) ∧ R w') :
    Calls Tryz.prog 43 #[.pointer (some ⟨lb, 0, none⟩), .agg #[.int .i64 2, .int .i64 n, .float .f64 f, .string s, .slice a l c]] w fun e w' => e = .returned (.int .u64 V) ∧ R w' := by
  have BOX := hidb B
  clear B
  go_enter Tryz.func43, Tryz.ntmps43
  go_wp2_with fail
  go_region_with (go_at_call 61; refine BOX.out.mono ?_; rintro e w1 ⟨rfl, q1⟩)
  all_goals
    have A1 := hidb q1
    clear q1 BOX
    go_wp2
    go_ret
    exact ⟨rfl, A1.out⟩

set_option maxHeartbeats 1600000 in
set_option maxRecDepth 100000 in
theorem lay_box_4 (lb : Nat) (n : Int) (f : Nat) (s : ByteArray) (a : Option Addr) (l c : Nat) (hn0 : 0 ≤ n) (hn1 : n ≤ 1099511627776) (V : Int) (R : World → Prop) (w : World)
    (B : Calls Tryz.prog 61 #[.pointer (some ⟨lb, 0, none⟩), .agg #[.int .i64 4, .int .i64 n, .float .f64 f, .string s, .slice a l c], .int .i64 1, .slice (some ⟨w.heap.size + 1, 0, none⟩) 1 1] ((w.alloc (.cells #[.int .i64 4, .int .i64 n, .float .f64 f, .string s, .slice a l c] 44)).alloc (.cells #[.int .u64 n] 51)) fun e w' => e = .returned (.int .u64 V) ∧ R w') :
    Calls Tryz.prog 43 #[.pointer (some ⟨lb, 0, none⟩), .agg #[.int .i64 4, .int .i64 n, .float .f64 f, .string s, .slice a l c]] w fun e w' => e = .returned (.int .u64 V) ∧ R w' := by
  have BOX := hidb B
  clear B
  go_enter Tryz.func43, Tryz.ntmps43
  go_wp2_with fail
  refine BOX.out.mono ?_
  rintro e w1 ⟨rfl, q1⟩
  have A1 := hidb q1
  clear q1 BOX
  go_wp2
  go_ret
  exact ⟨rfl, A1.out⟩

set_option maxHeartbeats 1600000 in
set_option maxRecDepth 100000 in
theorem lay_box_5 (lb : Nat) (n : Int) (f : Nat) (s : ByteArray) (a : Option Addr) (l c : Nat) (hn0 : 0 ≤ n) (hn1 : n ≤ 1099511627776) (V : Int) (R : World → Prop) (w : World)
    (B : Calls Tryz.prog 61 #[.pointer (some ⟨lb, 0, none⟩), .agg #[.int .i64 5, .int .i64 n, .float .f64 f, .string s, .slice a l c], .int .i64 l, .slice (some ⟨w.heap.size + 1, 0, none⟩) 1 1] ((w.alloc (.cells #[.int .i64 5, .int .i64 n, .float .f64 f, .string s, .slice a l c] 44)).alloc (.cells #[.int .u64 n] 51)) fun e w' => e = .returned (.int .u64 V) ∧ R w') :
    Calls Tryz.prog 43 #[.pointer (some ⟨lb, 0, none⟩), .agg #[.int .i64 5, .int .i64 n, .float .f64 f, .string s, .slice a l c]] w fun e w' => e = .returned (.int .u64 V) ∧ R w' := by
  have BOX := hidb B
  clear B
  go_enter Tryz.func43, Tryz.ntmps43
  go_wp2_with fail
  refine BOX.out.mono ?_
  rintro e w1 ⟨rfl, q1⟩
  have A1 := hidb q1
  clear q1 BOX
  go_wp2
  go_ret
  exact ⟨rfl, A1.out⟩

set_option maxHeartbeats 1600000 in
set_option maxRecDepth 100000 in
theorem lay_box_7 (lb : Nat) (n : Int) (f : Nat) (s : ByteArray) (a : Option Addr) (l c : Nat) (V : Int) (R : World → Prop) (w : World)
    (B : Calls Tryz.prog 61 #[.pointer (some ⟨lb, 0, none⟩), .agg #[.int .i64 7, .int .i64 n, .float .f64 f, .string s, .slice a l c], .int .i64 l, .slice none 0 0] (w.alloc (.cells #[.int .i64 7, .int .i64 n, .float .f64 f, .string s, .slice a l c] 44)) fun e w' => e = .returned (.int .u64 V) ∧ R w') :
    Calls Tryz.prog 43 #[.pointer (some ⟨lb, 0, none⟩), .agg #[.int .i64 7, .int .i64 n, .float .f64 f, .string s, .slice a l c]] w fun e w' => e = .returned (.int .u64 V) ∧ R w' := by
  have BOX := hidb B
  clear B
  go_enter Tryz.func43, Tryz.ntmps43
  go_wp2_with fail
  refine BOX.out.mono ?_
  rintro e w1 ⟨rfl, q1⟩
  have A1 := hidb q1
  clear q1 BOX
  go_wp2
  go_ret
  exact ⟨rfl, A1.out⟩

/-- A block with a word without a tag, as lay asks for it. -/
theorem box_in (P : Nat → Prop) (w0 : World) (k n : Int) (f : Nat) (s : ByteArray) (a : Option Addr) (c : Nat) (kids : List Tr) (hin : (Tr.mk k n f s a c kids).In w0 0) (hon : (Tr.mk k n f s a c kids).On P) (hk : ∀ t, t ∈ kids → LayOk P w0 t) (sz x : Int)
    (lb ab p g ro r : Nat) (L : List ByteArray) (F : List Nat) (C : Nat) (cs : Nat → Int) (w : World) (h : LW P w0 w lb ab p g ro r L F C cs) (hr : 2 + kids.length + wAll kids ≤ r) (hL : L.length + (1 + cntAll kids) ≤ 100000)
    (hfr : front k n f kids.length = [hdW k sz, x]) (h1 : ¬ k = 1) (h6 : ¬ k = 6) (h3 : ¬ k = 3) (h8 : ¬ k = 8) (wb : World) (hb : Below w.heap.size w wb) (hub : wb.cell? ⟨w.heap.size + 1, 0, none⟩ = some (.int .u64 x)) :
    Calls Tryz.prog 61 #[.pointer (some ⟨lb, 0, none⟩), .agg #[.int .i64 k, .int .i64 n, .float .f64 f, .string s, .slice a kids.length c], .int .i64 sz, .slice (some ⟨w.heap.size + 1, 0, none⟩) 1 1] wb fun e w' => e = .returned (.int .u64 (layT (.mk k n f s a c kids) p L).1) ∧
      ∃ F' cs', LW P w0 w' lb ab (p + wN (.mk k n f s a c kids)) g (ro + wN (.mk k n f s a c kids)) (r - wN (.mk k n f s a c kids)) (layT (.mk k n f s a c kids) p L).2.2 F' C cs' ∧ (∀ k, k ∈ F' → k ∈ F ∨ w.heap.size ≤ k) ∧ Kept (lb :: g :: F) w w' ∧ Put cs cs' ro (layT (.mk k n f s a c kids) p L).2.1 := by
  have hlw := h.keep hb
  have hgl := h.ls.gl
  have hsm := h.small
  obtain ⟨_, hq, _⟩ := h.ls.quad
  have hll := hq.lt
  refine (box_uk P w0 k n f s a c kids hin hon hk sz (w.heap.size + 1) x lb ab p g ro r L F C cs _ hlw hub (by omega) (by omega) hr (by omega) (by omega)).mono ?_
  rintro e w1 ⟨rfl, F', cs', q1, q2, q3, q4⟩
  have el : (front k n f kids.length).length = 2 := by rw [hfr]; rfl
  simp only [layT, wN, if_neg h1, if_neg h6, if_neg h3, if_neg h8, el]
  refine ⟨trivial, F', cs', q1, fun x hx => (q2 x hx).imp (fun h => h) (fun h => Nat.le_trans hb.size h), (Kept.of_below hb).trans q3, ?_⟩
  rw [hfr]
  exact q4

set_option maxHeartbeats 1600000 in
set_option maxRecDepth 100000 in
theorem lay_any (P : Nat → Prop) (w0 : World) : ∀ t : Tr, t.In w0 0 → t.On P → allT goodT t = true → LayOk P w0 t := by
  refine Tr.ind fun k n f s a c kids hk => ?_
  intro hin hon hgood
  have hkids : ∀ t, t ∈ kids → LayOk P w0 t := by
    intro t ht
    obtain ⟨j, hj⟩ := List.getElem?_of_mem ht
    refine hk t ht ?_ (by unfold Tr.On at hon; exact onAll_get hon.2 ht) ?_
    · unfold Tr.In at hin
      cases a with
      | none =>
        have h0 := hin.1.2.2.2.2.2.2 rfl
        have h1 := hin.1.2.2.2.2.1
        have : j < kids.length := by
          rcases Nat.lt_or_ge j kids.length with h | h
          · exact h
          · rw [List.getElem?_eq_none h] at hj; simp at hj
        omega
      | some ad => exact (inAll_get (hin.2 ad rfl).2 j t hj).2
    · simp only [allT, Bool.and_eq_true] at hgood
      exact good_kids hgood.2 ht
  have hg : goodT (.mk k n f s a c kids) = true := by simp only [allT, Bool.and_eq_true] at hgood; exact hgood.1
  have HIN := hidb hin
  have HKD := hidb hkids
  have HON := hidb hon
  clear hin hon hk hkids hgood
  intro lb ab p g ro r L F C cs w h hr hL
  have HLW := hidb h
  have hsm := h.small
  clear h
  show Calls Tryz.prog 43 #[.pointer (some ⟨lb, 0, none⟩), .agg #[.int .i64 k, .int .i64 n, .float .f64 f, .string s, .slice a kids.length c]] w _
  by_cases h1 : k = 1
  · subst h1
    simp only [layT, wN, if_true]
    clear hr hL hg
    go_enter Tryz.func43, Tryz.ntmps43
    go_wp2_with (go_at_call 58; refine (hof_any 1 n (by omega) _).mono ?_; rintro e w' ⟨rfl, rfl⟩)
    go_ret
    exact ⟨rfl, F, cs, HLW.out.keep (below_new w _), fun k hk => Or.inl hk, Kept.of_below (below_new w _), fun _ _ => rfl, fun i x hi => by simp at hi⟩
  by_cases h6 : k = 6
  · subst h6
    simp only [layT, wN, if_true, if_neg h1]
    clear hr hL hg
    go_enter Tryz.func43, Tryz.ntmps43
    go_wp2_with (go_at_call 58; refine (hof_any 3 n (by omega) _).mono ?_; rintro e w' ⟨rfl, rfl⟩)
    go_ret
    exact ⟨rfl, F, cs, HLW.out.keep (below_new w _), fun k hk => Or.inl hk, Kept.of_below (below_new w _), fun _ _ => rfl, fun i x hi => by simp at hi⟩
  by_cases h3 : k = 3
  · subst h3
    simp only [layT, wN, if_true, if_neg h1, if_neg h6]
    have hs : s.size ≤ 64 := by simp [goodT] at hg; exact hg.1
    have hl1 : L.length ≤ 100000 := by omega
    have AT := hidb (atom_any (s := s) (HLW.out.keep (below_new w (.cells #[.int .i64 3, .int .i64 n, .float .f64 f, .string s, .slice a kids.length c] 44))).ls hs hl1)
    clear hr hL hg hs hl1
    go_enter Tryz.func43, Tryz.ntmps43
    go_wp2_with fail
    refine AT.out.mono ?_
    rintro e w1 ⟨rfl, F', hls, hF, hk⟩
    have A1 := hidb hls
    have A2 := hidb hF
    have A3 := hidb hk
    clear hls hF hk AT
    go_wp2
    go_ret
    have hlw := HLW.out.keep (below_new w (.cells #[.int .i64 3, .int .i64 n, .float .f64 f, .string s, .slice a kids.length c] 44))
    have hgF : g ∉ lb :: F := by simp only [List.mem_cons, not_or]; exact ⟨fun e => hlw.ls.ne e.symm, hlw.ls.ng⟩
    refine ⟨rfl, F', cs, ⟨A1.out, hlw.cells.at (A3.out.block g hlw.ls.gl hgF), hlw.below.kept A3.out ?_, hlw.hl, hlw.hg, ?_, hlw.pl, hlw.room, hlw.small⟩, sub_box A2.out, kept_box (A3.out.mono ?_), fun _ _ => rfl, fun i x hi => by simp at hi⟩
    · intro x hx
      rcases List.mem_cons.1 hx with rfl | hx
      · exact hlw.hl
      · exact hlw.hF x hx
    · intro x hx
      rcases A2.out x hx with h | h
      · exact hlw.hF x h
      · intro hp
        have h1 := hlw.pl x hp
        have h2 := hlw.below.size
        omega
    · intro x hx _
      rcases List.mem_cons.1 hx with rfl | hx
      · simp
      · simp [hx]
  by_cases h8 : k = 8
  · subst h8
    by_cases h0 : kids.length = 0
    · have e0 : kids = [] := List.length_eq_zero_iff.1 h0
      subst e0
      simp only [layT, wN, if_neg h1, if_neg h6, if_neg h3, if_true, List.length_nil, layAll, wAll, pairs]
      clear hr hL hg h0
      go_enter Tryz.func43, Tryz.ntmps43
      go_wp2_with (go_at_call 60; refine (list_0 lb c a _).mono ?_; rintro e w' ⟨rfl, rfl⟩)
      go_ret
      exact ⟨rfl, F, cs, HLW.out.keep (below_new w _), fun k hk => Or.inl hk, Kept.of_below (below_new w _), fun _ _ => rfl, fun i x hi => by simp at hi⟩
    · have hr' : 2 * kids.length + wAll kids ≤ r := by simpa only [wN, if_neg h1, if_neg h6, if_neg h3, if_true] using hr
      have LI := hidb (list_k P w0 8 n f s a c kids HIN.out HON.out HKD.out (by omega) lb ab p g ro r L F C cs _ (HLW.out.keep (below_new w (.cells #[.int .i64 8, .int .i64 n, .float .f64 f, .string s, .slice a kids.length c] 44))) hr' (by simp only [cntT] at hL; omega) (by omega))
      simp only [layT, wN, if_neg h1, if_neg h6, if_neg h3, if_true, if_neg h0]
      clear hr hL hg hr' h0
      go_enter Tryz.func43, Tryz.ntmps43
      go_wp2_with fail
      refine LI.out.mono ?_
      rintro e w1 ⟨rfl, F', cs', q1, q2, q3, q4⟩
      have A1 := hidb q1
      have A2 := hidb q2
      have A3 := hidb q3
      have A4 := hidb q4
      clear q1 q2 q3 q4 LI
      go_wp2
      go_ret
      exact ⟨rfl, F', cs', A1.out, sub_box A2.out, kept_box A3.out, A4.out⟩
  by_cases h2 : k = 2
  · subst h2
    have e0 : kids = [] := by
      simp [goodT] at hg
      exact List.length_eq_zero_iff.1 (rightB_cases0 hg).2.1
    subst e0
    refine lay_box_2 lb n f s a _ c _ _ w ?_
    exact box_in P w0 2 n f s a c [] HIN.out HON.out HKD.out 1 (f : Int) lb ab p g ro r L F C cs w HLW.out (by simpa [wN, front, wAll] using hr) (by simpa [cntT, cntAll] using hL) (by simp [front]) h1 h6 h3 h8 _ ((below_new w _).drew.alloc (by show w.heap.size ≤ (w.alloc _).heap.size; simp) _) (cell_drew _ _ _ _)
  by_cases h4 : k = 4
  · subst h4
    have e0 : kids = [] := by simp [goodT] at hg; exact hg.2.2
    subst e0
    have hn : 0 ≤ n ∧ n ≤ 1099511627776 := by simp [goodT] at hg; exact hg.1
    refine lay_box_4 lb n f s a _ c hn.1 hn.2 _ _ w ?_
    exact box_in P w0 4 n f s a c [] HIN.out HON.out HKD.out 1 n lb ab p g ro r L F C cs w HLW.out (by simpa [wN, front, wAll] using hr) (by simpa [cntT, cntAll] using hL) (by simp [front]) h1 h6 h3 h8 _ ((below_new w _).alloc (by simp) _) (by simp)
  by_cases h5 : k = 5
  · subst h5
    have hn : 0 ≤ n ∧ n ≤ 16384 := by simp [goodT] at hg; exact hg.1
    refine lay_box_5 lb n f s a _ c hn.1 (by omega) _ _ w ?_
    exact box_in P w0 5 n f s a c kids HIN.out HON.out HKD.out kids.length n lb ab p g ro r L F C cs w HLW.out (by simpa [wN, front] using hr) (by simpa [cntT] using hL) (by simp [front]) h1 h6 h3 h8 _ ((below_new w _).alloc (by simp) _) (by simp)
  have h7 : k = 7 := by
    simp only [goodT, h1, h2, h3, h4, h5, h6, h8, or_self, if_false] at hg
    by_cases h : k = 7
    · exact h
    · simp [h] at hg
  subst h7
  refine lay_box_7 lb n f s a _ c _ _ w ?_
  have hb := below_new w (.cells #[.int .i64 7, .int .i64 n, .float .f64 f, .string s, .slice a kids.length c] 44)
  have hlw := HLW.out.keep hb
  have hr' : 1 + kids.length + wAll kids ≤ r := by simpa [wN, front] using hr
  have hL' : L.length + 1 + cntAll kids ≤ 100000 := by simp only [cntT] at hL; omega
  by_cases h0 : kids = []
  · subst h0
    refine (box_t0 P w0 7 n f s a c rfl lb ab p g ro r L F C cs _ hlw (by simpa [wAll] using hr')).mono ?_
    rintro e w1 ⟨rfl, cs', q1, q2, q3⟩
    simp only [layT, wN, front, layAll, wAll, if_neg h1, if_neg h6, if_neg h3, if_neg h8, if_neg h2, if_neg h4, if_neg h5]
    exact ⟨trivial, F, cs', by simpa using q1, fun k hk => Or.inl hk, (Kept.of_below hb).trans q2, by simpa using q3⟩
  · refine (box_tk P w0 7 n f s a c kids HIN.out HON.out HKD.out rfl h0 lb ab p g ro r L F C cs _ hlw hr' hL' (by omega)).mono ?_
    rintro e w1 ⟨rfl, F', cs', q1, q2, q3, q4⟩
    simp only [layT, wN, front, if_neg h1, if_neg h6, if_neg h3, if_neg h8, if_neg h2, if_neg h4, if_neg h5, List.length_cons, List.length_nil]
    exact ⟨trivial, F', cs', q1, sub_box q2, kept_box q3, q4⟩
end Go.Proofs.YtmijabhnbmmmfaaGreat


/- The words that are measured are those that are laid; Grow; the table. -/
namespace Go.Proofs.YtmijabhnbmmmfaaGreat
open Go.RowKit Go.Deep
attribute [local go_sem] store_float f64bits
attribute [local go_sem ↓] Go.wp_at_zero Go.wp_at_succ

theorem meas_words : ∀ (t : Tr), allT goodT t = true → ∀ d most : Int, 0 ≤ meas t d most → meas t d most = wN t := by
  refine Tr.ind fun k n f s a c kids hk hg d most hm => ?_
  simp only [allT, Bool.and_eq_true] at hg
  obtain ⟨hg1, hg2⟩ := hg
  have hall : ∀ (l : List Tr), (∀ t, t ∈ l → t ∈ kids) → ∀ d most n : Int, 0 ≤ measAll l d most n → measAll l d most n = n + wAll l := by
    intro l
    induction l with
    | nil => intro _ d most n _; simp [measAll, wAll]
    | cons t r ih =>
      intro hl d most n h
      simp only [measAll] at h ⊢
      by_cases hn : meas t d (most - n) < 0
      · rw [if_pos hn] at h; omega
      · rw [if_neg hn] at h ⊢
        have e := hk t (hl t (List.mem_cons_self ..)) (good_kids hg2 (hl t (List.mem_cons_self ..))) d (most - n) (by omega)
        rw [ih (fun u hu => hl u (List.mem_cons_of_mem _ hu)) _ _ _ h, e]
        simp only [wAll]
        omega
  simp only [meas] at hm ⊢
  by_cases hc : d < 1 ∨ own k kids.length > most
  · rw [if_pos hc] at hm; omega
  rw [if_neg hc] at hm ⊢
  rw [hall kids (fun t h => h) _ _ _ hm]
  simp only [wN]
  by_cases h1 : k = 1
  · have e0 : kids = [] := by
      subst h1; simp [goodT] at hg1; exact List.length_eq_zero_iff.1 (rightB_cases0 hg1).2.1
    simp [h1, e0, own, wAll]
  by_cases h6 : k = 6
  · have e0 : kids = [] := by subst h6; simp [goodT] at hg1; exact hg1.2.2
    simp [h6, e0, own, wAll]
  by_cases h3 : k = 3
  · have e0 : kids = [] := by subst h3; simp [goodT] at hg1; exact hg1.2.2
    simp [h3, e0, own, wAll]
  by_cases h8 : k = 8
  · subst h8; simp [own]
  by_cases h2 : k = 2
  · have e0 : kids = [] := by
      subst h2; simp [goodT] at hg1; exact List.length_eq_zero_iff.1 (rightB_cases0 hg1).2.1
    subst h2; subst e0; simp [own, wAll, front]
  by_cases h4 : k = 4
  · have e0 : kids = [] := by subst h4; simp [goodT] at hg1; exact hg1.2.2
    subst h4; subst e0; simp [own, wAll, front]
  by_cases h5 : k = 5
  · subst h5; simp [own, front]
  simp only [own, front, h1, h2, h3, h4, h5, h6, h8, if_false, or_self, List.length_cons, List.length_nil]
  omega

/-- A right term: what it is measured at is what is laid. -/
theorem words_right {t : Tr} (h : errT t = 0) : allT goodT t = true ∧ wordsT t = wN t ∧ wN t ≤ 65536 := by
  have h' := h
  unfold errT at h'
  by_cases hm : meas t 200 65536 < 0
  · rw [if_pos hm] at h'; omega
  rw [if_neg hm] at h'
  have hg : allT goodT t = true := by
    cases hq : allT goodT t with
    | true => rfl
    | false => rw [hq] at h'; simp at h'
  have e := meas_words t hg 200 65536 (by omega)
  refine ⟨hg, ?_, ?_⟩
  · unfold wordsT; rw [if_pos h, e]
  · rcases agree_start goodT t with ⟨q, _⟩ | ⟨_, q, _⟩ <;> omega

theorem infoW : (Tryz.prog.info? 51).map (fun i => (i.zero, i.size, i.bytes)) = some (some (.int .u64 0), 1, 8) := by kernel_rfl

set_option maxHeartbeats 2000000 in
set_option maxRecDepth 100000 in
theorem grow_room (base : Option Addr) (l c n : Nat) (w : World) (hlc : l ≤ c) (hc63 : c ≤ 9223372036854775807) (hn : n ≤ 65536) (hroom : l + n ≤ c) :
    Calls Tryz.prog 41 #[.slice base l c, .int .i64 n] w fun e w' => e = .returned (.slice base l c) ∧ w' = w := by
  have h1 : ¬ ((n : Int) < 0) := by omega
  have h4 : ¬ ((n : Int) - ((c : Int) - (l : Int)) > 0) := by omega
  go_enter Tryz.func41, Tryz.ntmps41
  go_wp2
  go_ret
  exact ⟨rfl, rfl⟩

set_option maxHeartbeats 4000000 in
set_option maxRecDepth 100000 in
theorem grow_grow (base : Option Addr) (l c n : Nat) (cs : List Value) (w : World) (hlc : l ≤ c) (hn : n ≤ 65536) (hl : l ≤ 16777216) (hroom : c < l + n) (hcl : cs.length = c) (hnil : base = none → c = 0) (hcs : ∀ a, base = some a → ∀ j v, cs[j]? = some v → w.cell? (a.add j) = some v) :
    Calls Tryz.prog 41 #[.slice base l c, .int .i64 n] w fun e w' => ∃ G, l + n ≤ G ∧ G ≤ 9223372036854775807 ∧ e = .returned (.slice (some ⟨w.heap.size, 0, none⟩) l G) ∧
      w' = w.drew.alloc (.cells (cs.toArray ++ Builtin.zeroCells #[.int .u64 0] (l + n - c) ++ Builtin.zeroCells #[.int .u64 0] (G - (l + n))) 51) := by
  obtain ⟨i0, hi0, hz0, hs0, hb0⟩ : ∃ i0, Tryz.prog.info? 51 = some i0 ∧ i0.zero = some (.int .u64 0) ∧ i0.size = 1 ∧ i0.bytes = 8 := by
    cases h : Tryz.prog.info? 51 with
    | none => have := infoW; rw [h] at this; simp at this
    | some i => have := infoW; rw [h] at this; simp at this; exact ⟨i, rfl, this⟩
  have hck : c + (l + n - c) = l + n := by omega
  have hold : (Builtin.firstCells i0.size c (.slice base c c)).run Tryz.prog w.drew = .ok cs.toArray w.drew := by
    cases base with
    | none =>
      have h0 := hnil rfl
      subst h0
      have hc0 : cs = [] := List.length_eq_zero_iff.1 hcl
      rw [hc0]
      exact run_firstCells_none w.drew i0.size 0 0 0
    | some a => exact run_firstCells_some w.drew i0.size c a c c cs (by rw [hs0, Nat.mul_one]; exact hcl) (fun j v hj => hcs a rfl j v hj)
  have hrz : ∀ ty, (Builtin.append_ #[59, 3] ty #[.slice base c c, .int .i64 ((n : Int) - ((c : Int) - (l : Int)))]).run Tryz.prog w =
      .ok (.slice (some ⟨w.heap.size, 0, none⟩) (l + n) (grownCap w (l + n) c 51)) (w.drew.alloc (.cells (cs.toArray ++ Builtin.zeroCells #[.int .u64 0] (l + n - c) ++ Builtin.zeroCells #[.int .u64 0] (grownCap w (l + n) c 51 - (l + n))) 51)) := fun ty => by
    have h := Lib.run_append_grow_zeros w 59 3 ty 51 i0 (.int .u64 0) .i64 .i64 Tryz.underlying59 Tryz.underlying3 hi0 hz0 base c c cs hold (l + n - c) (by omega) (by omega) (by omega) (by omega)
      (by rw [hb0]; omega) (by rw [hck, hb0]; exact growslice_fits hroom (by omega))
    rw [hck] at h
    rw [show (n : Int) - ((c : Int) - (l : Int)) = ((l + n - c : Nat) : Int) by omega]
    exact h
  have hGn : l + n ≤ grownCap w (l + n) c 51 := grownCap_ge w _ _ _
  have hG63 : grownCap w (l + n) c 51 ≤ 9223372036854775807 := by
    have := grownCap_le_maxLen w (l + n) c 51 (by unfold maxLen; omega)
    unfold maxLen at this
    omega
  generalize grownCap w (l + n) c 51 = G at hrz hGn hG63
  have h1 : ¬ ((n : Int) < 0) := by omega
  have h4 : (n : Int) - ((c : Int) - (l : Int)) > 0 := by omega
  clear hold hck hcs hcl hi0 hz0 hs0 hb0
  go_enter Tryz.func41, Tryz.ntmps41
  cases base with
  | none =>
    have h0 := hnil rfl
    subst h0
    obtain rfl : l = 0 := by omega
    go_wp2_with (at_builtin; refine Lib.wpList_append_run _ rfl _ _ _ _ rfl _ _ rfl rfl _ _ (hrz _) ?_)
    all_goals (go_ret; exact ⟨G, by omega, hG63, rfl, by simp⟩)
  | some a =>
    obtain ⟨ab, ao, asp⟩ := a
    go_wp2_with (at_builtin; refine Lib.wpList_append_run _ rfl _ _ _ _ rfl _ _ rfl rfl _ _ (hrz _) ?_)
    all_goals (go_ret; exact ⟨G, hGn, hG63, rfl, rfl⟩)
end Go.Proofs.YtmijabhnbmmmfaaGreat


