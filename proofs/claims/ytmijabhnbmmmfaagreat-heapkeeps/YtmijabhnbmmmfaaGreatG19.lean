import Derived.Test.YtmijabhnbmmmfaaGreatG18
import Derived.Laws.CopyRow
/- A block laid: box. -/
namespace Go.Proofs.YtmijabhnbmmmfaaGreat
open Go.RowKit Go.Deep
attribute [local go_sem] store_float f64bits
attribute [local go_sem ↓] Go.wp_at_zero Go.wp_at_succ

/-- What laying a term promises. -/
def LayOk (P : Nat → Prop) (w0 : World) (t : Tr) : Prop := ∀ (lb ab p g ro r : Nat) (L : List ByteArray) (F : List Nat) (C : Nat) (cs : Nat → Int) (w : World), LW P w0 w lb ab p g ro r L F C cs → wN t ≤ r → L.length + cntT t ≤ 100000 →
  Calls Tryz.prog 43 #[.pointer (some ⟨lb, 0, none⟩), t.val] w fun e w' => e = .returned (.int .u64 (layT t p L).1) ∧ ∃ F' cs', LW P w0 w' lb ab (p + wN t) g (ro + wN t) (r - wN t) (layT t p L).2.2 F' C cs' ∧ (∀ k, k ∈ F' → k ∈ F ∨ w.heap.size ≤ k) ∧ Kept (lb :: g :: F) w w' ∧ Put cs cs' ro (layT t p L).2.1

/-- A block of which m elements are laid. -/
def Mid (kids : List Tr) (fr : List Int) (p : Nat) (L : List ByteArray) (cs cs' : Nat → Int) (ro m : Nat) : Prop :=
  (∀ j, j < ro ∨ ro + (fr.length + kids.length) + wAll (kids.take m) ≤ j → cs' j = cs j) ∧ (∀ i x, fr[i]? = some x → cs' (ro + i) = x) ∧
  (∀ i x, (layAll (kids.take m) (p + fr.length + kids.length) L).1[i]? = some x → cs' (ro + fr.length + i) = x) ∧
  (∀ i x, (layAll (kids.take m) (p + fr.length + kids.length) L).2.1[i]? = some x → cs' (ro + (fr.length + kids.length) + i) = x)

theorem Mid.step {kids : List Tr} {fr : List Int} {p : Nat} {L : List ByteArray} {cs cs' cs'' : Nat → Int} {ro m : Nat} {t : Tr} (h : Mid kids fr p L cs cs' ro m) (ht : kids[m]? = some t)
    (hp : Put cs' cs'' (ro + (fr.length + kids.length) + wAll (kids.take m)) (layT t (p + fr.length + kids.length + wAll (kids.take m)) (layAll (kids.take m) (p + fr.length + kids.length) L).2.2).2.1) :
    Mid kids fr p L cs (fun j => if j = ro + (fr.length + m) then (layT t (p + fr.length + kids.length + wAll (kids.take m)) (layAll (kids.take m) (p + fr.length + kids.length) L).2.2).1 else cs'' j) ro (m + 1) := by
  obtain ⟨h1, h2, h3, h4⟩ := h
  obtain ⟨p1, p2⟩ := hp
  have hm : m < kids.length := by
    rcases Nat.lt_or_ge m kids.length with h | h
    · exact h
    · rw [List.getElem?_eq_none h] at ht; simp at ht
  have hl := layAll_len (kids.take m) (p + fr.length + kids.length) L
  have hlt : (kids.take m).length = m := by simp; omega
  rw [hlt] at hl
  have hts := take_snoc ht
  unfold Mid
  rw [hts, layAll_snoc, wAll_snoc]
  generalize hY : layT t (p + fr.length + kids.length + wAll (kids.take m)) (layAll (kids.take m) (p + fr.length + kids.length) L).2.2 = Y at *
  have hyl : Y.2.1.length = wN t := by rw [← hY]; exact lay_len _ _ _
  rw [hyl] at p1
  refine ⟨fun j hj => ?_, fun i x hi => ?_, fun i x hi => ?_, fun i x hi => ?_⟩
  · have hne : ¬ j = ro + (fr.length + m) := by omega
    simp only [hne, if_false]
    rw [p1 j (by omega), h1 j (by omega)]
  · have hil : i < fr.length := by
      rcases Nat.lt_or_ge i fr.length with h | h
      · exact h
      · rw [List.getElem?_eq_none h] at hi; simp at hi
    have hne : ¬ ro + i = ro + (fr.length + m) := by omega
    simp only [hne, if_false]
    rw [p1 _ (by omega)]
    exact h2 i x hi
  · simp only at hi
    by_cases e : i = m
    · subst e
      rw [List.getElem?_append_right (by omega), hl.1] at hi
      simp at hi
      have e2 : ro + fr.length + i = ro + (fr.length + i) := by omega
      simp only [e2, if_true, hi]
    · have hil : i < m := by
        rcases Nat.lt_or_ge i (m + 1) with h | h
        · omega
        · rw [List.getElem?_eq_none (by simp; omega)] at hi; simp at hi
      rw [List.getElem?_append_left (by omega)] at hi
      have hne : ¬ ro + fr.length + i = ro + (fr.length + m) := by omega
      simp only [hne, if_false]
      rw [p1 _ (by omega)]
      exact h3 i x hi
  · simp only at hi
    have hne : ¬ ro + (fr.length + kids.length) + i = ro + (fr.length + m) := by omega
    simp only [hne, if_false]
    by_cases e : i < wAll (kids.take m)
    · rw [List.getElem?_append_left (by omega)] at hi
      rw [p1 _ (by omega)]
      exact h4 i x hi
    · rw [List.getElem?_append_right (by omega), hl.2] at hi
      have := p2 _ x hi
      rw [← this]
      congr 1
      omega

theorem Mid.done {kids : List Tr} {fr : List Int} {p : Nat} {L : List ByteArray} {cs cs' : Nat → Int} {ro : Nat} (h : Mid kids fr p L cs cs' ro kids.length) :
    Put cs cs' ro (fr ++ (layAll kids (p + fr.length + kids.length) L).1 ++ (layAll kids (p + fr.length + kids.length) L).2.1) := by
  obtain ⟨h1, h2, h3, h4⟩ := h
  rw [List.take_length] at h1 h3 h4
  have hl := layAll_len kids (p + fr.length + kids.length) L
  refine ⟨fun j hj => h1 j ?_, fun i x hi => ?_⟩
  · simp only [List.length_append, hl.1, hl.2] at hj; omega
  · by_cases e1 : i < fr.length
    · rw [List.append_assoc, List.getElem?_append_left e1] at hi
      exact h2 i x hi
    · by_cases e2 : i < fr.length + kids.length
      · rw [List.getElem?_append_left (by simp; omega), List.getElem?_append_right (by omega)] at hi
        have := h3 _ x hi
        rw [← this]; congr 1; omega
      · rw [List.getElem?_append_right (by simp; omega)] at hi
        have := h4 _ x hi
        rw [← this]; congr 1; simp [hl.1]; omega

theorem Kept.after {G H : List Nat} {a b c : World} (h : Kept G a b) (k : Kept H b c) (hs : ∀ x, x ∈ H → x ∈ G ∨ a.heap.size ≤ x) : Kept G a c :=
  ⟨k.os.trans h.os, k.tape.trans h.tape, k.output.trans h.output, Nat.le_trans h.size k.size, fun i hi hG => (k.block i (Nat.lt_of_lt_of_le hi h.size) (fun hH => (hs i hH).elim hG (fun h => absurd hi (by omega)))).trans (h.block i hi hG)⟩

/-- One element more: it is laid, and its word is put into its place. -/
theorem lay_step {P : Nat → Prop} {w0 w wr wa : World} {kids : List Tr} {fr : List Int} {lb ab p g ro r m q C : Nat} {L : List ByteArray} {F F' : List Nat} {cs cs' : Nat → Int} {t : Tr} (hq : fr.length = q) (IH : LayOk P w0 t) (ht : kids[m]? = some t)
    (hlw : LW P w0 wr lb ab (p + q + kids.length + wAll (kids.take m)) g (ro + (q + kids.length) + wAll (kids.take m)) (r - (q + kids.length) - wAll (kids.take m)) (layAll (kids.take m) (p + q + kids.length) L).2.2 F' C cs')
    (hF : ∀ k, k ∈ F' → k ∈ F ∨ w.heap.size ≤ k) (hk : Kept (lb :: g :: F) w wr) (hmid : Mid kids fr p L cs cs' ro m) (hr : q + kids.length + wAll kids ≤ r) (hL : L.length + 1 + cntAll kids ≤ 100000) (hwa : Below wr.heap.size wr wa) :
    Calls Tryz.prog 43 #[.pointer (some ⟨lb, 0, none⟩), t.val] wa fun e w' => ∃ (x : Int) (F2 : List Nat) (cs2 : Nat → Int), e = .returned (.int .u64 x) ∧
      LW P w0 (w'.setCell ⟨g, ro + (q + m), none⟩ (.int .u64 x)) lb ab (p + q + kids.length + wAll (kids.take (m + 1))) g (ro + (q + kids.length) + wAll (kids.take (m + 1))) (r - (q + kids.length) - wAll (kids.take (m + 1))) (layAll (kids.take (m + 1)) (p + q + kids.length) L).2.2 F2 C cs2 ∧
      (∀ k, k ∈ F2 → k ∈ F ∨ w.heap.size ≤ k) ∧ Kept (lb :: g :: F) w (w'.setCell ⟨g, ro + (q + m), none⟩ (.int .u64 x)) ∧ Mid kids fr p L cs cs2 ro (m + 1) ∧ (∃ u, w'.cell? ⟨g, ro + (q + m), none⟩ = some (.int .u64 u)) ∧ w'.frozen? ⟨g, ro + (q + m), none⟩ = false := by
  subst hq
  have hm : m < kids.length := by
    rcases Nat.lt_or_ge m kids.length with h | h
    · exact h
    · rw [List.getElem?_eq_none h] at ht; simp at ht
  have hw1a := wAll_take_le kids (m + 1)
  have hts := take_snoc ht
  rw [hts, wAll_snoc] at hw1a
  have hc1 := cntAll_take_le kids (m + 1)
  rw [hts, cntAll_snoc] at hc1
  have hLa := layAll_atoms (kids.take m) (p + fr.length + kids.length) L
  refine (IH lb ab _ g _ _ _ F' C cs' _ (hlw.keep hwa) (by omega) (by omega)).mono ?_
  rintro e wz ⟨rfl, F2, cs2, hlw2, hF2, hk2, hput⟩
  have hmid2 := hmid.step ht hput
  have hroom := hlw.room
  rw [hts, wAll_snoc, layAll_snoc]
  have hset := hlw2.set (ro + (fr.length + m)) (layT t (p + fr.length + kids.length + wAll (kids.take m)) (layAll (kids.take m) (p + fr.length + kids.length) L).2.2).1
  have hc := hlw2.cells (ro + (fr.length + m)) (by omega)
  have hkz : Kept (lb :: g :: F) w wz := (hk.trans (Kept.of_below hwa)).after hk2 (fun x hx => by
    simp only [List.mem_cons] at hx ⊢
    rcases hx with h | h | h
    · exact Or.inl (Or.inl h)
    · exact Or.inl (Or.inr (Or.inl h))
    · rcases hF x h with h | h
      · exact Or.inl (Or.inr (Or.inr h))
      · exact Or.inr h)
  refine ⟨_, F2, _, rfl, ?_, ?_, hkz.sets _ _ (by simp), hmid2, ⟨_, hc.1⟩, hc.2⟩
  · have e1 : p + fr.length + kids.length + (wAll (kids.take m) + wN t) = p + fr.length + kids.length + wAll (kids.take m) + wN t := by omega
    have e2 : ro + (fr.length + kids.length) + (wAll (kids.take m) + wN t) = ro + (fr.length + kids.length) + wAll (kids.take m) + wN t := by omega
    have e3 : r - (fr.length + kids.length) - (wAll (kids.take m) + wN t) = r - (fr.length + kids.length) - wAll (kids.take m) - wN t := by omega
    rw [e1, e2, e3]
    exact hset
  · intro k hk'
    rcases hF2 k hk' with h | h
    · exact hF k h
    · right
      have h1 := hk.size
      have h2 := hwa.size
      omega

theorem copy_none (w : World) (a : Addr) (d c : Nat) : (Builtin.copy_ #[59, 59] 3 #[.slice (some a) d c, .slice none 0 0]).run Tryz.prog w = .ok (.int .i64 0) w :=
  run_copy_nil _ w _ _ _ 51 a d c Tryz.underlying59 (by kernel_rfl)

set_option maxHeartbeats 1600000 in
set_option maxRecDepth 100000 in
theorem box_tk (P : Nat → Prop) (w0 : World) (k n : Int) (f : Nat) (s : ByteArray) (a : Option Addr) (c : Nat) (kids : List Tr) (hin : (Tr.mk k n f s a c kids).In w0 0) (hon : (Tr.mk k n f s a c kids).On P) (hk : ∀ t, t ∈ kids → LayOk P w0 t) (hk7 : k = 7) (hne : ¬ kids = [])
    (lb ab p g ro r : Nat) (L : List ByteArray) (F : List Nat) (C : Nat) (cs : Nat → Int) (w : World) (h : LW P w0 w lb ab p g ro r L F C cs) (hr : 1 + kids.length + wAll kids ≤ r) (hL : L.length + 1 + cntAll kids ≤ 100000) (hml : kids.length ≤ 16777216) :
    Calls Tryz.prog 61 #[.pointer (some ⟨lb, 0, none⟩), .agg #[.int .i64 k, .int .i64 n, .float .f64 f, .string s, .slice a kids.length c], .int .i64 kids.length, .slice none 0 0] w fun e w' => e = .returned (.int .u64 (ofW 5 p)) ∧
      ∃ F' cs', LW P w0 w' lb ab (p + (1 + kids.length + wAll kids)) g (ro + (1 + kids.length + wAll kids)) (r - (1 + kids.length + wAll kids)) (layAll kids (p + 1 + kids.length) L).2.2 F' C cs' ∧ (∀ k, k ∈ F' → k ∈ F ∨ w.heap.size ≤ k) ∧ Kept (lb :: g :: F) w w' ∧ Put cs cs' ro ([hdW 7 kids.length] ++ (layAll kids (p + 1 + kids.length) L).1 ++ (layAll kids (p + 1 + kids.length) L).2.1) := by
  subst hk7
  have HK := hidb hk
  have HIN := hidb hin
  have HON := hidb hon
  have HLW := hidb h
  obtain ⟨v, hq, hv⟩ := h.ls.quad
  have HV := hidb hv
  have HQ := hidb hq
  have hsm := h.small
  clear hk hin hon h hq hv
  have hlt := HQ.out.lt
  go_enter Tryz.func61, Tryz.ntmps61
  go_wp2_with fail
  have hka := below_new w (.cells #[.int .i64 7, .int .i64 n, .float .f64 f, .string s, .slice a kids.length c] 44)
  have e1 : ((1 + kids.length : Nat) : Int) = 1 + (kids.length : Int) := by omega
  have CUT := cut_any lb ab g p 0 ro (1 + kids.length) r v _ (HQ.out.kept (Kept.of_below (F := []) hka) (by simp)) HV.out (by omega) (by omega) (by omega) (by omega) (by omega)
  rw [e1] at CUT
  refine CUT.mono ?_
  rintro e w1 ⟨rfl, v1, hq1, hv1, hk1⟩
  have HQ1 := hidb hq1
  have HV1 := hidb hv1
  have HK1 := hidb ((Kept.of_below (F := [lb]) hka).trans hk1)
  have hT := ((Box.new w 44 (.int .i64 7) (.int .i64 n) (.float .f64 f) (.string s) (.slice a kids.length c)).but (S := (· = lb)) ⟨hk1.os, hk1.tape, hk1.output, hk1.size, fun x hx hs => hk1.block x hx (by simpa using hs)⟩ (by omega))
  have HT := hidb hT
  obtain ⟨z0, z1, z2, z3, z4, y0, y1, y2, y3, y4, ltr2⟩ := hT
  clear CUT hq1 hv1 hk1 hka
  have hcl : (0 : Int) < (((1 + kids.length : Nat)) : Int) := by omega
  have hCs := HLW.out.cells
  have hrm := HLW.out.room
  have hnl := HLW.out.ls.ne
  have hgl := HLW.out.ls.gl
  have CS1 := hidb (hCs.at (w' := w1) (HK1.out.block g hgl (by simp; exact fun e => hnl e.symm)))
  have x0 := (CS1.out ro (by omega)).1
  have x1 := (CS1.out ro (by omega)).2
  clear hCs
  have hcp := copy_none
  go_wp2_with (go_at_call 91; refine (header_any 7 kids.length _).mono ?_; rintro e w' ⟨rfl, rfl⟩)
  have HL1 := hidb ((HLW.out.cut (n := 1 + kids.length) (by rw [e1]; exact HQ1.out) HV1.out (Kept.mono HK1.out (fun k hk _ => hk)) (by omega)).set ro (hdW 7 kids.length))
  have HKW := hidb ((HK1.out.mono (G := lb :: g :: F) (fun k hk _ => by simp at hk; simp [hk])).sets ⟨g, ro, none⟩ (.int .u64 (hdW 7 kids.length)) (by simp))
  clear x0 x1 CS1 HQ1 HV1 HK1 HT z0 z1 z2 z3 z4 y0 y1 y2 y3 y4 ltr2 HQ HV hcp
  go_loopw [43] (fun iv wr => ∃ (m : Nat) (F' : List Nat) (cs' : Nat → Int), m ≤ kids.length ∧ iv = .int .i64 m ∧
    LW P w0 wr lb ab (p + 1 + kids.length + wAll (kids.take m)) g (ro + (1 + kids.length) + wAll (kids.take m)) (r - (1 + kids.length) - wAll (kids.take m)) (layAll (kids.take m) (p + 1 + kids.length) L).2.2 F' C cs' ∧ (∀ k, k ∈ F' → k ∈ F ∨ w.heap.size ≤ k) ∧ Kept (lb :: g :: F) w wr ∧ Mid kids [hdW 7 kids.length] p L cs cs' ro m) (fun iv _ => kids.length - (intOf iv).toNat)
  case atStart =>
    refine ⟨0, F, (fun j => if j = ro then hdW 7 kids.length else cs j), by omega, rfl, ?_, fun k hk => Or.inl hk, HKW.out, ?_⟩
    · have := HL1.out
      simp only [List.take_zero, wAll, layAll, Nat.add_zero, Nat.sub_zero]
      have e2 : p + 1 + kids.length = p + (1 + kids.length) := by omega
      rw [e2]; exact this
    · refine ⟨fun j hj => ?_, fun i x hi => ?_, fun i x hi => ?_, fun i x hi => ?_⟩
      · have : ¬ j = ro := by simp [wAll] at hj; omega
        simp [this]
      · have e3 : i = 0 := by
          rcases Nat.lt_or_ge i 1 with h | h
          · omega
          · rw [List.getElem?_eq_none (by simpa using h)] at hi; simp at hi
        subst e3
        simpa using hi
      · simp [layAll] at hi
      · simp [layAll] at hi
  case round =>
    obtain ⟨m, F', cs', hm, rfl, hlw, hF', hkw, hmid⟩ := hrel
    have HLM := hidb hlw
    have HFM := hidb hF'
    have HKM := hidb hkw
    have HMD := hidb hmid
    clear hlw hF' hkw hmid HL1 HKW
    by_cases hml' : m < kids.length
    · have hmb : (m : Int) < (kids.length : Int) := by omega
      obtain ⟨b', o, rfl, hat⟩ := kid_at HIN.out (by omega)
      obtain ⟨k', n', f', s', a', c', kids', hu', hin', x0, x1, x2, x3, x4⟩ := hat m hml'
      have hlb : b' < w0.heap.size := World.block_lt_of_cell? w0 _ x0
      have hPb : P b' := by have := HON.out; unfold Tr.On at this; exact this.1 (by omega) _ rfl
      have v0 := (HLM.out.below.cell hPb hlb).trans x0
      have v1 := (HLM.out.below.cell hPb hlb).trans x1
      have v2 := (HLM.out.below.cell hPb hlb).trans x2
      have v3 := (HLM.out.below.cell hPb hlb).trans x3
      have v4 := (HLM.out.below.cell hPb hlb).trans x4
      have IH := hidb (HK.out _ (List.mem_of_getElem? hu'))
      have HUU := hidb hu'
      clear hu' hin' hat x0 x1 x2 x3 x4
      have hmz : (0 : Int) ≤ (m : Int) := by omega
      have CALL := hidb (lay_step (wa := wr.alloc (.cells #[.int .i64 k', .int .i64 n', .float .f64 f', .string s', .slice a' kids'.length c'] 44)) (q := 1) rfl IH.out HUU.out HLM.out HFM.out HKM.out HMD.out hr hL (below_new wr _))
      go_wp2_with fail
      refine CALL.out.mono ?_
      rintro e wz ⟨x, F2, cs2, rfl, hlw2, hF2, hk2, hmid2, ⟨u, hcu⟩, hfu⟩
      have H1 := hidb hlw2
      have H2 := hidb hF2
      have H3 := hidb hk2
      have H4 := hidb hmid2
      clear hlw2 hF2 hk2 hmid2 CALL IH v0 v1 v2 v3 v4
      have hil : (1 : Int) + (m : Int) < ((1 + kids.length : Nat) : Int) := by omega
      have hi0 : (0 : Int) ≤ 1 + (m : Int) := by omega
      have hia : (1 + (m : Int)).toNat = 1 + m := by omega
      go_wp2
      exact ⟨⟨m + 1, F2, cs2, by omega, by go_num, H1.out, H2.out, H3.out, H4.out⟩, by simp [intOf]; omega⟩
    · have hmn : ¬ (m : Int) < (kids.length : Int) := by omega
      obtain rfl : m = kids.length := by omega
      go_wp2_with (go_at_call 58; refine (hof_any 5 p (by omega) _).mono ?_; rintro e w' ⟨rfl, rfl⟩)
      go_ret
      have hd := HMD.out.done
      have hlw := HLM.out
      rw [List.take_length] at hlw
      refine ⟨rfl, F', cs', ?_, HFM.out, HKM.out, hd⟩
      have e4 : p + (1 + kids.length + wAll kids) = p + 1 + kids.length + wAll kids := by omega
      have e5 : ro + (1 + kids.length + wAll kids) = ro + (1 + kids.length) + wAll kids := by omega
      have e6 : r - (1 + kids.length + wAll kids) = r - (1 + kids.length) - wAll kids := by omega
      rw [e4, e5, e6]
      exact hlw
end Go.Proofs.YtmijabhnbmmmfaaGreat


/- A block laid, the other ways: no elements, a word without a tag. -/
namespace Go.Proofs.YtmijabhnbmmmfaaGreat
open Go.RowKit Go.Deep
attribute [local go_sem] store_float f64bits
attribute [local go_sem ↓] Go.wp_at_zero Go.wp_at_succ

theorem copy_one (w : World) (g o d c ub : Nat) (x y : Int) (hd : 0 < d) (hu : w.cell? ⟨ub, 0, none⟩ = some (.int .u64 x)) (hg : w.cell? ⟨g, o, none⟩ = some (.int .u64 y)) (hf : w.frozen? ⟨g, o, none⟩ = false) :
    (Builtin.copy_ #[59, 59] 3 #[.slice (some ⟨g, o, none⟩) d c, .slice (some ⟨ub, 0, none⟩) 1 1]).run Tryz.prog w = .ok (.int .i64 1) (w.setCell ⟨g, o, none⟩ (.int .u64 x)) := by
  have hm : Nat.min 1 d = 1 := Nat.min_eq_left hd
  have hs := Tryz.sizeOf51
  simp [Builtin.copy_, run_underlying Tryz.underlying59, Builtin.lenOf, Builtin.firstCells, hs, hm, storeCells, hu, hg, hf, go_sem]

set_option maxHeartbeats 1600000 in
set_option maxRecDepth 100000 in
theorem box_uk (P : Nat → Prop) (w0 : World) (k n : Int) (f : Nat) (s : ByteArray) (a : Option Addr) (c : Nat) (kids : List Tr) (hin : (Tr.mk k n f s a c kids).In w0 0) (hon : (Tr.mk k n f s a c kids).On P) (hk : ∀ t, t ∈ kids → LayOk P w0 t) (sz : Int) (ub : Nat) (x : Int)
    (lb ab p g ro r : Nat) (L : List ByteArray) (F : List Nat) (C : Nat) (cs : Nat → Int) (w : World) (h : LW P w0 w lb ab p g ro r L F C cs) (hub : w.cell? ⟨ub, 0, none⟩ = some (.int .u64 x)) (hul : ub ≠ lb) (hug : ub ≠ g) (hr : 2 + kids.length + wAll kids ≤ r) (hL : L.length + 1 + cntAll kids ≤ 100000) (hml : kids.length ≤ 16777216) :
    Calls Tryz.prog 61 #[.pointer (some ⟨lb, 0, none⟩), .agg #[.int .i64 k, .int .i64 n, .float .f64 f, .string s, .slice a kids.length c], .int .i64 sz, .slice (some ⟨ub, 0, none⟩) 1 1] w fun e w' => e = .returned (.int .u64 (ofW 5 p)) ∧
      ∃ F' cs', LW P w0 w' lb ab (p + (2 + kids.length + wAll kids)) g (ro + (2 + kids.length + wAll kids)) (r - (2 + kids.length + wAll kids)) (layAll kids (p + 2 + kids.length) L).2.2 F' C cs' ∧ (∀ k, k ∈ F' → k ∈ F ∨ w.heap.size ≤ k) ∧ Kept (lb :: g :: F) w w' ∧ Put cs cs' ro ([hdW k sz, x] ++ (layAll kids (p + 2 + kids.length) L).1 ++ (layAll kids (p + 2 + kids.length) L).2.1) := by
  have HK := hidb hk
  have HIN := hidb hin
  have HON := hidb hon
  have HLW := hidb h
  obtain ⟨v, hq, hv⟩ := h.ls.quad
  have HV := hidb hv
  have HQ := hidb hq
  have hsm := h.small
  clear hk hin hon h hq hv
  have hlt := HQ.out.lt
  go_enter Tryz.func61, Tryz.ntmps61
  go_wp2_with fail
  have hka := below_new w (.cells #[.int .i64 k, .int .i64 n, .float .f64 f, .string s, .slice a kids.length c] 44)
  have e1 : ((2 + kids.length : Nat) : Int) = 2 + (kids.length : Int) := by omega
  have CUT := cut_any lb ab g p 0 ro (2 + kids.length) r v _ (HQ.out.kept (Kept.of_below (F := []) hka) (by simp)) HV.out (by omega) (by omega) (by omega) (by omega) (by omega)
  rw [e1] at CUT
  refine CUT.mono ?_
  rintro e w1 ⟨rfl, v1, hq1, hv1, hk1⟩
  have HQ1 := hidb hq1
  have HV1 := hidb hv1
  have HK1 := hidb ((Kept.of_below (F := [lb]) hka).trans hk1)
  have hT := ((Box.new w 44 (.int .i64 k) (.int .i64 n) (.float .f64 f) (.string s) (.slice a kids.length c)).but (S := (· = lb)) ⟨hk1.os, hk1.tape, hk1.output, hk1.size, fun x hx hs => hk1.block x hx (by simpa using hs)⟩ (by omega))
  have HT := hidb hT
  obtain ⟨z0, z1, z2, z3, z4, y0, y1, y2, y3, y4, ltr2⟩ := hT
  clear CUT hq1 hv1 hk1 hka
  have hcl : (0 : Int) < (((2 + kids.length : Nat)) : Int) := by omega
  have hCs := HLW.out.cells
  have hrm := HLW.out.room
  have hnl := HLW.out.ls.ne
  have hgl := HLW.out.ls.gl
  have CS1 := hidb (hCs.at (w' := w1) (HK1.out.block g hgl (by simp; exact fun e => hnl e.symm)))
  have x0 := (CS1.out ro (by omega)).1
  have x1 := (CS1.out ro (by omega)).2
  clear hCs
  have hubl : ub < w.heap.size := cell_lt hub
  have hu1 : w1.cell? ⟨ub, 0, none⟩ = some (.int .u64 x) := (World.cell?_of_block (w := w) (HK1.out.block ub hubl (by simpa using hul))).trans hub
  have hcp0 : ∀ d c, 0 < d → (Builtin.copy_ #[59, 59] 3 #[.slice (some ⟨g, ro + 1, none⟩) d c, .slice (some ⟨ub, 0, none⟩) 1 1]).run Tryz.prog (w1.setCell ⟨g, ro, none⟩ (.int .u64 (hdW k sz))) = .ok (.int .i64 1) ((w1.setCell ⟨g, ro, none⟩ (.int .u64 (hdW k sz))).setCell ⟨g, ro + 1, none⟩ (.int .u64 x)) := by
    intro d c hd
    refine copy_one _ g (ro + 1) d c ub x _ hd ?_ (by rw [World.cell?_setCell_other _ _ _ _ (ne_off3 _ _ _ (by omega))]; exact (CS1.out (ro + 1) (by omega)).1) (by rw [World.frozen?_setCell]; exact (CS1.out (ro + 1) (by omega)).2)
    rw [World.cell?_setCell_other _ _ _ _ (ne_blk3 _ _ _ _ (fun e => hug e.symm))]
    exact hu1
  have hcp := hcp0 (1 + kids.length) (1 + kids.length) (by omega)
  clear hub hul hug hubl hu1 hcp0
  go_wp2_with (go_at_call 91; refine (header_any k sz _).mono ?_; rintro e w' ⟨rfl, rfl⟩)
  have HL1 := hidb ((HLW.out.cut (n := 2 + kids.length) (by rw [e1]; exact HQ1.out) HV1.out (Kept.mono HK1.out (fun k hk _ => hk)) (by omega)).set ro (hdW k sz) |>.set (ro + 1) x)
  have HKW := hidb ((HK1.out.mono (G := lb :: g :: F) (fun k hk _ => by simp at hk; simp [hk])).sets ⟨g, ro, none⟩ (.int .u64 (hdW k sz)) (by simp) |>.sets ⟨g, ro + 1, none⟩ (.int .u64 x) (by simp))
  clear x0 x1 CS1 HQ1 HV1 HK1 HT z0 z1 z2 z3 z4 y0 y1 y2 y3 y4 ltr2 HQ HV hcp
  go_loopw [43] (fun iv wr => ∃ (m : Nat) (F' : List Nat) (cs' : Nat → Int), m ≤ kids.length ∧ iv = .int .i64 m ∧
    LW P w0 wr lb ab (p + 2 + kids.length + wAll (kids.take m)) g (ro + (2 + kids.length) + wAll (kids.take m)) (r - (2 + kids.length) - wAll (kids.take m)) (layAll (kids.take m) (p + 2 + kids.length) L).2.2 F' C cs' ∧ (∀ k, k ∈ F' → k ∈ F ∨ w.heap.size ≤ k) ∧ Kept (lb :: g :: F) w wr ∧ Mid kids [hdW k sz, x] p L cs cs' ro m) (fun iv _ => kids.length - (intOf iv).toNat)
  case atStart =>
    refine ⟨0, F, (fun j => if j = ro + 1 then x else (if j = ro then hdW k sz else cs j)), by omega, rfl, ?_, fun k hk => Or.inl hk, HKW.out, ?_⟩
    · have := HL1.out
      simp only [List.take_zero, wAll, layAll, Nat.add_zero, Nat.sub_zero]
      have e2 : p + 2 + kids.length = p + (2 + kids.length) := by omega
      rw [e2]; exact this
    · refine ⟨fun j hj => ?_, fun i y hi => ?_, fun i y hi => ?_, fun i y hi => ?_⟩
      · have h1 : ¬ j = ro := by simp [wAll] at hj; omega
        have h2 : ¬ j = ro + 1 := by simp [wAll] at hj; omega
        simp [h1, h2]
      · match i, hi with
        | 0, hi => simpa using hi
        | 1, hi => simpa using hi
      · simp [layAll] at hi
      · simp [layAll] at hi
  case round =>
    obtain ⟨m, F', cs', hm, rfl, hlw, hF', hkw, hmid⟩ := hrel
    have HLM := hidb hlw
    have HFM := hidb hF'
    have HKM := hidb hkw
    have HMD := hidb hmid
    clear hlw hF' hkw hmid HL1 HKW
    by_cases hml' : m < kids.length
    · have hmb : (m : Int) < (kids.length : Int) := by omega
      obtain ⟨b', o, rfl, hat⟩ := kid_at HIN.out (by omega)
      obtain ⟨k', n', f', s', a', c', kids', hu', hin', x0, x1, x2, x3, x4⟩ := hat m hml'
      have hlb : b' < w0.heap.size := World.block_lt_of_cell? w0 _ x0
      have hPb : P b' := by have := HON.out; unfold Tr.On at this; exact this.1 (by omega) _ rfl
      have v0 := (HLM.out.below.cell hPb hlb).trans x0
      have v1 := (HLM.out.below.cell hPb hlb).trans x1
      have v2 := (HLM.out.below.cell hPb hlb).trans x2
      have v3 := (HLM.out.below.cell hPb hlb).trans x3
      have v4 := (HLM.out.below.cell hPb hlb).trans x4
      have IH := hidb (HK.out _ (List.mem_of_getElem? hu'))
      have HUU := hidb hu'
      clear hu' hin' hat x0 x1 x2 x3 x4
      have hmz : (0 : Int) ≤ (m : Int) := by omega
      have CALL := hidb (lay_step (wa := wr.alloc (.cells #[.int .i64 k', .int .i64 n', .float .f64 f', .string s', .slice a' kids'.length c'] 44)) (q := 2) rfl IH.out HUU.out HLM.out HFM.out HKM.out HMD.out hr hL (below_new wr _))
      go_wp2_with fail
      refine CALL.out.mono ?_
      rintro e wz ⟨xw, F2, cs2, rfl, hlw2, hF2, hk2, hmid2, ⟨u, hcu⟩, hfu⟩
      have H1 := hidb hlw2
      have H2 := hidb hF2
      have H3 := hidb hk2
      have H4 := hidb hmid2
      clear hlw2 hF2 hk2 hmid2 CALL IH v0 v1 v2 v3 v4
      have hil : (2 : Int) + (m : Int) < ((2 + kids.length : Nat) : Int) := by omega
      have hi0 : (0 : Int) ≤ 2 + (m : Int) := by omega
      have hia : (2 + (m : Int)).toNat = 2 + m := by omega
      go_wp2
      exact ⟨⟨m + 1, F2, cs2, by omega, by go_num, H1.out, H2.out, H3.out, H4.out⟩, by simp [intOf]; omega⟩
    · have hmn : ¬ (m : Int) < (kids.length : Int) := by omega
      obtain rfl : m = kids.length := by omega
      go_wp2_with (go_at_call 58; refine (hof_any 5 p (by omega) _).mono ?_; rintro e w' ⟨rfl, rfl⟩)
      go_ret
      have hd := HMD.out.done
      have hlw := HLM.out
      rw [List.take_length] at hlw
      refine ⟨rfl, F', cs', ?_, HFM.out, HKM.out, hd⟩
      have e4 : p + (2 + kids.length + wAll kids) = p + 2 + kids.length + wAll kids := by omega
      have e5 : ro + (2 + kids.length + wAll kids) = ro + (2 + kids.length) + wAll kids := by omega
      have e6 : r - (2 + kids.length + wAll kids) = r - (2 + kids.length) - wAll kids := by omega
      rw [e4, e5, e6]
      exact hlw
set_option maxHeartbeats 1600000 in
set_option maxRecDepth 100000 in
theorem box_t0 (P : Nat → Prop) (w0 : World) (k n : Int) (f : Nat) (s : ByteArray) (a : Option Addr) (c : Nat) (hk7 : k = 7)
    (lb ab p g ro r : Nat) (L : List ByteArray) (F : List Nat) (C : Nat) (cs : Nat → Int) (w : World) (h : LW P w0 w lb ab p g ro r L F C cs) (hr : 1 ≤ r) :
    Calls Tryz.prog 61 #[.pointer (some ⟨lb, 0, none⟩), .agg #[.int .i64 k, .int .i64 n, .float .f64 f, .string s, .slice a 0 c], .int .i64 0, .slice none 0 0] w fun e w' => e = .returned (.int .u64 (ofW 5 p)) ∧
      ∃ cs', LW P w0 w' lb ab (p + 1) g (ro + 1) (r - 1) L F C cs' ∧ Kept (lb :: g :: F) w w' ∧ Put cs cs' ro [hdW 7 0] := by
  subst hk7
  have HLW := hidb h
  obtain ⟨v, hq, hv⟩ := h.ls.quad
  have HV := hidb hv
  have HQ := hidb hq
  have hsm := h.small
  clear h hq hv
  have hlt := HQ.out.lt
  go_enter Tryz.func61, Tryz.ntmps61
  go_wp2_with fail
  have hka := below_new w (.cells #[.int .i64 7, .int .i64 n, .float .f64 f, .string s, .slice a 0 c] 44)
  have CUT := cut_any lb ab g p 0 ro 1 r v _ (HQ.out.kept (Kept.of_below (F := []) hka) (by simp)) HV.out (by omega) (by omega) (by omega) (by omega) (by omega)
  simp only [Int.natCast_one] at CUT
  refine CUT.mono ?_
  rintro e w1 ⟨rfl, v1, hq1, hv1, hk1⟩
  have HQ1 := hidb hq1
  have HV1 := hidb hv1
  have HK1 := hidb ((Kept.of_below (F := [lb]) hka).trans hk1)
  have hT := ((Box.new w 44 (.int .i64 7) (.int .i64 n) (.float .f64 f) (.string s) (.slice a 0 c)).but (S := (· = lb)) ⟨hk1.os, hk1.tape, hk1.output, hk1.size, fun x hx hs => hk1.block x hx (by simpa using hs)⟩ (by omega))
  have HT := hidb hT
  obtain ⟨z0, z1, z2, z3, z4, y0, y1, y2, y3, y4, ltr2⟩ := hT
  clear CUT hq1 hv1 hk1 hka
  have hcl : (0 : Int) < (1 : Int) := by omega
  have hCs := HLW.out.cells
  have hrm := HLW.out.room
  have hnl := HLW.out.ls.ne
  have hgl := HLW.out.ls.gl
  have CS1 := hidb (hCs.at (w' := w1) (HK1.out.block g hgl (by simp; exact fun e => hnl e.symm)))
  have x0 := (CS1.out ro (by omega)).1
  have x1 := (CS1.out ro (by omega)).2
  clear hCs
  have hcp := copy_none
  go_wp2_with (go_at_call 91; refine (header_any 7 0 _).mono ?_; rintro e w' ⟨rfl, rfl⟩)
  have HL1 := hidb ((HLW.out.cut (n := 1) (by simpa using HQ1.out) HV1.out (Kept.mono HK1.out (fun k hk _ => hk)) (by omega)).set ro (hdW 7 0))
  have HKW := hidb ((HK1.out.mono (G := lb :: g :: F) (fun k hk _ => by simp at hk; simp [hk])).sets ⟨g, ro, none⟩ (.int .u64 (hdW 7 0)) (by simp))
  clear x0 x1 CS1 HQ1 HV1 HK1 HT z0 z1 z2 z3 z4 y0 y1 y2 y3 y4 ltr2 HQ HV hcp
  go_loopw [43] (fun iv wr => iv = .int .i64 0 ∧ LW P w0 wr lb ab (p + 1) g (ro + 1) (r - 1) L F C (fun j => if j = ro then hdW 7 0 else cs j) ∧ Kept (lb :: g :: F) w wr) (fun _ _ => 0)
  case atStart => exact ⟨rfl, HL1.out, HKW.out⟩
  case round =>
    obtain ⟨rfl, hlw, hkw⟩ := hrel
    have H1 := hidb hlw
    have H2 := hidb hkw
    clear hlw hkw HL1 HKW
    go_wp2_with (go_at_call 58; refine (hof_any 5 p (by omega) _).mono ?_; rintro e w' ⟨rfl, rfl⟩)
    go_ret
    refine ⟨rfl, _, H1.out, H2.out, ⟨fun j hj => ?_, fun i y hi => ?_⟩⟩
    · have h1 : ¬ j = ro := by simp at hj; omega
      simp [h1]
    · match i, hi with
      | 0, hi => simpa using hi
end Go.Proofs.YtmijabhnbmmmfaaGreat


