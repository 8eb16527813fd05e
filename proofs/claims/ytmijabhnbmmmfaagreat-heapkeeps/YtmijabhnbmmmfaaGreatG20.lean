import Derived.Test.YtmijabhnbmmmfaaGreatG19
/- A list laid. -/
namespace Go.Proofs.YtmijabhnbmmmfaaGreat
open Go.RowKit Go.Deep
attribute [local go_sem] store_float f64bits
attribute [local go_sem ↓] Go.wp_at_zero Go.wp_at_succ

theorem pairs_get : ∀ (l : List Int) (p i : Nat) (x : Int), (pairs l p)[i]? = some x → (i % 2 = 0 ∧ l[i / 2]? = some x) ∨ (i % 2 = 1 ∧ i + 1 < 2 * l.length ∧ x = ofW 6 ((p + i + 1 : Nat) : Int)) ∨ (i + 1 = 2 * l.length ∧ x = ofW 4 0) := by
  intro l
  induction l with
  | nil => intro p i x h; simp only [pairs, List.getElem?_nil] at h; cases h
  | cons y r ih =>
    intro p i x h
    cases r with
    | nil =>
      simp only [pairs] at h
      generalize ofW 4 0 = N at h ⊢
      rcases i with _ | _ | i
      · exact Or.inl ⟨rfl, by simpa using h⟩
      · exact Or.inr (Or.inr ⟨rfl, by simpa using h.symm⟩)
      · simp at h
    | cons z r =>
      simp only [pairs] at h
      rcases i with _ | _ | i
      · exact Or.inl ⟨rfl, by simpa using h⟩
      · simp only [List.getElem?_cons_succ, List.getElem?_cons_zero, Option.some.injEq] at h
        exact Or.inr (Or.inl ⟨by omega, by simp only [List.length_cons]; omega, by rw [← h]⟩)
      · have h' : (pairs (z :: r) (p + 2))[i]? = some x := by simpa only [List.getElem?_cons_succ] using h
        rcases ih (p + 2) i x h' with ⟨h1, h2⟩ | ⟨h1, h2, h3⟩ | ⟨h1, h2⟩
        · left
          refine ⟨by omega, ?_⟩
          have e : (i + 1 + 1) / 2 = i / 2 + 1 := by omega
          rw [e]; simpa using h2
        · right; left
          refine ⟨by omega, by simp only [List.length_cons] at h2 ⊢; omega, ?_⟩
          rw [h3]; congr 2; omega
        · right; right
          exact ⟨by simp only [List.length_cons] at h1 ⊢; omega, h2⟩

/-- A list of which m elements are laid. -/
def MidL (kids : List Tr) (p : Nat) (L : List ByteArray) (cs cs' : Nat → Int) (ro m : Nat) : Prop :=
  (∀ j, j < ro ∨ ro + 2 * kids.length + wAll (kids.take m) ≤ j → cs' j = cs j) ∧
  (∀ i x, (layAll (kids.take m) (p + 2 * kids.length) L).1[i]? = some x → cs' (ro + 2 * i) = x) ∧
  (∀ i, i < m → cs' (ro + (2 * i + 1)) = ofW 6 ((p + 2 * i + 2 : Nat) : Int)) ∧
  (∀ i x, (layAll (kids.take m) (p + 2 * kids.length) L).2.1[i]? = some x → cs' (ro + 2 * kids.length + i) = x)

theorem MidL.step {kids : List Tr} {p : Nat} {L : List ByteArray} {cs cs' cs'' : Nat → Int} {ro m : Nat} {t : Tr} (h : MidL kids p L cs cs' ro m) (ht : kids[m]? = some t)
    (hp : Put cs' cs'' (ro + 2 * kids.length + wAll (kids.take m)) (layT t (p + 2 * kids.length + wAll (kids.take m)) (layAll (kids.take m) (p + 2 * kids.length) L).2.2).2.1) :
    MidL kids p L cs (fun j => if j = ro + (2 * m + 1) then ofW 6 ((p + 2 * m + 2 : Nat) : Int) else (fun j => if j = ro + 2 * m then (layT t (p + 2 * kids.length + wAll (kids.take m)) (layAll (kids.take m) (p + 2 * kids.length) L).2.2).1 else cs'' j) j) ro (m + 1) := by
  obtain ⟨h1, h2, h3, h4⟩ := h
  obtain ⟨p1, p2⟩ := hp
  have hm : m < kids.length := by
    rcases Nat.lt_or_ge m kids.length with h | h
    · exact h
    · rw [List.getElem?_eq_none h] at ht; simp at ht
  have hl := layAll_len (kids.take m) (p + 2 * kids.length) L
  have hlt : (kids.take m).length = m := by simp; omega
  rw [hlt] at hl
  have hts := take_snoc ht
  unfold MidL
  rw [hts, layAll_snoc, wAll_snoc]
  generalize hY : layT t (p + 2 * kids.length + wAll (kids.take m)) (layAll (kids.take m) (p + 2 * kids.length) L).2.2 = Y at *
  have hyl : Y.2.1.length = wN t := by rw [← hY]; exact lay_len _ _ _
  rw [hyl] at p1
  refine ⟨fun j hj => ?_, fun i x hi => ?_, fun i hi => ?_, fun i x hi => ?_⟩
  · have hne : ¬ j = ro + (2 * m + 1) := by omega
    have hne2 : ¬ j = ro + 2 * m := by omega
    simp only [hne, hne2, if_false]
    rw [p1 j (by omega), h1 j (by omega)]
  · simp only at hi
    have hne : ¬ ro + 2 * i = ro + (2 * m + 1) := by omega
    simp only [hne, if_false]
    by_cases e : i = m
    · subst e
      rw [List.getElem?_append_right (by omega), hl.1] at hi
      simp at hi
      simp only [if_true, hi]
    · have hil : i < m := by
        rcases Nat.lt_or_ge i (m + 1) with h | h
        · omega
        · rw [List.getElem?_eq_none (by simp; omega)] at hi; simp at hi
      rw [List.getElem?_append_left (by omega)] at hi
      have hne2 : ¬ ro + 2 * i = ro + 2 * m := by omega
      simp only [hne2, if_false]
      rw [p1 _ (by omega)]
      exact h2 i x hi
  · by_cases e : i = m
    · subst e; simp
    · have hne : ¬ ro + (2 * i + 1) = ro + (2 * m + 1) := by omega
      have hne2 : ¬ ro + (2 * i + 1) = ro + 2 * m := by omega
      simp only [hne, hne2, if_false]
      rw [p1 _ (by omega)]
      exact h3 i (by omega)
  · simp only at hi
    have hne : ¬ ro + 2 * kids.length + i = ro + (2 * m + 1) := by omega
    have hne2 : ¬ ro + 2 * kids.length + i = ro + 2 * m := by omega
    simp only [hne, hne2, if_false]
    by_cases e : i < wAll (kids.take m)
    · rw [List.getElem?_append_left (by omega)] at hi
      rw [p1 _ (by omega)]
      exact h4 i x hi
    · rw [List.getElem?_append_right (by omega), hl.2] at hi
      have := p2 _ x hi
      rw [← this]
      congr 1
      omega

theorem MidL.done {kids : List Tr} {p : Nat} {L : List ByteArray} {cs cs' : Nat → Int} {ro : Nat} (h : MidL kids p L cs cs' ro kids.length) (h0 : 0 < kids.length) :
    Put cs (fun j => if j = ro + (2 * kids.length - 1) then ofW 4 0 else cs' j) ro (pairs (layAll kids (p + 2 * kids.length) L).1 p ++ (layAll kids (p + 2 * kids.length) L).2.1) := by
  obtain ⟨h1, h2, h3, h4⟩ := h
  rw [List.take_length] at h1 h2 h4
  have hl := layAll_len kids (p + 2 * kids.length) L
  refine ⟨fun j hj => ?_, fun i x hi => ?_⟩
  · simp only [List.length_append, pairs_len, hl.1, hl.2] at hj
    have hne : ¬ j = ro + (2 * kids.length - 1) := by omega
    simp only [hne, if_false]
    exact h1 j (by omega)
  · by_cases e1 : i < 2 * kids.length
    · rw [List.getElem?_append_left (by simp [pairs_len, hl.1]; omega)] at hi
      rcases pairs_get _ _ _ _ hi with ⟨q1, q2⟩ | ⟨q1, q2, q3⟩ | ⟨q1, q2⟩
      · have hne : ¬ ro + i = ro + (2 * kids.length - 1) := by omega
        simp only [hne, if_false]
        have := h2 _ x q2
        rw [← this]; congr 1; omega
      · rw [hl.1] at q2
        have hne : ¬ ro + i = ro + (2 * kids.length - 1) := by omega
        simp only [hne, if_false]
        have := h3 (i / 2) (by omega)
        have e2 : ro + i = ro + (2 * (i / 2) + 1) := by omega
        rw [e2, this, q3]; congr 2; omega
      · rw [hl.1] at q1
        have e2 : ro + i = ro + (2 * kids.length - 1) := by omega
        simp only [e2, if_true, q2]
    · rw [List.getElem?_append_right (by simp [pairs_len, hl.1]; omega)] at hi
      have hne : ¬ ro + i = ro + (2 * kids.length - 1) := by omega
      simp only [hne, if_false]
      have := h4 _ x hi
      rw [← this]; congr 1; simp [pairs_len, hl.1]; omega

/-- One element more of a list. -/
theorem lay_stepL {P : Nat → Prop} {w0 w wr wa : World} {kids : List Tr} {lb ab p g ro r m C : Nat} {L : List ByteArray} {F F' : List Nat} {cs cs' : Nat → Int} {t : Tr} (IH : LayOk P w0 t) (ht : kids[m]? = some t)
    (hlw : LW P w0 wr lb ab (p + 2 * kids.length + wAll (kids.take m)) g (ro + 2 * kids.length + wAll (kids.take m)) (r - 2 * kids.length - wAll (kids.take m)) (layAll (kids.take m) (p + 2 * kids.length) L).2.2 F' C cs')
    (hF : ∀ k, k ∈ F' → k ∈ F ∨ w.heap.size ≤ k) (hk : Kept (lb :: g :: F) w wr) (hmid : MidL kids p L cs cs' ro m) (hr : 2 * kids.length + wAll kids ≤ r) (hL : L.length + 1 + cntAll kids ≤ 100000) (hwa : Below wr.heap.size wr wa) :
    Calls Tryz.prog 43 #[.pointer (some ⟨lb, 0, none⟩), t.val] wa fun e w' => ∃ (x : Int) (F2 : List Nat) (cs2 : Nat → Int), e = .returned (.int .u64 x) ∧
      LW P w0 ((w'.setCell ⟨g, ro + 2 * m, none⟩ (.int .u64 x)).setCell ⟨g, ro + (2 * m + 1), none⟩ (.int .u64 (ofW 6 ((p + 2 * m + 2 : Nat) : Int)))) lb ab (p + 2 * kids.length + wAll (kids.take (m + 1))) g (ro + 2 * kids.length + wAll (kids.take (m + 1))) (r - 2 * kids.length - wAll (kids.take (m + 1))) (layAll (kids.take (m + 1)) (p + 2 * kids.length) L).2.2 F2 C cs2 ∧
      (∀ k, k ∈ F2 → k ∈ F ∨ w.heap.size ≤ k) ∧ Kept (lb :: g :: F) w ((w'.setCell ⟨g, ro + 2 * m, none⟩ (.int .u64 x)).setCell ⟨g, ro + (2 * m + 1), none⟩ (.int .u64 (ofW 6 ((p + 2 * m + 2 : Nat) : Int)))) ∧ MidL kids p L cs cs2 ro (m + 1) ∧
      (∃ u, w'.cell? ⟨g, ro + 2 * m, none⟩ = some (.int .u64 u)) ∧ w'.frozen? ⟨g, ro + 2 * m, none⟩ = false ∧ (∃ u, w'.cell? ⟨g, ro + (2 * m + 1), none⟩ = some (.int .u64 u)) ∧ w'.frozen? ⟨g, ro + (2 * m + 1), none⟩ = false := by
  have hm : m < kids.length := by
    rcases Nat.lt_or_ge m kids.length with h | h
    · exact h
    · rw [List.getElem?_eq_none h] at ht; simp at ht
  have hw1a := wAll_take_le kids (m + 1)
  have hts := take_snoc ht
  rw [hts, wAll_snoc] at hw1a
  have hc1 := cntAll_take_le kids (m + 1)
  rw [hts, cntAll_snoc] at hc1
  have hLa := layAll_atoms (kids.take m) (p + 2 * kids.length) L
  refine (IH lb ab _ g _ _ _ F' C cs' _ (hlw.keep hwa) (by omega) (by omega)).mono ?_
  rintro e wz ⟨rfl, F2, cs2, hlw2, hF2, hk2, hput⟩
  have hmid2 := hmid.step ht hput
  have hroom := hlw.room
  rw [hts, wAll_snoc, layAll_snoc]
  have hset := (hlw2.set (ro + 2 * m) (layT t (p + 2 * kids.length + wAll (kids.take m)) (layAll (kids.take m) (p + 2 * kids.length) L).2.2).1).set (ro + (2 * m + 1)) (ofW 6 ((p + 2 * m + 2 : Nat) : Int))
  have hc := hlw2.cells (ro + 2 * m) (by omega)
  have hd := hlw2.cells (ro + (2 * m + 1)) (by omega)
  have hkz : Kept (lb :: g :: F) w wz := (hk.trans (Kept.of_below hwa)).after hk2 (fun x hx => by
    simp only [List.mem_cons] at hx ⊢
    rcases hx with h | h | h
    · exact Or.inl (Or.inl h)
    · exact Or.inl (Or.inr (Or.inl h))
    · rcases hF x h with h | h
      · exact Or.inl (Or.inr (Or.inr h))
      · exact Or.inr h)
  refine ⟨_, F2, _, rfl, ?_, ?_, (hkz.sets _ _ (by simp)).sets _ _ (by simp), hmid2, ⟨_, hc.1⟩, hc.2, ⟨_, hd.1⟩, hd.2⟩
  · have e1 : p + 2 * kids.length + (wAll (kids.take m) + wN t) = p + 2 * kids.length + wAll (kids.take m) + wN t := by omega
    have e2 : ro + 2 * kids.length + (wAll (kids.take m) + wN t) = ro + 2 * kids.length + wAll (kids.take m) + wN t := by omega
    have e3 : r - 2 * kids.length - (wAll (kids.take m) + wN t) = r - 2 * kids.length - wAll (kids.take m) - wN t := by omega
    rw [e1, e2, e3]
    exact hset
  · intro k hk'
    rcases hF2 k hk' with h | h
    · exact hF k h
    · right
      have h1 := hk.size
      have h2 := hwa.size
      omega
end Go.Proofs.YtmijabhnbmmmfaaGreat


/- A list laid: the walk. -/
namespace Go.Proofs.YtmijabhnbmmmfaaGreat
open Go.RowKit Go.Deep
attribute [local go_sem] store_float f64bits
attribute [local go_sem ↓] Go.wp_at_zero Go.wp_at_succ

theorem list_0 (lb c : Nat) (a : Option Addr) (w : World) : Calls Tryz.prog 60 #[.pointer (some ⟨lb, 0, none⟩), .slice a 0 c] w fun e w' => e = .returned (.int .u64 (ofW 4 0)) ∧ w' = w := by
  go_enter Tryz.func60, Tryz.ntmps60
  go_wp2_with (go_at_call 58; refine (hof_any 4 0 (by omega) _).mono ?_; rintro e w' ⟨rfl, rfl⟩)
  go_ret
  exact ⟨rfl, rfl⟩

set_option maxHeartbeats 1600000 in
set_option maxRecDepth 100000 in
theorem list_k (P : Nat → Prop) (w0 : World) (k n : Int) (f : Nat) (s : ByteArray) (a : Option Addr) (c : Nat) (kids : List Tr) (hin : (Tr.mk k n f s a c kids).In w0 0) (hon : (Tr.mk k n f s a c kids).On P) (hk : ∀ t, t ∈ kids → LayOk P w0 t) (hpos : 0 < kids.length)
    (lb ab p g ro r : Nat) (L : List ByteArray) (F : List Nat) (C : Nat) (cs : Nat → Int) (w : World) (h : LW P w0 w lb ab p g ro r L F C cs) (hr : 2 * kids.length + wAll kids ≤ r) (hL : L.length + 1 + cntAll kids ≤ 100000) (hml : kids.length ≤ 16777216) :
    Calls Tryz.prog 60 #[.pointer (some ⟨lb, 0, none⟩), .slice a kids.length c] w fun e w' => e = .returned (.int .u64 (ofW 6 p)) ∧
      ∃ F' cs', LW P w0 w' lb ab (p + (2 * kids.length + wAll kids)) g (ro + (2 * kids.length + wAll kids)) (r - (2 * kids.length + wAll kids)) (layAll kids (p + 2 * kids.length) L).2.2 F' C cs' ∧ (∀ k, k ∈ F' → k ∈ F ∨ w.heap.size ≤ k) ∧ Kept (lb :: g :: F) w w' ∧ Put cs cs' ro (pairs (layAll kids (p + 2 * kids.length) L).1 p ++ (layAll kids (p + 2 * kids.length) L).2.1) := by
  have HK := hidb hk
  have HIN := hidb hin
  have HON := hidb hon
  have HLW := hidb h
  obtain ⟨v, hq, hv⟩ := h.ls.quad
  have HV := hidb hv
  have HQ := hidb hq
  have hsm := h.small
  clear hk hin hon h hq hv
  have hlt := HQ.out.lt
  have hn0 : ¬ kids = [] := by intro e; rw [e] at hpos; simp at hpos
  go_enter Tryz.func60, Tryz.ntmps60
  go_wp2_with fail
  have e1 : ((2 * kids.length : Nat) : Int) = 2 * (kids.length : Int) := by omega
  have CUT := cut_any lb ab g p 0 ro (2 * kids.length) r v _ HQ.out HV.out (by omega) (by omega) (by omega) (by omega) (by omega)
  rw [e1] at CUT
  refine CUT.mono ?_
  rintro e w1 ⟨rfl, v1, hq1, hv1, hk1⟩
  have HL1 := hidb (HLW.out.cut (n := 2 * kids.length) (by rw [e1]; exact hq1) hv1 hk1 (by omega))
  have HKW := hidb (hk1.mono (G := lb :: g :: F) (fun k hk _ => by simp at hk; simp [hk]))
  clear CUT hq1 hv1 hk1 HQ HV e1
  go_wp2_with fail
  go_loopw [23] (fun iv wr => ∃ (m : Nat) (F' : List Nat) (cs' : Nat → Int), m ≤ kids.length ∧ iv = .int .i64 m ∧
    LW P w0 wr lb ab (p + 2 * kids.length + wAll (kids.take m)) g (ro + 2 * kids.length + wAll (kids.take m)) (r - 2 * kids.length - wAll (kids.take m)) (layAll (kids.take m) (p + 2 * kids.length) L).2.2 F' C cs' ∧ (∀ k, k ∈ F' → k ∈ F ∨ w.heap.size ≤ k) ∧ Kept (lb :: g :: F) w wr ∧ MidL kids p L cs cs' ro m) (fun iv _ => kids.length - (intOf iv).toNat)
  case atStart =>
    refine ⟨0, F, cs, by omega, rfl, ?_, fun k hk => Or.inl hk, HKW.out, ?_⟩
    · have := HL1.out
      simp only [List.take_zero, wAll, layAll, Nat.add_zero, Nat.sub_zero]
      exact this
    · refine ⟨fun j hj => rfl, fun i x hi => ?_, fun i hi => by omega, fun i x hi => ?_⟩
      · simp [layAll] at hi
      · simp [layAll] at hi
  case round =>
    obtain ⟨m, F', cs', hm, rfl, hlw, hF', hkw, hmid⟩ := hrel
    have HLM := hidb hlw
    have HFM := hidb hF'
    have HKM := hidb hkw
    have HMD := hidb hmid
    clear hlw hF' hkw hmid HL1 HKW
    by_cases hml' : m < kids.length
    · have hmb : (m : Int) < (kids.length : Int) := by omega
      obtain ⟨b', o, rfl, hat⟩ := kid_at HIN.out (by omega)
      obtain ⟨k', n', f', s', a', c', kids', hu', hin', x0, x1, x2, x3, x4⟩ := hat m hml'
      have hlb : b' < w0.heap.size := World.block_lt_of_cell? w0 _ x0
      have hPb : P b' := by have := HON.out; unfold Tr.On at this; exact this.1 (by omega) _ rfl
      have v0 := (HLM.out.below.cell hPb hlb).trans x0
      have v1 := (HLM.out.below.cell hPb hlb).trans x1
      have v2 := (HLM.out.below.cell hPb hlb).trans x2
      have v3 := (HLM.out.below.cell hPb hlb).trans x3
      have v4 := (HLM.out.below.cell hPb hlb).trans x4
      have IH := hidb (HK.out _ (List.mem_of_getElem? hu'))
      have HUU := hidb hu'
      clear hu' hin' hat x0 x1 x2 x3 x4
      have hmz : (0 : Int) ≤ (m : Int) := by omega
      have CALL := hidb (lay_stepL (wa := wr.alloc (.cells #[.int .i64 k', .int .i64 n', .float .f64 f', .string s', .slice a' kids'.length c'] 44)) IH.out HUU.out HLM.out HFM.out HKM.out HMD.out hr hL (below_new wr _))
      have ec : ((p + 2 * m + 2 : Nat) : Int) = (p : Int) + 2 * (m : Int) + 2 := by omega
      rw [ec] at CALL
      clear ec
      go_wp2_with fail
      refine CALL.out.mono ?_
      rintro e wz ⟨xw, F2, cs2, rfl, hlw2, hF2, hk2, hmid2, ⟨u, hcu⟩, hfu, ⟨u2, hcu2⟩, hfu2⟩
      have H1 := hidb hlw2
      have H2 := hidb hF2
      have H3 := hidb hk2
      have H4 := hidb hmid2
      clear hlw2 hF2 hk2 hmid2 CALL IH v0 v1 v2 v3 v4
      have hil : 2 * (m : Int) < ((2 * kids.length : Nat) : Int) := by omega
      have hil2 : 2 * (m : Int) + 1 < ((2 * kids.length : Nat) : Int) := by omega
      have hi0 : (0 : Int) ≤ 2 * (m : Int) := by omega
      have hi2 : (0 : Int) ≤ 2 * (m : Int) + 1 := by omega
      have hia : (2 * (m : Int)).toNat = 2 * m := by omega
      have hib : (2 * (m : Int) + 1).toNat = 2 * m + 1 := by omega
      go_wp2_with (go_at_call 58; refine (hof_any 6 ((p : Int) + 2 * (m : Int) + 2) (by omega) _).mono ?_; rintro e w' ⟨rfl, rfl⟩)
      exact ⟨⟨m + 1, F2, cs2, by omega, by go_num, H1.out, H2.out, H3.out, H4.out⟩, by simp [intOf]; omega⟩
    · have hmn : ¬ (m : Int) < (kids.length : Int) := by omega
      obtain rfl : m = kids.length := by omega
      have hcl : (2 : Int) * (kids.length : Int) - 1 < ((2 * kids.length : Nat) : Int) := by omega
      have hc0 : (0 : Int) ≤ 2 * (kids.length : Int) - 1 := by omega
      have hca : (2 * (kids.length : Int) - 1).toNat = 2 * kids.length - 1 := by omega
      have hcc := HLM.out.cells (ro + (2 * kids.length - 1)) (by have := HLM.out.room; omega)
      obtain ⟨q0, q1⟩ := hcc
      go_wp2_with fail
      refine (hof_any 4 0 (by omega) _).mono ?_
      rintro e w' ⟨rfl, rfl⟩
      go_wp2_with fail
      refine (hof_any 6 p (by omega) _).mono ?_
      rintro e w'' ⟨rfl, rfl⟩
      go_wp2
      go_ret
      have hd := HMD.out.done hpos
      have hlw := HLM.out.set (ro + (2 * kids.length - 1)) (ofW 4 0)
      rw [List.take_length] at hlw
      refine ⟨rfl, F', _, ?_, HFM.out, HKM.out.sets _ _ (by simp), hd⟩
      have e4 : p + (2 * kids.length + wAll kids) = p + 2 * kids.length + wAll kids := by omega
      have e5 : ro + (2 * kids.length + wAll kids) = ro + 2 * kids.length + wAll kids := by omega
      have e6 : r - (2 * kids.length + wAll kids) = r - 2 * kids.length - wAll kids := by omega
      rw [e4, e5, e6]
      exact hlw
end Go.Proofs.YtmijabhnbmmmfaaGreat


