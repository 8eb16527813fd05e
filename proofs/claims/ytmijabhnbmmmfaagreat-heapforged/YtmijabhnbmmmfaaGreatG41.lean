import Derived.Test.YtmijabhnbmmmfaaGreatG40
import Derived.Test.YtmijabhnbmmmfaaGreatG34
import Derived.BigQuiet
/- Load of any word. -/
namespace Go.Proofs.YtmijabhnbmmmfaaGreat
open Go.RowKit Go.Deep
attribute [local go_sem] store_float f64bits f64frombits
attribute [local go_sem ↓] Go.wp_at_zero Go.wp_at_succ

section
variable {hb ab most gb : Nat} {ws : List Int} {L : List ByteArray} {F : List Nat} {a : Option Addr} {c : Nat}

theorem right_word {u : Int} (h : wRightB u = true) : mayB (tagI u) (bodyI u) = true ∧ u = ofW (tagI u) (bodyI u) := by
  unfold wRightB ofE at h
  simp only [Bool.and_eq_true, beq_iff_eq] at h
  refine ⟨?_, h.2.symm⟩
  have h1 := h.1
  split at h1
  · split at h1
    · assumption
    · omega
  · omega

/-- A word that stands alone says a right term. -/
theorem alone_says {u : Int} {d W : Nat} (hLz : ∀ (i : Nat) (s : ByteArray), L[i]? = some s → s.size ≤ 64) (hd : d ≤ 200) (hW : W ≤ 65536) (hr : wRightB u = true) (ht : tagI u = 1 ∨ tagI u = 2 ∨ tagI u = 3 ∨ tagI u = 4) (hb : aloneB L u = true) : GOk ws L u d 1 W W := by
  obtain ⟨hm, hu⟩ := right_word hr
  right
  rcases ht with e | e | e | e
  · rw [e] at hm hu
    have hn : -576460752303423488 ≤ bodyI u ∧ bodyI u ≤ 576460752303423487 := by simpa [mayB] using hm
    refine ⟨.mk 1 (bodyI u) 0 ⟨#[]⟩ none 0 [], ?_, ?_, by simp [allT, allAll, smF], by simp [deepN, deepNs], by simp [deepN, deepNs]; omega, by simp [wN], hW⟩
    · unfold Rep; rw [if_pos rfl]; exact hu
    · have h1 : goodT (.mk 1 (bodyI u) 0 ⟨#[]⟩ none 0 []) = true := by
        have := whB_mk hn
        simp [goodT, rightB, this, ByteArray.toList_eq]
      simp only [allT, allAll, h1, Bool.and_self]
  · rw [e] at hm hu
    unfold aloneB at hb
    rw [if_pos e] at hb
    have hn : 0 ≤ bodyI u ∧ bodyI u < L.length := by simpa [txIs] using hb
    obtain ⟨i, hi⟩ : ∃ i : Nat, bodyI u = i := ⟨(bodyI u).toNat, by omega⟩
    rw [hi] at hu hn
    obtain ⟨s, hs⟩ : ∃ s, L[i]? = some s := ⟨_, List.getElem?_eq_getElem (by omega)⟩
    refine ⟨.mk 3 0 0 s none 0 [], ?_, ?_, by simp [allT, allAll, smF], by simp [deepN, deepNs], by simp [deepN, deepNs]; omega, by simp [wN], hW⟩
    · unfold Rep; rw [if_neg (by decide), if_neg (by decide), if_pos rfl]; exact ⟨i, hu, hs⟩
    · have := hLz i s hs
      simp [allT, allAll, goodT, this]
  · rw [e] at hm hu
    have hn : 0 ≤ bodyI u ∧ bodyI u ≤ 1099511627776 := by simpa [mayB] using hm
    refine ⟨.mk 6 (bodyI u) 0 ⟨#[]⟩ none 0 [], ?_, ?_, by simp [allT, allAll, smF], by simp [deepN, deepNs], by simp [deepN, deepNs]; omega, by simp [wN], hW⟩
    · unfold Rep; rw [if_neg (by decide), if_pos rfl]; exact hu
    · simp [allT, allAll, goodT, hn.1, hn.2, ByteArray.toList_eq]
  · rw [e] at hm hu
    have hn : bodyI u = 0 := by simpa [mayB] using hm
    rw [hn] at hu
    refine ⟨.mk 8 0 0 ⟨#[]⟩ none 0 [], ?_, ?_, by simp [allT, allAll, smF], by simp [deepN, deepNs], by simp [deepN, deepNs]; omega, by simp [wN, wAll], hW⟩
    · unfold Rep; rw [if_neg (by decide), if_neg (by decide), if_neg (by decide), if_pos rfl]; unfold RepL; exact hu
    · simp [allT, allAll, goodT, ByteArray.toList_eq]

theorem gover_any (hL : L.length ≤ 100000) (hLz : ∀ (i : Nat) (s : ByteArray), L[i]? = some s → s.size ≤ 64) (hws : ws.length ≤ 16777216) (hwr : ∀ (i : Nat) (x : Int), ws[i]? = some x → 0 ≤ x ∧ x ≤ 18446744073709551615) (hA : ws = [] ∨ ∃ g, a = some ⟨g, 0, none⟩) (hgh : gb ≠ hb) (hgF : gb ∉ F) (hgg : ∀ g, a = some ⟨g, 0, none⟩ → gb ≠ g) : ∀ B, OvAny hb ab most gb ws L F a c B := by
  intro B
  induction B with
  | zero => intro W w u d h1 h2; omega
  | succ B ih =>
    intro W w u d hB hW h0 h1 hd1 hd hp hg
    by_cases hdd : 200 < d
    · exact over_deep hdd hW hg
    cases hpt : ptB u with
    | false =>
      by_cases hr : wRightB u = true ∧ (tagI u = 1 ∨ tagI u = 2 ∨ tagI u = 3 ∨ tagI u = 4)
      · exact over_al h0 h1 hpt (by omega) hW hg (alone_ok hp u h0 h1 hr.1 hr.2) (fun hb => alone_says hLz (by omega) hW hr.1 hr.2 hb)
      · refine over_al h0 h1 hpt (by omega) hW hg (alone_no u h0 h1 ?_) (fun h => by cases h)
        cases hw : wRightB u with
        | false => exact Or.inl rfl
        | true => exact Or.inr fun h => hr ⟨hw, h⟩
    | true =>
      have ht : tagI u = 5 ∨ tagI u = 6 := by simpa [ptB] using hpt
      refine over_pt h0 h1 ht (by omega) hg ?_
      rcases blk_any (hb := hb) (ab := ab) (most := most) (F := F) (c := c) hL hws hwr hA h0 h1 ht with ⟨A, El, n, n', m, cc, f, k, N, y, hn, hblk⟩ | ⟨g, ha, A, n, q, m, cc, f, k, N, y, hn1, hn, hm, y0, y1, hel, hblk, hmk⟩
      · exact into_no hn hW (hblk w hp) hg
      · exact into_yes ih ha hd1 (by omega) hW hB hn1 hn hm y0 y1 hwr hel (body_pos h0 h1 ht).1 h0 h1 hgh hgF (hgg g ha) hblk hmk hp hg
end

/-- In no words only what stands alone is said. -/
theorem rep_empty {hb ab most : Nat} {ws : List Int} {L : List ByteArray} {F : List Nat} {a : Option Addr} {c : Nat} (he : ws = []) (hL : L.length ≤ 100000) (t : Tr) (hg : allT goodT t = true) (u : Int) (h : Rep ws L t u) : RdOk hb ab most ws L F a c t u := by
  obtain ⟨k, n, f, s, a', c', kids⟩ := t
  simp only [allT, Bool.and_eq_true] at hg
  have hg1 := hg.1
  unfold Rep at h
  by_cases c1 : k = 1
  · rw [if_pos c1] at h
    subst c1 h
    simp [goodT] at hg1
    obtain ⟨hs0, hl0, ⟨_, hw, hf0⟩ | ⟨hq, _⟩⟩ := rightB_cases0 hg1
    · have e0 : kids = [] := List.length_eq_zero_iff.1 hl0
      subst e0 hf0
      obtain rfl := empty_of hs0
      have hb' := whB_yes hw
      obtain ⟨m1, m2, m3, m4, m5⟩ := of_made (t := 1) (b := n) (by decide) (by decide) (by simp [mayB]; omega)
      have e1 : aloneK (ofW 1 n) = 1 := by unfold aloneK; rw [m1]; rfl
      have e2 : aloneN (ofW 1 n) = n := by unfold aloneN; rw [m1, m2]; rfl
      have e3 : aloneS L (ofW 1 n) = ⟨#[]⟩ := by unfold aloneS; rw [m1]; rfl
      refine read_alone m3 m4 m5 (by omega) ?_ (by rw [e1]; decide) (by rw [e2]; exact wf64 (by omega) (by omega)) (by rw [e3]; exact Nat.zero_le _)
      rw [e1, e2, e3]
      unfold Same SameAll
      exact ⟨rfl, rfl, rfl, rfl, trivial⟩
    · omega
  rw [if_neg c1] at h
  by_cases c6 : k = 6
  · rw [if_pos c6] at h
    subst c6 h
    simp [goodT] at hg1
    have e0 : kids = [] := hg1.2.2
    have hf0 := hg1.2.1.1
    subst e0 hf0
    obtain rfl := empty_of (s := s) (by simpa using hg1.2.1.2)
    obtain ⟨m1, m2, m3, m4, m5⟩ := of_made (t := 3) (b := n) (by decide) (by decide) (by simp [mayB]; omega)
    have e1 : aloneK (ofW 3 n) = 6 := by unfold aloneK; rw [m1]; rfl
    have e2 : aloneN (ofW 3 n) = n := by unfold aloneN; rw [m1, m2]; rfl
    have e3 : aloneS L (ofW 3 n) = ⟨#[]⟩ := by unfold aloneS; rw [m1]; rfl
    refine read_alone m3 m4 m5 (by omega) ?_ (by rw [e1]; decide) (by rw [e2]; exact wf64 (by omega) (by omega)) (by rw [e3]; exact Nat.zero_le _)
    rw [e1, e2, e3]
    unfold Same SameAll
    exact ⟨rfl, rfl, rfl, rfl, trivial⟩
  rw [if_neg c6] at h
  by_cases c3 : k = 3
  · rw [if_pos c3] at h
    obtain ⟨i, rfl, hi⟩ := h
    subst c3
    simp [goodT] at hg1
    have e0 : kids = [] := hg1.2.2
    have hf0 := hg1.2.1.1
    have hn0 := hg1.2.1.2
    subst e0 hf0 hn0
    have hil := get_lt hi
    obtain ⟨m1, m2, m3, m4, m5⟩ := of_made (t := 2) (b := (i : Int)) (by decide) (by decide) (by simp [mayB]; omega)
    have e1 : aloneK (ofW 2 (i : Int)) = 3 := by unfold aloneK; rw [m1]; rfl
    have e2 : aloneN (ofW 2 (i : Int)) = 0 := by unfold aloneN; rw [m1]; rfl
    have e3 : aloneS L (ofW 2 (i : Int)) = s := by
      have hti : txIs L (i : Int) = true := by simp [txIs]; omega
      unfold aloneS; rw [m1, m2]; simp [txOf, hti, hi]
    refine read_alone m3 m4 m5 (by omega) ?_ (by rw [e1]; decide) (by rw [e2]; decide) (by rw [e3]; exact Nat.le_trans hg1.1 (by unfold maxLen; omega))
    rw [e1, e2, e3]
    unfold Same SameAll
    exact ⟨rfl, rfl, rfl, rfl, trivial⟩
  rw [if_neg c3] at h
  by_cases c8 : k = 8
  · rw [if_pos c8] at h
    subst c8
    simp [goodT] at hg1
    obtain ⟨⟨rfl, rfl⟩, hs0⟩ := hg1
    obtain rfl := empty_of (s := s) (by simpa using hs0)
    cases kids with
    | nil => unfold RepL at h; subst h; exact read_nil
    | cons t r =>
      unfold RepL at h
      obtain ⟨p, _, _, ⟨x, hx, _⟩, _⟩ := h
      rw [he] at hx
      simp at hx
  rw [if_neg c8] at h
  obtain ⟨p, _, _, hfr, _⟩ := h
  have h0 : 0 < (front k n f kids.length).length := by unfold front; repeat' split
                                                       all_goals simp
  have := hfr 0 _ (List.getElem?_eq_getElem h0)
  rw [he] at this
  simp at this

/-- What Load of any word tells: nothing, or a right term. -/
def LdPost (w : World) (e : Ending) (w' : World) : Prop :=
  Below w.heap.size w w' ∧ (e = .returned (.tuple #[.agg #[.int .i64 0, .int .i64 0, .float .f64 0, .string ⟨#[]⟩, .slice none 0 0], .int .i64 4]) ∨
    ∃ t' : Tr, e = .returned (.tuple #[t'.val, .int .i64 0]) ∧ t'.In w' w.heap.size ∧ errT t' = 0 ∧ Small t')

section
variable {hb ab most : Nat} {ws : List Int} {L : List ByteArray} {F : List Nat} {a : Option Addr} {c : Nat}

set_option maxHeartbeats 1000000 in
theorem holds_any {gb W : Nat} {u : Int} (w : World) (hp : HP w hb ab most ws L F a c) (hg : Tri w gb (.pointer (some ⟨hb, 0, none⟩)) (.int .i64 W) (.slice none 0 0)) (hgh : gb ≠ hb) (hgF : gb ∉ F) (hgg : ∀ g, a = some ⟨g, 0, none⟩ → gb ≠ g) (h0 : 0 ≤ u) (h1 : u ≤ 18446744073709551615) (h : OvAny hb ab most gb ws L F a c 65537) :
    Calls Tryz.prog 37 #[.pointer (some ⟨gb, 0, none⟩), .int .u64 u] w fun e w' => ∃ D W' : Nat, e = .returned (.bool (decide (0 < D))) ∧ But (· = gb) w w' ∧ GOk ws L u 1 D 0 W' := by
  have hg2 := hg.set1 (.int .i64 0)
  have hb2 : But (· = gb) w (w.setCell ⟨gb, 1, none⟩ (.int .i64 0)) := (But.refl (· = gb) w).setCell (p := ⟨gb, 1, none⟩) (fun _ => rfl) _
  have OV := hidb (h 0 _ u 1 (by omega) (by omega) h0 h1 (by omega) (by omega) (hp.but hb2 (fun e => hgh e.symm) (fun x hx e => hgF (e ▸ hx)) (fun g hg' e => hgg g hg' e.symm)) hg2)
  have HB2 := hidb hb2
  obtain ⟨c0, c1, c2, f0, f1, f2, hlt⟩ := hg
  clear hp h hg2 hb2
  go_enter Tryz.func37, Tryz.ntmps37
  go_wp2_with fail
  refine OV.out.mono ?_
  rintro e w1 ⟨D, W', rfl, _, hb1, _, _, hok⟩
  have HB := hidb (HB2.out.trans hb1)
  have HOK := hidb hok
  clear hb1 OV hok
  have hDd : decide ((0 : Int) < (D : Int)) = decide (0 < D) := by simp
  go_wp2
  exact bodyPost_ret (v := .bool (decide (0 < D))) (by simp [results, Tryz.results37, go_sem]) rfl ⟨D, W', rfl, HB.out, HOK.out⟩

set_option maxHeartbeats 1600000 in
set_option maxRecDepth 100000 in
theorem load_any (w : World) (u : Int) (hp : HP w hb ab most ws L F a c) (hL : L.length ≤ 100000) (hLz : ∀ (i : Nat) (s : ByteArray), L[i]? = some s → s.size ≤ 64) (hwr : ∀ (i : Nat) (x : Int), ws[i]? = some x → 0 ≤ x ∧ x ≤ 18446744073709551615) (h0 : 0 ≤ u) (h1 : u ≤ 18446744073709551615) :
    Calls Tryz.prog 19 #[.pointer (some ⟨hb, 0, none⟩), .int .u64 u] w (LdPost w) := by
  have hlt := hp.tri.lt
  have hFlt := hp.tab.lt
  have hws : ws.length ≤ 16777216 := Nat.le_trans hp.fits hp.small
  have hA : ws = [] ∨ ∃ g, a = some ⟨g, 0, none⟩ := by
    rcases hp.row with ⟨_, _, e⟩ | ⟨g, cs, e, _⟩
    · exact Or.inl e
    · exact Or.inr ⟨g, e⟩
  have hglt : ∀ g, a = some ⟨g, 0, none⟩ → g < w.heap.size := by
    intro g ha
    rcases hp.row with ⟨e, _⟩ | ⟨g', cs, e, _, _, _, h4⟩
    · rw [ha] at e; cases e
    · rw [ha] at e
      obtain rfl : g = g' := by simpa using e
      exact h4
  have hFW : w.heap.size + 1 ∉ F := fun h => by have := hFlt _ h; omega
  have hgg : ∀ g', a = some ⟨g', 0, none⟩ → w.heap.size + 1 ≠ g' := fun g' e => by have := hglt g' e; omega
  have OV := gover_any (hb := hb) (ab := ab) (most := most) (gb := w.heap.size + 1) (c := c) hL hLz hws hwr hA (by omega) hFW hgg 65537
  have RD := hidb (fun (g : Nat) (ha : a = some ⟨g, 0, none⟩) (t : Tr) h1 h2 h3 (h : Rep ws L t u) => rep_readP (hb := hb) (ab := ab) (most := most) (F := F) (c := c) ha hL t h1 h2 h3 u h)
  have RD0 := hidb (fun (ha : ws = []) (t : Tr) (hg : allT goodT t = true) (h : Rep ws L t u) => rep_empty (hb := hb) (ab := ab) (most := most) (F := F) (a := a) (c := c) ha hL t hg u h)
  have HPP := hidb hp
  have HB0 := hidb (show Below w.heap.size w ((w.alloc (.cells #[.int .i64 0, .int .i64 0, .float .f64 0, .string ⟨#[]⟩, .slice none 0 0] 44)).alloc (.cells #[.pointer (some ⟨hb, 0, none⟩), .int .i64 0, .slice none 0 0] 103)) from (below_new w _).alloc (by simp) _)
  have e1 : (w.alloc (.cells #[.int .i64 0, .int .i64 0, .float .f64 0, .string ⟨#[]⟩, .slice none 0 0] 44)).heap.size = w.heap.size + 1 := by simp
  have tr := Tri.new (w.alloc (.cells #[.int .i64 0, .int .i64 0, .float .f64 0, .string ⟨#[]⟩, .slice none 0 0] 44)) 103 (.pointer (some ⟨hb, 0, none⟩)) (.int .i64 0) (.slice none 0 0)
  rw [e1] at tr
  have HBX := hidb ((Box.new w 44 (.int .i64 0) (.int .i64 0) (.float .f64 0) (.string ⟨#[]⟩) (.slice none 0 0)).keep (below_new _ (.cells #[.pointer (some ⟨hb, 0, none⟩), .int .i64 0, .slice none 0 0] 103)))
  have HO := hidb (holds_any (gb := w.heap.size + 1) (W := 0) _ (hp.keep HB0.out) tr (by omega) hFW hgg h0 h1 OV)
  have HS : Hid (¬ hb = w.heap.size + 1 ∧ w.heap.size ≠ w.heap.size + 1 ∧ w.heap.size + 1 ∉ F) := hidb ⟨by omega, by omega, hFW⟩
  have HGG := hidb hgg
  have HA := hidb hA
  clear hp hlt hFlt hws hglt hFW hgg OV tr e1 hA hLz hwr
  go_enter Tryz.func19, Tryz.ntmps19
  go_wp2_with fail
  refine HO.out.mono ?_
  rintro e w2 ⟨D, W', rfl, hbt, hok⟩
  have HOK := hidb hok
  have HP2 := hidb ((HPP.out.keep HB0.out).but hbt (fun e => HS.out.1 e) (fun x hx e => HS.out.2.2 (e ▸ hx)) (fun g' e e2 => HGG.out g' e e2.symm))
  have HX2 := hidb (HBX.out.but hbt HS.out.2.1)
  have HB2 := hidb (HB0.out.trans (hbt.below HB0.out.size (fun k e => by have e' : k = w.heap.size + 1 := e; omega)))
  clear hbt HO HBX hok
  by_cases hz : D = 0
  · subst hz
    obtain ⟨d0, d1, d2, d3, d4, g0, g1, g2, g3, g4, -⟩ := HX2.out
    have hdf : decide (0 < 0) = false := rfl
    go_wp2_with fail
    exact bodyPost_ret (v := .tuple #[.agg #[.int .i64 0, .int .i64 0, .float .f64 0, .string ⟨#[]⟩, .slice none 0 0], .int .i64 4]) (by simp [results, Tryz.results19, go_sem, d0, d1, d2, d3, d4]) rfl ⟨below_set5 HB2.out (Nat.le_refl _) _ _ _ _ _, .inl rfl⟩
  obtain ⟨t, hrep, hgood, hsm, hDt, hdep, hWt, hWl⟩ : ∃ t, Rep ws L t u ∧ allT goodT t = true ∧ allT smF t = true ∧ D = deepN t ∧ 1 + deepN t ≤ 201 ∧ W' = 0 + wN t ∧ W' ≤ 65536 := HOK.out.resolve_left hz
  have hRD : RdOk hb ab most ws L F a c t u := by
    rcases HA.out with e | ⟨g, ha⟩
    · exact RD0.out e t hgood hrep
    · exact RD.out g ha t hsm hgood (by omega) hrep
  have HRD := hidb (hRD w2 HP2.out)
  have HT := hidb (show allT goodT t = true ∧ deepN t ≤ 200 ∧ wN t ≤ 65536 from ⟨hgood, by omega, by omega⟩)
  have hdt : decide (0 < D) = true := by simp; omega
  clear hrep hgood hsm hDt hdep hWt hWl hRD RD RD0 HOK hz
  go_wp2_with fail
  refine HRD.out.mono ?_
  rintro e w3 ⟨⟨k, n, f, s, a3, c3, ks⟩, rfl, hsm, hin3, hb3⟩
  have HX3 := hidb (HX2.out.keep hb3)
  have HSM := hidb hsm
  have HI3 := hidb hin3
  have HB3 := hidb (HB2.out.trans (hb3.mono HB2.out.size))
  have hwl : w.heap.size < w2.heap.size := HX2.out.lt
  obtain ⟨d0, d1, d2, d3, d4, g0, g1, g2, g3, g4, -⟩ := HX3.out
  clear hsm hin3 hb3 HRD
  simp only [Tr.val, Tr.cells]
  go_wp2_with fail
  obtain ⟨q1, q2, q3⟩ := same_like _ _ HSM.out
  obtain ⟨t1, t2, t3⟩ := HT.out
  exact bodyPost_ret (v := .tuple #[.agg #[.int .i64 k, .int .i64 n, .float .f64 f, .string s, .slice a3 ks.length c3], .int .i64 0]) (by simp [results, Tryz.results19, go_sem, d0, d1, d2, d3, d4]) rfl ⟨below_set5 HB3.out (Nat.le_refl _) _ _ _ _ _, .inr ⟨.mk k n f s a3 c3 ks, rfl, in_mono (Nat.le_of_lt hwl) _ (in_set5 hwl _ _ _ _ _ _ HI3.out), err_of (q1.trans t1) (by omega) (by omega), small_of _ (q1.trans t1) (by omega)⟩⟩
end
end Go.Proofs.YtmijabhnbmmmfaaGreat


/- Twin, of terms that are the same. -/
namespace Go.Proofs.YtmijabhnbmmmfaaGreat
open Go.RowKit Go.Deep
attribute [local go_sem] store_float f64bits f64frombits
attribute [local go_sem ↓] Go.wp_at_zero Go.wp_at_succ

theorem ent_twin : Ent 21 := by
  intro args w
  kernel_rfl

theorem sameAll_get : ∀ (l l' : List Tr), SameAll l l' → ∀ (j : Nat) (t t' : Tr), l[j]? = some t → l'[j]? = some t' → Same t t'
  | [], [], _, j, t, t', h, _ => by simp at h
  | u :: r, u' :: r', hl, j, t, t', h, h' => by
    unfold SameAll at hl
    rcases j with _ | j
    · obtain rfl : u = t := by simpa using h
      obtain rfl : u' = t' := by simpa using h'
      exact hl.1
    · exact sameAll_get r r' hl.2 j t t' (by simpa using h) (by simpa using h')
  | [], _ :: _, hl, _, _, _, _, _ => by unfold SameAll at hl; exact hl.elim
  | _ :: _, [], hl, _, _, _, _, _ => by unfold SameAll at hl; exact hl.elim

theorem step_twin {vs : Array Value} {ops : Array Oper} {o : Oper} {a : Act} {w : World} {K : Act → World → Prop} {Q : Exit → Act → World → Prop} {E : Prop} (hg : o.guard = none) (hrun : (execOp a.eval o).run Tryz.prog w = .ok (.enter 21 vs) w)
    (hc : Calls Tryz.prog 21 vs w fun e w' => e = .returned (.bool true) ∧ Below w.heap.size w w') (hok : ∀ w', Below w.heap.size w w' → K (a.put o.dst (.bool true)) w') :
    if Region.wanted o (yielded ops a.tmps) = true then Oper.wp Tryz.prog o a w K Q else E :=
  step_call hg hrun hc fun e w' hh => by
    obtain ⟨rfl, h⟩ := hh
    exact hok w' h

set_option maxHeartbeats 3000000 in
set_option maxRecDepth 100000 in
theorem twin_same : ∀ t t' : Tr, Same t t' → ∀ w, t.In w 0 → t'.In w 0 → Calls Tryz.prog 21 #[t.val, t'.val] w fun e w' => e = .returned (.bool true) ∧ Below w.heap.size w w' := by
  refine Tr.ind fun k n f s a c kids hk t' hs w hin hin' => ?_
  obtain ⟨k', n', f', s', a', c', kids'⟩ := t'
  unfold Same at hs
  obtain ⟨rfl, rfl, rfl, rfl, hsa⟩ := hs
  have hl := sameAll_len _ _ hsa
  have hsm := len_small hin
  obtain ⟨M, hM⟩ : ∃ M, kids.length = M := ⟨_, rfl⟩
  have hM' : kids'.length = M := by omega
  have HK := hidb hk
  have HSA := hidb hsa
  have HI := hidb hin
  have HI' := hidb hin'
  have HM := hidb hM
  have HM' := hidb hM'
  rw [hM] at hsm
  simp only [Tr.val, Tr.cells]
  rw [hM, hM']
  clear hk hsa hin hin' hl hM hM'
  go_enter Tryz.func21, Tryz.ntmps21
  go_wp2_with fail
  have X1 := (Box.new w 44 (.int .i64 k) (.int .i64 n) (.float .f64 f) (.string s) (.slice a M c)).keep (below_new _ (Obj.cells #[.int .i64 k, .int .i64 n, .float .f64 f, .string s, .slice a' M c'] 44))
  have X2 := Box.new (w.alloc (Obj.cells #[.int .i64 k, .int .i64 n, .float .f64 f, .string s, .slice a M c] 44)) 44 (.int .i64 k) (.int .i64 n) (.float .f64 f) (.string s) (.slice a' M c')
  have hs1 : (w.alloc (Obj.cells #[.int .i64 k, .int .i64 n, .float .f64 f, .string s, .slice a M c] 44)).heap.size = w.heap.size + 1 := by simp
  rw [hs1] at X2
  have HB2 : Hid (Below w.heap.size w ((w.alloc (Obj.cells #[.int .i64 k, .int .i64 n, .float .f64 f, .string s, .slice a M c] 44)).alloc (Obj.cells #[.int .i64 k, .int .i64 n, .float .f64 f, .string s, .slice a' M c'] 44))) := hidb ((below_new w _).alloc (by simp) _)
  generalize hW2 : ((w.alloc (Obj.cells #[.int .i64 k, .int .i64 n, .float .f64 f, .string s, .slice a M c] 44)).alloc (Obj.cells #[.int .i64 k, .int .i64 n, .float .f64 f, .string s, .slice a' M c'] 44)) = W2 at *
  clear hW2 hs1
  have HX1 := hidb X1
  have HX2 := hidb X2
  obtain ⟨x0, x1, x2, x3, x4, -, -, -, -, -, -⟩ := X1
  obtain ⟨y0, y1, y2, y3, y4, -, -, -, -, -, -⟩ := X2
  have k1 : (k != k) = false := by simp
  have k2 : (!(s.toList == s.toList)) = false := by simp
  have k3 : (n != n) = false := by simp
  have k4 : (((f : Nat) : Int) != ((f : Nat) : Int)) = false := by simp
  have k6 : (((M : Nat) : Int) != ((M : Nat) : Int)) = false := by simp
  go_quiet (fail)
  have HB4 := hidb (below_drewN HB2.out nq)
  have hbd : Below W2.heap.size W2 (W2.drewN nq) := below_drewN (Below.refl _ _) nq
  have HX3 := hidb (HX1.out.keep hbd)
  have HX4 := hidb (HX2.out.keep hbd)
  clear hbd x0 x1 x2 x3 x4 y0 y1 y2 y3 y4 HX1 HX2 HB2
  generalize W2.drewN nq = W4 at HB4 HX3 HX4 ⊢
  go_wp2_with fail
  clear k1 k2 k3 k4 k6
  go_loopw [5] (fun iv wr => ∃ (m : Nat), m ≤ M ∧ iv = .int .i64 m ∧ Below W4.heap.size W4 wr) (fun iv _ => M - (intOf iv).toNat)
  case atStart => exact ⟨0, by omega, rfl, Below.refl _ _⟩
  case round =>
    obtain ⟨m, hm, rfl, hby⟩ := hrel
    have HBY := hidb hby
    have HBW := hidb (HB4.out.trans (hby.mono HB4.out.size))
    have e4 := (HX3.out.keep hby).c4
    have g4 := (HX4.out.keep hby).c4
    clear hby
    by_cases hml : m < M
    · have hmb : (m : Int) < (M : Int) := by omega
      have hmz : (0 : Int) ≤ (m : Int) := by omega
      obtain ⟨b, o, rfl, hat⟩ := kid_at HI.out (by have := HM.out; omega)
      obtain ⟨k1, n1, f1, s1, a1, c1, ks1, hu1, hin1, x0, x1, x2, x3, x4⟩ := hat m (by have := HM.out; omega)
      obtain ⟨b', o', rfl, hat'⟩ := kid_at HI'.out (by have := HM'.out; omega)
      obtain ⟨k2, n2, f2, s2, a2, c2, ks2, hu2, hin2, y0, y1, y2, y3, y4⟩ := hat' m (by have := HM'.out; omega)
      have hlb : b < w.heap.size := World.block_lt_of_cell? w _ x0
      have hlb' : b' < w.heap.size := World.block_lt_of_cell? w _ y0
      have v0 := (HBW.out.cell hlb).trans x0
      have v1 := (HBW.out.cell hlb).trans x1
      have v2 := (HBW.out.cell hlb).trans x2
      have v3 := (HBW.out.cell hlb).trans x3
      have v4 := (HBW.out.cell hlb).trans x4
      have z0 := (HBW.out.cell hlb').trans y0
      have z1 := (HBW.out.cell hlb').trans y1
      have z2 := (HBW.out.cell hlb').trans y2
      have z3 := (HBW.out.cell hlb').trans y3
      have z4 := (HBW.out.cell hlb').trans y4
      have hss := sameAll_get _ _ HSA.out m _ _ hu1 hu2
      have hbd : Below wr.heap.size wr wr.drew := (Below.refl _ _).drew
      have TW := hidb (HK.out _ (List.mem_of_getElem? hu1) _ hss wr.drew (in_below (HBW.out.trans (hbd.mono HBW.out.size)) hin1) (in_below (HBW.out.trans (hbd.mono HBW.out.size)) hin2))
      simp only [Tr.val, Tr.cells] at TW
      clear hat hat' hu1 hu2 hin1 hin2 x0 x1 x2 x3 x4 y0 y1 y2 y3 y4 hss hbd
      go_wp2_with fail
      go_region_law (first
        | (refine step_twin rfl (run_call ent_twin #[.tmp 54, .tmp 59] _ rfl #[.agg #[.int .i64 k1, .int .i64 n1, .float .f64 f1, .string s1, .slice a1 ks1.length c1], .agg #[.int .i64 k2, .int .i64 n2, .float .f64 f2, .string s2, .slice a2 ks2.length c2]] rfl) TW.out ?_; intro wz hbz; have HBZ := hidb (HBY.out.trans ((undrew hbz).mono HBY.out.size)); clear hbz))
      all_goals (
        go_wp2_with fail
        go_roundw
        case rel => exact ⟨m + 1, by omega, by go_num, HBZ.out⟩
        case measure => simp [intOf]; omega)
    · have hmn : ¬ (m : Int) < (M : Int) := by omega
      go_wp2_with fail
      go_ret
      exact ⟨rfl, HBW.out⟩
end Go.Proofs.YtmijabhnbmmmfaaGreat


