import Derived.Test.YtmijabhnbmmmfaaGreatG38
import Derived.Test.YtmijabhnbmmmfaaGreatG11
/- The own words of a right term, as block tells them. -/
namespace Go.Proofs.YtmijabhnbmmmfaaGreat
open Go.RowKit Go.Deep

section
variable {hb ab most : Nat} {ws : List Int} {L : List ByteArray} {F : List Nat} {a : Option Addr} {c g : Nat}

/-- What block tells of a word: its own words lie at p, n of them. -/
def BlkIs (hb ab most : Nat) (ws : List Int) (L : List ByteArray) (F : List Nat) (a : Option Addr) (c g : Nat) (x : Int) (p n : Nat) : Prop :=
  ∃ (El : Option Addr) (m cc f : Nat) (k N y : Int), ∀ w, HP w hb ab most ws L F a c → Calls Tryz.prog 53 #[.pointer (some ⟨hb, 0, none⟩), .int .u64 x] w fun e w' =>
    e = .returned (.tuple #[.agg #[.slice (some ⟨g, p, none⟩) n n, .int .i64 k, .int .i64 N, .float .f64 f, .string ⟨#[]⟩, .slice none 0 0, .slice El m cc, .int .u64 y], .bool true]) ∧ Below w.heap.size w w'

theorem blkOf {n0 : Nat} (ha : a = some ⟨g, 0, none⟩) (k N : Int) (f p sz fr m : Nat) (hfr : frN k = fr) (hkB : hdB k = true) (hsz : sz ≤ 65536) (hw : ws[p]? = some (hdW k sz)) (hlen : p + (fr + m) ≤ ws.length) (hln : lnN k sz = ((fr + m : Nat) : Int)) (hlb : lnB k sz = true)
    (hf : f < 18446744073709551616) (hNw : (Lit.int .i64 N).wf = true) (hkw : (Lit.int .i64 k).wf = true)
    (hbr : ∀ w, HP w hb ab most ws L F a c → Calls Tryz.prog 99 #[.int .i64 k, .slice (some ⟨g, p, none⟩) (fr + m) (fr + m)] w fun e w'' => e = .returned (.agg #[.int .i64 (k), .int .i64 (N), .float .f64 (f), .string ⟨#[]⟩, .slice none 0 0]) ∧ Below w.heap.size w w'') (hgood : errT (.mk k N f ⟨#[]⟩ none 0 []) = 0)
    (hp : p ≤ 16777216) (hn0 : n0 = fr + m) : BlkIs hb ab most ws L F a c g (ofW 5 p) p n0 := by
  subst hn0
  obtain ⟨m1, m2, m3, m4, m5⟩ := box_made hp
  obtain ⟨e0, e1, e2, e3, e4⟩ := hd_made hkB (s := sz) (by omega) (by omega)
  have hfr0 : 1 ≤ fr := by rw [← hfr]; unfold frN; split <;> omega
  refine ⟨some ⟨g, if fr + m = fr then p else p + fr, none⟩, fr + m - fr, fr + m - fr, f, k, N, ofW 4 0, fun w hp' => ?_⟩
  refine block_of hb (ofW 5 p) p ⟨g, p, none⟩ ⟨g, if fr + m = fr then p else p + fr, none⟩ (fr + m) (fr + m - fr) (fr + m - fr) f k N (ofW 4 0) m3 m4 m2 w (Or.inr ⟨m1, fun w' hb' => ?_⟩)
  have := box_ok (hp'.keep hb') g ha p (fr + m) sz (hdW k sz) k N f hw e0 e1 e2 e3 e4 hln hlb hlen (by omega) hsz hf hNw hkw (fun w'' hb'' => hbr w'' ((hp'.keep hb').keep hb'')) hgood
  rw [hfr] at this
  exact this

set_option maxRecDepth 100000 in
theorem blk_rep (ha : a = some ⟨g, 0, none⟩) {t : Tr} {x : Int} {p0 : Nat} (hin : allT smF t = true) (hfi : Fine t) (h : Rep ws L t x) (hal : aloneT t = false) (hN : NewB ws L t x p0) : BlkIs hb ab most ws L F a c g x p0 (kindsOf t).length := by
  obtain ⟨k, n, f, s, a', c', kids⟩ := t
  have hg := hfi.1
  have hwn := hfi.2
  simp only [allT, Bool.and_eq_true] at hg hin
  obtain ⟨hg1, hg2⟩ := hg
  have hf : f < 18446744073709551616 := by have := hin.1; simpa [smF] using this
  unfold Rep at h
  simp only [wN] at hwn
  rcases not_alone hg1 hal with ⟨rfl, t, r, rfl⟩ | ⟨hB, c8, c1, c3, c6⟩
  · rw [if_neg (by decide), if_neg (by decide), if_neg (by decide), if_pos rfl] at h
    unfold RepL at h
    obtain ⟨p, rfl, hp, ⟨x, hx, hrx⟩, y, hy, hry⟩ := h
    have hpp := of_inj (t := 6) (by decide) (by decide) (by simp [mayB]; omega) (by have := hN.p_; simp [mayB]; omega) (show ofW 6 (p : Int) = ofW 6 (p0 : Int) from by have := hN.x_; simpa [tagT] using this)
    obtain rfl : p = p0 := by omega
    obtain ⟨m1, m2, m3, m4, m5⟩ := cons_made hp
    obtain ⟨ty, y0, y1, -⟩ := repl_tag hry
    have e2 : (kindsOf (.mk 8 n f s a' c' (t :: r))).length = 2 := by simp [kindsOf]
    rw [e2]
    exact ⟨some ⟨g, p, none⟩, 1, 2, 0, 8, 0, y, fun w hp' => block_of hb (ofW 6 p) p ⟨g, p, none⟩ ⟨g, p, none⟩ 2 1 2 0 8 0 y m3 m4 m2 w (Or.inl ⟨m1, fun w' hb' => pair_ok (hp'.keep hb') g p ha y hy y0 y1 ty⟩)⟩
  rw [if_neg c1, if_neg c6, if_neg c3, if_neg c8] at h hwn
  have hkL : (kindsOf (.mk k n f s a' c' kids)).length = frN k + kids.length := by simp [kindsOf, c8, c1, c3, c6]
  rw [hkL]
  obtain ⟨p, rfl, hp, hfr, hra⟩ := h
  have hpp := of_inj (t := 5) (by decide) (by decide) (by simp [mayB]; omega) (by have := hN.p_; simp [mayB]; omega) (show ofW 5 (p : Int) = ofW 5 (p0 : Int) from by have := hN.x_; simpa [tagT, c8] using this)
  obtain rfl : p = p0 := by omega
  have hfl : (front k n f kids.length).length = frN k := by
    unfold front frN
    by_cases c2 : k = 2
    · simp [c2]
    by_cases c4 : k = 4
    · simp [c4]
    by_cases c5 : k = 5
    · simp [c5]
    have c7 : k = 7 := by
      simp only [goodT, c1, c2, c3, c4, c5, c6, c8, or_self, if_false] at hg1
      by_cases h : k = 7
      · exact h
      · simp [h] at hg1
    simp [c7]
  have hplen : p + frN k ≤ ws.length := by
    have : frN k - 1 < (front k n f kids.length).length := by rw [hfl]; unfold frN; split <;> omega
    have := get_lt (hfr (frN k - 1) _ (List.getElem?_eq_getElem this))
    have : 1 ≤ frN k := by unfold frN; split <;> omega
    omega
  have hlen := all_len kids (p + (front k n f kids.length).length) hra (by rw [hfl]; exact hplen)
  rw [hfl] at hra hlen hwn
  by_cases c2 : k = 2
  · subst c2
    simp [goodT] at hg1
    obtain ⟨hs0, hl0, ⟨hq, _⟩ | ⟨_, hn0, hfin⟩⟩ := rightB_cases0 hg1
    · omega
    have e0 : kids = [] := List.length_eq_zero_iff.1 hl0
    subst e0 hn0
    obtain rfl := empty_of hs0
    have hx := hfr 1 (f : Int) rfl
    exact blkOf ha 2 0 f p 1 2 0 rfl rfl (by omega) (hfr 0 _ rfl) (by simpa [frN] using hlen) rfl rfl hf (by decide) (by decide) (fun w hp' => by
      obtain ⟨g', e', _, _, hc⟩ := hp_cell hp' (p + 1) (f : Int) hx
      rw [ha] at e'
      obtain rfl : g = g' := by simpa using e'
      exact bare_2 g p 2 f w (by omega) (hc w (Below.refl _ _))) (bare_err (by simp [goodT, rightB, hfin]) (by decide)) hp (by simp [frN])
  by_cases c4 : k = 4
  · subst c4
    simp [goodT] at hg1
    have e0 : kids = [] := hg1.2.2
    subst e0
    have hx := hfr 1 n rfl
    have hn := hg1.1
    have hf0 := hg1.2.1.1
    subst hf0
    obtain rfl := empty_of (s := s) (by simpa using hg1.2.1.2)
    exact blkOf ha 4 n 0 p 1 2 0 rfl rfl (by omega) (hfr 0 _ rfl) (by simpa [frN] using hlen) rfl rfl (by omega) (wf64 (by omega) (by omega)) (by decide) (fun w hp' => by
      obtain ⟨g', e', _, _, hc⟩ := hp_cell hp' (p + 1) n hx
      rw [ha] at e'
      obtain rfl : g = g' := by simpa using e'
      exact bare_n 4 (Or.inl rfl) g p 2 n w (by omega) hn.1 hn.2 (hc w (Below.refl _ _))) (bare_err (by simp [goodT]; exact hn) (by decide)) hp (by simp [frN])
  by_cases c5 : k = 5
  · subst c5
    simp [goodT] at hg1
    have hx := hfr 1 n rfl
    have hn := hg1.1
    have hf0 := hg1.2.1
    subst hf0
    obtain rfl := empty_of (s := s) (by simpa using hg1.2.2)
    exact blkOf ha 5 n 0 p kids.length 2 kids.length rfl rfl (by simp [frN] at hwn; omega) (hfr 0 _ rfl) (by simp [frN] at hlen; omega) (by simp [lnN]) (by simp [lnB]) (by omega) (wf64 (by omega) (by omega)) (by decide) (fun w hp' => by
      obtain ⟨g', e', _, _, hc⟩ := hp_cell hp' (p + 1) n hx
      rw [ha] at e'
      obtain rfl : g = g' := by simpa using e'
      exact bare_n 5 (Or.inr rfl) g p (2 + kids.length) n w (by omega) hn.1 (by omega) (hc w (Below.refl _ _))) (bare_err (by simp [goodT]; omega) (by decide)) hp (by simp [frN])
  have c7 : k = 7 := by
    simp only [goodT, c1, c2, c3, c4, c5, c6, c8, or_self, if_false] at hg1
    by_cases h : k = 7
    · exact h
    · simp [h] at hg1
  subst c7
  simp [goodT] at hg1
  obtain ⟨⟨rfl, rfl⟩, hs0⟩ := hg1
  obtain rfl := empty_of (s := s) (by simpa using hs0)
  exact blkOf ha 7 0 0 p kids.length 1 kids.length rfl rfl (by simp [frN] at hwn; omega) (hfr 0 _ rfl) (by simp [frN] at hlen; omega) (by simp [lnN]) (by simp [lnB]) (by omega) (by decide) (by decide) (fun w hp' => bare_7 _ w) (bare_err (by simp [goodT]) (by decide)) hp (by simp [frN])

end
end Go.Proofs.YtmijabhnbmmmfaaGreat


/- A row of right terms. -/
namespace Go.Proofs.YtmijabhnbmmmfaaGreat
open Go.RowKit Go.Deep
attribute [local go_sem] store_float f64bits
attribute [local go_sem ↓] Go.wp_at_zero Go.wp_at_succ

theorem fine_any (e : Int) (w : World) : Calls Tryz.prog 20 #[.int .i64 e] w fun en w' => en = .returned (.bool (e == 0)) ∧ w' = w := by
  go_enter Tryz.func20, Tryz.ntmps20
  go_wp2
  go_ret
  exact ⟨rfl, rfl⟩

/-- Are all of a row right? -/
def allOk (kids : List Tr) : Bool := kids.all fun t => errT t == 0

theorem allOk_drop {kids : List Tr} {m : Nat} {t : Tr} (h : kids[m]? = some t) : allOk (kids.drop m) = ((errT t == 0) && allOk (kids.drop (m + 1))) := by
  unfold allOk
  rw [drop_one h, List.all_cons]

set_option maxHeartbeats 1600000 in
set_option maxRecDepth 100000 in
theorem right_row (a : Option Addr) (c : Nat) (kids : List Tr) (w : World) (hin : (Tr.mk 0 0 0 ⟨#[]⟩ a c kids).In w 0) :
    Calls Tryz.prog 16 #[.slice a kids.length c] w fun e w' => e = .returned (.bool (decide (kids.length ≤ 40) && decide (0 ≤ fewT (.mk 0 0 0 ⟨#[]⟩ a c kids) 60000 1000) && allOk kids)) ∧ Below w.heap.size w w' := by
  have hlen := len_small hin
  by_cases h40 : kids.length ≤ 40
  case neg =>
    have e : (decide (kids.length ≤ 40) && decide (0 ≤ fewT (.mk 0 0 0 ⟨#[]⟩ a c kids) 60000 1000) && allOk kids) = false := by simp [h40]
    rw [e]
    clear hin e
    have q : (40 : Int) < (kids.length : Int) := by omega
    go_enter Tryz.func16, Tryz.ntmps16
    go_wp2
    go_ret
    exact ⟨rfl, Below.refl _ _⟩
  have FW := hidb (few_any (.mk 0 0 0 ⟨#[]⟩ a c kids) 60000 1000 w hin (by omega) (by omega) (by omega) (by omega))
  have hsm := few_small (.mk 0 0 0 ⟨#[]⟩ a c kids) 60000 1000 (by omega)
  simp only [decide_eq_true h40, Bool.true_and]
  generalize fewT (.mk 0 0 0 ⟨#[]⟩ a c kids) 60000 1000 = Q at *
  have q : ¬ (40 : Int) < (kids.length : Int) := by omega
  have HIN := hidb hin
  by_cases h0 : 0 ≤ Q
  case neg =>
    have e : (decide (0 ≤ Q) && allOk kids) = false := by simp [h0]
    rw [e]
    clear hin e hsm
    have hq0 : Q < 0 := by omega
    go_enter Tryz.func16, Tryz.ntmps16
    go_wp2_with (go_at_call 28; refine FW.out.mono ?_; rintro e w1 ⟨rfl, hb1⟩)
    go_ret
    exact ⟨rfl, hb1⟩
  have HSM := hidb (hsm h0).1
  simp only [decide_eq_true h0, Bool.true_and]
  have hq0 : ¬ Q < 0 := by omega
  clear hin hsm h0
  go_enter Tryz.func16, Tryz.ntmps16
  go_wp2_with (go_at_call 28; refine FW.out.mono ?_; rintro e w1 ⟨rfl, hb1⟩; have HB1 := hidb hb1; clear hb1)
  go_loopw [3] (fun iv wr => ∃ (m : Nat), m ≤ kids.length ∧ iv = .int .i64 m ∧ allOk (kids.drop m) = allOk kids ∧ Below w.heap.size w wr) (fun iv _ => kids.length - (intOf iv).toNat)
  case atStart => exact ⟨0, by omega, rfl, by simp, HB1.out⟩
  case round =>
    obtain ⟨m, hm, rfl, hall, hbel⟩ := hrel
    have HA := hidb hall
    have HB := hidb hbel
    clear hall hbel HB1 FW
    by_cases hml : m < kids.length
    · have hmb : (m : Int) < (kids.length : Int) := by omega
      have hmz : (0 : Int) ≤ (m : Int) := by omega
      obtain ⟨b, o, rfl, hat⟩ := kid_at HIN.out (by omega)
      obtain ⟨k', n', f', s', a', c', kids', hu', hin', x0, x1, x2, x3, x4⟩ := hat m hml
      have hlb : b < w.heap.size := World.block_lt_of_cell? w _ x0
      have v0 := (HB.out.cell hlb).trans x0
      have v1 := (HB.out.cell hlb).trans x1
      have v2 := (HB.out.cell hlb).trans x2
      have v3 := (HB.out.cell hlb).trans x3
      have v4 := (HB.out.cell hlb).trans x4
      have hsk : Small (.mk k' n' f' s' a' c' kids') := by have := HSM.out; unfold Small at this; exact smallAll_get this.2 (List.mem_of_getElem? hu')
      have CK := hidb (check_t (.mk k' n' f' s' a' c' kids') wr (in_below HB.out hin') hsk)
      have hd := allOk_drop hu'
      rw [HA.out] at hd
      have HD := hidb hd
      clear hu' hin' hat hsk x0 x1 x2 x3 x4 hd
      generalize errT (.mk k' n' f' s' a' c' kids') = E at *
      cases hE : (E == 0) with
      | false =>
        have FN := hidb (fine_any E)
        rw [hE] at FN
        have e : allOk kids = false := by have := HD.out; rw [hE] at this; simpa using this
        have HEF := hidb e
        clear hE e
        go_wp2_with (first | (go_at_call 27; refine CK.out.mono ?_; rintro e wz ⟨rfl, hbz⟩; have HZ := hidb (HB.out.trans (hbz.mono HB.out.size)); clear hbz) | (go_at_call 20; refine (FN.out _).mono ?_; rintro e w' ⟨rfl, rfl⟩))
        go_ret
        exact ⟨by rw [HEF.out]; rfl, HZ.out⟩
      | true =>
        have FN := hidb (fine_any E)
        rw [hE] at FN
        have e : allOk (kids.drop (m + 1)) = allOk kids := by have := HD.out; rw [hE] at this; simpa using this.symm
        have HE2 := hidb e
        clear hE e
        go_wp2_with (first | (go_at_call 27; refine CK.out.mono ?_; rintro e wz ⟨rfl, hbz⟩; have HZ := hidb (HB.out.trans (hbz.mono HB.out.size)); clear hbz) | (go_at_call 20; refine (FN.out _).mono ?_; rintro e w' ⟨rfl, rfl⟩))
        go_roundw
        case rel => exact ⟨m + 1, by omega, by go_num, HE2.out, HZ.out⟩
        case measure => simp [intOf]; omega
    · have hmn : ¬ (m : Int) < (kids.length : Int) := by omega
      have e : allOk kids = true := by
        have := HA.out
        rw [List.drop_of_length_le (by omega)] at this
        rw [← this]; rfl
      have HEF := hidb e
      clear e
      go_wp2
      go_ret
      exact ⟨by rw [HEF.out]; rfl, HB.out⟩
end Go.Proofs.YtmijabhnbmmmfaaGreat


