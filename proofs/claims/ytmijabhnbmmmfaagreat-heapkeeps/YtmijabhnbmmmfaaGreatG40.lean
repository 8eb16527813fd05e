import Derived.Test.YtmijabhnbmmmfaaGreatG39
import Derived.Test.YtmijabhnbmmmfaaGreatG23
import Derived.Deep.LoopGhost
import Derived.Deep.Cut
/- What few parts come to; the words of a row. -/
namespace Go.Proofs.YtmijabhnbmmmfaaGreat
open Go.RowKit Go.Deep

theorem few_cnt : ∀ (t : Tr) (left deep : Int), 0 ≤ fewT t left deep → fewT t left deep ≤ left - (cntT t : Int) := by
  refine Tr.ind fun k n f s a c kids hk => ?_
  have hall : ∀ l : List Tr, (∀ t, t ∈ l → t ∈ kids) → ∀ left deep, 0 ≤ fewAll l left deep → fewAll l left deep ≤ left - (cntAll l : Int) := by
    intro l
    induction l with
    | nil => intro _ left deep _; simp only [fewAll, cntAll]; omega
    | cons t r ih =>
      intro hl left deep h
      simp only [fewAll, cntAll] at h ⊢
      split at h
      · omega
      rename_i h0
      rw [if_neg h0]
      have h1 : 0 ≤ fewT t left deep := by
        rcases Int.lt_or_le (fewT t left deep) 0 with q | q
        · rw [fewAll_stop r deep _ q] at h; exact h
        · exact q
      have g1 := hk t (hl t (List.mem_cons_self ..)) left deep h1
      have g2 := ih (fun u hu => hl u (List.mem_cons_of_mem _ hu)) _ deep h
      omega
  intro left deep h
  simp only [fewT, cntT] at h ⊢
  split at h
  · omega
  rename_i h0
  rw [if_neg h0]
  have := hall kids (fun t h => h) _ _ h
  omega

theorem allOk_get {kids : List Tr} (h : allOk kids = true) {m : Nat} {t : Tr} (ht : kids[m]? = some t) : errT t = 0 := by
  unfold allOk at h
  have := List.all_eq_true.1 h t (List.mem_of_getElem? ht)
  simpa using this

theorem wAll_take {kids : List Tr} {m : Nat} {t : Tr} (ht : kids[m]? = some t) : wAll (kids.take (m + 1)) = wAll (kids.take m) + wN t := by
  have hw : ∀ l : List Tr, wAll (l ++ [t]) = wAll l + wN t := by
    intro l
    induction l with
    | nil => simp [wAll]
    | cons v r ih => simp only [List.cons_append, wAll, ih]; omega
  rw [List.take_add_one, ht]
  exact hw _

theorem cntAll_take {kids : List Tr} {m : Nat} {t : Tr} (ht : kids[m]? = some t) : cntAll (kids.take (m + 1)) = cntAll (kids.take m) + cntT t := by
  rw [List.take_add_one, ht]
  exact cntAll_snoc _ t

theorem wAll_le {kids : List Tr} (h : allOk kids = true) : wAll kids ≤ kids.length * 65536 := by
  unfold allOk at h
  induction kids with
  | nil => simp [wAll]
  | cons t r ih =>
    simp only [List.all_cons, Bool.and_eq_true] at h
    have h1 := (words_right (t := t) (by simpa using h.1)).2.2
    have h2 := ih h.2
    simp only [wAll, List.length_cons]
    omega

end Go.Proofs.YtmijabhnbmmmfaaGreat


/- HeapFull, but for the example. -/
namespace Go.Proofs.YtmijabhnbmmmfaaGreat
open Go.RowKit Go.Deep
attribute [local go_sem] store_float f64bits
attribute [local go_sem ↓] Go.wp_at_zero Go.wp_at_succ

/-- What the walk goes by. -/
structure FullCx (w : World) (a : Option Addr) (c : Nat) (kids : List Tr) : Prop where
  hin : (Tr.mk 0 0 0 ⟨#[]⟩ a c kids).In w 0
  sm : Small (.mk 0 0 0 ⟨#[]⟩ a c kids)
  few : kids.length ≤ 40
  cnt : cntAll kids ≤ 60000
  ok : allOk kids = true

theorem FullCx.words {w : World} {a : Option Addr} {c : Nat} {kids : List Tr} (h : FullCx w a c kids) : wAll kids ≤ 2621440 := by
  have h1 := wAll_le h.ok
  have h2 := h.few
  have : kids.length * 65536 ≤ 40 * 65536 := Nat.mul_le_mul_right _ h2
  omega

/-- A term of the row, wherever memory below is as it was. -/
theorem FullCx.kid {w : World} {a : Option Addr} {c : Nat} {kids : List Tr} (h : FullCx w a c kids) {m : Nat} (hm : m < kids.length) :
    ∃ (b o : Nat) (k n : Int) (f : Nat) (s : ByteArray) (a' : Option Addr) (c' : Nat) (ks : List Tr), a = some ⟨b, o, none⟩ ∧ kids[m]? = some (.mk k n f s a' c' ks) ∧ (Tr.mk k n f s a' c' ks).In w 0 ∧ Small (.mk k n f s a' c' ks) ∧ errT (.mk k n f s a' c' ks) = 0 ∧
      ∀ w', Below w.heap.size w w' → w'.cell? ⟨b, o + m * 5, none⟩ = some (.int .i64 k) ∧ w'.cell? ⟨b, o + m * 5 + 1, none⟩ = some (.int .i64 n) ∧ w'.cell? ⟨b, o + m * 5 + 2, none⟩ = some (.float .f64 f) ∧ w'.cell? ⟨b, o + m * 5 + 3, none⟩ = some (.string s) ∧ w'.cell? ⟨b, o + m * 5 + 4, none⟩ = some (.slice a' ks.length c') := by
  obtain ⟨b, o, rfl, hat⟩ := kid_at h.hin (by omega)
  obtain ⟨k', n', f', s', a', c', kids', hu', hin', x0, x1, x2, x3, x4⟩ := hat m hm
  have hlb : b < w.heap.size := World.block_lt_of_cell? w _ x0
  have hsk : Small (.mk k' n' f' s' a' c' kids') := by have := h.sm; unfold Small at this; exact smallAll_get this.2 (List.mem_of_getElem? hu')
  exact ⟨b, o, k', n', f', s', a', c', kids', rfl, hu', hin', hsk, allOk_get h.ok hu', fun w' hb => ⟨(hb.cell hlb).trans x0, (hb.cell hlb).trans x1, (hb.cell hlb).trans x2, (hb.cell hlb).trans x3, (hb.cell hlb).trans x4⟩⟩

theorem kept_below {F : List Nat} {B : Nat} {w w' : World} (h : Kept F w w') (hB : B ≤ w.heap.size) (hF : ∀ k, k ∈ F → B ≤ k) : Below B w w' :=
  ⟨h.os, h.tape, h.output, h.size, fun k hk => h.block k (Nat.lt_of_lt_of_le hk hB) fun hf => by have := hF k hf; omega⟩

theorem row_head {w : World} {hb ab most : Nat} {ws : List Int} {L : List ByteArray} {F : List Nat} {ad : Addr} {c : Nat} (h : HP w hb ab most ws L F (some ad) c) : ∃ g, some ad = some (⟨g, 0, none⟩ : Addr) := by
  rcases h.row with ⟨e, _⟩ | ⟨g, cs, e, _⟩
  · cases e
  · exact ⟨g, e⟩

set_option maxHeartbeats 1600000 in
set_option maxRecDepth 100000 in
theorem heapFull_of (KN0 : ∀ w, Calls Tryz.prog 8 #[] w fun e w' => e = .returned (.bool true) ∧ Below w.heap.size w w') (a : Option Addr) (c : Nat) (kids : List Tr) (lacks : Int) (w : World) (hin : (Tr.mk 0 0 0 ⟨#[]⟩ a c kids).In w 0) :
    Calls Tryz.prog 6 #[.slice a kids.length c, .int .i64 lacks] w fun e w' => e = .returned (.bool true) ∧ Below w.heap.size w w' := by
  have KN := hidb KN0
  have RR := hidb (fun w' (hb : Below w.heap.size w w') => right_row a c kids w' (in_below hb hin))
  have hlen := len_small hin
  obtain ⟨R, hR⟩ : ∃ R, (decide (kids.length ≤ 40) && decide (0 ≤ fewT (.mk 0 0 0 ⟨#[]⟩ a c kids) 60000 1000) && allOk kids) = R := ⟨_, rfl⟩
  rw [hR] at RR
  cases R with
  | false =>
    clear hR hin KN0
    go_enter Tryz.func6, Tryz.ntmps6
    go_wp2_with (first
      | (go_at_call 8; refine (KN.out _).mono ?_; rintro e w1 ⟨rfl, hb1⟩; have HB1 := hidb hb1; clear hb1)
      | (go_at_call 16; refine (RR.out _ HB1.out).mono ?_; rintro e w2 ⟨rfl, hb2⟩; have HB2 := hidb (HB1.out.trans (hb2.mono HB1.out.size)); clear hb2))
    go_ret
    exact ⟨rfl, HB2.out⟩
  | true =>
  simp only [Bool.and_eq_true, decide_eq_true_eq] at hR
  obtain ⟨⟨h40, hfew⟩, hall⟩ := hR
  have CX := hidb (show FullCx w a c kids from ⟨hin, (few_small _ _ _ (by omega) hfew).1, h40, by have := few_cnt _ _ _ hfew; simp only [cntT] at this; have := (fewT_le (.mk 0 0 0 ⟨#[]⟩ a c kids) 60000 1000 (by omega)).1; omega, hall⟩)
  clear hin KN0 hfew hall
  by_cases h0 : kids.length = 0
  · have hz : ((kids.length : Int) == 0) = true := by simp [h0]
    clear h0
    go_enter Tryz.func6, Tryz.ntmps6
    go_wp2_with (first
      | (go_at_call 8; refine (KN.out _).mono ?_; rintro e w1 ⟨rfl, hb1⟩; have HB1 := hidb hb1; clear hb1)
      | (go_at_call 16; refine (RR.out _ HB1.out).mono ?_; rintro e w2 ⟨rfl, hb2⟩; have HB2 := hidb (HB1.out.trans (hb2.mono HB1.out.size)); clear hb2))
    go_ret
    exact ⟨rfl, HB2.out⟩
  have hz : ((kids.length : Int) == 0) = false := by simp [h0]
  have HW := hidb CX.out.words
  go_enter Tryz.func6, Tryz.ntmps6
  go_wp2_with (first
    | (go_at_call 8; refine (KN.out _).mono ?_; rintro e w1 ⟨rfl, hb1⟩; have HB1 := hidb hb1; clear hb1)
    | (go_at_call 16; refine (RR.out _ HB1.out).mono ?_; rintro e w2 ⟨rfl, hb2⟩; have HB2 := hidb (HB1.out.trans (hb2.mono HB1.out.size)); clear hb2))
  clear RR KN HB1 hz
  go_loopw [5, 6] (fun nv iv wr => ∃ (m : Nat), m ≤ kids.length ∧ iv = .int .i64 m ∧ nv = .int .i64 ((wAll (kids.take m) : Nat) : Int) ∧ Below w.heap.size w wr) (fun _ iv _ => kids.length - (intOf iv).toNat)
  case atStart => exact ⟨0, by omega, rfl, rfl, HB2.out⟩
  case round =>
  obtain ⟨m, hm, rfl, rfl, hbel⟩ := hrel
  have HB := hidb hbel
  clear hbel HB2
  by_cases hml : m < kids.length
  · have hmb : (m : Int) < (kids.length : Int) := by omega
    have hmz : (0 : Int) ≤ (m : Int) := by omega
    obtain ⟨b, o, k', n', f', s', a', c', ks, rfl, hu, hin', hsk, he, hcell⟩ := CX.out.kid hml
    obtain ⟨v0, v1, v2, v3, v4⟩ := hcell wr HB.out
    have WD := hidb (words_t (.mk k' n' f' s' a' c' ks) wr (in_below HB.out hin') hsk)
    rw [he, (words_right he).2.1] at WD
    have HT := hidb (wAll_take hu)
    have hle := (words_right he).2.2
    have htk := wAll_take_le kids m
    have htw := HW.out
    generalize hWn : wN (.mk k' n' f' s' a' c' ks) = Wn at *
    generalize hX : wAll (kids.take m) = X at *
    have hadd : IntKind.i64.wrap ((X : Int) + (Wn : Int)) = ((X + Wn : Nat) : Int) := by rw [IntKind.wrap_i64]; omega
    clear hu hin' hsk he hcell hWn hX
    go_wp2_with (go_at_call 18; refine WD.out.mono ?_; rintro e wz ⟨rfl, hbz⟩; have HZ := hidb (HB.out.trans (hbz.mono HB.out.size)); clear hbz)
    go_roundw
    case rel => exact ⟨m + 1, by omega, by go_num, by rw [HT.out, Int.natCast_add], HZ.out⟩
    case measure => simp [intOf]; omega
  have hmn : ¬ (m : Int) < (kids.length : Int) := by omega
  obtain rfl : m = kids.length := by omega
  rw [List.take_length]
  obtain ⟨q, hq⟩ : ∃ q, kids.length = q + 1 := ⟨kids.length - 1, by omega⟩
  obtain ⟨b, o, k', n', f', s', a', c', ks, rfl, hu, hin', hsk, he, hcell⟩ := CX.out.kid (m := q) (by omega)
  obtain ⟨v0, v1, v2, v3, v4⟩ := hcell wr HB.out
  have WD := hidb (words_t (.mk k' n' f' s' a' c' ks) wr (in_below HB.out hin') hsk)
  rw [he, (words_right he).2.1] at WD
  have hi1 : IntKind.i64.wrap ((kids.length : Int) - 1) = (q : Int) := by rw [IntKind.wrap_i64]; omega
  have hi2 : (q : Int) < (kids.length : Int) := by omega
  have hi3 : (0 : Int) ≤ (q : Int) := by omega
  have hle := (words_right he).2.2
  have HU := hidb hu
  have HIN := hidb hin'
  have HSK := hidb hsk
  have HE := hidb he
  have HCE := hidb hcell
  have HTK := hidb (show wAll kids = wAll (kids.take q) + wN (.mk k' n' f' s' a' c' ks) by
    have := wAll_take hu
    rw [← hq, List.take_length] at this
    exact this)
  generalize hWn : wN (.mk k' n' f' s' a' c' ks) = Wn at *
  have HWN := hidb hWn
  generalize hNk : wAll kids = N at *
  have HNK := hidb hNk
  obtain ⟨x, hx⟩ : ∃ x, lacks.tmod 3 = x := ⟨_, rfl⟩
  have hx8 : -3 < x ∧ x < 3 := by subst hx; exact ⟨Int.lt_tmod_of_pos _ (by decide), Int.tmod_lt_of_pos _ (by decide)⟩
  obtain ⟨M, hM⟩ : ∃ M : Nat, x.natAbs = M := ⟨_, rfl⟩
  obtain ⟨K, hK⟩ : ∃ K : Nat, min M Wn = K := ⟨_, rfl⟩
  have HKM := hidb (show K ≤ 2 ∧ K ≤ Wn by omega)
  clear hu hin' hsk he hcell hNk hWn hmn hml hm
  go_upto_if 59 with (go_at_call 18; refine WD.out.mono ?_; rintro e wz ⟨rfl, hbz⟩; have HZ := hidb (HB.out.trans (hbz.mono HB.out.size)); clear hbz WD v0 v1 v2 v3 v4)
  go_cut [1] from 58 (fun s1 wc => s1 = .int .i64 (M : Int) ∧ wc = wz)
  case first =>
    by_cases hx0 : x < 0
    · have e1 : IntKind.i64.wrap (0 - x) = (M : Int) := by rw [IntKind.wrap_i64]; omega
      have e2 : IntKind.i64.wrap (-x) = (M : Int) := by rw [IntKind.wrap_i64]; omega
      clear hM hx8 hK
      go_wp2
      go_meet
      case rel => exact ⟨rfl, rfl⟩
    · obtain rfl : x = (M : Int) := by omega
      clear hM hx8 hK
      go_wp2
      go_meet
      case rel => exact ⟨rfl, rfl⟩
  case rest =>
  obtain ⟨rfl, hw⟩ := hcut
  obtain rfl := hw.symm
  clear hx hx8 hM
  go_upto_if 64 with fail
  go_cut [1] from 62 (fun s1 wc => s1 = .int .i64 (K : Int) ∧ wc = wz)
  case first =>
    by_cases hg : Wn < M
    · have hg2 : (Wn : Int) < (M : Int) := by omega
      obtain rfl : Wn = K := by omega
      clear hg hK
      go_wp2
      go_meet
      case rel => exact ⟨rfl, rfl⟩
    · have hg2 : ¬ (Wn : Int) < (M : Int) := by omega
      obtain rfl : M = K := by omega
      clear hg hK
      go_wp2
      go_meet
      case rel => exact ⟨rfl, rfl⟩
  case rest =>
  obtain ⟨rfl, hw⟩ := hcut
  obtain rfl := hw.symm
  clear hK
  have hkm := HKM.out
  have htk := HTK.out
  have hsub : IntKind.i64.wrap ((N : Int) - (K : Int)) = (N : Int) - (K : Int) := by rw [IntKind.wrap_i64]; have := HW.out; omega
  by_cases hone : N - K < 1
  · have h1 : (N : Int) - (K : Int) < 1 := by omega
    clear hone
    go_wp2_with fail
    go_ret
    exact ⟨rfl, HZ.out⟩
  obtain ⟨most, hmost⟩ : ∃ most : Nat, N = most + K := ⟨N - K, by omega⟩
  have h1 : ¬ (most : Int) < 1 := by omega
  have hsub3 : IntKind.i64.wrap ((N : Int) - (K : Int)) = (most : Int) := by rw [hsub]; omega
  have hm16 : most ≤ 16777216 := by have := HW.out; omega
  have hm1 : 1 ≤ most := by omega
  have HMO := hidb hmost
  clear hsub hone hmost htk
  have NA := hidb (new_any wz)
  go_wp2_with (first
    | (go_at_call 11; refine NA.out.mono ?_; rintro e w4 ⟨rfl, hb4, hs4, ht4⟩; have HB4 := hidb (HZ.out.trans (hb4.mono HZ.out.size)); have HT4 := hidb ht4; clear hb4 hs4 ht4)
    | (go_at_call 10; refine (new_heap most wz.heap.size [wz.heap.size] w4 HT4.out hm1 hm16).mono ?_; rintro e w5 ⟨hb, rfl, hge, hp, hb5⟩; have HP5 := hidb hp; have HB5 := hidb (HB4.out.trans (hb5.mono HB4.out.size)); have HGE := hidb (Nat.le_trans HB4.out.size hge); clear hb5 hp hge)
    | (go_at_call 20; refine (fine_any 0 _).mono ?_; rintro e w' ⟨rfl, hw'⟩; obtain rfl := hw'.symm))
  have hzs : w.heap.size ≤ wz.heap.size := HZ.out.size
  generalize wz.heap.size = ab at *
  clear NA HB4 HT4 h1 hsub3
  go_loopw [13] (fun iv wr => ∃ (m : Nat) (ws : List Int) (L : List ByteArray) (F : List Nat) (a2 : Option Addr) (c2 : Nat), m ≤ q ∧ iv = .int .i64 m ∧ HP wr hb ab most ws L F a2 c2 ∧ ws.length = wAll (kids.take m) ∧ L.length ≤ cntAll (kids.take m) ∧ (∀ k, k ∈ F → w.heap.size ≤ k) ∧ (∀ g, a2 = some ⟨g, 0, none⟩ → w.heap.size ≤ g) ∧ Below w.heap.size w wr) (fun iv _ => q - (intOf iv).toNat)
  case atStart => exact ⟨0, [], [], [ab], none, 0, by omega, rfl, HP5.out, by simp [wAll], by simp, fun k hk => (by have := List.mem_singleton.1 hk; omega), fun g h => (by cases h), HB5.out⟩
  case round =>
  obtain ⟨m, ws, L, F, a2, c2, hm, rfl, hp, hwl, hLl, hF, hg, hbel⟩ := hrel
  have HPR := hidb hp
  have HWL := hidb hwl
  have HLL := hidb hLl
  have HFF := hidb hF
  have HGG := hidb hg
  have HB := hidb hbel
  have HPQ : Hid (¬ hb < w.heap.size) := hidb (by have := HGE.out; omega)
  have hmono : wAll (kids.take m) ≤ wAll (kids.take q) := by
    have := wAll_take_le (kids.take q) m
    rwa [List.take_take, Nat.min_eq_left hm] at this
  clear hp hwl hLl hF hg hbel HB5 HP5 HZ
  by_cases hml : m < q
  · have hmb : (m : Int) + 1 < (q : Int) + 1 := by omega
    have hmb2 : (m : Int) < (q : Int) + 1 := by omega
    have hmz : (0 : Int) ≤ (m : Int) := by omega
    have hmw : IntKind.i64.wrap ((m : Int) + 1) = (m : Int) + 1 := by rw [IntKind.wrap_i64]; omega
    obtain ⟨b2, o2, k2, n2, f2, s2, a3, c3, ks2, eb, hu2, hin2, hsk2, he2, hcell2⟩ := CX.out.kid (m := m) (by omega)
    obtain ⟨rfl, rfl⟩ : b = b2 ∧ o = o2 := by simpa using eb
    obtain ⟨v0, v1, v2, v3, v4⟩ := hcell2 wr HB.out
    have hw2 := wAll_take hu2
    have hc2 := cntAll_take hu2
    have hmono2 : wAll (kids.take (m + 1)) ≤ wAll (kids.take q) := by
      have := wAll_take_le (kids.take q) (m + 1)
      rwa [List.take_take, Nat.min_eq_left (by omega)] at this
    have hct := cntAll_take_le kids (m + 1)
    have ST := hidb (store_good (fun k => k < w.heap.size) (.mk k2 n2 f2 s2 a3 c3 ks2) wr hb ab most ws L F a2 c2 HPR.out (in_below HB.out hin2) (on_all _ hin2) hsk2 he2 (by have := HWL.out; have := HTK.out; have := HMO.out; omega)
      (fun k hk => Nat.lt_of_lt_of_le hk HB.out.size) HPQ.out (fun g e h => by have := HGG.out g e; omega) (fun k hk h => by have := HFF.out k hk; omega) (by have := HLL.out; have := CX.out.cnt; omega))
    have hl1 := lay_len (.mk k2 n2 f2 s2 a3 c3 ks2) ws.length L
    have hl2 := lay_atoms (.mk k2 n2 f2 s2 a3 c3 ks2) ws.length L
    have HN1 : Hid ((ws ++ (layT (.mk k2 n2 f2 s2 a3 c3 ks2) ws.length L).2.1).length = wAll (kids.take (m + 1))) := hidb (by rw [List.length_append, hl1, HWL.out, hw2])
    have HN2 : Hid ((layT (.mk k2 n2 f2 s2 a3 c3 ks2) ws.length L).2.2.length ≤ cntAll (kids.take (m + 1))) := hidb (by have := HLL.out; omega)
    generalize layT (.mk k2 n2 f2 s2 a3 c3 ks2) ws.length L = Y at *
    obtain ⟨y1, y2, y3⟩ := Y
    clear hu2 hin2 hsk2 he2 hcell2 eb hw2 hc2 hmono2 hct hl1 hl2 hmono
    go_wp2_with (first
      | (go_at_call 26; refine ST.out.mono ?_; rintro e wz ⟨rfl, a4, c4, F4, hp4, hF4, hg4, hk4⟩; have HP4 := hidb hp4; have HF4 := hidb hF4; have HG4 := hidb hg4; have HK4 := hidb hk4; clear hp4 hF4 hg4 hk4 ST)
      | (go_at_call 20; refine (fine_any 0 _).mono ?_; rintro e w' ⟨rfl, hw'⟩; obtain rfl := hw'.symm))
    go_roundw
    case rel =>
      refine ⟨m + 1, ws ++ y2, y3, F4, a4, c4, by omega, by go_num, HP4.out, HN1.out, HN2.out, fun k hk => ?_, fun g e => ?_, ?_⟩
      · rcases HF4.out k hk with h | h
        · exact HFF.out k h
        · have := HB.out.size; omega
      · rcases HG4.out g e with h | h
        · exact HGG.out g h
        · have := HB.out.size; omega
      · exact HB.out.trans (kept_below HK4.out HB.out.size (fun k hk => by
          rcases List.mem_cons.1 hk with rfl | hk
          · have := HGE.out; omega
          · rcases List.mem_append.1 hk with hk | hk
            · cases a2 with
              | none => simp [gOf] at hk
              | some ad =>
                obtain ⟨g, e⟩ := row_head HPR.out
                rw [e] at hk
                simp [gOf] at hk
                rw [hk]
                exact HGG.out g e
            · exact HFF.out k hk))
    case measure => simp [intOf]; omega
  have hmn : ¬ (m : Int) + 1 < (q : Int) + 1 := by omega
  obtain rfl : m = q := by omega
  have hmw : IntKind.i64.wrap ((m : Int) + 1) = (m : Int) + 1 := by rw [IntKind.wrap_i64]; omega
  have hmw2 : IntKind.i64.wrap ((m : Int) + 1 - 1) = (m : Int) := by rw [IntKind.wrap_i64]; omega
  have hmb2 : (m : Int) < (m : Int) + 1 := by omega
  have hmz : (0 : Int) ≤ (m : Int) := by omega
  obtain ⟨v0, v1, v2, v3, v4⟩ := HCE.out wr HB.out
  have US := hidb (used_any HPR.out)
  have hlw : ws.length = wAll (kids.take m) := HWL.out
  have hmo := HMO.out
  have htk := HTK.out
  by_cases hK0 : K = 0
  · subst hK0
    have hpos : ¬ (0 : Int) < 0 := by omega
    have hct := cntAll_take_le kids (m + 1)
    have hcc := cntAll_take HU.out
    have ST := hidb (store_good (fun k => k < w.heap.size) (.mk k' n' f' s' a' c' ks) wr hb ab most ws L F a2 c2 HPR.out (in_below HB.out HIN.out) (on_all _ HIN.out) HSK.out HE.out (by have := HWN.out; omega)
      (fun k hk => Nat.lt_of_lt_of_le hk HB.out.size) HPQ.out (fun g e h => by have := HGG.out g e; omega) (fun k hk h => by have := HFF.out k hk; omega) (by have := HLL.out; have := CX.out.cnt; omega))
    have hl1 := lay_len (.mk k' n' f' s' a' c' ks) ws.length L
    have HN1 : Hid ((ws ++ (layT (.mk k' n' f' s' a' c' ks) ws.length L).2.1).length = N) := hidb (by rw [List.length_append, hl1, HWN.out]; omega)
    generalize layT (.mk k' n' f' s' a' c' ks) ws.length L = Y at *
    obtain ⟨y1, y2, y3⟩ := Y
    have HBS := hidb HB.out.size
    have HKB := hidb (fun (w' : World) (hk : Kept (hb :: gOf a2 ++ F) wr w') => HB.out.trans (kept_below hk HB.out.size (fun k hk => by
          rcases List.mem_cons.1 hk with rfl | hk
          · have := HGE.out; omega
          · rcases List.mem_append.1 hk with hk | hk
            · cases a2 with
              | none => simp [gOf] at hk
              | some ad =>
                obtain ⟨g, e⟩ := row_head HPR.out
                rw [e] at hk
                simp [gOf] at hk
                rw [hk]
                exact HGG.out g e
            · exact HFF.out k hk)))
    clear hct hcc hl1 hmo htk hlw hmono hml
    generalize ws.length = WL at *
    go_wp2_with (first
      | (go_at_call 26; refine ST.out.mono ?_; rintro e wz ⟨rfl, a4, c4, F4, hp4, hF4, hg4, hk4⟩; have US2 := hidb (used_any hp4); rw [HN1.out] at US2; have HK4 := hidb hk4; clear hp4 hF4 hg4 hk4 ST US)
      | (go_at_call 20; refine (fine_any 0 _).mono ?_; rintro e w' ⟨rfl, hw'⟩; obtain rfl := hw'.symm)
      | (go_at_call 22; refine US2.out.mono ?_; rintro e w' ⟨rfl, hw'⟩; obtain rfl := hw'.symm)
      | (go_at_call 22; refine US.out.mono ?_; rintro e w' ⟨rfl, hw'⟩; obtain rfl := hw'.symm))
    go_ret
    exact ⟨rfl, HKB.out _ HK4.out⟩
  · have hpos : (0 : Int) < (K : Int) := by omega
    have ST := hidb (store_full (.mk k' n' f' s' a' c' ks) w wr hb ab most ws L F a2 c2 HPR.out HIN.out HB.out HSK.out HE.out (by have := HWN.out; omega))
    have UK := hidb (fun w' (k : Below wr.heap.size wr w') => used_any (HPR.out.keep k))
    clear hmo htk hlw hmono hml hK0
    generalize ws.length = WL at *
    go_wp2_with (first
      | (go_at_call 26; refine ST.out.mono ?_; rintro e wz ⟨rfl, hbz⟩; have US2 := hidb (UK.out _ hbz); have HBZ := hidb (HB.out.trans (hbz.mono HB.out.size)); clear hbz ST US)
      | (go_at_call 22; refine US2.out.mono ?_; rintro e w' ⟨rfl, hw'⟩; obtain rfl := hw'.symm)
      | (go_at_call 22; refine US.out.mono ?_; rintro e w' ⟨rfl, hw'⟩; obtain rfl := hw'.symm))
    go_ret
    exact ⟨rfl, HBZ.out⟩
end Go.Proofs.YtmijabhnbmmmfaaGreat


