import Derived.Test.YtmijabhnbmmmfaaGreatG51
import Derived.Test.YtmijabhnbmmmfaaGreatG40
import Derived.Test.YtmijabhnbmmmfaaGreatG50
/- The chapter's first example, walked. -/
namespace Go.Proofs.YtmijabhnbmmmfaaGreat
open Go.RowKit Go.Deep
attribute [local go_sem] store_float f64bits f64frombits
attribute [local go_sem ↓] Go.wp_at_zero Go.wp_at_succ

/-- What Store tells of the example. -/
theorem kn_store {w5 : World} {hb ab : Nat} (hp : HP w5 hb ab 100 [] [] [ab] none 0) : Calls Tryz.prog 26 #[.pointer (some ⟨hb, 0, none⟩), .agg #[.int .i64 7, .int .i64 0, .float .f64 0, .string ⟨#[]⟩, .slice (some ⟨w5.heap.size, 0, none⟩) 2 2]] (w5.alloc objK) fun e w' => e = .returned (.tuple #[.int .u64 5, .int .i64 0]) ∧
      ∃ (ws : List Int) (L : List ByteArray) (F : List Nat) (g c : Nat), HP w' hb ab 100 ws L F (some ⟨g, 0, none⟩) c ∧ ws.length = 5 ∧ ws[4]? = some 4609434218613702656 ∧ L.length ≤ 100000 ∧ Rep ws L (tK w5.heap.size) 5 ∧ Kept [hb, ab] w5 w' := by
  have hlt := hp.tri.lt
  have hab := hp.tab.lt ab (by simp)
  have ST := store_good (fun k => k = w5.heap.size) (tK w5.heap.size) (w5.alloc objK) hb ab 100 [] [] [ab] none 0 (hp.keep (below_new w5 objK)) (kn_in w5) (kn_on _) (kn_small _) (kn_err _) (by rw [kn_w]; decide)
    (fun k hk => by have : k = w5.heap.size := hk; subst this; simp) (by omega) (fun g h => by cases h) (fun k hk => by obtain rfl := List.mem_singleton.1 hk; omega) (by rw [kn_cnt]; decide)
  refine ST.mono ?_
  rintro e w' ⟨rfl, a', c', F', hp', _, _, hk⟩
  have hlen := lay_len (tK w5.heap.size) 0 []
  rw [kn_w] at hlen
  have h4 := kn_4 w5.heap.size
  have hat := lay_atoms (tK w5.heap.size) 0 []
  rw [kn_cnt] at hat
  have hsay := lay_says (tK w5.heap.size) (words_right (kn_err _)).1 0 [] (layT (tK w5.heap.size) 0 []).2.1 (layT (tK w5.heap.size) 0 []).2.2 (fun i x h => by simpa using h) (by rw [kn_w]; decide) (fun i x h => h)
  simp only [List.length_nil, List.nil_append] at hp' ⊢
  rw [kn_1] at hsay ⊢
  obtain ⟨g, rfl, _⟩ := hp_cell hp' 4 _ h4
  refine ⟨rfl, _, _, F', g, c', hp', hlen, h4, by simp only [List.length_nil] at hat; omega, hsay, ?_⟩
  refine ⟨hk.os, hk.tape, hk.output, Nat.le_trans (by simp) hk.size, fun k h1 h2 => ?_⟩
  rw [hk.block k (by simp; omega) (by simpa [gOf] using h2)]
  exact Below.heap_alloc _ _ _ h1

set_option maxHeartbeats 1600000 in
set_option maxRecDepth 100000 in
theorem known4_any (w : World) : Calls Tryz.prog 8 #[] w fun e w' => e = .returned (.bool true) ∧ Below w.heap.size w w' := by
  have NA := hidb (new_any w)
  go_enter Tryz.func8, Tryz.ntmps8
  go_wp2_with (first
    | (go_at_call 11; refine NA.out.mono ?_; rintro e w4 ⟨rfl, hb4, hs4, ht4⟩; have HB4 := hidb hb4; have HT4 := hidb ht4; clear hb4 ht4 hs4)
    | (go_at_call 10; refine (new_heap 100 w.heap.size [w.heap.size] w4 HT4.out (by omega) (by omega)).mono ?_; rintro e w5 ⟨hb, rfl, hge, hp, hb5⟩; have HP5 := hidb hp; have HB5 := hidb (HB4.out.trans (hb5.mono HB4.out.size)); have HGE := hidb (Nat.le_trans HB4.out.size hge); clear hb5 hp hge)
    | (go_at_call 26; refine (kn_store HP5.out).mono ?_; rintro e w6 ⟨rfl, ws, L, F, g, c, hp, hl, h4, hL, hr, hk⟩; have HP6 := hidb hp; have HL6 := hidb hl; have H4 := hidb h4; have HLL := hidb hL; have HR := hidb hr; have HB6 := hidb (HB5.out.trans (kept_below hk HB5.out.size (fun k hk => by have := HGE.out; simp at hk; omega))); clear hp hl h4 hL hr hk)
    | (go_at_call 14; refine (at_in HP6.out 4 _ H4.out).mono ?_; rintro e w' ⟨rfl, hw'⟩; obtain rfl := hw'.symm)
    | (go_at_call 19; refine (load_ok (w5.alloc objK) _ (tK w5.heap.size) 5 HP6.out rfl HLL.out (kn_in w5) (kn_err _) HR.out).mono ?_; rintro e w7 ⟨⟨k7, n7, f7, s7, a7, c7, ks7⟩, rfl, hsm, hin7, hb7⟩; have HB7 := hidb (HB6.out.trans (hb7.mono HB6.out.size)); have HP7 := hidb (HP6.out.keep hb7); have hks : ks7.length = 2 := (by unfold tK Same at hsm; exact (sameAll_len _ _ hsm.2.2.2.2).symm); clear hsm hin7 hb7; simp only [Tr.val, Tr.cells])
    | (go_at_call 22; refine (used_any (HP7.out.keep (below_new _ _))).mono ?_; rw [HL6.out]; rintro e w' ⟨rfl, hw'⟩; obtain rfl := hw'.symm))
  go_ret
  exact ⟨rfl, HB7.out.alloc HB7.out.size _⟩
end Go.Proofs.YtmijabhnbmmmfaaGreat


/- HeapShares. -/
namespace Go.Proofs.YtmijabhnbmmmfaaGreat
open Go.RowKit Go.Deep
attribute [local go_sem] store_float f64bits f64frombits
attribute [local go_sem ↓] Go.wp_at_zero Go.wp_at_succ

abbrev objT (k n : Int) (f : Nat) (s : ByteArray) (a : Option Addr) (m c : Nat) : Obj := .cells #[.int .i64 k, .int .i64 n, .float .f64 f, .string s, .slice a m c] 44

/-- A row of one term. -/
theorem one_in {w : World} {k n : Int} {f : Nat} {s : ByteArray} {a : Option Addr} {c : Nat} {kids : List Tr} (h : (Tr.mk k n f s a c kids).In w 0) : (Tr.mk 0 0 0 ⟨#[]⟩ (some ⟨w.heap.size, 0, none⟩) 1 [.mk k n f s a c kids]).In (w.alloc (objT k n f s a kids.length c)) 0 := by
  have h2 := in_below (below_new w (objT k n f s a kids.length c)) h
  rw [Tr.In]
  refine ⟨⟨by decide, by decide, by decide, Nat.zero_le _, by simp, by unfold maxLen; omega, fun h => by simp at h⟩, fun ad had => ⟨Nat.zero_le _, inAll_of fun j t hj => ?_⟩⟩
  obtain rfl : (⟨w.heap.size, 0, none⟩ : Addr) = ad := by simpa using had
  match j, hj with
  | 0, hj =>
    obtain rfl : Tr.mk k n f s a c kids = t := by simpa using hj
    refine ⟨fun i hi => ?_, h2⟩
    match i, hi with
    | 0, _ => simp [Addr.add, Tr.cells]
    | 1, _ => simp [Addr.add, Tr.cells]
    | 2, _ => simp [Addr.add, Tr.cells]
    | 3, _ => simp [Addr.add, Tr.cells]
    | 4, _ => simp [Addr.add, Tr.cells]
  | j + 1, hj => simp at hj

theorem Rts.keep {w w' : World} {ra : Option Addr} {us : List Int} (h : Rts w ra us) (hb : Below w.heap.size w w') : Rts w' ra us := ⟨fun h0 => by
  obtain ⟨b, o, e, hl, hc⟩ := h.at_ h0
  exact ⟨b, o, e, Nat.lt_of_lt_of_le hl hb.size, fun j u hu => (hb.cell (p := ⟨b, o + j, none⟩) hl).trans (hc j u hu)⟩⟩

theorem rts_own {w : World} {base n : Nat} {av : Option Addr} {cv : Nat} {us : List Int} (h : w.ownsRow base 51 1 (.slice av n cv) n (ints us)) : Rts w av us := ⟨fun h0 => by
  have hn : us.length = n := by have := h.1; simpa [ints] using this
  obtain ⟨g, cap, e, h1, h2⟩ := h.form (by omega)
  obtain ⟨rfl, rfl⟩ : av = some ⟨g, 0, none⟩ ∧ cv = cap := by simpa using e
  exact ⟨g, 0, rfl, h2, fun j u hu => by have := (row_cell1 h hu).1; simpa using this⟩⟩

theorem same_symm : ∀ t t' : Tr, Same t t' → Same t' t := by
  have all : ∀ (l : List Tr), (∀ t, t ∈ l → ∀ t', Same t t' → Same t' t) → ∀ l', SameAll l l' → SameAll l' l := by
    intro l
    induction l with
    | nil => intro _ l' h; cases l' with | nil => exact h | cons _ _ => simp [SameAll] at h
    | cons t r ih =>
      intro hk l' h
      cases l' with
      | nil => simp [SameAll] at h
      | cons t' r' =>
        unfold SameAll at h ⊢
        exact ⟨hk t (List.mem_cons_self ..) t' h.1, ih (fun u hu => hk u (List.mem_cons_of_mem _ hu)) r' h.2⟩
  refine Tr.ind fun k n f s a c kids hk t' h => ?_
  obtain ⟨k', n', f', s', a', c', kids'⟩ := t'
  unfold Same at h ⊢
  exact ⟨h.1.symm, h.2.1.symm, h.2.2.1.symm, h.2.2.2.1.symm, all kids hk kids' h.2.2.2.2⟩

theorem fine0 (w : World) : Calls Tryz.prog 20 #[.int .i64 0] w fun en w' => en = .returned (.bool true) ∧ w' = w := fine_any 0 w

set_option maxHeartbeats 2000000 in
set_option maxRecDepth 100000 in
theorem heapShares_any (t : Tr) (n : Int) (w : World) (hin : t.In w 0) :
    Calls Tryz.prog 5 #[t.val, .int .i64 n] w fun e w' => e = .returned (.bool true) ∧ Below w.heap.size w w' := by
  have KN := hidb known4_any
  obtain ⟨k, nn, f, s, a, c, kids⟩ := t
  have HIN := hidb hin
  show Calls Tryz.prog 5 #[.agg #[.int .i64 k, .int .i64 nn, .float .f64 f, .string s, .slice a kids.length c], .int .i64 n] w _
  clear hin
  have BX := hidb (Box.new w 44 (.int .i64 k) (.int .i64 nn) (.float .f64 f) (.string s) (.slice a kids.length c))
  obtain ⟨x, hx⟩ : ∃ x, n.tmod 5 = x := ⟨_, rfl⟩
  have hx8 : -5 < x ∧ x < 5 := by subst hx; exact ⟨Int.lt_tmod_of_pos _ (by decide), Int.tmod_lt_of_pos _ (by decide)⟩
  go_enter Tryz.func5, Tryz.ntmps5
  go_wp2_with (go_at_call 8; refine (KN.out _).mono ?_; rintro e w1 ⟨rfl, hb1⟩; have HB1 := hidb (show Below w.heap.size w w1 from below_in hb1); have BX1 := hidb (BX.out.keep hb1); obtain ⟨d0, d1, d2, d3, d4, -, -, -, -, -, -⟩ := BX1.out; clear hb1)
  refine (right_row (some ⟨w1.heap.size, 0, none⟩) 1 [.mk k nn f s a c kids] (w1.alloc (objT k nn f s a kids.length c)) (one_in (in_below HB1.out HIN.out))).mono ?_
  rintro e w2 ⟨rfl, hb2⟩
  have HB2 := hidb (HB1.out.trans ((below_in hb2).mono HB1.out.size))
  have BX2 := hidb ((BX1.out.keep (below_new w1 (objT k nn f s a kids.length c))).keep hb2)
  clear hb2 d0 d1 d2 d3 d4 BX1 HB1 KN BX
  generalize hR : (decide ([Tr.mk k nn f s a c kids].length ≤ 40) && decide (0 ≤ fewT (.mk 0 0 0 ⟨#[]⟩ (some ⟨w1.heap.size, 0, none⟩) 1 [.mk k nn f s a c kids]) 60000 1000) && allOk [.mk k nn f s a c kids]) = R
  cases R with
  | false =>
    clear hR hx hx8
    go_wp2
    go_ret
    exact ⟨rfl, HB2.out⟩
  | true =>
  simp only [Bool.and_eq_true, decide_eq_true_eq] at hR
  obtain ⟨⟨-, hfew⟩, hall⟩ := hR
  have hsm := (few_small _ _ _ (by omega) hfew).1
  have hcnt := few_cnt _ _ _ hfew
  have hle := (fewT_le (.mk 0 0 0 ⟨#[]⟩ (some ⟨w1.heap.size, 0, none⟩) 1 [.mk k nn f s a c kids]) 60000 1000 (by omega)).1
  have HSM := hidb (show Small (.mk k nn f s a c kids) by unfold Small at hsm; exact smallAll_get hsm.2 (List.mem_cons_self ..))
  have HER := hidb (show errT (.mk k nn f s a c kids) = 0 by simpa [allOk] using hall)
  have CX := hidb (fun (w' : World) (hb : Below w.heap.size w w') => show FullCx (w'.alloc (objT k nn f s a kids.length c)) (some ⟨w'.heap.size, 0, none⟩) 1 [.mk k nn f s a c kids] from ⟨one_in (in_below hb HIN.out), by unfold Small at hsm ⊢; exact hsm, by simp, by simp only [cntT] at hcnt; omega, hall⟩)
  clear hfew hall hsm hcnt hle
  obtain ⟨M, hM⟩ : ∃ M : Nat, x.natAbs = M := ⟨_, rfl⟩
  go_upto_if 26 with fail
  go_cut [1] from 25 (fun s1 wc => s1 = .int .i64 (M : Int) ∧ wc = w2)
  case first =>
    by_cases hx0 : x < 0
    · have e1 : IntKind.i64.wrap (0 - x) = (M : Int) := by rw [IntKind.wrap_i64]; omega
      have e2 : IntKind.i64.wrap (-x) = (M : Int) := by rw [IntKind.wrap_i64]; omega
      clear hM hx8
      go_wp2
      go_meet
      case rel => exact ⟨rfl, rfl⟩
    · obtain rfl : x = (M : Int) := by omega
      clear hM hx8
      go_wp2
      go_meet
      case rel => exact ⟨rfl, rfl⟩
  case rest =>
  obtain ⟨rfl, hw⟩ := hcut
  obtain rfl := hw.symm
  have hM4 : M ≤ 4 := by omega
  clear hx hx8 hM
  obtain ⟨d0, d1, d2, d3, d4, -, -, -, -, -, -⟩ := BX2.out
  go_wp2_with fail
  refine (stored_any (CX.out w2 HB2.out) (Below.refl _ _)).mono ?_
  rintro e w3 ⟨hb, ab, ws, L, F, a2, c2, us, vo, rfl, hst, hus⟩
  obtain ⟨u0, rfl⟩ : ∃ u0, us = [u0] := by
    have := hst.ul
    simp only [List.length_cons, List.length_nil] at this
    exact List.length_eq_one_iff.1 this
  have HST := hidb hst
  obtain ⟨q, cap, rfl, hq0, hq1⟩ := hus.own.form (by simp)
  have HUC := hidb (row_cell1 (l := [u0]) (j := 0) hus.own rfl).1
  have HQ1 := hidb hq1
  have BX3 := hidb ((BX2.out.keep (below_new w2 (objT k nn f s a kids.length c))).keep (hst.be))
  have HB3 := hidb (show Below w.heap.size w w3 from HB2.out.trans (((below_new w2 (objT k nn f s a kids.length c)).trans (hst.be.mono (by simp))).mono HB2.out.size))
  have hwb : w.heap.size < hb := by
    have h1 := hst.hbB
    have h2 := BX2.out.lt
    simp at h1
    omega
  obtain ⟨-, hww, hwn⟩ := words_right HER.out
  have HLL := hidb (show L.length ≤ 100000 by have := hst.ll; have h2 := (CX.out w2 HB2.out).cnt; have h3 := cntAll_take_le [Tr.mk k nn f s a c kids] [Tr.mk k nn f s a c kids].length; omega)
  have HRT := hidb (show Rts2 ws L (List.replicate (M + 1) u0) (List.replicate (M + 1) (Tr.mk k nn f s a c kids)) from rts2_of (kids := [Tr.mk k nn f s a c kids]) (us := [u0]) (fun j t u ht hu => sto_of (CX.out w2 HB2.out) hst ht hu) _ _ (List.replicate (M + 1) 0) (by simp) (fun i u t hu ht => by
    have hi := get_lt hu
    simp only [List.length_replicate] at hi
    rw [List.getElem?_replicate, if_pos hi] at hu ht ⊢
    obtain rfl := Option.some.inj hu
    obtain rfl := Option.some.inj ht
    exact ⟨0, rfl, rfl, rfl⟩))
  have hrT := rT_often u0 (Tr.mk k nn f s a c kids) (M + 1) (M + 1) (by omega) (Nat.le_refl _)
  have HRR := hidb hrT
  have WD := hidb (fun (w' : World) (hb' : Below w.heap.size w w') => words_t (.mk k nn f s a c kids) w' (in_below hb' HIN.out) HSM.out)
  rw [hww, HER.out] at WD
  have hHP3 := hst.hp
  have HP3 := hidb hHP3
  clear hst hus hq0 hq1 d0 d1 d2 d3 d4 HST BX2 HB2 hww hrT hHP3 CX
  generalize hWN : wN (.mk k nn f s a c kids) = WN at *
  obtain ⟨d0, d1, d2, d3, d4, -, -, -, -, -, -⟩ := BX3.out
  have v0 := HUC.out
  obtain ⟨i0, hi, hz0, hz1, hz2⟩ := info_parts infoW
  go_wp2_with (go_at_call 18; refine (WD.out _ HB3.out).mono ?_; rintro e w4 ⟨rfl, hb4⟩; have HB4 := hidb (HB3.out.trans (hb4.mono HB3.out.size)); have HP4 := hidb (HP3.out.keep hb4); have BX4 := hidb (BX3.out.keep hb4); have HUC4 := hidb ((hb4.cell (p := ⟨q, 0, none⟩) HQ1.out).trans HUC.out); have HQ4 := hidb (Nat.lt_of_lt_of_le HQ1.out hb4.size); clear hb4 v0; have v0 := HUC4.out)
  have HOW := hidb (show (w4.alloc (.cells #[.int .u64 u0] 51)).ownsRow w4.heap.size 51 1 (.slice (some ⟨w4.heap.size, 0, none⟩) 1 1) 1 (ints (List.replicate 1 u0)) from ⟨rfl, Or.inr ⟨w4.heap.size, 1, _, rfl, Nat.le_refl _, heap_alloc_new w4 _, by omega, by unfold maxLen; omega, rfl, rfl⟩⟩)
  have HBN := hidb (below_new w4 (.cells #[.int .u64 u0] 51))
  generalize (w4.alloc (.cells #[.int .u64 u0] 51)) = W4 at *
  generalize hav : (Value.slice (some ⟨w4.heap.size, 0, none⟩) 1 1) = rv0 at *
  clear hav WD BX3 HB3 HUC d0 d1 d2 d3 d4 v0
  go_loopw [9, 10] (fun rv iv wr => ∃ (m : Nat) (av : Option Addr) (cv : Nat), m ≤ M ∧ iv = .int .i64 m ∧ rv = .slice av (m + 1) cv ∧ wr.ownsRow w4.heap.size 51 1 (.slice av (m + 1) cv) (m + 1) (ints (List.replicate (m + 1) u0)) ∧ Below w4.heap.size w4 wr) (fun _ iv _ => M - (intOf iv).toNat)
  case atStart =>
    obtain ⟨g, cv, e, _⟩ := HOW.out.form (by omega)
    exact ⟨0, some ⟨g, 0, none⟩, cv, by omega, rfl, e, by rw [← e]; exact HOW.out, HBN.out⟩
  case round =>
  obtain ⟨m, av, cv, hm, rfl, rfl, hrw, hbw⟩ := hrel
  have HRW := hidb hrw
  have HBW := hidb hbw
  have v0 := (hbw.cell (p := ⟨q, 0, none⟩) HQ4.out).trans HUC4.out
  clear hrw hbw HOW HBN
  by_cases hml : m < M
  · have hmb : (m : Int) < (M : Int) := by omega
    have hb0 := HBW.out.size
    go_wp2_with (at_builtin; refine wpList_append_own_at _ rfl _ _ 59 rfl w4.heap.size 51 i0 (.int .u64 0) 1 8 Tryz.underlying59 hi hz0 hz1 hz2 rfl (by decide) _ _ _ rfl (HRW.out.alloc _) ⟨wr.heap.size, 0, none⟩ 1 1 [.int .u64 u0] rfl rfl (cell_one_new _ _ _) (by simp [Value.oneCell']) (by unfold maxLen; omega) (by omega) (by simp; omega) ?_; intro v' w5 row5 hgrow5 hnil5 hloc5; obtain ⟨g5, cap5, e5, hq5, hl5⟩ := row5.form (by omega); subst e5; have HR5 := hidb row5; have HB5 := hidb (HBW.out.trans (((below_new wr _).mono hb0).trans ((grown_but hgrow5).below (by simp; omega) (fun k e => (row_lt1 HRW.out k e).1)))); clear row5 hgrow5 hnil5 hloc5)
    go_roundw
    case rel => exact ⟨m + 1, _, _, by omega, by go_num, rfl, by have := HR5.out; simpa [ints, List.replicate_succ', List.replicate_append_replicate] using this, HB5.out⟩
    case measure => simp [intOf]; omega
  · have hmn : ¬ (m : Int) < (M : Int) := by omega
    obtain rfl : m = M := by omega
    clear hml hmn hm
    have HP5 := hidb (HP4.out.keep HBW.out)
    have RTS := hidb (rts_own HRW.out)
    have LV := hidb (live_ok (rc := cv) wr HP5.out HLL.out RTS.out (by simp; omega) HRT.out (by rw [List.length_replicate, HRR.out]; omega))
    have CO := hidb (fun (w' : World) (hb' : Below wr.heap.size wr w') => collect_ok (rc := cv) w' (HP5.out.keep hb') HLL.out (RTS.out.keep hb') (by simp; omega) HRT.out (by rw [List.length_replicate, HRR.out]; omega))
    simp only [List.length_replicate] at LV CO
    rw [HRR.out] at LV
    have BX5 := hidb (BX4.out.keep HBW.out)
    have HB5 := hidb (HB4.out.trans (HBW.out.mono HB4.out.size))
    clear HP4 RTS BX4 HB4 HRW v0 HUC4
    go_wp2_with (first
      | (go_at_call 23; refine LV.out.mono ?_; rintro e w6 ⟨rfl, hb6⟩; have HB6 := hidb hb6; clear hb6)
      | (go_at_call 24; refine (CO.out _ HB6.out).mono ?_; rintro e w7 ⟨tb, laid, tl, rfl, hco⟩; have HCO := hidb hco; have HU7 := hidb (show Calls Tryz.prog 22 #[.pointer (some ⟨hb, 0, none⟩)] w7 fun e w' => e = .returned (.int .i64 (WN : Nat)) ∧ w' = w7 from (by obtain ⟨a7, c7, h7, _⟩ := hco.hp; have := used_any h7; rw [hco.len, List.length_replicate, HRR.out] at this; exact this)); clear hco)
      | (go_at_call 20; refine (fine0 _).mono ?_; rintro e w' ⟨rfl, hw'⟩; obtain rfl := hw'.symm)
      | (go_at_call 22; refine HU7.out.mono ?_; rintro e w' ⟨rfl, hw'⟩; obtain rfl := hw'.symm))
    have hB7 : Below w.heap.size w w7 := (HB5.out.trans (HB6.out.mono HB5.out.size)).trans (HCO.out.bt.below (Nat.le_trans HB5.out.size HB6.out.size) (fun k e => by have e' : k = hb := e; omega))
    have HB7 := hidb hB7
    have BX7 := hidb ((BX5.out.keep HB6.out).but HCO.out.bt (fun e => by omega))
    have HTL := hidb (show ∀ j, j < m + 1 → w7.cell? ⟨tb, j, none⟩ = some (.int .u64 (tl 0)) from fun j hj => by
      have h1 := (HCO.out.tr.row j (by simpa using hj)).1
      have e1 : ∀ i, i < m + 1 → (List.replicate (m + 1) u0)[i]? = some u0 := fun i hi => by rw [List.getElem?_replicate, if_pos hi]
      have e2 : ∀ i, i < m + 1 → (List.replicate (m + 1) (Tr.mk k nn f s a c kids))[i]? = some (Tr.mk k nn f s a c kids) := fun i hi => by rw [List.getElem?_replicate, if_pos hi]
      rw [HCO.out.sm j 0 u0 _ _ (e1 j hj) (e1 0 (by omega)) (e2 j hj) (e2 0 (by omega)) rfl] at h1
      exact h1)
    have HRP := hidb (show Rep laid L (Tr.mk k nn f s a c kids) (tl 0) from HCO.out.rep 0 u0 _ (by rw [List.getElem?_replicate, if_pos (by omega)]) (by rw [List.getElem?_replicate, if_pos (by omega)]))
    obtain ⟨a7, c7, h7, -⟩ := HCO.out.hp
    have HTB := hidb HCO.out.tr.lt
    have LD := hidb (fun (w' : World) (hb' : Below w7.heap.size w7 w') => load_all w w' (Tr.mk k nn f s a c kids) (tl 0) (h7.keep hb') HLL.out HIN.out HER.out HRP.out)
    generalize tl 0 = y at *
    clear hB7 h7 HCO HB6 HB5 BX5 LV CO HU7 HP5 HRT HRR
    go_loopw [15] (fun iv wq => ∃ (r : Nat), r ≤ m + 1 ∧ iv = .int .i64 r ∧ Below w7.heap.size w7 wq) (fun iv _ => m + 1 - (intOf iv).toNat)
    case atStart => exact ⟨0, by omega, rfl, Below.refl _ _⟩
    case round =>
    obtain ⟨r, hr, rfl, hbr⟩ := hrel
    have v0 := (hbr.cell (p := ⟨tb, 0, none⟩) HTB.out).trans (HTL.out 0 (by omega))
    have hm0 : (0 : Int) < ((m + 1 : Nat) : Int) := by omega
    have HBR := hidb hbr
    by_cases hrl : r < m + 1
    · have hrb : (r : Int) < ((m + 1 : Nat) : Int) := by omega
      have hrb' : (r : Int) < (m : Int) + 1 := by omega
      have hm0' : (0 : Int) < (m : Int) + 1 := by omega
      have hrz : (0 : Int) ≤ (r : Int) := by omega
      have v1 := (hbr.cell (p := ⟨tb, r, none⟩) HTB.out).trans (HTL.out r hrl)
      clear hbr
      go_wp2_with fail
      go_region
      all_goals (
        go_wp2_with fail
        go_roundw
        case rel => exact ⟨r + 1, by omega, by go_num, HBR.out.drew⟩
        case measure => simp [intOf]; omega)
    · have hrn : ¬ (r : Int) < ((m + 1 : Nat) : Int) := by omega
      have BX8 := hidb (BX7.out.keep hbr)
      have HB8 := hidb (HB7.out.trans (hbr.mono HB7.out.size))
      clear hbr
      go_wp2_with fail
      refine (LD.out _ HBR.out).mono ?_
      rintro e w9 ⟨⟨k9, n9, f9, s9, a9, c9, ks9⟩, rfl, hsm, hin9, hb9⟩
      have HB9 := hidb (HB8.out.trans (hb9.mono HB8.out.size))
      have BX9 := hidb ((BX8.out.keep hb9).keep (below_new w9 (objT k9 n9 f9 s9 a9 ks9.length c9)))
      have BY9 := hidb (Box.new w9 44 (.int .i64 k9) (.int .i64 n9) (.float .f64 f9) (.string s9) (.slice a9 ks9.length c9))
      have HBA := hidb (HB9.out.trans ((below_new w9 (objT k9 n9 f9 s9 a9 ks9.length c9)).mono HB9.out.size))
      have TW := hidb (fun (w' : World) (hb' : Below (w9.alloc (objT k9 n9 f9 s9 a9 ks9.length c9)).heap.size (w9.alloc (objT k9 n9 f9 s9 a9 ks9.length c9)) w') => twin_same (.mk k9 n9 f9 s9 a9 c9 ks9) (.mk k nn f s a c kids) (same_symm _ _ hsm) w' (in_below hb' (in_below (below_new w9 _) (in_mono (Nat.zero_le _) _ hin9))) (in_below (HBA.out.trans (hb'.mono HBA.out.size)) HIN.out))
      clear hsm hin9 hb9 LD
      simp only [Tr.val, Tr.cells] at TW ⊢
      go_wp2_with fail
      generalize (w9.alloc (objT k9 n9 f9 s9 a9 ks9.length c9)) = W9 at *
      obtain ⟨d0, d1, d2, d3, d4, -, -, -, -, -, -⟩ := BX9.out
      obtain ⟨g0, g1, g2, g3, g4, -, -, -, -, -, -⟩ := BY9.out
      refine (fine0 _).mono ?_
      rintro e w' ⟨rfl, hw'⟩
      obtain rfl := hw'.symm
      go_wp2_with (go_at_call 21; refine (TW.out _ (Below.refl _ _)).mono ?_; rintro e w5 ⟨rfl, hb5⟩; have HB5 := hidb (HBA.out.trans (hb5.mono HBA.out.size)); clear hb5)
      go_ret
      exact ⟨rfl, HB5.out⟩
end Go.Proofs.YtmijabhnbmmmfaaGreat


