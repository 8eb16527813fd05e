import Derived.Test.YtmijabhnbmmmfaaGreatG47
/- move, walked. -/
namespace Go.Proofs.YtmijabhnbmmmfaaGreat
open Go.RowKit Go.Deep
attribute [local go_sem] store_float f64bits f64frombits
attribute [local go_sem ↓] Go.wp_at_zero Go.wp_at_succ

/-- What move tells of right roots. -/
structure Moved (w w' : World) (ws : List Int) (L : List ByteArray) (us : List Int) (ts : List Tr) (V : Value) (tb : Nat) (laid : List Int) (tl : Nat → Int) : Prop where
  own : w'.ownsRow w.heap.size 51 1 V laid.length (ints laid)
  sp : SpU w' V
  po : ∀ q, V.ownBlock = some q → 0 < laid.length
  tr : TR w' tb us.length tl
  off : ∀ q, V.ownBlock = some q → q ≠ tb
  tB : w.heap.size ≤ tb
  len : laid.length = rT us ts us.length
  rep : ∀ (j : Nat) (u : Int) (t : Tr), us[j]? = some u → ts[j]? = some t → Rep laid L t (tl j)
  fm : Unlike us ts us.length → ∀ (j : Nat) (u : Int) (t : Tr), us[j]? = some u → ts[j]? = some t → tl j = if aloneT t = true then u else ofW (tagT t) (kSum ts j)
  be : Below w.heap.size w w'
  sm : ∀ (i j : Nat) (u : Int) (t s : Tr), us[i]? = some u → us[j]? = some u → ts[i]? = some t → ts[j]? = some s → aloneT t = aloneT s → tl i = tl j
  fo : ∃ cells now, wds cells = laid ∧ GH ws cells now cells.length (fun v t x => ∃ j, us[j]? = some x ∧ ts[j]? = some t ∧ tl j = v)

theorem MV.made {w : World} {hb N n : Nat} {t1 t2 t3 : TypeId} : MV w (((w.alloc (.cells (madeCells #[.int .u64 0] N) t1)).alloc (.cells #[.pointer (some ⟨hb, 0, none⟩), .slice none 0 0, .slice (some ⟨w.heap.size, 0, none⟩) N N] t2)).alloc (.cells (madeCells #[.int .u64 0] n) t3)) (w.heap.size + 1) hb w.heap.size N (.slice none 0 0) [] (fun _ => 0) ∧ TR (((w.alloc (.cells (madeCells #[.int .u64 0] N) t1)).alloc (.cells #[.pointer (some ⟨hb, 0, none⟩), .slice none 0 0, .slice (some ⟨w.heap.size, 0, none⟩) N N] t2)).alloc (.cells (madeCells #[.int .u64 0] n) t3)) (w.heap.size + 2) n (fun _ => 0) := by
  generalize hW1 : w.alloc (.cells (madeCells #[.int .u64 0] N) t1) = W1
  have e1 : W1.heap.size = w.heap.size + 1 := by rw [← hW1]; simp
  generalize hW2 : W1.alloc (.cells #[.pointer (some ⟨hb, 0, none⟩), .slice none 0 0, .slice (some ⟨w.heap.size, 0, none⟩) N N] t2) = W2
  have e2 : W2.heap.size = w.heap.size + 2 := by rw [← hW2]; simp [e1]
  have B1 : Below w.heap.size w W1 := by rw [← hW1]; exact below_new w _
  have B2 : Below W1.heap.size W1 W2 := by rw [← hW2]; exact below_new W1 _
  have B3 : Below W2.heap.size W2 (W2.alloc (.cells (madeCells #[.int .u64 0] n) t3)) := below_new W2 _
  have tr := Tri.new W1 t2 (.pointer (some ⟨hb, 0, none⟩)) (.slice none 0 0) (.slice (some ⟨w.heap.size, 0, none⟩) N N)
  rw [hW2, e1] at tr
  refine ⟨⟨tr.keep B3, World.ownsRow_nil _ _ _ _, fun j hj => ?_, by simp; omega, by omega, fun q hq => by simp [Value.ownBlock] at hq, by omega, Nat.le_refl _, ?_, fun q hq => by simp [Value.ownBlock] at hq, fun q hq => by simp [Value.ownBlock] at hq⟩, ⟨fun j hj => ?_, by simp; omega⟩⟩
  · have h := made_at (w := w) (t := t1) hj
    rw [hW1] at h
    have l1 : w.heap.size < W1.heap.size := by omega
    have l2 : w.heap.size < W2.heap.size := by omega
    exact ⟨((B3.cell (p := ⟨w.heap.size, j, none⟩) l2).trans (B2.cell (p := ⟨w.heap.size, j, none⟩) l1)).trans h.1, ((B3.frozen (p := ⟨w.heap.size, j, none⟩) l2).trans (B2.frozen (p := ⟨w.heap.size, j, none⟩) l1)).trans h.2⟩
  · exact (B1.trans (B2.mono B1.size)).trans (B3.mono (by omega))
  · have h := made_at (w := W2) (t := t3) hj
    rw [e2] at h
    exact h

theorem row_base {w : World} {b b' : Nat} {e : TypeId} {v : Value} {n : Nat} {xs : List Value} (h : w.ownsRow b e 1 v n xs) (hb : b' ≤ b) : w.ownsRow b' e 1 v n xs := by
  refine ⟨h.1, ?_⟩
  rcases h.2 with h' | ⟨g, cap, cur, h1, h2, h3⟩
  · exact .inl h'
  · exact .inr ⟨g, cap, cur, h1, by omega, h3⟩

theorem rT_zero {us : List Int} {ts : List Tr} (h : ∀ (j : Nat) (u : Int) (t : Tr), us[j]? = some u → ts[j]? = some t → aloneT t = true) : ∀ m, rT us ts m = 0
  | 0 => rfl
  | m + 1 => by
    simp only [rT, rT_zero h m, Nat.zero_add]
    split
    · rename_i u t h1 h2
      rw [if_pos (h m u t h1 h2)]
    · rfl

set_option maxHeartbeats 3000000 in
set_option maxRecDepth 100000 in
theorem move_ok {hb ab most : Nat} {ws : List Int} {L : List ByteArray} {F : List Nat} {a : Option Addr} {c : Nat} {ra : Option Addr} {rc : Nat} {us : List Int} {ts : List Tr} (w : World) (hp : HP w hb ab most ws L F a c) (hL : L.length ≤ 100000) (hru : Rts w ra us) (hul : us.length ≤ 1000000) (hr : Rts2 ws L us ts) (hT : rT us ts us.length ≤ 16777216) :
    Calls Tryz.prog 40 #[.pointer (some ⟨hb, 0, none⟩), .slice ra us.length rc] w fun e w' => ∃ V tb laid tl, e = .returned (.tuple #[V, .slice (some ⟨tb, 0, none⟩) us.length us.length, .int .i64 0]) ∧ Moved w w' ws L us ts V tb laid tl := by
  have hws : ws.length ≤ 16777216 := Nat.le_trans hp.fits hp.small
  have HA := hidb (holdsAll_ok (rc := rc) w hp hL hru hul (fun u hu => by
    obtain ⟨j, hj⟩ := List.getElem?_of_mem hu
    obtain ⟨t, ht⟩ : ∃ t, ts[j]? = some t := ⟨_, List.getElem?_eq_getElem (by have := hr.len; have := get_lt hj; omega)⟩
    exact ⟨t, hr.good j u t hj ht⟩))
  have HPP := hidb hp
  have HRU := hidb hru
  have HR := hidb hr
  have HT := hidb hT
  have HLL := hidb hL
  have mk1 := made_words ws.length hws
  have mk2 := made_words us.length (by omega)
  have HCA := hidb (show ∀ (m : Nat) (cells : List Cl) (now tl : Nat → Int), RI ws L us ts m cells now tl → cells = [] ∨ ∃ g, a = some ⟨g, 0, none⟩ from fun m cells now tl h => by
    rcases hp.row with ⟨_, _, e⟩ | ⟨g, cs, e, _⟩
    · left
      have hz := rT_zero (us := us) (ts := ts) (fun j u t h1 h2 => by
        obtain ⟨g1, g2, g3, g4⟩ := hr.good j u t h1 h2
        cases hal : aloneT t with
        | true => rfl
        | false =>
          obtain ⟨p, hN⟩ := new_blk g1 g2 g4 hal
          have h3 := hN.l_
          have h4 := hN.n_
          have : ws.length = 0 := by rw [e]; rfl
          omega) m
      have := h.ci.le
      exact List.length_eq_zero_iff.1 (by omega)
    · exact .inr ⟨g, e⟩)
  obtain ⟨c0, c1, c2, f0, f1, f2, hlt⟩ := hp.tri
  clear hp hru hr hT hL
  go_enter Tryz.func40, Tryz.ntmps40
  go_wp2_with (go_at_call 55; refine HA.out.mono ?_; rintro e w1 ⟨rfl, hb1⟩; have HB1 := hidb hb1; have HP1 := hidb (HPP.out.keep hb1); clear hb1 c0 c1 c2 f0 f1 f2 hlt; obtain ⟨c0, c1, c2, f0, f1, f2, hlt⟩ := HP1.out.tri)
  have HMT := hidb (MV.made (w := w1) (hb := hb) (N := ws.length) (n := us.length) (t1 := 51) (t2 := 135) (t3 := 51))
  generalize (((w1.alloc (.cells (madeCells #[.int .u64 0] ws.length) 51)).alloc (.cells #[.pointer (some ⟨hb, 0, none⟩), .slice none 0 0, .slice (some ⟨w1.heap.size, 0, none⟩) ws.length ws.length] 135)).alloc (.cells (madeCells #[.int .u64 0] us.length) 51)) = W0 at *
  clear mk1 mk2 c0 c1 c2 f0 f1 f2 hlt HA
  have hw1 := HB1.out.size
  have HRW := hidb (show Rts w1 ra us from ⟨fun h => by
    obtain ⟨b, o, e, hbl, hcell⟩ := HRU.out.at_ h
    exact ⟨b, o, e, by omega, fun j u hu => (HB1.out.cell (p := ⟨b, o + j, none⟩) hbl).trans (hcell j u hu)⟩⟩)
  generalize hmb : w1.heap.size + 1 = mb at *
  generalize hnb : w1.heap.size = nb at *
  generalize htb : mb + 1 = tb at *
  have htb' : w1.heap.size + 2 = tb := by omega
  have HMV := hidb HMT.out.1
  have HTR := hidb (show TR W0 tb us.length (fun _ => 0) from by have := HMT.out.2; first | exact this | (rw [show nb + 2 = tb from by omega] at this; exact this))
  clear HMT
  go_loopw [27] (fun iv wr => ∃ (m : Nat) (cells : List Cl) (now tl : Nat → Int) (V : Value), m ≤ us.length ∧ iv = .int .i64 m ∧ RI ws L us ts m cells now tl ∧ MV w1 wr mb hb nb ws.length V (wds cells) now ∧ TR wr tb us.length tl ∧ ∀ q, V.ownBlock = some q → q ≠ tb) (fun iv _ => us.length - (intOf iv).toNat)
  case atStart => exact ⟨0, [], _, _, _, by omega, rfl, RI.zero, HMV.out, HTR.out, fun q hq => by simp [Value.ownBlock] at hq⟩
  case round =>
  obtain ⟨m, cells, now, tl, V, hm, rfl, hri, hmv, htr, hof⟩ := hrel
  clear HMV HTR
  have HRI := hidb hri
  have HMV := hidb hmv
  have HTR := hidb htr
  have HOF := hidb hof
  clear hri hmv htr hof
  by_cases hml : m < us.length
  · have hmb2 : (m : Int) < (us.length : Int) := by omega
    have hmz : (0 : Int) ≤ (m : Int) := by omega
    obtain ⟨b, o, rfl, hbl, hcell⟩ := HRW.out.at_ (by omega)
    obtain ⟨u, hu⟩ : ∃ u, us[m]? = some u := ⟨_, List.getElem?_eq_getElem hml⟩
    obtain ⟨t, ht⟩ : ∃ t, ts[m]? = some t := ⟨_, List.getElem?_eq_getElem (by have := HR.out.len; omega)⟩
    have v0 := (HMV.out.be.cell (p := ⟨b, o + m, none⟩) hbl).trans (hcell m u hu)
    have ME := hidb (meet_root HP1.out HLL.out HR.out HT.out hu ht HMV.out HRI.out)
    have HNT := hidb (show ¬ MB mb nb V tb from fun e => by
      rcases e with e | e | e
      · omega
      · omega
      · exact HOF.out tb e rfl)
    obtain ⟨r0, r0f⟩ := HTR.out.row m hml
    clear hcell hu hbl ht
    go_wp2_with (go_at_call 56; refine ME.out.mono ?_; rintro e wz ⟨v, cells2, now2, V2, rfl, q1, q2, q3, q4⟩; have HQ1 := hidb q1; have HQ2 := hidb q2; have HQ3 := hidb q3; have HQ4 := hidb q4; have HT2 := hidb (HTR.out.but q3 HNT.out); obtain ⟨s0, s0f⟩ := HT2.out.row m hml; clear q1 q2 q3 q4)
    have HT3 := hidb (HT2.out.set (m := m) v)
    have hof2 : ∀ q, V2.ownBlock = some q → q ≠ tb := fun q hq e => (HQ4.out q hq).elim (fun h => HOF.out q h e) (fun h => by have := HTR.out.lt; omega)
    have HM3 := hidb (HQ2.out.but (S := (· = tb)) ((But.refl (· = tb) wz).setCell (p := ⟨tb, m, none⟩) (fun _ => rfl) (.int .u64 v)) (fun k e => by omega) (by omega) (by omega) hof2)
    go_roundw
    case rel => exact ⟨m + 1, cells2, now2, _, V2, by omega, by go_num, HQ1.out, HM3.out, HT3.out, hof2⟩
    case measure => simp [intOf]; omega
  · have hmn : ¬ (m : Int) < (us.length : Int) := by omega
    obtain rfl : m = us.length := by omega
    have SC := hidb (scan_ok HP1.out HLL.out (HCA.out _ _ _ _ HRI.out) HT.out HMV.out HRI.out.ci)
    go_wp2_with (go_at_call 57; refine SC.out.mono ?_; rintro e wz ⟨rfl, cells2, now2, V2, q1, q2, q3, q4, q5⟩; have HQ1 := hidb q1; have HQ2 := hidb q2; have HQ3 := hidb q3; have HQ4 := hidb q4; have HQ5 := hidb q5; obtain ⟨k0, k1, k2, m0, m1, m2, -⟩ := q1.tri; clear q1 q2 q3 q4 q5)
    have hof2 : ∀ q, V2.ownBlock = some q → q ≠ tb := fun q hq e => (HQ5.out q hq).elim (fun h => HOF.out q h e) (fun h => by have := HTR.out.lt; omega)
    obtain ⟨d1, d2⟩ := HQ2.out.done
    refine bodyPost_ret (v := .tuple #[V2, .slice (some ⟨tb, 0, none⟩) us.length us.length, .int .i64 0]) (by simp [results, Tryz.results40, go_sem]) rfl ⟨V2, tb, wds cells2, tl, rfl, ?_⟩
    refine ⟨row_base HQ1.out.own (by omega), HQ1.out.sp, HQ1.out.po, HTR.out.but HQ4.out (fun e => ?_), hof2, by omega, by simpa [wds] using d1, fun j u t hu ht => ?_, fun hU j u t hu ht => (HRI.out.fm hU).2 j u t (get_lt hu) hu ht, HB1.out.trans (HQ1.out.be.mono HB1.out.size), fun i j u t s hi hj hti htj hts => ?_, cells2, now2, rfl, (HQ3.out.2 _ HRI.out.gh).to fun v t x hR => Or.inl (by obtain ⟨j, e1, e2, e3⟩ := hR; exact ⟨j, get_lt e1, e1, e2, e3⟩)⟩
    · rcases e with e | e | e
      · omega
      · omega
      · exact HOF.out tb e rfl
    · exact d2 t _ (HR.out.good j u t hu ht).2.1.1 (HQ3.out.1 _ _ (HRI.out.pt j u t (get_lt hu) hu ht))
    · cases hal : aloneT t with
      | true => rw [HRI.out.al i u t (get_lt hi) hi hti hal, HRI.out.al j u s (get_lt hj) hj htj (by rw [← hts]; exact hal)]
      | false => rw [← (HRI.out.ol i u t (get_lt hi) hi hti hal).1, ← (HRI.out.ol j u s (get_lt hj) hj htj (by rw [← hts]; exact hal)).1]
end Go.Proofs.YtmijabhnbmmmfaaGreat


/- Collect and Live. -/
namespace Go.Proofs.YtmijabhnbmmmfaaGreat
open Go.RowKit Go.Deep
attribute [local go_sem] store_float f64bits f64frombits
attribute [local go_sem ↓] Go.wp_at_zero Go.wp_at_succ

/-- A row that is owned, whose room holds words alone, is a heap's row. -/
theorem row_of_own {w : World} {base : Nat} {V : Value} {laid : List Int} (h : w.ownsRow base 51 1 V laid.length (ints laid)) (hs : SpU w V) (hp : ∀ q, V.ownBlock = some q → 0 < laid.length) : ∃ a c, V = .slice a laid.length c ∧ RowAt w a c laid ∧ c ≤ 9223372036854775807 ∧ (∀ ad, a = some ad → 0 < c) ∧ ∀ g, a = some ⟨g, 0, none⟩ → base ≤ g := by
  rcases h.2 with ⟨rfl, h0⟩ | ⟨g, cap, cur, rfl, h1, h2, h3, h4, h5, h6⟩
  · exact ⟨none, 0, by rw [h0], .inl ⟨rfl, rfl, List.length_eq_zero_iff.1 h0⟩, by omega, fun _ h => by (cases h), fun _ h => by cases h⟩
  · have hpo := hp g rfl
    refine ⟨some ⟨g, 0, none⟩, cap, rfl, .inr ⟨g, fun j => intOf (cur.getD j (.int .u64 0)), rfl, fun j hj => ?_, h3, fun i x hx => ?_, (Array.getElem?_eq_some_iff.1 h2).1⟩, by simpa [maxLen] using h4, fun _ _ => by omega, fun g' e => ?_⟩
    · have hj' : j < cur.size := by omega
      obtain ⟨u, hu⟩ := hs g rfl cur _ _ h2 j cur[j] (by simp [hj'])
      refine ⟨?_, by simp [World.frozen?, h2]⟩
      rw [cell_of_row w g j cur _ _ h2]
      simp [hj', hu, intOf, Array.getD]
    · have hil := get_lt hx
      have hc : cur[i]? = some (.int .u64 x) := by
        have : (cur.toList.take (laid.length * 1))[i]? = some (.int .u64 x) := by rw [h6]; simp [ints, hx]
        rw [List.getElem?_take, if_pos (by omega)] at this
        simpa using this
      have hic : i < cur.size := (Array.getElem?_eq_some_iff.1 hc).1
      have hv : cur[i] = .int .u64 x := (Array.getElem?_eq_some_iff.1 hc).2
      simp [Array.getD, hic, hv, intOf]
    · obtain rfl : g = g' := by simpa using e
      exact h1

section
variable {hb ab most : Nat} {ws : List Int} {L : List ByteArray} {F : List Nat} {a : Option Addr} {c : Nat} {ra : Option Addr} {rc : Nat} {us : List Int} {ts : List Tr}

set_option maxHeartbeats 1000000 in
theorem live_ok (w : World) (hp : HP w hb ab most ws L F a c) (hL : L.length ≤ 100000) (hru : Rts w ra us) (hul : us.length ≤ 1000000) (hr : Rts2 ws L us ts) (hT : rT us ts us.length ≤ 16777216) :
    Calls Tryz.prog 23 #[.pointer (some ⟨hb, 0, none⟩), .slice ra us.length rc] w fun e w' => e = .returned (.tuple #[.int .i64 (rT us ts us.length : Nat), .int .i64 0]) ∧ Below w.heap.size w w' := by
  have MO := hidb (move_ok (rc := rc) w hp hL hru hul hr hT)
  clear hp hru hr
  go_enter Tryz.func23, Tryz.ntmps23
  go_wp2_with (go_at_call 40; refine MO.out.mono ?_; rintro e w1 ⟨V, tb, laid, tl, rfl, hM⟩; have HB := hidb hM.be; have HLN := hidb hM.len; obtain ⟨av, cv, rfl⟩ := own_formW hM.own; clear hM)
  rw [HLN.out]
  exact bodyPost_ret (v := .tuple #[.int .i64 (rT us ts us.length : Nat), .int .i64 0]) (by simp [results, Tryz.results23, go_sem]) rfl ⟨rfl, HB.out⟩

/-- What Collect has done. -/
structure Coll (w w' : World) (hb ab most : Nat) (ws : List Int) (L : List ByteArray) (F : List Nat) (us : List Int) (ts : List Tr) (tb : Nat) (laid : List Int) (tl : Nat → Int) : Prop where
  hp : ∃ a c, HP w' hb ab most laid L F a c ∧ ∀ g, a = some ⟨g, 0, none⟩ → g ≠ tb
  tr : TR w' tb us.length tl
  tB : w.heap.size ≤ tb
  len : laid.length = rT us ts us.length
  rep : ∀ (j : Nat) (u : Int) (t : Tr), us[j]? = some u → ts[j]? = some t → Rep laid L t (tl j)
  fm : Unlike us ts us.length → ∀ (j : Nat) (u : Int) (t : Tr), us[j]? = some u → ts[j]? = some t → tl j = if aloneT t = true then u else ofW (tagT t) (kSum ts j)
  bt : But (· = hb) w w'
  sm : ∀ (i j : Nat) (u : Int) (t s : Tr), us[i]? = some u → us[j]? = some u → ts[i]? = some t → ts[j]? = some s → aloneT t = aloneT s → tl i = tl j
  fo : ∃ cells now, wds cells = laid ∧ GH ws cells now cells.length (fun v t x => ∃ j, us[j]? = some x ∧ ts[j]? = some t ∧ tl j = v)

set_option maxHeartbeats 1000000 in
theorem collect_ok (w : World) (hp : HP w hb ab most ws L F a c) (hL : L.length ≤ 100000) (hru : Rts w ra us) (hul : us.length ≤ 1000000) (hr : Rts2 ws L us ts) (hT : rT us ts us.length ≤ most) :
    Calls Tryz.prog 24 #[.pointer (some ⟨hb, 0, none⟩), .slice ra us.length rc] w fun e w' => ∃ tb laid tl, e = .returned (.tuple #[.slice (some ⟨tb, 0, none⟩) us.length us.length, .int .i64 0]) ∧ Coll w w' hb ab most ws L F us ts tb laid tl := by
  have MO := hidb (move_ok (rc := rc) w hp hL hru hul hr (Nat.le_trans hT hp.small))
  have HPP := hidb hp
  have hlt := hp.tri.lt
  have hFlt := hidb hp.tab.lt
  have HT := hidb hT
  clear hp hru hr hT
  go_enter Tryz.func24, Tryz.ntmps24
  go_wp2_with (go_at_call 40; refine MO.out.mono ?_; rintro e w1 ⟨V, tb, laid, tl, rfl, hM⟩; obtain ⟨av, cv, rfl⟩ := own_formW hM.own; have HM := hidb hM; obtain ⟨c0, c1, c2, f0, f1, f2, -⟩ := (HPP.out.keep hM.be).tri; clear hM)
  refine bodyPost_ret (v := .tuple #[.slice (some ⟨tb, 0, none⟩) us.length us.length, .int .i64 0]) (by simp [results, Tryz.results24, go_sem]) rfl ⟨tb, laid, tl, rfl, ?_⟩
  have hP1 := HPP.out.keep HM.out.be
  generalize hV : Value.slice av laid.length cv = V at *
  have hB : But (· = hb) w1 (w1.setCell ⟨hb, 0, none⟩ V) := (But.refl (· = hb) w1).setCell (p := ⟨hb, 0, none⟩) (fun _ => rfl) _
  have hVB := row_lt1 HM.out.own
  have hown : (w1.setCell ⟨hb, 0, none⟩ V).ownsRow w.heap.size 51 1 V laid.length (ints laid) := row_keep1 HM.out.own (fun g hg hl => hB.block g hl (fun e => by have := (hVB g hg).1; omega))
  have hsp : SpU (w1.setCell ⟨hb, 0, none⟩ V) V := HM.out.sp.at fun q hq => hB.block q (hVB q hq).2 (fun e => by have := (hVB q hq).1; omega)
  obtain ⟨a', c', e1, r1, r2, r3, r4⟩ := row_of_own hown hsp HM.out.po
  have htbB := HM.out.tB
  refine ⟨⟨a', c', ⟨?_, ?_, r1, hP1.nh, fun g hg => ⟨fun h => ?_, fun h => ?_⟩, r2, ?_, hP1.small, r3⟩, fun g hg => ?_⟩, HM.out.tr.but hB (fun e => by omega), htbB, HM.out.len, HM.out.rep, HM.out.fm, ?_, HM.out.sm, HM.out.fo⟩
  · rw [← e1]
    exact hP1.tri.set0 V
  · exact hP1.tab.kept (G := [hb]) ⟨hB.os, hB.tape, hB.output, hB.size, fun i hi hn => hB.block i hi (fun e => hn (by simp [e]))⟩ (fun x hx hx' => by simp at hx'; exact hP1.nh (hx' ▸ hx))
  · have := hFlt.out g h; have := r4 g hg; omega
  · have := r4 g hg; omega
  · rw [HM.out.len]; exact HT.out
  · exact HM.out.off g (by rw [e1, hg]; rfl)
  · exact (But.of_below (S := (· = hb)) HM.out.be).trans hB
end
end Go.Proofs.YtmijabhnbmmmfaaGreat


