import Derived.Test.YtmijabhnbmmmfaaGreatG41
import Derived.Test.YtmijabhnbmmmfaaGreatG35
import Derived.Test.YtmijabhnbmmmfaaGreatG48
import Derived.Test.YtmijabhnbmmmfaaGreatG49
/- stored. -/
namespace Go.Proofs.YtmijabhnbmmmfaaGreat
open Go.RowKit Go.Deep
attribute [local go_sem] store_float f64bits f64frombits
attribute [local go_sem ↓] Go.wp_at_zero Go.wp_at_succ

/-- A word is appended to the row. -/
theorem StI.app {w wr X w' : World} {kids : List Tr} {m hb ab : Nat} {ws : List Int} {L : List ByteArray} {F : List Nat} {a2 : Option Addr} {c2 : Nat} {us : List Int} {vo v' : Value} {uo : List Int} {u : Int} (h : StI w wr kids m hb ab ws L F a2 c2 us) (hr : UsR w wr hb F a2 vo uo) (hX : Below wr.heap.size wr X) (hg : X.grownBy w' vo.ownBlock)
    (hv : v'.ownBlock = vo.ownBlock ∨ v'.ownBlock = some X.heap.size) (ho : w'.ownsRow w.heap.size 51 1 v' (uo.length + 1) ((uo.map fun u => Value.int .u64 u) ++ [.int .u64 u])) : StI w w' kids m hb ab ws L F a2 c2 us ∧ UsR w w' hb F a2 v' (uo ++ [u]) := by
  have hB := grown_but hg
  have hlo := row_lt1 hr.own
  have hXs := hX.size
  have hpX := h.hp.keep hX
  have hlt := hpX.tri.lt
  have hFl := hpX.tab.lt
  have hgl : ∀ g, a2 = some ⟨g, 0, none⟩ → g < X.heap.size := by
    intro g ha
    rcases hpX.row with ⟨e, _⟩ | ⟨g', cs, e, _, _, _, h4⟩
    · rw [ha] at e; cases e
    · rw [ha] at e
      obtain rfl : g = g' := by simpa using e
      exact h4
  refine ⟨⟨hpX.but hB (fun e => (hr.off _ e).1 rfl) (fun x hx e => (hr.off _ e).2.1 hx) (fun g e e2 => (hr.off _ e2).2.2 g e rfl), h.wl, h.ll, h.w64, h.tx, h.hbB, h.fB, h.gB, ?_, h.ul, h.rep, h.lay⟩, ⟨?_, fun q hq => ?_⟩⟩
  · exact (h.be.trans (hX.mono h.be.size)).trans (hB.below (Nat.le_trans h.be.size hXs) (fun k e => (hlo k e).1))
  · rw [List.length_append, List.map_append]
    exact ho
  · rcases hv with e | e
    · rw [e] at hq; exact hr.off q hq
    · rw [e] at hq
      have hq' := Option.some.inj hq
      exact ⟨by omega, fun hm => by have := hFl q hm; omega, fun g e2 => by have := hgl g e2; omega⟩

set_option maxHeartbeats 2000000 in
set_option maxRecDepth 100000 in
theorem stored_any {w w1 : World} {a : Option Addr} {c : Nat} {kids : List Tr} (cx : FullCx w a c kids) (hb1 : Below w.heap.size w w1) :
    Calls Tryz.prog 17 #[.slice a kids.length c] w1 fun e w2 => ∃ hb ab ws L F a2 c2 us vo, e = .returned (.tuple #[.pointer (some ⟨hb, 0, none⟩), vo]) ∧ StI w w2 kids kids.length hb ab ws L F a2 c2 us ∧ UsR w w2 hb F a2 vo us := by
  have CX := hidb cx
  have HB1 := hidb hb1
  have HW := hidb cx.words
  have NA := hidb (new_any w1)
  obtain ⟨i0, hi, hz0, hz1, hz2⟩ := info_parts infoW
  have h40 := cx.few
  clear cx hb1
  go_enter Tryz.func17, Tryz.ntmps17
  go_wp2_with (first
    | (go_at_call 11; refine NA.out.mono ?_; rintro e w4 ⟨rfl, hb4, hs4, ht4⟩; have HB4 := hidb (HB1.out.trans (hb4.mono HB1.out.size)); have HT4 := hidb ht4; clear hb4 hs4 ht4)
    | (go_at_call 10; refine (new_heap 16777216 w1.heap.size [w1.heap.size] w4 HT4.out (by omega) (by omega)).mono ?_; rintro e w5 ⟨hb, rfl, hge, hp, hb5⟩; have HP5 := hidb hp; have HB5 := hidb (HB4.out.trans (hb5.mono HB4.out.size)); have HGE := hidb (Nat.le_trans HB4.out.size hge); clear hb5 hp hge)
    | (go_at_call 20; refine (fine_any 0 _).mono ?_; rintro e w' ⟨rfl, hw'⟩; obtain rfl := hw'.symm))
  have hzs : w.heap.size ≤ w1.heap.size := HB1.out.size
  generalize w1.heap.size = ab at *
  clear NA HB4 HT4
  go_loopw [6, 7] (fun ov iv wr => ∃ (m : Nat) (ws : List Int) (L : List ByteArray) (F : List Nat) (a2 : Option Addr) (c2 : Nat) (us : List Int), m ≤ kids.length ∧ iv = .int .i64 m ∧ StI w wr kids m hb ab ws L F a2 c2 us ∧ UsR w wr hb F a2 ov us) (fun _ iv _ => kids.length - (intOf iv).toNat)
  case atStart => exact ⟨0, [], [], [ab], none, 0, [], by omega, rfl, ⟨HP5.out, by simp [wAll], by simp, fun x h => by simp at h, fun x h => by simp at h, HGE.out, fun k hk => (by have := List.mem_singleton.1 hk; omega), fun g h => (by cases h), HB5.out, rfl, fun j t u hj hu => by simp at hu, fun j t u hj hu => by simp at hu⟩, ⟨⟨rfl, Or.inl ⟨rfl, rfl⟩⟩, fun q hq => by simp [Value.ownBlock] at hq⟩⟩
  case round =>
  obtain ⟨m, ws, L, F, a2, c2, us, hm, rfl, hst, hus⟩ := hrel
  have HST := hidb hst
  have HUS := hidb hus
  clear hst hus HP5 HB5
  by_cases hml : m < kids.length
  · have hmb : (m : Int) < (kids.length : Int) := by omega
    have hmz : (0 : Int) ≤ (m : Int) := by omega
    obtain ⟨b2, o2, k2, n2, f2, s2, a3, c3, ks2, rfl, hu2, hin2, hsk2, he2, hcell2⟩ := CX.out.kid (m := m) hml
    obtain ⟨v0, v1, v2, v3, v4⟩ := hcell2 wr HST.out.be
    have hw2 := wAll_take hu2
    have hc2 := cntAll_take hu2
    have hct := cntAll_take_le kids (m + 1)
    have hwt := wAll_take_le kids (m + 1)
    have hfit : ws.length + wN (.mk k2 n2 f2 s2 a3 c3 ks2) ≤ 16777216 := by have := HST.out.wl; have := HW.out; omega
    have ST := hidb (store_good (fun k => k < w.heap.size) (.mk k2 n2 f2 s2 a3 c3 ks2) wr hb ab 16777216 ws L F a2 c2 HST.out.hp (in_below HST.out.be hin2) (on_all _ hin2) hsk2 he2 hfit
      (fun k hk => Nat.lt_of_lt_of_le hk HST.out.be.size) (by have := HGE.out; omega) (fun g e h => by have := HST.out.gB g e; omega) (fun k hk h => by have := HST.out.fB k hk; omega) (by have := HST.out.ll; have := CX.out.cnt; omega))
    have PUT := hidb (fun w' F' a4 c4 => HST.out.put (w' := w') (F' := F') (a3 := a4) (c3 := c4) HUS.out hu2 he2 hin2 hfit)
    have hul : us.length ≤ 40 := by have := HST.out.ul; omega
    clear hu2 hin2 hsk2 he2 hcell2 hw2 hc2 hct hwt hfit
    generalize layT (.mk k2 n2 f2 s2 a3 c3 ks2) ws.length L = Y at *
    obtain ⟨y1, y2, y3⟩ := Y
    go_wp2_with (first
      | (go_at_call 26; refine ST.out.mono ?_; rintro e wz ⟨rfl, a4, c4, F4, hp4, hF4, hg4, hk4⟩; have HPT := hidb (PUT.out wz F4 a4 c4 hp4 hF4 hg4 hk4); clear hp4 hF4 hg4 hk4 ST PUT)
      | (go_at_call 20; refine (fine_any 0 _).mono ?_; rintro e w' ⟨rfl, hw'⟩; obtain rfl := hw'.symm)
      | (at_builtin; refine wpList_append_own_at _ rfl _ _ 59 rfl w.heap.size 51 i0 (.int .u64 0) 1 8 Tryz.underlying59 hi hz0 hz1 hz2 rfl (by decide) _ _ _ rfl (HPT.out.2.own.alloc _) ⟨wz.heap.size, 0, none⟩ 1 1 [.int .u64 y1] rfl rfl (cell_one_new _ _ _) (by simp [Value.oneCell']) (by unfold maxLen; omega) (by omega) (by have := HPT.out.1.be.size; simp; omega) ?_; intro v' w3 row3 hgrow3 hnil3 hloc3; have HAP := hidb (HPT.out.1.app HPT.out.2 (below_new wz _) hgrow3 hloc3 row3); clear row3 hgrow3 hnil3 hloc3))
    go_roundw
    case rel => exact ⟨m + 1, _, _, _, _, _, _, by omega, by go_num, HAP.out.1, HAP.out.2⟩
    case measure => simp [intOf]; omega
  · have hmn : ¬ (m : Int) < (kids.length : Int) := by omega
    obtain rfl : m = kids.length := by omega
    go_wp2_with fail
    exact bodyPost_ret (v := .tuple #[.pointer (some ⟨hb, 0, none⟩), u6]) (by simp [results, Tryz.results17, go_sem]) rfl ⟨hb, ab, ws, L, F, a2, c2, us, u6, rfl, HST.out, HUS.out⟩
end Go.Proofs.YtmijabhnbmmmfaaGreat


/- Roots among what was stored. -/
namespace Go.Proofs.YtmijabhnbmmmfaaGreat
open Go.RowKit Go.Deep

/-- What is known of a term that was stored. -/
structure Sto (ws : List Int) (L : List ByteArray) (t : Tr) (u : Int) (p : Nat) : Prop where
  good : Good ws L t u
  nd : (blks ws t u).Nodup
  inn : ∀ b, b ∈ blks ws t u → p ≤ b ∧ b < p + wN t

theorem sto_of {w wr : World} {a : Option Addr} {c : Nat} {kids : List Tr} {hb ab : Nat} {ws : List Int} {L : List ByteArray} {F : List Nat} {a2 : Option Addr} {c2 : Nat} {us : List Int} (cx : FullCx w a c kids) (h : StI w wr kids kids.length hb ab ws L F a2 c2 us) {j : Nat} {t : Tr} {u : Int} (ht : kids[j]? = some t) (hu : us[j]? = some u) : Sto ws L t u (wAll (kids.take j)) := by
  obtain ⟨b, o, k, n, f, s, a', c', ks, _, hk, hin, hsm, he, _⟩ := cx.kid (m := j) (get_lt ht)
  obtain rfl : t = .mk k n f s a' c' ks := Option.some.inj (ht.symm.trans hk)
  obtain ⟨g1, g2, g3⟩ := words_right he
  have hr := h.rep j _ u ht hu
  obtain ⟨L', rfl, hl⟩ := h.lay j _ u ht hu
  have hw := wAll_take ht
  have hwt := wAll_take_le kids (j + 1)
  have hww := cx.words
  obtain ⟨n1, n2⟩ := lay_lies _ g1 (wAll (kids.take j)) L' ws hl (by omega)
  exact ⟨⟨in_smF _ hin, ⟨g1, g3⟩, right_deep he, hr⟩, n1, n2⟩

theorem wAll_take_mono (kids : List Tr) : ∀ {p q : Nat}, p ≤ q → wAll (kids.take p) ≤ wAll (kids.take q) := by
  intro p q h
  induction q with
  | zero => obtain rfl : p = 0 := by omega
            exact Nat.le_refl _
  | succ q ih =>
    rcases Nat.lt_or_ge p (q + 1) with h1 | h1
    · have := ih (by omega)
      rcases Nat.lt_or_ge q kids.length with h2 | h2
      · have := wAll_take (List.getElem?_eq_getElem h2)
        omega
      · rw [List.take_of_length_le (show kids.length ≤ q + 1 by omega)]
        rw [List.take_of_length_le h2] at this
        exact this
    · obtain rfl : p = q + 1 := by omega
      exact Nat.le_refl _

/-- Roots that were stored. -/
theorem rts2_of {ws : List Int} {L : List ByteArray} {kids : List Tr} {us : List Int} (hS : ∀ (j : Nat) (t : Tr) (u : Int), kids[j]? = some t → us[j]? = some u → Sto ws L t u (wAll (kids.take j))) (us' : List Int) (ts' : List Tr) (ps : List Nat) (h1 : us'.length = ts'.length)
    (h2 : ∀ (i : Nat) (u : Int) (t : Tr), us'[i]? = some u → ts'[i]? = some t → ∃ p, ps[i]? = some p ∧ us[p]? = some u ∧ kids[p]? = some t) : Rts2 ws L us' ts' := by
  have head : ∀ (t : Tr) (u : Int) (p : Nat), Sto ws L t u p → aloneT t = false → ∃ b, b ∈ blks ws t u ∧ bodyI u = b := by
    intro t u p hs ha
    obtain ⟨g1, g2, g3, g4⟩ := hs.good
    obtain ⟨b, hN⟩ := new_blk g1 g2 g4 ha
    refine ⟨b, by rw [hN.b_]; exact List.mem_cons_self .., ?_⟩
    rw [hN.x_]
    have hpp := hN.p_
    have ht : tagT t = 5 ∨ tagT t = 6 := by obtain ⟨k, n, f, s, a, c, kids⟩ := t; simp only [tagT]; split <;> simp
    rcases ht with e | e
    · rw [e]; exact (box_made hpp).2.1
    · rw [e]; exact (cons_made hpp).2.1
  have apart : ∀ (p q : Nat) (t s : Tr) (u v : Int) (b : Nat), kids[p]? = some t → kids[q]? = some s → us[p]? = some u → us[q]? = some v → b ∈ blks ws t u → b ∈ blks ws s v → p = q := by
    intro p q t s u v b hp hq hu hv hb hb'
    have e1 := (hS p t u hp hu).inn b hb
    have e2 := (hS q s v hq hv).inn b hb'
    have w1 := wAll_take hp
    have w2 := wAll_take hq
    rcases Nat.lt_trichotomy p q with h | h | h
    · have := wAll_take_mono kids (show p + 1 ≤ q by omega)
      omega
    · exact h
    · have := wAll_take_mono kids (show q + 1 ≤ p by omega)
      omega
  refine ⟨h1, fun j u t hu ht => ?_, fun i j u t s hui huj hti htj ha has => ?_, fun i j u v t s hui hvj hti htj ha has hne b hb hb' => ?_, fun j u t hu ht => ?_⟩
  · obtain ⟨p, _, q1, q2⟩ := h2 j u t hu ht
    exact (hS p t u q2 q1).good
  · obtain ⟨p, _, q1, q2⟩ := h2 i u t hui hti
    obtain ⟨q, _, r1, r2⟩ := h2 j u s huj htj
    obtain ⟨b, hb, e⟩ := head t u _ (hS p t u q2 q1) ha
    obtain ⟨b', hb', e'⟩ := head s u _ (hS q s u r2 r1) has
    obtain rfl : b = b' := by omega
    obtain rfl := apart p q t s u u b q2 r2 q1 r1 hb hb'
    exact Option.some.inj (q2.symm.trans r2)
  · obtain ⟨p, _, q1, q2⟩ := h2 i u t hui hti
    obtain ⟨q, _, r1, r2⟩ := h2 j v s hvj htj
    obtain rfl := apart p q t s u v b q2 r2 q1 r1 hb hb'
    exact hne (Option.some.inj (q1.symm.trans r1))
  · obtain ⟨p, _, q1, q2⟩ := h2 j u t hu ht
    exact (hS p t u q2 q1).nd

theorem alone_w {t : Tr} (ha : aloneT t = true) : wN t = 0 := by
  obtain ⟨k, n, f, s, a, c, kids⟩ := t
  simp only [aloneT] at ha
  by_cases c8 : k = 8
  · rw [if_pos c8] at ha
    have : kids = [] := by simpa using ha
    subst this c8
    simp [wN, wAll]
  · rw [if_neg c8] at ha
    have ha' : k = 1 ∨ k = 3 ∨ k = 6 := by simpa using ha
    rcases ha' with rfl | rfl | rfl <;> simp [wN]

/-- One root, named often. -/
theorem rT_often (u : Int) (t : Tr) (N : Nat) : ∀ m, 0 < m → m ≤ N → rT (List.replicate N u) (List.replicate N t) m = wN t
  | 0, h, _ => by omega
  | 1, _, h => by
    have e1 : (List.replicate N u)[0]? = some u := by rw [List.getElem?_replicate, if_pos (by omega)]
    have e2 : (List.replicate N t)[0]? = some t := by rw [List.getElem?_replicate, if_pos (by omega)]
    simp only [rT, e1, e2, List.take_zero, List.not_mem_nil, if_false]
    by_cases ha : aloneT t = true
    · rw [if_pos ha, alone_w ha]
    · rw [if_neg ha]; omega
  | m + 2, _, h => by
    have e1 : (List.replicate N u)[m + 1]? = some u := by rw [List.getElem?_replicate, if_pos (by omega)]
    have e2 : (List.replicate N t)[m + 1]? = some t := by rw [List.getElem?_replicate, if_pos (by omega)]
    have hm : u ∈ (List.replicate N u).take (m + 1) := by
      rw [List.take_replicate, List.mem_replicate]
      exact ⟨by omega, rfl⟩
    have := rT_often u t N (m + 1) (by omega) (by omega)
    rw [rT, this, e1, e2]
    simp only [hm, if_true, ite_self, Nat.add_zero]

/-- What a heap's words point to behind a collection: roots again. -/
theorem rts2_after {w w' : World} {hb ab most : Nat} {ws : List Int} {L : List ByteArray} {F : List Nat} {us : List Int} {ts : List Tr} {tb : Nat} {laid : List Int} {tl : Nat → Int} (hr : Rts2 ws L us ts) (hc : Coll w w' hb ab most ws L F us ts tb laid tl) : Rts2 laid L ((List.range us.length).map tl) ts := by
  obtain ⟨cells, now, hw, ox, hj, hR⟩ := hc.fo
  have back : ∀ (j : Nat) (v : Int) (t : Tr), ((List.range us.length).map tl)[j]? = some v → ts[j]? = some t → ∃ u, us[j]? = some u ∧ tl j = v := by
    intro j v t hv _
    have hjl : j < us.length := by have := get_lt hv; simpa using this
    rw [List.getElem?_map, List.getElem?_range hjl] at hv
    exact ⟨us[j], List.getElem?_eq_getElem hjl, by simpa using hv⟩
  have bl : ∀ (j : Nat) (u : Int) (t : Tr), us[j]? = some u → ts[j]? = some t → blks laid t (tl j) = (blks ws t u).map (pN now) ∧ ∀ b, b ∈ blks ws t u → now b ≠ 0 := fun j u t hu ht => by
    rw [← hw]
    exact px_blks hj t (hr.good j u t hu ht).2.1.1 (tl j) u (hR _ _ _ ⟨j, hu, ht, rfl⟩)
  refine ⟨by simpa using hr.len, fun j v t hv ht => ?_, fun i j v t s hvi hvj hti htj ha has => ?_, fun i j v v' t s hvi hvj hti htj ha has hne b hb hb' => ?_, fun j v t hv ht => ?_⟩
  · obtain ⟨u, hu, rfl⟩ := back j v t hv ht
    obtain ⟨g1, g2, g3, _⟩ := hr.good j u t hu ht
    exact ⟨g1, g2, g3, hc.rep j u t hu ht⟩
  · obtain ⟨u, hu, e1⟩ := back i v t hvi hti
    obtain ⟨u', hu', e2⟩ := back j v s hvj htj
    rcases hR _ _ _ ⟨i, hu, hti, rfl⟩ with ⟨h, _⟩ | ⟨_, b, p, q1, q2, q3, q4, q5, q6, _⟩
    · rw [ha] at h; cases h
    rcases hR _ _ _ ⟨j, hu', htj, rfl⟩ with ⟨h, _⟩ | ⟨_, b', p', r1, r2, r3, r4, r5, r6, _⟩
    · rw [has] at h; cases h
    have hbb : b = b' := pN_inj hj (by rw [q5]; exact q6) (by rw [r5]; exact r6) (by unfold pN; rw [q5, r5, e1, e2])
    have ht : tagT t = tagT s := by
      have h1 : tagI v = tagT t := by
        rw [← e1, q4]
        rcases tag56 t with e | e
        · rw [e]; exact (box_made q2).1
        · rw [e]; exact (cons_made q2).1
      have h2 : tagI v = tagT s := by
        rw [← e2, r4]
        rcases tag56 s with e | e
        · rw [e]; exact (box_made r2).1
        · rw [e]; exact (cons_made r2).1
      rw [← h1, h2]
    have huu : u = u' := by rw [q3, r3, hbb, ht]
    subst huu
    exact hr.same i j u t s hu hu' hti htj ha has
  · obtain ⟨u, hu, e1⟩ := back i v t hvi hti
    obtain ⟨u', hu', e2⟩ := back j v' s hvj htj
    obtain ⟨m1, n1⟩ := bl i u t hu hti
    obtain ⟨m2, n2⟩ := bl j u' s hu' htj
    rw [← e1, m1] at hb
    rw [← e2, m2] at hb'
    obtain ⟨b0, k1, k2⟩ := List.mem_map.1 hb
    obtain ⟨b1, l1, l2⟩ := List.mem_map.1 hb'
    obtain rfl := pN_inj hj (n1 b0 k1) (n2 b1 l1) (by rw [k2, l2])
    by_cases hu2 : u = u'
    · subst hu2
      exact hne (by rw [← e1, ← e2]; exact hc.sm i j u t s hu hu' hti htj (by rw [ha, has]))
    · exact hr.off i j u u' t s hu hu' hti htj ha has hu2 b0 k1 l1
  · obtain ⟨u, hu, rfl⟩ := back j v t hv ht
    obtain ⟨m1, n1⟩ := bl j u t hu ht
    rw [m1]
    exact nodup_map (hr.nd j u t hu ht) fun a b ha hb e => pN_inj hj (n1 a ha) (n1 b hb) e
end Go.Proofs.YtmijabhnbmmmfaaGreat


