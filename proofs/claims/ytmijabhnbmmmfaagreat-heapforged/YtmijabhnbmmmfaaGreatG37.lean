import Derived.Test.YtmijabhnbmmmfaaGreatG36
import Derived.Test.YtmijabhnbmmmfaaGreatG35
import Derived.Test.YtmijabhnbmmmfaaGreatG34
/- stored. -/
namespace Go.Proofs.YtmijabhnbmmmfaaGreat
open Go.RowKit Go.Deep
attribute [local go_sem] store_float f64bits f64frombits
attribute [local go_sem ↓] Go.wp_at_zero Go.wp_at_succ

/-- A word is appended to the row. -/
theorem StI.app {w wr X w' : World} {kids : List Tr} {m hb ab : Nat} {ws : List Int} {L : List ByteArray} {F : List Nat} {a2 : Option Addr} {c2 : Nat} {us : List Int} {vo v' : Value} {uo : List Int} {u : Int} (h : StI w wr kids m hb ab ws L F a2 c2 us) (hr : UsR w wr hb F a2 vo uo) (hX : Below wr.heap.size wr X) (hg : X.grownBy w' vo.ownBlock)
    (hv : v'.ownBlock = vo.ownBlock ∨ v'.ownBlock = some X.heap.size) (ho : w'.ownsRow w.heap.size 51 1 v' (uo.length + 1) ((uo.map fun u => Value.int .u64 u) ++ [.int .u64 u])) : StI w w' kids m hb ab ws L F a2 c2 us ∧ UsR w w' hb F a2 v' (uo ++ [u]) := by
  have hB := grown_but hg
  have hlo := row_lt1 hr.own
  have hXs := hX.size
  have hpX := h.hp.keep hX
  have hlt := hpX.tri.lt
  have hFl := hpX.tab.lt
  have hgl : ∀ g, a2 = some ⟨g, 0, none⟩ → g < X.heap.size := by
    intro g ha
    rcases hpX.row with ⟨e, _⟩ | ⟨g', cs, e, _, _, _, h4⟩
    · rw [ha] at e; cases e
    · rw [ha] at e
      obtain rfl : g = g' := by simpa using e
      exact h4
  refine ⟨⟨hpX.but hB (fun e => (hr.off _ e).1 rfl) (fun x hx e => (hr.off _ e).2.1 hx) (fun g e e2 => (hr.off _ e2).2.2 g e rfl), h.wl, h.ll, h.w64, h.tx, h.hbB, h.fB, h.gB, ?_, h.ul, h.rep⟩, ⟨?_, fun q hq => ?_⟩⟩
  · exact (h.be.trans (hX.mono h.be.size)).trans (hB.below (Nat.le_trans h.be.size hXs) (fun k e => (hlo k e).1))
  · rw [List.length_append, List.map_append]
    exact ho
  · rcases hv with e | e
    · rw [e] at hq; exact hr.off q hq
    · rw [e] at hq
      have hq' := Option.some.inj hq
      exact ⟨by omega, fun hm => by have := hFl q hm; omega, fun g e2 => by have := hgl g e2; omega⟩

set_option maxHeartbeats 2000000 in
set_option maxRecDepth 100000 in
theorem stored_any {w w1 : World} {a : Option Addr} {c : Nat} {kids : List Tr} (cx : FullCx w a c kids) (hb1 : Below w.heap.size w w1) :
    Calls Tryz.prog 17 #[.slice a kids.length c] w1 fun e w2 => ∃ hb ab ws L F a2 c2 us vo, e = .returned (.tuple #[.pointer (some ⟨hb, 0, none⟩), vo]) ∧ StI w w2 kids kids.length hb ab ws L F a2 c2 us ∧ UsR w w2 hb F a2 vo us := by
  have CX := hidb cx
  have HB1 := hidb hb1
  have HW := hidb cx.words
  have NA := hidb (new_any w1)
  obtain ⟨i0, hi, hz0, hz1, hz2⟩ := info_parts infoW
  have h40 := cx.few
  clear cx hb1
  go_enter Tryz.func17, Tryz.ntmps17
  go_wp2_with (first
    | (go_at_call 11; refine NA.out.mono ?_; rintro e w4 ⟨rfl, hb4, hs4, ht4⟩; have HB4 := hidb (HB1.out.trans (hb4.mono HB1.out.size)); have HT4 := hidb ht4; clear hb4 hs4 ht4)
    | (go_at_call 10; refine (new_heap 16777216 w1.heap.size [w1.heap.size] w4 HT4.out (by omega) (by omega)).mono ?_; rintro e w5 ⟨hb, rfl, hge, hp, hb5⟩; have HP5 := hidb hp; have HB5 := hidb (HB4.out.trans (hb5.mono HB4.out.size)); have HGE := hidb (Nat.le_trans HB4.out.size hge); clear hb5 hp hge)
    | (go_at_call 20; refine (fine_any 0 _).mono ?_; rintro e w' ⟨rfl, hw'⟩; obtain rfl := hw'.symm))
  have hzs : w.heap.size ≤ w1.heap.size := HB1.out.size
  generalize w1.heap.size = ab at *
  clear NA HB4 HT4
  go_loopw [6, 7] (fun ov iv wr => ∃ (m : Nat) (ws : List Int) (L : List ByteArray) (F : List Nat) (a2 : Option Addr) (c2 : Nat) (us : List Int), m ≤ kids.length ∧ iv = .int .i64 m ∧ StI w wr kids m hb ab ws L F a2 c2 us ∧ UsR w wr hb F a2 ov us) (fun _ iv _ => kids.length - (intOf iv).toNat)
  case atStart => exact ⟨0, [], [], [ab], none, 0, [], by omega, rfl, ⟨HP5.out, by simp [wAll], by simp, fun x h => by simp at h, fun x h => by simp at h, HGE.out, fun k hk => (by have := List.mem_singleton.1 hk; omega), fun g h => (by cases h), HB5.out, rfl, fun j t u hj hu => by simp at hu⟩, ⟨⟨rfl, Or.inl ⟨rfl, rfl⟩⟩, fun q hq => by simp [Value.ownBlock] at hq⟩⟩
  case round =>
  obtain ⟨m, ws, L, F, a2, c2, us, hm, rfl, hst, hus⟩ := hrel
  have HST := hidb hst
  have HUS := hidb hus
  clear hst hus HP5 HB5
  by_cases hml : m < kids.length
  · have hmb : (m : Int) < (kids.length : Int) := by omega
    have hmz : (0 : Int) ≤ (m : Int) := by omega
    obtain ⟨b2, o2, k2, n2, f2, s2, a3, c3, ks2, rfl, hu2, hin2, hsk2, he2, hcell2⟩ := CX.out.kid (m := m) hml
    obtain ⟨v0, v1, v2, v3, v4⟩ := hcell2 wr HST.out.be
    have hw2 := wAll_take hu2
    have hc2 := cntAll_take hu2
    have hct := cntAll_take_le kids (m + 1)
    have hwt := wAll_take_le kids (m + 1)
    have hfit : ws.length + wN (.mk k2 n2 f2 s2 a3 c3 ks2) ≤ 16777216 := by have := HST.out.wl; have := HW.out; omega
    have ST := hidb (store_good (fun k => k < w.heap.size) (.mk k2 n2 f2 s2 a3 c3 ks2) wr hb ab 16777216 ws L F a2 c2 HST.out.hp (in_below HST.out.be hin2) (on_all _ hin2) hsk2 he2 hfit
      (fun k hk => Nat.lt_of_lt_of_le hk HST.out.be.size) (by have := HGE.out; omega) (fun g e h => by have := HST.out.gB g e; omega) (fun k hk h => by have := HST.out.fB k hk; omega) (by have := HST.out.ll; have := CX.out.cnt; omega))
    have PUT := hidb (fun w' F' a4 c4 => HST.out.put (w' := w') (F' := F') (a3 := a4) (c3 := c4) HUS.out hu2 he2 hin2 hfit)
    have hul : us.length ≤ 40 := by have := HST.out.ul; omega
    clear hu2 hin2 hsk2 he2 hcell2 hw2 hc2 hct hwt hfit
    generalize layT (.mk k2 n2 f2 s2 a3 c3 ks2) ws.length L = Y at *
    obtain ⟨y1, y2, y3⟩ := Y
    go_wp2_with (first
      | (go_at_call 26; refine ST.out.mono ?_; rintro e wz ⟨rfl, a4, c4, F4, hp4, hF4, hg4, hk4⟩; have HPT := hidb (PUT.out wz F4 a4 c4 hp4 hF4 hg4 hk4); clear hp4 hF4 hg4 hk4 ST PUT)
      | (go_at_call 20; refine (fine_any 0 _).mono ?_; rintro e w' ⟨rfl, hw'⟩; obtain rfl := hw'.symm)
      | (at_builtin; refine wpList_append_own_at _ rfl _ _ 59 rfl w.heap.size 51 i0 (.int .u64 0) 1 8 Tryz.underlying59 hi hz0 hz1 hz2 rfl (by decide) _ _ _ rfl (HPT.out.2.own.alloc _) ⟨wz.heap.size, 0, none⟩ 1 1 [.int .u64 y1] rfl rfl (cell_one_new _ _ _) (by simp [Value.oneCell']) (by unfold maxLen; omega) (by omega) (by have := HPT.out.1.be.size; simp; omega) ?_; intro v' w3 row3 hgrow3 hnil3 hloc3; have HAP := hidb (HPT.out.1.app HPT.out.2 (below_new wz _) hgrow3 hloc3 row3); clear row3 hgrow3 hnil3 hloc3))
    go_roundw
    case rel => exact ⟨m + 1, _, _, _, _, _, _, by omega, by go_num, HAP.out.1, HAP.out.2⟩
    case measure => simp [intOf]; omega
  · have hmn : ¬ (m : Int) < (kids.length : Int) := by omega
    obtain rfl : m = kids.length := by omega
    go_wp2_with fail
    exact bodyPost_ret (v := .tuple #[.pointer (some ⟨hb, 0, none⟩), u6]) (by simp [results, Tryz.results17, go_sem]) rfl ⟨hb, ab, ws, L, F, a2, c2, us, u6, rfl, HST.out, HUS.out⟩
end Go.Proofs.YtmijabhnbmmmfaaGreat


/- Right terms: told by words and depth; the same elsewhere. -/
namespace Go.Proofs.YtmijabhnbmmmfaaGreat
open Go.RowKit Go.Deep

/-- The words of a good node itself, and its elements'. -/
theorem good_own {k n : Int} {f : Nat} {s : ByteArray} {a : Option Addr} {c : Nat} {kids : List Tr} (hg1 : goodT (.mk k n f s a c kids) = true) : (wN (.mk k n f s a c kids) : Int) = own k kids.length + wAll kids ∧ kids.length ≤ wN (.mk k n f s a c kids) := by
  simp only [wN]
  by_cases h1 : k = 1
  · have e0 : kids = [] := by
      subst h1; simp [goodT] at hg1; exact List.length_eq_zero_iff.1 (rightB_cases0 hg1).2.1
    simp [h1, e0, own, wAll]
  by_cases h6 : k = 6
  · have e0 : kids = [] := by subst h6; simp [goodT] at hg1; exact hg1.2.2
    simp [h6, e0, own, wAll]
  by_cases h3 : k = 3
  · have e0 : kids = [] := by subst h3; simp [goodT] at hg1; exact hg1.2.2
    simp [h3, e0, own, wAll]
  by_cases h8 : k = 8
  · subst h8; simp [own]; omega
  by_cases h2 : k = 2
  · have e0 : kids = [] := by
      subst h2; simp [goodT] at hg1; exact List.length_eq_zero_iff.1 (rightB_cases0 hg1).2.1
    subst h2; subst e0; simp [own, wAll, front]
  by_cases h4 : k = 4
  · have e0 : kids = [] := by subst h4; simp [goodT] at hg1; exact hg1.2.2
    subst h4; subst e0; simp [own, wAll, front]
  by_cases h5 : k = 5
  · subst h5; simp [own, front]; omega
  simp only [own, front, h1, h2, h3, h4, h5, h6, h8, if_false, or_self, List.length_cons, List.length_nil]
  omega

theorem meas_ok : ∀ t : Tr, allT goodT t = true → ∀ d most : Int, (deepN t : Int) ≤ d → (wN t : Int) ≤ most → meas t d most = wN t := by
  refine Tr.ind fun k n f s a c kids hk hg d most hd hm => ?_
  simp only [allT, Bool.and_eq_true] at hg
  obtain ⟨hg1, hg2⟩ := hg
  obtain ⟨ho, _⟩ := good_own hg1
  have hn := own_nonneg k kids.length
  simp only [deepN] at hd
  have hle := deepNs_le kids 1
  have hall : ∀ (l : List Tr), (∀ t, t ∈ l → t ∈ kids) → ∀ x : Int, 0 ≤ x → x + wAll l ≤ most → measAll l (d - 1) most x = x + wAll l := by
    intro l
    induction l with
    | nil => intro _ x _ _; simp [measAll, wAll]
    | cons t r ih =>
      intro hl x h0 hx
      simp only [wAll] at hx
      have ht := hl t (List.mem_cons_self ..)
      have e := hk t ht (good_kids hg2 ht) (d - 1) (most - x) (by have := hle.2 t ht; omega) (by omega)
      simp only [measAll, wAll]
      rw [e, if_neg (by omega), ih (fun u hu => hl u (List.mem_cons_of_mem _ hu)) _ (by omega) (by omega)]
      omega
  simp only [meas]
  rw [if_neg (by omega), hall kids (fun t h => h) _ hn (by omega)]
  omega

theorem err_of {t : Tr} (hg : allT goodT t = true) (hd : deepN t ≤ 200) (hw : wN t ≤ 65536) : errT t = 0 := by
  unfold errT
  rw [meas_ok t hg 200 65536 (by omega) (by omega), if_neg (by omega), if_pos hg]

theorem small_of : ∀ t : Tr, allT goodT t = true → wN t ≤ 65536 → Small t := by
  refine Tr.ind fun k n f s a c kids hk hg hw => ?_
  simp only [allT, Bool.and_eq_true] at hg
  obtain ⟨hg1, hg2⟩ := hg
  obtain ⟨ho, hl⟩ := good_own hg1
  have hn := own_nonneg k kids.length
  unfold Small
  refine ⟨by omega, ?_⟩
  have hall : ∀ (l : List Tr), (∀ t, t ∈ l → t ∈ kids) → wAll l ≤ 65536 → SmallAll l := by
    intro l
    induction l with
    | nil => intro _ _; unfold SmallAll; trivial
    | cons t r ih =>
      intro hl' hx
      simp only [wAll] at hx
      have ht := hl' t (List.mem_cons_self ..)
      unfold SmallAll
      exact ⟨hk t ht (good_kids hg2 ht) (by omega), ih (fun u hu => hl' u (List.mem_cons_of_mem _ hu)) (by omega)⟩
  exact hall kids (fun t h => h) (by omega)

/-- The same elsewhere: as right, as many words, as deep. -/
theorem same_like : ∀ t t' : Tr, Same t t' → allT goodT t' = allT goodT t ∧ wN t' = wN t ∧ deepN t' = deepN t := by
  refine Tr.ind fun k n f s a c kids hk t' h => ?_
  obtain ⟨k', n', f', s', a', c', kids'⟩ := t'
  unfold Same at h
  obtain ⟨rfl, rfl, rfl, rfl, hs⟩ := h
  have hall : ∀ (l l' : List Tr), (∀ t, t ∈ l → t ∈ kids) → SameAll l l' → allAll goodT l' = allAll goodT l ∧ wAll l' = wAll l ∧ ∀ m, deepNs l' m = deepNs l m := by
    intro l
    induction l with
    | nil =>
      intro l' _ h
      cases l' with
      | nil => exact ⟨rfl, rfl, fun _ => rfl⟩
      | cons x y => unfold SameAll at h; exact h.elim
    | cons t r ih =>
      intro l' hl h
      cases l' with
      | nil => unfold SameAll at h; exact h.elim
      | cons x y =>
        unfold SameAll at h
        obtain ⟨e1, e2, e3⟩ := hk t (hl t (List.mem_cons_self ..)) x h.1
        obtain ⟨i1, i2, i3⟩ := ih y (fun u hu => hl u (List.mem_cons_of_mem _ hu)) h.2
        simp only [allAll, wAll, deepNs, e1, e2, e3, i1, i2, i3]
        exact ⟨trivial, trivial, fun _ => trivial⟩
  obtain ⟨e1, e2, e3⟩ := hall kids kids' (fun t h => h) hs
  have hl := sameAll_len _ _ hs
  refine ⟨?_, ?_, ?_⟩
  · simp only [allT, e1]
    congr 1
    simp only [goodT, hl]
  · simp only [wN, e2, hl]
  · simp only [deepN, e3]
end Go.Proofs.YtmijabhnbmmmfaaGreat


