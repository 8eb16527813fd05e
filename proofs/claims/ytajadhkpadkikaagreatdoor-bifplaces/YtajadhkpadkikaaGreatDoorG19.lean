import Derived.Test.YtajadhkpadkikaaGreatDoorG18
import Derived.Test.YtajadhkpadkikaaGreatDoorG17
/- The measure of a term whose rows are only as long as rows can be. -/
namespace Go.Proofs.YtajadhkpadkikaaGreatDoor
open Go.RowKit Go.Deep
attribute [local go_sem ↓] Go.wp_at_zero Go.wp_at_succ

mutual
/-- No term in it has very many elements. -/
def SmallW : Tr → Prop
  | .mk _ _ _ _ _ _ kids => kids.length ≤ 140737488355328 ∧ SmallWAll kids
def SmallWAll : List Tr → Prop
  | [] => True
  | t :: r => SmallW t ∧ SmallWAll r
end

theorem smallWAll_get {kids : List Tr} (h : SmallWAll kids) {t : Tr} (ht : t ∈ kids) : SmallW t := by
  induction kids with
  | nil => simp at ht
  | cons u r ih =>
    unfold SmallWAll at h
    rcases List.mem_cons.1 ht with rfl | ht
    · exact h.1
    · exact ih h.2 ht

set_option maxHeartbeats 800000 in
set_option maxRecDepth 100000 in
theorem ownW_any (k n : Int) (f : Nat) (s : ByteArray) (a : Option Addr) (l c : Nat) (hl : l ≤ 140737488355328) (w : World) :
    Calls Tryz.prog 123 #[.agg #[.int .i64 k, .int .i64 n, .float .f64 f, .string s, .slice a l c]] w fun e w' => e = .returned (.int .i64 (own k l)) ∧ Below w.heap.size w w' := by
  by_cases h1 : k = 1
  · subst h1; go_enter Tryz.func123, Tryz.ntmps123; go_wp2; go_ret; exact ⟨rfl, (Below.refl _ _).alloc (Nat.le_refl _) _⟩
  by_cases h3 : k = 3
  · subst h3; go_enter Tryz.func123, Tryz.ntmps123; go_wp2; go_ret; exact ⟨rfl, (Below.refl _ _).alloc (Nat.le_refl _) _⟩
  by_cases h6 : k = 6
  · subst h6; go_enter Tryz.func123, Tryz.ntmps123; go_wp2; go_ret; exact ⟨rfl, (Below.refl _ _).alloc (Nat.le_refl _) _⟩
  by_cases h2 : k = 2
  · subst h2; go_enter Tryz.func123, Tryz.ntmps123; go_wp2; go_ret; exact ⟨rfl, (Below.refl _ _).alloc (Nat.le_refl _) _⟩
  by_cases h4 : k = 4
  · subst h4; go_enter Tryz.func123, Tryz.ntmps123; go_wp2; go_ret; exact ⟨rfl, (Below.refl _ _).alloc (Nat.le_refl _) _⟩
  have w2 : wrap64 (2 * (l : Int)) = 2 * l := by unfold wrap64; omega
  have w3 : wrap64 (2 + (l : Int)) = 2 + l := by unfold wrap64; omega
  have w4 : wrap64 (1 + (l : Int)) = 1 + l := by unfold wrap64; omega
  by_cases h8 : k = 8
  · subst h8
    go_enter Tryz.func123, Tryz.ntmps123; go_wp2; go_ret
    refine ⟨?_, (Below.refl _ _).alloc (Nat.le_refl _) _⟩
    simp [own]
  by_cases h5 : k = 5
  · subst h5
    go_enter Tryz.func123, Tryz.ntmps123; go_wp2; go_ret
    refine ⟨?_, (Below.refl _ _).alloc (Nat.le_refl _) _⟩
    simp [own]
  go_enter Tryz.func123, Tryz.ntmps123; go_wp2; go_ret
  refine ⟨?_, (Below.refl _ _).alloc (Nat.le_refl _) _⟩
  simp [own, h1, h2, h3, h4, h5, h6, h8]
set_option maxHeartbeats 1600000 in
set_option maxRecDepth 100000 in
theorem rmeasureW_any : ∀ (t : Tr) (depth most : Int) (w : World), t.In w 0 → SmallW t → 0 ≤ depth → depth ≤ 200 → 0 ≤ most → most ≤ 65536 →
    Calls Tryz.prog 83 #[t.val, .int .i64 depth, .int .i64 most] w fun e w' => e = .returned (.int .i64 (meas t depth most)) ∧ Below w.heap.size w w' := by
  refine Tr.ind fun k n f s a c kids hk => ?_
  intro depth most w hin hsm h1 h2 h3 h4
  show Calls Tryz.prog 83 #[.agg #[.int .i64 k, .int .i64 n, .float .f64 f, .string s, .slice a kids.length c], .int .i64 depth, .int .i64 most] w _
  simp only [meas]
  have HK : Hid (∀ t, t ∈ kids → ∀ (depth most : Int) (w : World), t.In w 0 → SmallW t → 0 ≤ depth → depth ≤ 200 → 0 ≤ most → most ≤ 65536 →
    Calls Tryz.prog 83 #[t.val, .int .i64 depth, .int .i64 most] w fun e w' => e = .returned (.int .i64 (meas t depth most)) ∧ Below w.heap.size w w') := hk
  have HIN : Hid ((Tr.mk k n f s a c kids).In w 0) := hin
  unfold SmallW at hsm
  have hlen := hsm.1
  have HSM : Hid (SmallWAll kids) := hsm.2
  clear hk hin hsm
  have hown := own_nonneg k kids.length
  obtain ⟨O, hO⟩ : ∃ O, own k kids.length = O := ⟨_, rfl⟩
  have OW := ownW_any k n f s a kids.length c hlen
  rw [hO] at OW hown ⊢
  have HOW : Hid _ := OW
  clear OW hO
  by_cases hd : depth < 1
  · rw [if_pos (Or.inl hd)]
    go_enter Tryz.func83, Tryz.ntmps83
    go_wp2
    go_ret
    exact ⟨rfl, (Below.refl _ _).alloc (Nat.le_refl _) _⟩
  have hdw : wrap64 (depth - 1) = depth - 1 := by unfold wrap64; omega
  by_cases ho : O > most
  · rw [if_pos (Or.inr ho)]
    go_enter Tryz.func83, Tryz.ntmps83
    go_wp2_with fail
    refine (HOW.out _).mono ?_
    rintro e w2 ⟨rfl, hb2⟩
    have B2 := box_then (Below.refl _ _) hb2
    have HB2 : Hid _ := B2
    obtain ⟨d0, d1, d2, d3, d4⟩ := box_at B2
    clear B2 hb2
    go_wp2
    go_ret
    exact ⟨rfl, box_below HB2.out⟩
  rw [if_neg (by omega)]
  go_enter Tryz.func83, Tryz.ntmps83
  go_wp2_with fail
  refine (HOW.out _).mono ?_
  rintro e w2 ⟨rfl, hb2⟩
  have B2 := box_then (Below.refl _ _) hb2
  have HB2 : Hid _ := B2
  obtain ⟨d0, d1, d2, d3, d4⟩ := box_at B2
  clear B2 hb2
  go_wp2_with fail
  refine (HOW.out _).mono ?_
  rintro e w3 ⟨rfl, hb3⟩
  have B3 := box_then HB2.out hb3
  have HB3 : Hid _ := B3
  clear d0 d1 d2 d3 d4
  obtain ⟨d0, d1, d2, d3, d4⟩ := box_at B3
  clear B3 hb3
  go_wp2_with fail
  go_loopw [7, 8] (fun nv iv wr => ∃ (m : Nat) (x : Int), m ≤ kids.length ∧ iv = .int .i64 m ∧ nv = .int .i64 x ∧ 0 ≤ x ∧ x ≤ most ∧ measAll (kids.drop m) (depth - 1) most x = measAll kids (depth - 1) most O ∧ Below (w.heap.size + 1) (w.alloc (.cells #[.int .i64 k, .int .i64 n, .float .f64 f, .string s, .slice a kids.length c] 25)) wr) (fun _ iv _ => kids.length - (intOf iv).toNat)
  case atStart => exact ⟨0, O, by omega, rfl, rfl, hown, by omega, by simp, HB3.out⟩
  case round =>
    clear d0 d1 d2 d3 d4
    obtain ⟨m, x, hm, rfl, rfl, hx1, hx2, hrest, hbel⟩ := hrel
    have HR : Hid (measAll (kids.drop m) (depth - 1) most x = measAll kids (depth - 1) most O) := hrest
    have HB1 : Hid _ := hbel
    have d4 := (box_at hbel).2.2.2.2
    have HB : Hid (Below w.heap.size w wr) := box_below hbel
    clear hrest hbel
    by_cases hml : m < kids.length
    · have hmb : (m : Int) < (kids.length : Int) := by omega
      obtain ⟨b, o, rfl, hat⟩ := kid_at (in_below HB.out HIN.out) (by omega)
      obtain ⟨k', n', f', s', a', c', kids', hu, hin', c0, c1, c2, c3, c4⟩ := hat m hml
      have IH := HK.out _ (List.mem_of_getElem? hu) (depth - 1) (most - x) wr hin' (smallWAll_get HSM.out (List.mem_of_getElem? hu)) (by omega) (by omega) (by omega) (by omega)
      have hmz : (0 : Int) ≤ (m : Int) := by omega
      have hxw : wrap64 (most - x) = most - x := by unfold wrap64; omega
      have hstep := HR.out
      rw [drop_one hu] at hstep
      simp only [measAll] at hstep
      have hbd := meas_bounds (.mk k' n' f' s' a' c' kids') (depth - 1) (most - x)
      generalize meas (.mk k' n' f' s' a' c' kids') (depth - 1) (most - x) = q at IH hstep hbd
      have HS : Hid _ := hstep
      clear hstep hu hin' hat
      go_wp2_with fail
      refine IH.mono ?_
      rintro e wz ⟨rfl, hbz⟩
      have HZ := box_then HB1.out hbz
      have HZH : Hid _ := HZ
      clear hbz IH HZ
      by_cases hq : q < 0
      · go_wp2
        go_ret
        refine ⟨?_, box_below HZH.out⟩
        have e := HS.out
        rw [if_pos hq] at e
        rw [← e]
        rfl
      · have hqw : wrap64 (x + q) = x + q := by unfold wrap64; omega
        go_wp2
        go_roundw
        case rel =>
          have e := HS.out
          rw [if_neg (by omega)] at e
          exact ⟨m + 1, x + q, by omega, by go_num, by go_num, by omega, by omega, e, HZH.out⟩
        case measure => simp [intOf]; omega
    · have hmn : ¬ (m : Int) < (kids.length : Int) := by omega
      go_wp2
      go_ret
      refine ⟨?_, HB.out⟩
      have e := HR.out
      rw [List.drop_of_length_le (by omega)] at e
      simp only [measAll] at e
      rw [← e]
      rfl
theorem small_W : ∀ t : Tr, Small t → SmallW t := by
  refine Tr.ind fun k n f s a c kids hk => ?_
  intro h
  simp only [Small, SmallW] at h ⊢
  refine ⟨by omega, ?_⟩
  have h2 := h.2
  clear h
  induction kids with
  | nil => simp only [SmallWAll]
  | cons t r ih =>
    simp only [SmallAll, SmallWAll] at h2 ⊢
    exact ⟨hk t (by simp) h2.1, ih (fun u hu => hk u (by simp [hu])) h2.2⟩
end Go.Proofs.YtajadhkpadkikaaGreatDoor


/- The program's measure of a term, its Check and Words: by the tree. -/
namespace Go.Proofs.YtajadhkpadkikaaGreatDoor
open Go.RowKit Go.Deep
attribute [local go_sem ↓] Go.wp_at_zero Go.wp_at_succ

/-- The error of a term: a limit is told ahead of a wrong field. -/
def errT (t : Tr) : Int := if meas t 200 65536 < 0 then 12 else if allT goodT t then 0 else 4
def wordsT (t : Tr) : Int := if errT t = 0 then meas t 200 65536 else 0
def depthT (t : Tr) : Int := if errT t = 0 then deep t else 0

theorem In.start {w : World} {t : Tr} (h : t.In w 0) (o1 o2 : Obj) : t.In ((w.alloc o1).alloc o2) 0 := in_below (((Below.refl _ _).alloc (Nat.le_refl _) _).alloc (by simp) _) h

set_option maxHeartbeats 1000000 in
set_option maxRecDepth 100000 in
theorem measure_t (t : Tr) (w : World) (hin : t.In w 0) (hs : Small t) : Calls Tryz.prog 29 #[t.val] w fun e w' => e = .returned (.tuple #[.agg #[.int .i64 (wordsT t), .int .i64 (depthT t)], .int .i64 (errT t)]) ∧ Below w.heap.size w w' := by
  have key := agree_start goodT t
  have OV := hidb (over_any goodT looks_good w t hin hs 1 (0, 0, false))
  obtain ⟨k, n, f, s, a, c, kids⟩ := t
  show Calls Tryz.prog 29 #[.agg #[.int .i64 k, .int .i64 n, .float .f64 f, .string s, .slice a kids.length c]] w _
  generalize hW : wordsT (.mk k n f s a c kids) = W
  generalize hD : depthT (.mk k n f s a c kids) = D
  generalize hE : errT (.mk k n f s a c kids) = E
  unfold wordsT at hW
  unfold depthT at hD
  rw [hE] at hW hD
  unfold errT at hE
  have HW := hidb hW
  have HD := hidb hD
  have HE := hidb hE
  have KEY := hidb key
  clear hW hD hE key hin hs
  go_enter Tryz.func29, Tryz.ntmps29
  go_wp2_with fail
  have hB3 : Below w.heap.size w (((w.alloc (.cells #[.int .i64 k, .int .i64 n, .float .f64 f, .string s, .slice a kids.length c] 25)).alloc (.cells #[.int .i64 0, .int .i64 0] 58)).alloc (.cells #[.int .i64 0, .int .i64 0, .bool false] 75)) := (((Below.refl _ _).alloc (Nat.le_refl _) _).alloc (by simp) _).alloc (by simp; omega) _
  have hT3 := Tri.new ((w.alloc (.cells #[.int .i64 k, .int .i64 n, .float .f64 f, .string s, .slice a kids.length c] 25)).alloc (.cells #[.int .i64 0, .int .i64 0] 58)) 75 (.int .i64 0) (.int .i64 0) (.bool false)
  have hsz : ((w.alloc (.cells #[.int .i64 k, .int .i64 n, .float .f64 f, .string s, .slice a kids.length c] 25)).alloc (.cells #[.int .i64 0, .int .i64 0] 58)).heap.size = w.heap.size + 1 + 1 := by simp
  rw [hsz] at hT3
  refine (OV.out _ (w.heap.size + 1 + 1) (by omega) hB3 hT3 (by omega) (by omega) (by simp) (by simp) (by simp) (by simp)).mono ?_
  rintro e w1 ⟨rfl, hc, hb⟩
  have hD2 := ((Duo.new (w.alloc (.cells #[.int .i64 k, .int .i64 n, .float .f64 f, .string s, .slice a kids.length c] 25)) 58 (.int .i64 0) (.int .i64 0)).keep (below_new _ (.cells #[.int .i64 0, .int .i64 0, .bool false] 75))).but hb (by simp)
  have hsz1 : (w.alloc (.cells #[.int .i64 k, .int .i64 n, .float .f64 f, .string s, .slice a kids.length c] 25)).heap.size = w.heap.size + 1 := by simp
  rw [hsz1] at hD2
  have HB := hidb (hB3.trans (hb.below (B := w.heap.size) (by simp; omega) (by rintro x rfl; omega)))
  clear hb hB3 hT3 hsz hsz1 OV
  obtain ⟨d0, d1, g0, g1, hlt⟩ := hD2
  rcases KEY.out with ⟨hm, ho⟩ | ⟨hm, _, _, ho⟩
  · obtain rfl : (12 : Int) = E := by have := HE.out; rwa [if_pos hm] at this
    obtain rfl : (0 : Int) = W := by have := HW.out; rwa [if_neg (by decide)] at this
    obtain rfl : (0 : Int) = D := by have := HD.out; rwa [if_neg (by decide)] at this
    rw [ho]
    clear KEY HE HW HD hm ho hc
    go_wp2
    exact bodyPost_ret (v := .tuple #[.agg #[.int .i64 0, .int .i64 0], .int .i64 12]) (by simp [results, Tryz.results29, go_sem, d0, d1]) rfl ⟨rfl, (HB.out.setCell (by simp) _).setCell (by simp) _⟩
  · rw [ho] at hc
    rw [ho]
    obtain ⟨c0, c1, c2, f0, f1, f2, hlt1⟩ := hc
    cases hal : allT goodT (.mk k n f s a c kids) with
    | false =>
      obtain rfl : (4 : Int) = E := by have := HE.out; rw [if_neg (by omega), hal] at this; simpa using this
      obtain rfl : (0 : Int) = W := by have := HW.out; rwa [if_neg (by decide)] at this
      obtain rfl : (0 : Int) = D := by have := HD.out; rwa [if_neg (by decide)] at this
      rw [hal] at c2
      simp only [Bool.not_false] at c2
      clear KEY HE HW HD hm ho hal
      go_wp2
      exact bodyPost_ret (v := .tuple #[.agg #[.int .i64 0, .int .i64 0], .int .i64 4]) (by simp [results, Tryz.results29, go_sem, d0, d1]) rfl ⟨rfl, (HB.out.setCell (by simp) _).setCell (by simp) _⟩
    | true =>
      obtain rfl : (0 : Int) = E := by have := HE.out; rw [if_neg (by omega), hal] at this; simpa using this
      have ew : meas (.mk k n f s a c kids) 200 65536 = W := by have := HW.out; rwa [if_pos rfl] at this
      have ed : deep (.mk k n f s a c kids) = D := by have := HD.out; rwa [if_pos rfl] at this
      rw [ew] at c0
      rw [ed] at c1
      rw [hal] at c2
      simp only [Bool.not_true] at c2
      clear KEY HE HW HD hm ho hal ew ed
      go_wp2
      exact bodyPost_ret (v := .tuple #[.agg #[.int .i64 W, .int .i64 D], .int .i64 0]) (by simp [results, Tryz.results29, go_sem, d0, d1]) rfl ⟨rfl, (HB.out.setCell (by simp) _).setCell (by simp) _⟩

set_option maxHeartbeats 1000000 in
set_option maxRecDepth 100000 in
theorem check_t (t : Tr) (w : World) (hin : t.In w 0) (hs : Small t) : Calls Tryz.prog 18 #[t.val] w fun e w' => e = .returned (.int .i64 (errT t)) ∧ Below w.heap.size w w' := by
  have M := hidb fun w' hw => measure_t t w' (in_below (w := w) hw hin) hs
  generalize wordsT t = W at *
  generalize depthT t = D at *
  generalize errT t = E at *
  obtain ⟨k, n, f, s, a, c, kids⟩ := t
  clear hin hs
  show Calls Tryz.prog 18 #[.agg #[.int .i64 k, .int .i64 n, .float .f64 f, .string s, .slice a kids.length c]] w _
  go_enter Tryz.func18, Tryz.ntmps18
  go_wp2_with fail
  refine (M.out _ (below_new w _)).mono ?_
  rintro e w1 ⟨rfl, hb1⟩
  have HB := hidb (below_in hb1)
  clear hb1 M
  go_wp2
  go_ret
  exact ⟨rfl, below_a0 HB.out _⟩

set_option maxHeartbeats 1000000 in
set_option maxRecDepth 100000 in
theorem words_t (t : Tr) (w : World) (hin : t.In w 0) (hs : Small t) : Calls Tryz.prog 153 #[t.val] w fun e w' => e = .returned (.tuple #[.int .i64 (wordsT t), .int .i64 (errT t)]) ∧ Below w.heap.size w w' := by
  have M := hidb fun w' hw => measure_t t w' (in_below (w := w) hw hin) hs
  generalize wordsT t = W at *
  generalize depthT t = D at *
  generalize errT t = E at *
  obtain ⟨k, n, f, s, a, c, kids⟩ := t
  clear hin hs
  show Calls Tryz.prog 153 #[.agg #[.int .i64 k, .int .i64 n, .float .f64 f, .string s, .slice a kids.length c]] w _
  go_enter Tryz.func153, Tryz.ntmps153
  go_wp2_with fail
  refine (M.out _ (below_new w _)).mono ?_
  rintro e w1 ⟨rfl, hb1⟩
  have HB := hidb (below_in hb1)
  clear hb1 M
  go_wp2
  exact bodyPost_ret (v := .tuple #[.int .i64 W, .int .i64 E]) (by simp [results, Tryz.results153, go_sem]) rfl ⟨rfl, below_a0 HB.out _⟩
end Go.Proofs.YtajadhkpadkikaaGreatDoor


