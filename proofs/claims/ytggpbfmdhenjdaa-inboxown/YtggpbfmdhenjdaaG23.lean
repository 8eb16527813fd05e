import Derived.Test.YtggpbfmdhenjdaaG18
import Derived.Test.YtggpbfmdhenjdaaG22
import Derived.Test.YtggpbfmdhenjdaaG17
/- The measure of a term whose rows are only as long as rows can be. -/
namespace Go.Proofs.Ytggpbfmdhenjdaa
open Go.RowKit Go.Deep
attribute [local go_sem ↓] Go.wp_at_zero Go.wp_at_succ

mutual
/-- No term in it has very many elements. -/
def SmallW : Tr → Prop
  | .mk _ _ _ _ _ _ kids => kids.length ≤ 140737488355328 ∧ SmallWAll kids
def SmallWAll : List Tr → Prop
  | [] => True
  | t :: r => SmallW t ∧ SmallWAll r
end

theorem smallWAll_get {kids : List Tr} (h : SmallWAll kids) {t : Tr} (ht : t ∈ kids) : SmallW t := by
  induction kids with
  | nil => simp at ht
  | cons u r ih =>
    unfold SmallWAll at h
    rcases List.mem_cons.1 ht with rfl | ht
    · exact h.1
    · exact ih h.2 ht

set_option maxHeartbeats 800000 in
set_option maxRecDepth 100000 in
theorem ownW_any (k n : Int) (f : Nat) (s : ByteArray) (a : Option Addr) (l c : Nat) (hl : l ≤ 140737488355328) (w : World) :
    Calls Try.prog 35 #[.agg #[.int .i64 k, .int .i64 n, .float .f64 f, .string s, .slice a l c]] w fun e w' => e = .returned (.int .i64 (own k l)) ∧ Below w.heap.size w w' := by
  by_cases h1 : k = 1
  · subst h1; go_enter Try.func35, Try.ntmps35; go_wp2; go_ret; exact ⟨rfl, (Below.refl _ _).alloc (Nat.le_refl _) _⟩
  by_cases h3 : k = 3
  · subst h3; go_enter Try.func35, Try.ntmps35; go_wp2; go_ret; exact ⟨rfl, (Below.refl _ _).alloc (Nat.le_refl _) _⟩
  by_cases h6 : k = 6
  · subst h6; go_enter Try.func35, Try.ntmps35; go_wp2; go_ret; exact ⟨rfl, (Below.refl _ _).alloc (Nat.le_refl _) _⟩
  by_cases h2 : k = 2
  · subst h2; go_enter Try.func35, Try.ntmps35; go_wp2; go_ret; exact ⟨rfl, (Below.refl _ _).alloc (Nat.le_refl _) _⟩
  by_cases h4 : k = 4
  · subst h4; go_enter Try.func35, Try.ntmps35; go_wp2; go_ret; exact ⟨rfl, (Below.refl _ _).alloc (Nat.le_refl _) _⟩
  have w2 : wrap64 (2 * (l : Int)) = 2 * l := by unfold wrap64; omega
  have w3 : wrap64 (2 + (l : Int)) = 2 + l := by unfold wrap64; omega
  have w4 : wrap64 (1 + (l : Int)) = 1 + l := by unfold wrap64; omega
  by_cases h8 : k = 8
  · subst h8
    go_enter Try.func35, Try.ntmps35; go_wp2; go_ret
    refine ⟨?_, (Below.refl _ _).alloc (Nat.le_refl _) _⟩
    simp [own]
  by_cases h5 : k = 5
  · subst h5
    go_enter Try.func35, Try.ntmps35; go_wp2; go_ret
    refine ⟨?_, (Below.refl _ _).alloc (Nat.le_refl _) _⟩
    simp [own]
  go_enter Try.func35, Try.ntmps35; go_wp2; go_ret
  refine ⟨?_, (Below.refl _ _).alloc (Nat.le_refl _) _⟩
  simp [own, h1, h2, h3, h4, h5, h6, h8]
set_option maxHeartbeats 1600000 in
set_option maxRecDepth 100000 in
theorem rmeasureW_any : ∀ (t : Tr) (depth most : Int) (w : World), t.In w 0 → SmallW t → 0 ≤ depth → depth ≤ 200 → 0 ≤ most → most ≤ 65536 →
    Calls Try.prog 29 #[t.val, .int .i64 depth, .int .i64 most] w fun e w' => e = .returned (.int .i64 (meas t depth most)) ∧ Below w.heap.size w w' := by
  refine Tr.ind fun k n f s a c kids hk => ?_
  intro depth most w hin hsm h1 h2 h3 h4
  show Calls Try.prog 29 #[.agg #[.int .i64 k, .int .i64 n, .float .f64 f, .string s, .slice a kids.length c], .int .i64 depth, .int .i64 most] w _
  simp only [meas]
  have HK : Hid (∀ t, t ∈ kids → ∀ (depth most : Int) (w : World), t.In w 0 → SmallW t → 0 ≤ depth → depth ≤ 200 → 0 ≤ most → most ≤ 65536 →
    Calls Try.prog 29 #[t.val, .int .i64 depth, .int .i64 most] w fun e w' => e = .returned (.int .i64 (meas t depth most)) ∧ Below w.heap.size w w') := hk
  have HIN : Hid ((Tr.mk k n f s a c kids).In w 0) := hin
  unfold SmallW at hsm
  have hlen := hsm.1
  have HSM : Hid (SmallWAll kids) := hsm.2
  clear hk hin hsm
  have hown := own_nonneg k kids.length
  obtain ⟨O, hO⟩ : ∃ O, own k kids.length = O := ⟨_, rfl⟩
  have OW := ownW_any k n f s a kids.length c hlen
  rw [hO] at OW hown ⊢
  have HOW : Hid _ := OW
  clear OW hO
  by_cases hd : depth < 1
  · rw [if_pos (Or.inl hd)]
    go_enter Try.func29, Try.ntmps29
    go_wp2
    go_ret
    exact ⟨rfl, (Below.refl _ _).alloc (Nat.le_refl _) _⟩
  have hdw : wrap64 (depth - 1) = depth - 1 := by unfold wrap64; omega
  by_cases ho : O > most
  · rw [if_pos (Or.inr ho)]
    go_enter Try.func29, Try.ntmps29
    go_wp2_with fail
    refine (HOW.out _).mono ?_
    rintro e w2 ⟨rfl, hb2⟩
    have B2 := box_then (Below.refl _ _) hb2
    have HB2 : Hid _ := B2
    obtain ⟨d0, d1, d2, d3, d4⟩ := box_at B2
    clear B2 hb2
    go_wp2
    go_ret
    exact ⟨rfl, box_below HB2.out⟩
  rw [if_neg (by omega)]
  go_enter Try.func29, Try.ntmps29
  go_wp2_with fail
  refine (HOW.out _).mono ?_
  rintro e w2 ⟨rfl, hb2⟩
  have B2 := box_then (Below.refl _ _) hb2
  have HB2 : Hid _ := B2
  obtain ⟨d0, d1, d2, d3, d4⟩ := box_at B2
  clear B2 hb2
  go_wp2_with fail
  refine (HOW.out _).mono ?_
  rintro e w3 ⟨rfl, hb3⟩
  have B3 := box_then HB2.out hb3
  have HB3 : Hid _ := B3
  clear d0 d1 d2 d3 d4
  obtain ⟨d0, d1, d2, d3, d4⟩ := box_at B3
  clear B3 hb3
  go_wp2_with fail
  go_loopw [7, 8] (fun nv iv wr => ∃ (m : Nat) (x : Int), m ≤ kids.length ∧ iv = .int .i64 m ∧ nv = .int .i64 x ∧ 0 ≤ x ∧ x ≤ most ∧ measAll (kids.drop m) (depth - 1) most x = measAll kids (depth - 1) most O ∧ Below (w.heap.size + 1) (w.alloc (.cells #[.int .i64 k, .int .i64 n, .float .f64 f, .string s, .slice a kids.length c] 27)) wr) (fun _ iv _ => kids.length - (intOf iv).toNat)
  case atStart => exact ⟨0, O, by omega, rfl, rfl, hown, by omega, by simp, HB3.out⟩
  case round =>
    clear d0 d1 d2 d3 d4
    obtain ⟨m, x, hm, rfl, rfl, hx1, hx2, hrest, hbel⟩ := hrel
    have HR : Hid (measAll (kids.drop m) (depth - 1) most x = measAll kids (depth - 1) most O) := hrest
    have HB1 : Hid _ := hbel
    have d4 := (box_at hbel).2.2.2.2
    have HB : Hid (Below w.heap.size w wr) := box_below hbel
    clear hrest hbel
    by_cases hml : m < kids.length
    · have hmb : (m : Int) < (kids.length : Int) := by omega
      obtain ⟨b, o, rfl, hat⟩ := kid_at (in_below HB.out HIN.out) (by omega)
      obtain ⟨k', n', f', s', a', c', kids', hu, hin', c0, c1, c2, c3, c4⟩ := hat m hml
      have IH := HK.out _ (List.mem_of_getElem? hu) (depth - 1) (most - x) wr hin' (smallWAll_get HSM.out (List.mem_of_getElem? hu)) (by omega) (by omega) (by omega) (by omega)
      have hmz : (0 : Int) ≤ (m : Int) := by omega
      have hxw : wrap64 (most - x) = most - x := by unfold wrap64; omega
      have hstep := HR.out
      rw [drop_one hu] at hstep
      simp only [measAll] at hstep
      have hbd := meas_bounds (.mk k' n' f' s' a' c' kids') (depth - 1) (most - x)
      generalize meas (.mk k' n' f' s' a' c' kids') (depth - 1) (most - x) = q at IH hstep hbd
      have HS : Hid _ := hstep
      clear hstep hu hin' hat
      go_wp2_with fail
      refine IH.mono ?_
      rintro e wz ⟨rfl, hbz⟩
      have HZ := box_then HB1.out hbz
      have HZH : Hid _ := HZ
      clear hbz IH HZ
      by_cases hq : q < 0
      · go_wp2
        go_ret
        refine ⟨?_, box_below HZH.out⟩
        have e := HS.out
        rw [if_pos hq] at e
        rw [← e]
        rfl
      · have hqw : wrap64 (x + q) = x + q := by unfold wrap64; omega
        go_wp2
        go_roundw
        case rel =>
          have e := HS.out
          rw [if_neg (by omega)] at e
          exact ⟨m + 1, x + q, by omega, by go_num, by go_num, by omega, by omega, e, HZH.out⟩
        case measure => simp [intOf]; omega
    · have hmn : ¬ (m : Int) < (kids.length : Int) := by omega
      go_wp2
      go_ret
      refine ⟨?_, HB.out⟩
      have e := HR.out
      rw [List.drop_of_length_le (by omega)] at e
      simp only [measAll] at e
      rw [← e]
      rfl
theorem small_W : ∀ t : Tr, Small t → SmallW t := by
  refine Tr.ind fun k n f s a c kids hk => ?_
  intro h
  simp only [Small, SmallW] at h ⊢
  refine ⟨by omega, ?_⟩
  have h2 := h.2
  clear h
  induction kids with
  | nil => simp only [SmallWAll]
  | cons t r ih =>
    simp only [SmallAll, SmallWAll] at h2 ⊢
    exact ⟨hk t (by simp) h2.1, ih (fun u hu => hk u (by simp [hu])) h2.2⟩
end Go.Proofs.Ytggpbfmdhenjdaa


/- Is a term right, all that it has: the document's Check, Right, Words, walked: just what the program's tell. -/
namespace Go.Proofs.Ytggpbfmdhenjdaa
open Go.RowKit Go.Deep
attribute [local go_sem] store_float
attribute [local go_sem ↓] Go.wp_at_zero Go.wp_at_succ

set_option maxHeartbeats 1600000 in
set_option maxRecDepth 100000 in
theorem rall_any : ∀ (t : Tr) (w : World), t.In w 0 →
    Calls Try.prog 30 #[t.val] w fun e w' => e = .returned (.bool (allT goodT t)) ∧ Below w.heap.size w w' := by
  refine Tr.ind fun k n f s a c kids hk => ?_
  intro w hin
  show Calls Try.prog 30 #[.agg #[.int .i64 k, .int .i64 n, .float .f64 f, .string s, .slice a kids.length c]] w _
  have HK : Hid (∀ t, t ∈ kids → ∀ (w : World), t.In w 0 → Calls Try.prog 30 #[t.val] w fun e w' => e = .returned (.bool (allT goodT t)) ∧ Below w.heap.size w w') := hk
  have HIN : Hid ((Tr.mk k n f s a c kids).In w 0) := hin
  have hlen := len_small hin
  have cF := fields_any k n f s a kids.length c
  obtain ⟨QQ, hQQ⟩ : ∃ Q : Bool, allT goodT (.mk k n f s a c kids) = Q := ⟨_, rfl⟩
  have hq0 : QQ = (gF k n f s kids.length && allAll goodT kids) := by rw [← hQQ]; simp only [allT]; rw [goodT_gF]
  rw [hQQ]
  have HQ := hidb hq0
  clear hk hin hQQ hq0
  go_enter Try.func30, Try.ntmps30
  go_wp2_with fail
  refine (cF _).mono ?_
  rintro e w2 ⟨rfl, hb2⟩
  have B2 := box_then (Below.refl _ _) hb2
  have HB2 : Hid _ := B2
  obtain ⟨d0, d1, d2, d3, d4⟩ := box_at B2
  clear B2 hb2 cF
  cases hF : gF k n f s kids.length with
  | false =>
    have HF := hidb hF
    clear hF
    go_wp2_with fail
    go_ret
    exact ⟨gf_tell (by rw [HQ.out, HF.out]; rfl), box_below HB2.out⟩
  | true =>
    have HF := hidb hF
    clear hF
    go_wp2_with fail
    go_loopw [3] (fun iv wr => ∃ (m : Nat), m ≤ kids.length ∧ iv = .int .i64 m ∧ (allAll goodT kids = allAll goodT (kids.drop m)) ∧ Below (w.heap.size + 1) (w.alloc (.cells #[.int .i64 k, .int .i64 n, .float .f64 f, .string s, .slice a kids.length c] 27)) wr) (fun iv _ => kids.length - (intOf iv).toNat)
    case atStart => exact ⟨0, by omega, rfl, by simp, HB2.out⟩
    case round =>
      clear d0 d1 d2 d3 d4
      obtain ⟨m, hm, rfl, hrest, hbel⟩ := hrel
      have HR := hidb hrest
      have HB1 : Hid _ := hbel
      have d4 := (box_at hbel).2.2.2.2
      have HB : Hid (Below w.heap.size w wr) := box_below hbel
      clear hrest hbel
      by_cases hml : m < kids.length
      · have hmb : (m : Int) < (kids.length : Int) := by omega
        obtain ⟨b, o, rfl, hat⟩ := kid_at (in_below HB.out HIN.out) (by omega)
        obtain ⟨k', n', f', s', a', c', kids', hu, hin', c0, c1, c2, c3, c4⟩ := hat m hml
        have IH := HK.out _ (List.mem_of_getElem? hu) wr hin'
        have hmz : (0 : Int) ≤ (m : Int) := by omega
        have HD := hidb (drop_one hu)
        clear hu hin' hat
        go_wp2_with fail
        refine IH.mono ?_
        rintro e wz ⟨rfl, hbz⟩
        have HZ := box_then HB1.out hbz
        have HZH : Hid _ := HZ
        clear hbz IH HZ
        cases hA : allT goodT (.mk k' n' f' s' a' c' kids') with
        | false =>
          have HA := hidb hA
          clear hA
          go_wp2
          go_ret
          exact ⟨gf_tell (by rw [HQ.out, HR.out, HD.out]; simp only [allAll]; rw [HA.out]; simp), box_below HZH.out⟩
        | true =>
          have HA := hidb hA
          clear hA
          go_wp2
          go_roundw
          case rel => exact ⟨m + 1, by omega, by go_num, by rw [HR.out, HD.out]; simp only [allAll]; rw [HA.out]; simp, HZH.out⟩
          case measure => simp [intOf]; omega
      · have hmn : ¬ (m : Int) < (kids.length : Int) := by omega
        go_wp2
        go_ret
        exact ⟨gf_tell (by rw [HQ.out, HF.out, HR.out, List.drop_of_length_le (by omega)]; rfl), HB.out⟩


set_option maxHeartbeats 1000000 in
theorem rcheck_t (t : Tr) (w : World) (hin : t.In w 0) (hsm : SmallW t) : Calls Try.prog 19 #[t.val] w fun e w' => e = .returned (.int .i64 (errT t)) ∧ Below w.heap.size w w' := by
  cases t with
  | mk k n f s a c kids =>
    show Calls Try.prog 19 #[.agg #[.int .i64 k, .int .i64 n, .float .f64 f, .string s, .slice a kids.length c]] w _
    have cM := fun W h => rmeasureW_any (.mk k n f s a c kids) 200 65536 W h hsm (by decide) (by decide) (by decide) (by decide)
    have cA := fun W h => rall_any (.mk k n f s a c kids) W h
    have HIN := hidb hin
    unfold errT
    generalize meas (.mk k n f s a c kids) 200 65536 = M at cM ⊢
    generalize allT goodT (.mk k n f s a c kids) = A at cA ⊢
    clear hsm hin
    have hIn1 : ∀ {W : World}, Below w.heap.size w W → (Tr.mk k n f s a c kids).In W 0 := fun h => in_below h HIN.out
    by_cases hM : M < 0
    · rw [if_pos hM]
      go_enter Try.func19, Try.ntmps19
      go_wp2_with fail
      refine (cM _ (hIn1 (below_new w _))).mono ?_
      rintro e w2 ⟨rfl, hb2⟩
      have B2 := box_then (Below.refl _ _) hb2
      have HB2 : Hid _ := B2
      obtain ⟨d0, d1, d2, d3, d4⟩ := box_at B2
      clear B2 hb2
      go_wp2_with fail
      go_ret
      exact ⟨rfl, box_below HB2.out⟩
    · rw [if_neg hM]
      cases A with
      | false =>
        go_enter Try.func19, Try.ntmps19
        go_wp2_with fail
        refine (cM _ (hIn1 (below_new w _))).mono ?_
        rintro e w2 ⟨rfl, hb2⟩
        have B2 := box_then (Below.refl _ _) hb2
        have HB2 : Hid _ := B2
        obtain ⟨d0, d1, d2, d3, d4⟩ := box_at B2
        clear B2 hb2
        go_wp2_with fail
        refine (cA _ (hIn1 (box_below HB2.out))).mono ?_
        rintro e w3 ⟨rfl, hb3⟩
        have HB3 : Hid _ := box_then HB2.out hb3
        clear hb3
        go_wp2_with fail
        go_ret
        exact ⟨rfl, box_below HB3.out⟩
      | true =>
        go_enter Try.func19, Try.ntmps19
        go_wp2_with fail
        refine (cM _ (hIn1 (below_new w _))).mono ?_
        rintro e w2 ⟨rfl, hb2⟩
        have B2 := box_then (Below.refl _ _) hb2
        have HB2 : Hid _ := B2
        obtain ⟨d0, d1, d2, d3, d4⟩ := box_at B2
        clear B2 hb2
        go_wp2_with fail
        refine (cA _ (hIn1 (box_below HB2.out))).mono ?_
        rintro e w3 ⟨rfl, hb3⟩
        have HB3 : Hid _ := box_then HB2.out hb3
        clear hb3
        go_wp2_with fail
        go_ret
        exact ⟨rfl, box_below HB3.out⟩

set_option maxHeartbeats 1000000 in
theorem rright_t (t : Tr) (w : World) (hin : t.In w 0) (hsm : SmallW t) : Calls Try.prog 6 #[t.val] w fun e w' => e = .returned (.bool (errT t == 0)) ∧ Below w.heap.size w w' := by
  have cC := rcheck_t t
  generalize errT t = R at cC ⊢
  have HIN := hidb hin
  cases t with
  | mk k n f s a c kids =>
    replace cC : ∀ (w : World), (Tr.mk k n f s a c kids).In w 0 → SmallW (.mk k n f s a c kids) → Calls Try.prog 19 #[.agg #[.int .i64 k, .int .i64 n, .float .f64 f, .string s, .slice a kids.length c]] w fun e w' => e = .returned (.int .i64 R) ∧ Below w.heap.size w w' := cC
    show Calls Try.prog 6 #[.agg #[.int .i64 k, .int .i64 n, .float .f64 f, .string s, .slice a kids.length c]] w _
    have HSM := hidb hsm
    clear hin hsm
    go_enter Try.func6, Try.ntmps6
    go_wp2_with fail
    refine (cC _ (in_below (below_new w _) HIN.out) HSM.out).mono ?_
    rintro e w2 ⟨rfl, hb2⟩
    have HB2 : Hid _ := box_then (Below.refl _ _) hb2
    clear hb2
    go_wp2_with fail
    go_ret
    exact ⟨rfl, box_below HB2.out⟩

end Go.Proofs.Ytggpbfmdhenjdaa


