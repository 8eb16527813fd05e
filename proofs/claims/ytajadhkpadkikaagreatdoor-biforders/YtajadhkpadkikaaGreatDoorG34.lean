import Derived.Test.YtajadhkpadkikaaGreatDoorG02
/- The document's measure of a term, walked: by induction on the tree. -/
namespace Go.Proofs.YtajadhkpadkikaaGreatDoor
open Go.RowKit Go.Deep
attribute [local go_sem ↓] Go.wp_at_zero Go.wp_at_succ

/-- The box of a parameter of five cells reads as it was laid. -/
theorem box_at {w wr : World} {v0 v1 v2 v3 v4 : Value} {T : TypeId} (h : Below (w.heap.size + 1) (w.alloc (.cells #[v0, v1, v2, v3, v4] T)) wr) :
    wr.cell? ⟨w.heap.size, 0, none⟩ = some v0 ∧ wr.cell? ⟨w.heap.size, 1, none⟩ = some v1 ∧ wr.cell? ⟨w.heap.size, 2, none⟩ = some v2 ∧ wr.cell? ⟨w.heap.size, 3, none⟩ = some v3 ∧ wr.cell? ⟨w.heap.size, 4, none⟩ = some v4 := by
  refine ⟨?_, ?_, ?_, ?_, ?_⟩ <;> (rw [h.cell (by simp), World.cell?_alloc_new]; rfl)

theorem box_below {w wr : World} {o : Obj} (h : Below (w.heap.size + 1) (w.alloc o) wr) : Below w.heap.size w wr := ((Below.refl _ _).alloc (Nat.le_refl _) _).trans (h.mono (Nat.le_succ _))

theorem box_then {w wr wz : World} {o : Obj} (h : Below (w.heap.size + 1) (w.alloc o) wr) (hz : Below wr.heap.size wr wz) : Below (w.heap.size + 1) (w.alloc o) wz := h.trans (hz.mono (by have := h.size; simpa using this))

theorem measAll_bounds (kids : List Tr) (hk : ∀ t, t ∈ kids → ∀ depth most, -1 ≤ meas t depth most ∧ (0 ≤ meas t depth most → meas t depth most ≤ most)) : ∀ depth most n, 0 ≤ n → n ≤ most → -1 ≤ measAll kids depth most n ∧ measAll kids depth most n ≤ most := by
  induction kids with
  | nil => intro depth most n h0 h; simp only [measAll]; omega
  | cons t r ih =>
    intro depth most n h0 h
    simp only [measAll]
    split
    · omega
    · have g := hk t (List.mem_cons_self ..) depth (most - n)
      exact ih (fun u hu => hk u (List.mem_cons_of_mem _ hu)) depth most _ (by omega) (by omega)

theorem meas_bounds : ∀ (t : Tr) (depth most : Int), -1 ≤ meas t depth most ∧ (0 ≤ meas t depth most → meas t depth most ≤ most) := by
  refine Tr.ind fun k n f s a c kids hk => ?_
  intro depth most
  simp only [meas]
  have ho := own_nonneg k kids.length
  split
  · omega
  · have := measAll_bounds kids hk (depth - 1) most (own k kids.length) ho (by omega)
    omega

set_option maxHeartbeats 1600000 in
set_option maxRecDepth 100000 in
theorem rmeasure_any : ∀ (t : Tr) (depth most : Int) (w : World), t.In w 0 → Small t → 0 ≤ depth → depth ≤ 200 → 0 ≤ most → most ≤ 65536 →
    Calls Tryz.prog 83 #[t.val, .int .i64 depth, .int .i64 most] w fun e w' => e = .returned (.int .i64 (meas t depth most)) ∧ Below w.heap.size w w' := by
  refine Tr.ind fun k n f s a c kids hk => ?_
  intro depth most w hin hsm h1 h2 h3 h4
  show Calls Tryz.prog 83 #[.agg #[.int .i64 k, .int .i64 n, .float .f64 f, .string s, .slice a kids.length c], .int .i64 depth, .int .i64 most] w _
  simp only [meas]
  have HK : Hid (∀ t, t ∈ kids → ∀ (depth most : Int) (w : World), t.In w 0 → Small t → 0 ≤ depth → depth ≤ 200 → 0 ≤ most → most ≤ 65536 →
    Calls Tryz.prog 83 #[t.val, .int .i64 depth, .int .i64 most] w fun e w' => e = .returned (.int .i64 (meas t depth most)) ∧ Below w.heap.size w w') := hk
  have HIN : Hid ((Tr.mk k n f s a c kids).In w 0) := hin
  unfold Small at hsm
  have hlen := hsm.1
  have HSM : Hid (SmallAll kids) := hsm.2
  clear hk hin hsm
  have hown := own_nonneg k kids.length
  obtain ⟨O, hO⟩ : ∃ O, own k kids.length = O := ⟨_, rfl⟩
  have OW := own_any k n f s a kids.length c hlen
  rw [hO] at OW hown ⊢
  have HOW : Hid _ := OW
  clear OW hO
  by_cases hd : depth < 1
  · rw [if_pos (Or.inl hd)]
    go_enter Tryz.func83, Tryz.ntmps83
    go_wp2
    go_ret
    exact ⟨rfl, (Below.refl _ _).alloc (Nat.le_refl _) _⟩
  have hdw : wrap64 (depth - 1) = depth - 1 := by unfold wrap64; omega
  by_cases ho : O > most
  · rw [if_pos (Or.inr ho)]
    go_enter Tryz.func83, Tryz.ntmps83
    go_wp2_with fail
    refine (HOW.out _).mono ?_
    rintro e w2 ⟨rfl, hb2⟩
    have B2 := box_then (Below.refl _ _) hb2
    have HB2 : Hid _ := B2
    obtain ⟨d0, d1, d2, d3, d4⟩ := box_at B2
    clear B2 hb2
    go_wp2
    go_ret
    exact ⟨rfl, box_below HB2.out⟩
  rw [if_neg (by omega)]
  go_enter Tryz.func83, Tryz.ntmps83
  go_wp2_with fail
  refine (HOW.out _).mono ?_
  rintro e w2 ⟨rfl, hb2⟩
  have B2 := box_then (Below.refl _ _) hb2
  have HB2 : Hid _ := B2
  obtain ⟨d0, d1, d2, d3, d4⟩ := box_at B2
  clear B2 hb2
  go_wp2_with fail
  refine (HOW.out _).mono ?_
  rintro e w3 ⟨rfl, hb3⟩
  have B3 := box_then HB2.out hb3
  have HB3 : Hid _ := B3
  clear d0 d1 d2 d3 d4
  obtain ⟨d0, d1, d2, d3, d4⟩ := box_at B3
  clear B3 hb3
  go_wp2_with fail
  go_loopw [7, 8] (fun nv iv wr => ∃ (m : Nat) (x : Int), m ≤ kids.length ∧ iv = .int .i64 m ∧ nv = .int .i64 x ∧ 0 ≤ x ∧ x ≤ most ∧ measAll (kids.drop m) (depth - 1) most x = measAll kids (depth - 1) most O ∧ Below (w.heap.size + 1) (w.alloc (.cells #[.int .i64 k, .int .i64 n, .float .f64 f, .string s, .slice a kids.length c] 25)) wr) (fun _ iv _ => kids.length - (intOf iv).toNat)
  case atStart => exact ⟨0, O, by omega, rfl, rfl, hown, by omega, by simp, HB3.out⟩
  case round =>
    clear d0 d1 d2 d3 d4
    obtain ⟨m, x, hm, rfl, rfl, hx1, hx2, hrest, hbel⟩ := hrel
    have HR : Hid (measAll (kids.drop m) (depth - 1) most x = measAll kids (depth - 1) most O) := hrest
    have HB1 : Hid _ := hbel
    have d4 := (box_at hbel).2.2.2.2
    have HB : Hid (Below w.heap.size w wr) := box_below hbel
    clear hrest hbel
    by_cases hml : m < kids.length
    · have hmb : (m : Int) < (kids.length : Int) := by omega
      obtain ⟨b, o, rfl, hat⟩ := kid_at (in_below HB.out HIN.out) (by omega)
      obtain ⟨k', n', f', s', a', c', kids', hu, hin', c0, c1, c2, c3, c4⟩ := hat m hml
      have IH := HK.out _ (List.mem_of_getElem? hu) (depth - 1) (most - x) wr hin' (smallAll_get HSM.out (List.mem_of_getElem? hu)) (by omega) (by omega) (by omega) (by omega)
      have hmz : (0 : Int) ≤ (m : Int) := by omega
      have hxw : wrap64 (most - x) = most - x := by unfold wrap64; omega
      have hstep := HR.out
      rw [drop_one hu] at hstep
      simp only [measAll] at hstep
      have hbd := meas_bounds (.mk k' n' f' s' a' c' kids') (depth - 1) (most - x)
      generalize meas (.mk k' n' f' s' a' c' kids') (depth - 1) (most - x) = q at IH hstep hbd
      have HS : Hid _ := hstep
      clear hstep hu hin' hat
      go_wp2_with fail
      refine IH.mono ?_
      rintro e wz ⟨rfl, hbz⟩
      have HZ := box_then HB1.out hbz
      have HZH : Hid _ := HZ
      clear hbz IH HZ
      by_cases hq : q < 0
      · go_wp2
        go_ret
        refine ⟨?_, box_below HZH.out⟩
        have e := HS.out
        rw [if_pos hq] at e
        rw [← e]
        rfl
      · have hqw : wrap64 (x + q) = x + q := by unfold wrap64; omega
        go_wp2
        go_roundw
        case rel =>
          have e := HS.out
          rw [if_neg (by omega)] at e
          exact ⟨m + 1, x + q, by omega, by go_num, by go_num, by omega, by omega, e, HZH.out⟩
        case measure => simp [intOf]; omega
    · have hmn : ¬ (m : Int) < (kids.length : Int) := by omega
      go_wp2
      go_ret
      refine ⟨?_, HB.out⟩
      have e := HR.out
      rw [List.drop_of_length_le (by omega)] at e
      simp only [measAll] at e
      rw [← e]
      rfl
end Go.Proofs.YtajadhkpadkikaaGreatDoor


/- The measure of a term whose rows are only as long as rows can be. -/
namespace Go.Proofs.YtajadhkpadkikaaGreatDoor
open Go.RowKit Go.Deep
attribute [local go_sem ↓] Go.wp_at_zero Go.wp_at_succ

mutual
/-- No term in it has very many elements. -/
def SmallW : Tr → Prop
  | .mk _ _ _ _ _ _ kids => kids.length ≤ 140737488355328 ∧ SmallWAll kids
def SmallWAll : List Tr → Prop
  | [] => True
  | t :: r => SmallW t ∧ SmallWAll r
end

theorem smallWAll_get {kids : List Tr} (h : SmallWAll kids) {t : Tr} (ht : t ∈ kids) : SmallW t := by
  induction kids with
  | nil => simp at ht
  | cons u r ih =>
    unfold SmallWAll at h
    rcases List.mem_cons.1 ht with rfl | ht
    · exact h.1
    · exact ih h.2 ht

set_option maxHeartbeats 800000 in
set_option maxRecDepth 100000 in
theorem ownW_any (k n : Int) (f : Nat) (s : ByteArray) (a : Option Addr) (l c : Nat) (hl : l ≤ 140737488355328) (w : World) :
    Calls Tryz.prog 123 #[.agg #[.int .i64 k, .int .i64 n, .float .f64 f, .string s, .slice a l c]] w fun e w' => e = .returned (.int .i64 (own k l)) ∧ Below w.heap.size w w' := by
  by_cases h1 : k = 1
  · subst h1; go_enter Tryz.func123, Tryz.ntmps123; go_wp2; go_ret; exact ⟨rfl, (Below.refl _ _).alloc (Nat.le_refl _) _⟩
  by_cases h3 : k = 3
  · subst h3; go_enter Tryz.func123, Tryz.ntmps123; go_wp2; go_ret; exact ⟨rfl, (Below.refl _ _).alloc (Nat.le_refl _) _⟩
  by_cases h6 : k = 6
  · subst h6; go_enter Tryz.func123, Tryz.ntmps123; go_wp2; go_ret; exact ⟨rfl, (Below.refl _ _).alloc (Nat.le_refl _) _⟩
  by_cases h2 : k = 2
  · subst h2; go_enter Tryz.func123, Tryz.ntmps123; go_wp2; go_ret; exact ⟨rfl, (Below.refl _ _).alloc (Nat.le_refl _) _⟩
  by_cases h4 : k = 4
  · subst h4; go_enter Tryz.func123, Tryz.ntmps123; go_wp2; go_ret; exact ⟨rfl, (Below.refl _ _).alloc (Nat.le_refl _) _⟩
  have w2 : wrap64 (2 * (l : Int)) = 2 * l := by unfold wrap64; omega
  have w3 : wrap64 (2 + (l : Int)) = 2 + l := by unfold wrap64; omega
  have w4 : wrap64 (1 + (l : Int)) = 1 + l := by unfold wrap64; omega
  by_cases h8 : k = 8
  · subst h8
    go_enter Tryz.func123, Tryz.ntmps123; go_wp2; go_ret
    refine ⟨?_, (Below.refl _ _).alloc (Nat.le_refl _) _⟩
    simp [own]
  by_cases h5 : k = 5
  · subst h5
    go_enter Tryz.func123, Tryz.ntmps123; go_wp2; go_ret
    refine ⟨?_, (Below.refl _ _).alloc (Nat.le_refl _) _⟩
    simp [own]
  go_enter Tryz.func123, Tryz.ntmps123; go_wp2; go_ret
  refine ⟨?_, (Below.refl _ _).alloc (Nat.le_refl _) _⟩
  simp [own, h1, h2, h3, h4, h5, h6, h8]
set_option maxHeartbeats 1600000 in
set_option maxRecDepth 100000 in
theorem rmeasureW_any : ∀ (t : Tr) (depth most : Int) (w : World), t.In w 0 → SmallW t → 0 ≤ depth → depth ≤ 200 → 0 ≤ most → most ≤ 65536 →
    Calls Tryz.prog 83 #[t.val, .int .i64 depth, .int .i64 most] w fun e w' => e = .returned (.int .i64 (meas t depth most)) ∧ Below w.heap.size w w' := by
  refine Tr.ind fun k n f s a c kids hk => ?_
  intro depth most w hin hsm h1 h2 h3 h4
  show Calls Tryz.prog 83 #[.agg #[.int .i64 k, .int .i64 n, .float .f64 f, .string s, .slice a kids.length c], .int .i64 depth, .int .i64 most] w _
  simp only [meas]
  have HK : Hid (∀ t, t ∈ kids → ∀ (depth most : Int) (w : World), t.In w 0 → SmallW t → 0 ≤ depth → depth ≤ 200 → 0 ≤ most → most ≤ 65536 →
    Calls Tryz.prog 83 #[t.val, .int .i64 depth, .int .i64 most] w fun e w' => e = .returned (.int .i64 (meas t depth most)) ∧ Below w.heap.size w w') := hk
  have HIN : Hid ((Tr.mk k n f s a c kids).In w 0) := hin
  unfold SmallW at hsm
  have hlen := hsm.1
  have HSM : Hid (SmallWAll kids) := hsm.2
  clear hk hin hsm
  have hown := own_nonneg k kids.length
  obtain ⟨O, hO⟩ : ∃ O, own k kids.length = O := ⟨_, rfl⟩
  have OW := ownW_any k n f s a kids.length c hlen
  rw [hO] at OW hown ⊢
  have HOW : Hid _ := OW
  clear OW hO
  by_cases hd : depth < 1
  · rw [if_pos (Or.inl hd)]
    go_enter Tryz.func83, Tryz.ntmps83
    go_wp2
    go_ret
    exact ⟨rfl, (Below.refl _ _).alloc (Nat.le_refl _) _⟩
  have hdw : wrap64 (depth - 1) = depth - 1 := by unfold wrap64; omega
  by_cases ho : O > most
  · rw [if_pos (Or.inr ho)]
    go_enter Tryz.func83, Tryz.ntmps83
    go_wp2_with fail
    refine (HOW.out _).mono ?_
    rintro e w2 ⟨rfl, hb2⟩
    have B2 := box_then (Below.refl _ _) hb2
    have HB2 : Hid _ := B2
    obtain ⟨d0, d1, d2, d3, d4⟩ := box_at B2
    clear B2 hb2
    go_wp2
    go_ret
    exact ⟨rfl, box_below HB2.out⟩
  rw [if_neg (by omega)]
  go_enter Tryz.func83, Tryz.ntmps83
  go_wp2_with fail
  refine (HOW.out _).mono ?_
  rintro e w2 ⟨rfl, hb2⟩
  have B2 := box_then (Below.refl _ _) hb2
  have HB2 : Hid _ := B2
  obtain ⟨d0, d1, d2, d3, d4⟩ := box_at B2
  clear B2 hb2
  go_wp2_with fail
  refine (HOW.out _).mono ?_
  rintro e w3 ⟨rfl, hb3⟩
  have B3 := box_then HB2.out hb3
  have HB3 : Hid _ := B3
  clear d0 d1 d2 d3 d4
  obtain ⟨d0, d1, d2, d3, d4⟩ := box_at B3
  clear B3 hb3
  go_wp2_with fail
  go_loopw [7, 8] (fun nv iv wr => ∃ (m : Nat) (x : Int), m ≤ kids.length ∧ iv = .int .i64 m ∧ nv = .int .i64 x ∧ 0 ≤ x ∧ x ≤ most ∧ measAll (kids.drop m) (depth - 1) most x = measAll kids (depth - 1) most O ∧ Below (w.heap.size + 1) (w.alloc (.cells #[.int .i64 k, .int .i64 n, .float .f64 f, .string s, .slice a kids.length c] 25)) wr) (fun _ iv _ => kids.length - (intOf iv).toNat)
  case atStart => exact ⟨0, O, by omega, rfl, rfl, hown, by omega, by simp, HB3.out⟩
  case round =>
    clear d0 d1 d2 d3 d4
    obtain ⟨m, x, hm, rfl, rfl, hx1, hx2, hrest, hbel⟩ := hrel
    have HR : Hid (measAll (kids.drop m) (depth - 1) most x = measAll kids (depth - 1) most O) := hrest
    have HB1 : Hid _ := hbel
    have d4 := (box_at hbel).2.2.2.2
    have HB : Hid (Below w.heap.size w wr) := box_below hbel
    clear hrest hbel
    by_cases hml : m < kids.length
    · have hmb : (m : Int) < (kids.length : Int) := by omega
      obtain ⟨b, o, rfl, hat⟩ := kid_at (in_below HB.out HIN.out) (by omega)
      obtain ⟨k', n', f', s', a', c', kids', hu, hin', c0, c1, c2, c3, c4⟩ := hat m hml
      have IH := HK.out _ (List.mem_of_getElem? hu) (depth - 1) (most - x) wr hin' (smallWAll_get HSM.out (List.mem_of_getElem? hu)) (by omega) (by omega) (by omega) (by omega)
      have hmz : (0 : Int) ≤ (m : Int) := by omega
      have hxw : wrap64 (most - x) = most - x := by unfold wrap64; omega
      have hstep := HR.out
      rw [drop_one hu] at hstep
      simp only [measAll] at hstep
      have hbd := meas_bounds (.mk k' n' f' s' a' c' kids') (depth - 1) (most - x)
      generalize meas (.mk k' n' f' s' a' c' kids') (depth - 1) (most - x) = q at IH hstep hbd
      have HS : Hid _ := hstep
      clear hstep hu hin' hat
      go_wp2_with fail
      refine IH.mono ?_
      rintro e wz ⟨rfl, hbz⟩
      have HZ := box_then HB1.out hbz
      have HZH : Hid _ := HZ
      clear hbz IH HZ
      by_cases hq : q < 0
      · go_wp2
        go_ret
        refine ⟨?_, box_below HZH.out⟩
        have e := HS.out
        rw [if_pos hq] at e
        rw [← e]
        rfl
      · have hqw : wrap64 (x + q) = x + q := by unfold wrap64; omega
        go_wp2
        go_roundw
        case rel =>
          have e := HS.out
          rw [if_neg (by omega)] at e
          exact ⟨m + 1, x + q, by omega, by go_num, by go_num, by omega, by omega, e, HZH.out⟩
        case measure => simp [intOf]; omega
    · have hmn : ¬ (m : Int) < (kids.length : Int) := by omega
      go_wp2
      go_ret
      refine ⟨?_, HB.out⟩
      have e := HR.out
      rw [List.drop_of_length_le (by omega)] at e
      simp only [measAll] at e
      rw [← e]
      rfl
theorem small_W : ∀ t : Tr, Small t → SmallW t := by
  refine Tr.ind fun k n f s a c kids hk => ?_
  intro h
  simp only [Small, SmallW] at h ⊢
  refine ⟨by omega, ?_⟩
  have h2 := h.2
  clear h
  induction kids with
  | nil => simp only [SmallWAll]
  | cons t r ih =>
    simp only [SmallAll, SmallWAll] at h2 ⊢
    exact ⟨hk t (by simp) h2.1, ih (fun u hu => hk u (by simp [hu])) h2.2⟩
end Go.Proofs.YtajadhkpadkikaaGreatDoor


