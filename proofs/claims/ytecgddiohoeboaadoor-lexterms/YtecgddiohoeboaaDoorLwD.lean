import Derived.Test.YtecgddiohoeboaaDoorLwC
/- Is a term right, all that it has; can it be said? Walked. -/
namespace Go.Proofs.YtecgddiohoeboaaDoor
open Go.RowKit Go.Deep
attribute [local go_sem] store_float
attribute [local go_sem ↓] Go.wp_at_zero Go.wp_at_succ

mutual
def AOk : Tr → Prop
  | .mk k n f s _ _ kids => FOk k n f s kids.length ∧ AOkAll kids
def AOkAll : List Tr → Prop
  | [] => True
  | t :: r => AOk t ∧ AOkAll r
end

set_option maxHeartbeats 1600000 in
set_option maxRecDepth 100000 in
theorem rall_any : ∀ (t : Tr) (w : World), t.In w 0 →
    Calls Tryd.prog 50 #[t.val] w fun e w' => Tells e (AOk t) ∧ Below w.heap.size w w' := by
  refine Tr.ind fun k n f s a c kids hk => ?_
  intro w hin
  show Calls Tryd.prog 50 #[.agg #[.int .i64 k, .int .i64 n, .float .f64 f, .string s, .slice a kids.length c]] w _
  have HK : Hid (∀ t, t ∈ kids → ∀ (w : World), t.In w 0 → Calls Tryd.prog 50 #[t.val] w fun e w' => Tells e (AOk t) ∧ Below w.heap.size w w') := hk
  have HIN : Hid ((Tr.mk k n f s a c kids).In w 0) := hin
  have hlen := len_small hin
  have cF := fields_any k n f s a kids.length c
  obtain ⟨QQ, hQQ⟩ : ∃ Q : Prop, AOk (.mk k n f s a c kids) = Q := ⟨_, rfl⟩
  rw [hQQ]
  have HQ : Hid (FOk k n f s kids.length → AOkAll kids → QQ) := hidb (fun h1 h2 => by rw [← hQQ]; simp only [AOk]; exact ⟨h1, h2⟩)
  clear hk hin hQQ
  go_enter Tryd.func50, Tryd.ntmps50
  go_wp2_with fail
  refine (cF _).mono ?_
  rintro e w2 ⟨⟨b, rfl, hb⟩, hb2⟩
  have B2 := box_then (Below.refl _ _) hb2
  have HB2 : Hid _ := B2
  obtain ⟨d0, d1, d2, d3, d4⟩ := box_at B2
  clear B2 hb2 cF
  cases b with
  | false =>
    go_wp2_with fail
    go_ret
    exact ⟨tells _ (fun h => by cases h), box_below HB2.out⟩
  | true =>
    have HF := hidb (hb rfl)
    clear hb
    go_wp2_with fail
    go_loopw [3] (fun iv wr => ∃ (m : Nat), m ≤ kids.length ∧ iv = .int .i64 m ∧ (AOkAll (kids.drop m) → AOkAll kids) ∧ Below (w.heap.size + 1) (w.alloc (.cells #[.int .i64 k, .int .i64 n, .float .f64 f, .string s, .slice a kids.length c] 44)) wr) (fun iv _ => kids.length - (intOf iv).toNat)
    case atStart => exact ⟨0, by omega, rfl, fun h => by simpa using h, HB2.out⟩
    case round =>
      clear d0 d1 d2 d3 d4
      obtain ⟨m, hm, rfl, hrest, hbel⟩ := hrel
      have HR := hidb hrest
      have HB1 : Hid _ := hbel
      have d4 := (box_at hbel).2.2.2.2
      have HB : Hid (Below w.heap.size w wr) := box_below hbel
      clear hrest hbel
      by_cases hml : m < kids.length
      · have hmb : (m : Int) < (kids.length : Int) := by omega
        obtain ⟨b, o, rfl, hat⟩ := kid_at (in_below HB.out HIN.out) (by omega)
        obtain ⟨k', n', f', s', a', c', kids', hu, hin', c0, c1, c2, c3, c4⟩ := hat m hml
        have IH := HK.out _ (List.mem_of_getElem? hu) wr hin'
        have hmz : (0 : Int) ≤ (m : Int) := by omega
        have HD := hidb (drop_one hu)
        clear hu hin' hat
        go_wp2_with fail
        refine IH.mono ?_
        rintro e wz ⟨⟨b1, rfl, hb1⟩, hbz⟩
        have HZ := box_then HB1.out hbz
        have HZH : Hid _ := HZ
        clear hbz IH HZ
        cases b1 with
        | false =>
          go_wp2
          go_ret
          exact ⟨tells _ (fun h => by cases h), box_below HZH.out⟩
        | true =>
          have HA := hidb (hb1 rfl)
          clear hb1
          go_wp2
          go_roundw
          case rel => exact ⟨m + 1, by omega, by go_num, fun h => HR.out (by rw [HD.out]; simp only [AOkAll]; exact ⟨HA.out, h⟩), HZH.out⟩
          case measure => simp [intOf]; omega
      · have hmn : ¬ (m : Int) < (kids.length : Int) := by omega
        go_wp2
        go_ret
        exact ⟨tells _ (fun _ => HQ.out HF.out (HR.out (by rw [List.drop_of_length_le (by omega)]; trivial))), HB.out⟩

def RT (t : Tr) : Prop := 0 ≤ meas t 200 65536 ∧ AOk t

set_option maxHeartbeats 1000000 in
theorem rcheck_any (t : Tr) (w : World) (hin : t.In w 0) (hsm : Small t) : Calls Tryd.prog 25 #[t.val] w fun e w' => (∃ x : Int, e = .returned (.int .i64 x) ∧ (x = 0 → RT t)) ∧ Below w.heap.size w w' := by
  cases t with
  | mk k n f s a c kids =>
    show Calls Tryd.prog 25 #[.agg #[.int .i64 k, .int .i64 n, .float .f64 f, .string s, .slice a kids.length c]] w _
    have cM := fun W h => rmeasure_any (.mk k n f s a c kids) 200 65536 W h hsm (by decide) (by decide) (by decide) (by decide)
    have cA := fun W h => rall_any (.mk k n f s a c kids) W h
    have HIN := hidb hin
    unfold RT
    generalize meas (.mk k n f s a c kids) 200 65536 = M at cM ⊢
    generalize AOk (.mk k n f s a c kids) = A at cA ⊢
    clear hsm hin
    have hIn1 : ∀ {W : World}, Below w.heap.size w W → (Tr.mk k n f s a c kids).In W 0 := fun h => in_below h HIN.out
    go_enter Tryd.func25, Tryd.ntmps25
    go_wp2_with fail
    refine (cM _ (hIn1 (below_new w _))).mono ?_
    rintro e w2 ⟨rfl, hb2⟩
    have B2 := box_then (Below.refl _ _) hb2
    have HB2 : Hid _ := B2
    obtain ⟨d0, d1, d2, d3, d4⟩ := box_at B2
    clear B2 hb2
    by_cases hM : M < 0
    · go_wp2_with fail
      go_ret
      exact ⟨⟨_, rfl, fun h => by cases h⟩, box_below HB2.out⟩
    · go_wp2_with fail
      refine (cA _ (hIn1 (box_below HB2.out))).mono ?_
      rintro e w3 ⟨⟨b, rfl, hb⟩, hb3⟩
      have B3 := box_then HB2.out hb3
      have HB3 : Hid _ := B3
      have HA := hidb hb
      clear B3 hb3 hb
      cases b with
      | false =>
        go_wp2_with fail
        go_ret
        exact ⟨⟨_, rfl, fun h => by cases h⟩, box_below HB3.out⟩
      | true =>
        go_wp2_with fail
        go_ret
        exact ⟨⟨_, rfl, fun _ => ⟨by omega, HA.out trivial⟩⟩, box_below HB3.out⟩

set_option maxHeartbeats 1000000 in
theorem rright_any (t : Tr) (w : World) (hin : t.In w 0) (hsm : Small t) : Calls Tryd.prog 17 #[t.val] w fun e w' => Tells e (RT t) ∧ Below w.heap.size w w' := by
  have cC := rcheck_any t
  generalize RT t = R at cC ⊢
  have HIN := hidb hin
  cases t with
  | mk k n f s a c kids =>
    replace cC : ∀ (w : World), (Tr.mk k n f s a c kids).In w 0 → Small (.mk k n f s a c kids) → Calls Tryd.prog 25 #[.agg #[.int .i64 k, .int .i64 n, .float .f64 f, .string s, .slice a kids.length c]] w fun e w' => (∃ x : Int, e = .returned (.int .i64 x) ∧ (x = 0 → R)) ∧ Below w.heap.size w w' := cC
    show Calls Tryd.prog 17 #[.agg #[.int .i64 k, .int .i64 n, .float .f64 f, .string s, .slice a kids.length c]] w _
    have HSM := hidb hsm
    clear hin hsm
    go_enter Tryd.func17, Tryd.ntmps17
    go_wp2_with fail
    refine (cC _ (in_below (below_new w _) HIN.out) HSM.out).mono ?_
    rintro e w2 ⟨⟨x, rfl, hx⟩, hb2⟩
    have B2 := box_then (Below.refl _ _) hb2
    have HB2 : Hid _ := B2
    have HXX := hidb hx
    clear B2 hb2 hx
    by_cases h0 : x = 0
    · subst h0
      go_wp2_with fail
      go_ret
      exact ⟨tells _ (fun _ => HXX.out trivial), box_below HB2.out⟩
    · have k0 : (x == 0) = false := by simpa using h0
      go_wp2_with fail
      go_ret
      exact ⟨tells _ (fun h => by cases h), box_below HB2.out⟩

mutual
def SB : Tr → Prop
  | .mk k n _ _ _ _ kids => k ≠ 4 ∧ k ≠ 5 ∧ k ≠ 6 ∧ ¬ (k = 1 ∧ n = -576460752303423488) ∧ SBAll kids
def SBAll : List Tr → Prop
  | [] => True
  | t :: r => SB t ∧ SBAll r
end

set_option maxHeartbeats 3200000 in
set_option maxRecDepth 100000 in
theorem sayable_any : ∀ (t : Tr) (w : World), t.In w 0 →
    Calls Tryd.prog 18 #[t.val] w fun e w' => Tells e (SB t) ∧ Below w.heap.size w w' := by
  refine Tr.ind fun k n f s a c kids hk => ?_
  intro w hin
  show Calls Tryd.prog 18 #[.agg #[.int .i64 k, .int .i64 n, .float .f64 f, .string s, .slice a kids.length c]] w _
  have HK : Hid (∀ t, t ∈ kids → ∀ (w : World), t.In w 0 → Calls Tryd.prog 18 #[t.val] w fun e w' => Tells e (SB t) ∧ Below w.heap.size w w') := hk
  have HIN : Hid ((Tr.mk k n f s a c kids).In w 0) := hin
  have hlen := len_small hin
  obtain ⟨QQ, hQQ⟩ : ∃ Q : Prop, SB (.mk k n f s a c kids) = Q := ⟨_, rfl⟩
  rw [hQQ]
  have HQ : Hid (k ≠ 4 → k ≠ 5 → k ≠ 6 → ¬ (k = 1 ∧ n = -576460752303423488) → SBAll kids → QQ) := hidb (fun h1 h2 h3 h4 h5 => by rw [← hQQ]; simp only [SB]; exact ⟨h1, h2, h3, h4, h5⟩)
  clear hk hin hQQ
  by_cases h4 : k = 4
  · subst h4
    go_enter Tryd.func18, Tryd.ntmps18
    go_wp2_with fail
    go_ret
    exact ⟨tells _ (fun h => by cases h), (Below.refl _ _).alloc (Nat.le_refl _) _⟩
  by_cases h6 : k = 6
  · subst h6
    go_enter Tryd.func18, Tryd.ntmps18
    go_wp2_with fail
    go_ret
    exact ⟨tells _ (fun h => by cases h), (Below.refl _ _).alloc (Nat.le_refl _) _⟩
  by_cases h5 : k = 5
  · subst h5
    go_enter Tryd.func18, Tryd.ntmps18
    go_wp2_with fail
    go_ret
    exact ⟨tells _ (fun h => by cases h), (Below.refl _ _).alloc (Nat.le_refl _) _⟩
  have e4 : (k == 4) = false := by simpa using h4
  have e5 : (k == 5) = false := by simpa using h5
  have e6 : (k == 6) = false := by simpa using h6
  by_cases h1 : k = 1 ∧ n = -576460752303423488
  · obtain ⟨rfl, rfl⟩ := h1
    clear e4 e5 e6
    go_enter Tryd.func18, Tryd.ntmps18
    go_wp2_with fail
    go_ret
    exact ⟨tells _ (fun h => by cases h), (Below.refl _ _).alloc (Nat.le_refl _) _⟩
  have e1 : (k == 1) = false ∨ ((k == 1) = true ∧ (n == -576460752303423488) = false) := by
    by_cases hk1 : k = 1
    · right; refine ⟨by simpa using hk1, ?_⟩; simp; intro hn; exact h1 ⟨hk1, hn⟩
    · left; simpa using hk1
  have HQ2 := hidb (HQ.out h4 h5 h6 h1)
  clear h4 h5 h6 h1 HQ
  rcases e1 with e1 | ⟨e1, e2⟩
  all_goals (
    go_enter Tryd.func18, Tryd.ntmps18
    go_wp2_with fail
    go_loopw [3] (fun iv wr => ∃ (m : Nat), m ≤ kids.length ∧ iv = .int .i64 m ∧ (SBAll (kids.drop m) → SBAll kids) ∧ Below (w.heap.size + 1) (w.alloc (.cells #[.int .i64 k, .int .i64 n, .float .f64 f, .string s, .slice a kids.length c] 44)) wr) (fun iv _ => kids.length - (intOf iv).toNat)
    case atStart => exact ⟨0, by omega, rfl, fun h => by simpa using h, by first | exact Below.refl _ _ | (simp; exact Below.refl _ _)⟩
    case round =>
      obtain ⟨m, hm, rfl, hrest, hbel⟩ := hrel
      have HR := hidb hrest
      have HB1 : Hid _ := hbel
      have d4 := (box_at hbel).2.2.2.2
      have HB : Hid (Below w.heap.size w wr) := box_below hbel
      clear hrest hbel
      by_cases hml : m < kids.length
      · have hmb : (m : Int) < (kids.length : Int) := by omega
        obtain ⟨b, o, rfl, hat⟩ := kid_at (in_below HB.out HIN.out) (by omega)
        obtain ⟨k', n', f', s', a', c', kids', hu, hin', c0, c1, c2, c3, c4⟩ := hat m hml
        have IH := HK.out _ (List.mem_of_getElem? hu) wr hin'
        have hmz : (0 : Int) ≤ (m : Int) := by omega
        have HD := hidb (drop_one hu)
        clear hu hin' hat
        go_wp2_with fail
        refine IH.mono ?_
        rintro e wz ⟨⟨b1, rfl, hb1⟩, hbz⟩
        have HZ := box_then HB1.out hbz
        have HZH : Hid _ := HZ
        clear hbz IH HZ
        cases b1 with
        | false =>
          go_wp2
          go_ret
          exact ⟨tells _ (fun h => by cases h), box_below HZH.out⟩
        | true =>
          have HA := hidb (hb1 rfl)
          clear hb1
          go_wp2
          go_roundw
          case rel => exact ⟨m + 1, by omega, by go_num, fun h => HR.out (by rw [HD.out]; simp only [SBAll]; exact ⟨HA.out, h⟩), HZH.out⟩
          case measure => simp [intOf]; omega
      · have hmn : ¬ (m : Int) < (kids.length : Int) := by omega
        go_wp2
        go_ret
        exact ⟨tells _ (fun _ => HQ2.out (HR.out (by rw [List.drop_of_length_le (by omega)]; trivial))), HB.out⟩)

/-- A right term that can be said. -/
theorem say_of : ∀ (t : Tr) (w : World), t.In w 0 → AOk t → SB t → Say t := by
  refine Tr.ind fun k n f s a c kids ih => ?_
  intro w hin h1 h2
  have hin2 := hin
  unfold Tr.In at hin
  obtain ⟨⟨_, _, hf, _, _, _, hn⟩, hall⟩ := hin
  simp only [AOk] at h1
  simp only [SB] at h2
  obtain ⟨g1, g2⟩ := h1
  obtain ⟨q4, q5, q6, q1, q7⟩ := h2
  have hfb : f < 18446744073709551616 := by simpa [Lit.wf] using hf
  unfold Say
  have hnil : kids.length = 0 → kids = [] := List.eq_nil_of_length_eq_zero
  rcases g1 with ⟨rfl, g, gl⟩ | ⟨rfl, g, gl⟩ | ⟨rfl, g, gl⟩ | rfl | rfl | rfl | rfl | rfl
  · obtain ⟨b1, b2⟩ := whB_yes g
    exact .inl ⟨rfl, by omega, b2, hnil gl⟩
  · exact .inr (.inl ⟨rfl, g, hfb, hnil gl⟩)
  · exact .inr (.inr (.inl ⟨rfl, g, hnil gl⟩))
  · exact absurd rfl q4
  · exact absurd rfl q5
  · exact absurd rfl q6
  all_goals (
    refine .inr (.inr (.inr ⟨by simp, ?_⟩))
    have key : ∀ (l : List Tr), (∀ t, t ∈ l → t ∈ kids) → AOkAll l → SBAll l → SayAll l := by
      intro l
      induction l with
      | nil => intros; simp [SayAll]
      | cons u r ihl =>
        intro hm ha hb
        simp only [AOkAll] at ha
        simp only [SBAll] at hb
        simp only [SayAll]
        have hu := hm u (by simp)
        obtain ⟨j, hj, hju⟩ := List.getElem_of_mem hu
        have hinu : u.In w 0 := by
          obtain ⟨b, o, hab, hat⟩ := kid_at hin2 (by omega)
          obtain ⟨k', n', f', s', a', c', kids', hu', hin', _⟩ := hat j hj
          rw [List.getElem?_eq_getElem hj, hju] at hu'
          rw [Option.some.inj hu']
          exact hin'
        exact ⟨ih u hu w hinu ha.1 hb.1, ihl (fun t ht => hm t (by simp [ht])) ha.2 hb.2⟩
    exact key kids (fun t h => h) g2 q7)
end Go.Proofs.YtecgddiohoeboaaDoor


