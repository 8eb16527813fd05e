import Derived.Test.YtajadhkpadkikaaGreatDoorG33
import Derived.Test.YtajadhkpadkikaaGreatDoorG34
import Derived.Test.YtajadhkpadkikaaGreatDoorG11
import Derived.Test.YtajadhkpadkikaaGreatDoorG31
import Derived.WalkSmall
/- Is a term right, all that it has: the document's Check, Right, Words, walked: just what the program's tell. -/
namespace Go.Proofs.YtajadhkpadkikaaGreatDoor
open Go.RowKit Go.Deep
attribute [local go_sem] store_float
attribute [local go_sem ↓] Go.wp_at_zero Go.wp_at_succ

set_option maxHeartbeats 1600000 in
set_option maxRecDepth 100000 in
theorem rall_any : ∀ (t : Tr) (w : World), t.In w 0 →
    Calls Tryz.prog 84 #[t.val] w fun e w' => e = .returned (.bool (allT goodT t)) ∧ Below w.heap.size w w' := by
  refine Tr.ind fun k n f s a c kids hk => ?_
  intro w hin
  show Calls Tryz.prog 84 #[.agg #[.int .i64 k, .int .i64 n, .float .f64 f, .string s, .slice a kids.length c]] w _
  have HK : Hid (∀ t, t ∈ kids → ∀ (w : World), t.In w 0 → Calls Tryz.prog 84 #[t.val] w fun e w' => e = .returned (.bool (allT goodT t)) ∧ Below w.heap.size w w') := hk
  have HIN : Hid ((Tr.mk k n f s a c kids).In w 0) := hin
  have hlen := len_small hin
  have cF := fields_any k n f s a kids.length c
  obtain ⟨QQ, hQQ⟩ : ∃ Q : Bool, allT goodT (.mk k n f s a c kids) = Q := ⟨_, rfl⟩
  have hq0 : QQ = (gF k n f s kids.length && allAll goodT kids) := by rw [← hQQ]; simp only [allT]; rw [goodT_gF]
  rw [hQQ]
  have HQ := hidb hq0
  clear hk hin hQQ hq0
  go_enter Tryz.func84, Tryz.ntmps84
  go_wp2_with fail
  refine (cF _).mono ?_
  rintro e w2 ⟨rfl, hb2⟩
  have B2 := box_then (Below.refl _ _) hb2
  have HB2 : Hid _ := B2
  obtain ⟨d0, d1, d2, d3, d4⟩ := box_at B2
  clear B2 hb2 cF
  cases hF : gF k n f s kids.length with
  | false =>
    have HF := hidb hF
    clear hF
    go_wp2_with fail
    go_ret
    exact ⟨gf_tell (by rw [HQ.out, HF.out]; rfl), box_below HB2.out⟩
  | true =>
    have HF := hidb hF
    clear hF
    go_wp2_with fail
    go_loopw [3] (fun iv wr => ∃ (m : Nat), m ≤ kids.length ∧ iv = .int .i64 m ∧ (allAll goodT kids = allAll goodT (kids.drop m)) ∧ Below (w.heap.size + 1) (w.alloc (.cells #[.int .i64 k, .int .i64 n, .float .f64 f, .string s, .slice a kids.length c] 25)) wr) (fun iv _ => kids.length - (intOf iv).toNat)
    case atStart => exact ⟨0, by omega, rfl, by simp, HB2.out⟩
    case round =>
      clear d0 d1 d2 d3 d4
      obtain ⟨m, hm, rfl, hrest, hbel⟩ := hrel
      have HR := hidb hrest
      have HB1 : Hid _ := hbel
      have d4 := (box_at hbel).2.2.2.2
      have HB : Hid (Below w.heap.size w wr) := box_below hbel
      clear hrest hbel
      by_cases hml : m < kids.length
      · have hmb : (m : Int) < (kids.length : Int) := by omega
        obtain ⟨b, o, rfl, hat⟩ := kid_at (in_below HB.out HIN.out) (by omega)
        obtain ⟨k', n', f', s', a', c', kids', hu, hin', c0, c1, c2, c3, c4⟩ := hat m hml
        have IH := HK.out _ (List.mem_of_getElem? hu) wr hin'
        have hmz : (0 : Int) ≤ (m : Int) := by omega
        have HD := hidb (drop_one hu)
        clear hu hin' hat
        go_wp2_with fail
        refine IH.mono ?_
        rintro e wz ⟨rfl, hbz⟩
        have HZ := box_then HB1.out hbz
        have HZH : Hid _ := HZ
        clear hbz IH HZ
        cases hA : allT goodT (.mk k' n' f' s' a' c' kids') with
        | false =>
          have HA := hidb hA
          clear hA
          go_wp2
          go_ret
          exact ⟨gf_tell (by rw [HQ.out, HR.out, HD.out]; simp only [allAll]; rw [HA.out]; simp), box_below HZH.out⟩
        | true =>
          have HA := hidb hA
          clear hA
          go_wp2
          go_roundw
          case rel => exact ⟨m + 1, by omega, by go_num, by rw [HR.out, HD.out]; simp only [allAll]; rw [HA.out]; simp, HZH.out⟩
          case measure => simp [intOf]; omega
      · have hmn : ¬ (m : Int) < (kids.length : Int) := by omega
        go_wp2
        go_ret
        exact ⟨gf_tell (by rw [HQ.out, HF.out, HR.out, List.drop_of_length_le (by omega)]; rfl), HB.out⟩


set_option maxHeartbeats 1000000 in
theorem rcheck_t (t : Tr) (w : World) (hin : t.In w 0) (hsm : SmallW t) : Calls Tryz.prog 30 #[t.val] w fun e w' => e = .returned (.int .i64 (errT t)) ∧ Below w.heap.size w w' := by
  cases t with
  | mk k n f s a c kids =>
    show Calls Tryz.prog 30 #[.agg #[.int .i64 k, .int .i64 n, .float .f64 f, .string s, .slice a kids.length c]] w _
    have cM := fun W h => rmeasureW_any (.mk k n f s a c kids) 200 65536 W h hsm (by decide) (by decide) (by decide) (by decide)
    have cA := fun W h => rall_any (.mk k n f s a c kids) W h
    have HIN := hidb hin
    unfold errT
    generalize meas (.mk k n f s a c kids) 200 65536 = M at cM ⊢
    generalize allT goodT (.mk k n f s a c kids) = A at cA ⊢
    clear hsm hin
    have hIn1 : ∀ {W : World}, Below w.heap.size w W → (Tr.mk k n f s a c kids).In W 0 := fun h => in_below h HIN.out
    by_cases hM : M < 0
    · rw [if_pos hM]
      go_enter Tryz.func30, Tryz.ntmps30
      go_wp2_with fail
      refine (cM _ (hIn1 (below_new w _))).mono ?_
      rintro e w2 ⟨rfl, hb2⟩
      have B2 := box_then (Below.refl _ _) hb2
      have HB2 : Hid _ := B2
      obtain ⟨d0, d1, d2, d3, d4⟩ := box_at B2
      clear B2 hb2
      go_wp2_with fail
      go_ret
      exact ⟨rfl, box_below HB2.out⟩
    · rw [if_neg hM]
      cases A with
      | false =>
        go_enter Tryz.func30, Tryz.ntmps30
        go_wp2_with fail
        refine (cM _ (hIn1 (below_new w _))).mono ?_
        rintro e w2 ⟨rfl, hb2⟩
        have B2 := box_then (Below.refl _ _) hb2
        have HB2 : Hid _ := B2
        obtain ⟨d0, d1, d2, d3, d4⟩ := box_at B2
        clear B2 hb2
        go_wp2_with fail
        refine (cA _ (hIn1 (box_below HB2.out))).mono ?_
        rintro e w3 ⟨rfl, hb3⟩
        have HB3 : Hid _ := box_then HB2.out hb3
        clear hb3
        go_wp2_with fail
        go_ret
        exact ⟨rfl, box_below HB3.out⟩
      | true =>
        go_enter Tryz.func30, Tryz.ntmps30
        go_wp2_with fail
        refine (cM _ (hIn1 (below_new w _))).mono ?_
        rintro e w2 ⟨rfl, hb2⟩
        have B2 := box_then (Below.refl _ _) hb2
        have HB2 : Hid _ := B2
        obtain ⟨d0, d1, d2, d3, d4⟩ := box_at B2
        clear B2 hb2
        go_wp2_with fail
        refine (cA _ (hIn1 (box_below HB2.out))).mono ?_
        rintro e w3 ⟨rfl, hb3⟩
        have HB3 : Hid _ := box_then HB2.out hb3
        clear hb3
        go_wp2_with fail
        go_ret
        exact ⟨rfl, box_below HB3.out⟩

set_option maxHeartbeats 1000000 in
theorem rright_t (t : Tr) (w : World) (hin : t.In w 0) (hsm : SmallW t) : Calls Tryz.prog 21 #[t.val] w fun e w' => e = .returned (.bool (errT t == 0)) ∧ Below w.heap.size w w' := by
  have cC := rcheck_t t
  generalize errT t = R at cC ⊢
  have HIN := hidb hin
  cases t with
  | mk k n f s a c kids =>
    replace cC : ∀ (w : World), (Tr.mk k n f s a c kids).In w 0 → SmallW (.mk k n f s a c kids) → Calls Tryz.prog 30 #[.agg #[.int .i64 k, .int .i64 n, .float .f64 f, .string s, .slice a kids.length c]] w fun e w' => e = .returned (.int .i64 R) ∧ Below w.heap.size w w' := cC
    show Calls Tryz.prog 21 #[.agg #[.int .i64 k, .int .i64 n, .float .f64 f, .string s, .slice a kids.length c]] w _
    have HSM := hidb hsm
    clear hin hsm
    go_enter Tryz.func21, Tryz.ntmps21
    go_wp2_with fail
    refine (cC _ (in_below (below_new w _) HIN.out) HSM.out).mono ?_
    rintro e w2 ⟨rfl, hb2⟩
    have HB2 : Hid _ := box_then (Below.refl _ _) hb2
    clear hb2
    go_wp2_with fail
    go_ret
    exact ⟨rfl, box_below HB2.out⟩

end Go.Proofs.YtajadhkpadkikaaGreatDoor


/- right: are terms right, and few? -/
namespace Go.Proofs.YtajadhkpadkikaaGreatDoor
open Go.RowKit Go.Lib Go.Deep
attribute [local go_sem] store_float f64bits store_func store_nilFunc
attribute [local go_sem ↓] Go.wp_at_zero Go.wp_at_succ

theorem few_cn : ∀ (t : Tr) (left deep : Int), 0 ≤ fewT t left deep → fewT t left deep = left - cnT t := by
  refine Tr.ind fun k n f s a c kids hk => ?_
  have hall : ∀ left deep, 0 ≤ fewAll kids left deep → fewAll kids left deep = left - cnA kids := by
    induction kids with
    | nil => intro left deep h0; simp [fewAll, cnA]
    | cons t r ih =>
      intro left deep h0
      simp only [fewAll] at h0 ⊢
      by_cases hl : left < 0
      · rw [if_pos hl] at h0; omega
      · rw [if_neg hl] at h0 ⊢
        have hn : 0 ≤ fewT t left deep := by
          by_cases hz : fewT t left deep < 0
          · rw [fewAll_stop _ _ _ hz] at h0; omega
          · omega
        have g := hk t (List.mem_cons_self ..) left deep hn
        have q := ih (fun u hu => hk u (List.mem_cons_of_mem _ hu)) (fewT t left deep) deep h0
        rw [q, g]
        simp only [cnA]
        omega
  intro left deep h0
  simp only [fewT] at h0 ⊢
  by_cases hc : left < 0 ∨ deep < 0
  · rw [if_pos hc] at h0; omega
  · rw [if_neg hc] at h0 ⊢
    rw [hall (left - 1) (deep - 1) h0]
    simp only [cnT]
    omega

theorem few_range : ∀ (t : Tr) (left deep : Int), 0 ≤ left → -1 ≤ fewT t left deep ∧ fewT t left deep ≤ left := by
  refine Tr.ind fun k n f s a c kids hk => ?_
  have hall : ∀ left deep, -1 ≤ left → -1 ≤ fewAll kids left deep ∧ fewAll kids left deep ≤ left := by
    induction kids with
    | nil => intro left deep h; simp [fewAll]; omega
    | cons t r ih =>
      intro left deep h
      simp only [fewAll]
      by_cases hl : left < 0
      · rw [if_pos hl]; omega
      · rw [if_neg hl]
        have g := hk t (List.mem_cons_self ..) left deep (by omega)
        have q := ih (fun u hu => hk u (List.mem_cons_of_mem _ hu)) (fewT t left deep) deep g.1
        omega
  intro left deep h
  simp only [fewT]
  by_cases hc : left < 0 ∨ deep < 0
  · rw [if_pos hc]; omega
  · rw [if_neg hc]
    have := hall (left - 1) (deep - 1) (by omega)
    omega

/-- What few says of each. -/
theorem few9_each {a : Option Addr} {c : Nat} {ts : List Tr} (h : 0 ≤ fewT (.mk 0 0 0 ⟨#[]⟩ a c ts) 150000 500) {t : Tr} (ht : t ∈ ts) : Small t ∧ cnT t ≤ 150001 := by
  have h1 := (few_small (.mk 0 0 0 ⟨#[]⟩ a c ts) 150000 500 (by omega) h).1
  have h2 := few_cn (.mk 0 0 0 ⟨#[]⟩ a c ts) 150000 500 h
  simp only [Small] at h1
  refine ⟨smallAll_get h1.2 ht, ?_⟩
  have h3 : ∀ l : List Tr, t ∈ l → cnT t ≤ cnA l := by
    intro l
    induction l with
    | nil => intro h; simp at h
    | cons u r ih =>
      intro h
      simp only [cnA]
      rcases List.mem_cons.1 h with rfl | h
      · omega
      · have := ih h; omega
  have := h3 ts ht
  simp only [cnT] at h2
  omega
def rgt9 (a : Option Addr) (c : Nat) (ts : List Tr) : Bool := decide (0 ≤ fewT (.mk 0 0 0 ⟨#[]⟩ a c ts) 150000 500) && ts.all (fun t => errT t == 0)

set_option maxHeartbeats 4000000 in
set_option maxRecDepth 100000 in
theorem right9_any {w : World} {a : Option Addr} {c : Nat} {kids : List Tr} (hin : ArgsIn w a c kids) (hsw : ∀ t ∈ kids, SmallW t) (h5 : kids.length ≤ 5) :
    Calls Tryz.prog 8 #[.slice a kids.length c] w fun e w' => e = .returned (.bool (rgt9 a c kids)) ∧ Below w.heap.size w w' := by
  have FW := hidb (few_any (.mk 0 0 0 ⟨#[]⟩ a c kids) 150000 500)
  have HFR := hidb (few_range (.mk 0 0 0 ⟨#[]⟩ a c kids) 150000 500 (by omega))
  simp only [Tr.val, Tr.cells] at FW
  obtain ⟨N, hN⟩ : ∃ N, kids.length = N := ⟨_, rfl⟩
  obtain ⟨FQ, hFQ⟩ : ∃ FQ, fewT (.mk 0 0 0 ⟨#[]⟩ a c kids) 150000 500 = FQ := ⟨_, rfl⟩
  obtain ⟨RQ, hRQ⟩ : ∃ RQ, rgt9 a c kids = RQ := ⟨_, rfl⟩
  have HRQ := hidb hRQ
  have HFQ := hidb hFQ
  rw [hN] at FW ⊢
  rw [hFQ] at FW HFR
  rw [hRQ]
  have HIN := hidb hin
  have HSW := hidb hsw
  have HN := hidb hN
  have hN5 : N ≤ 5 := by omega
  have hn5 : ¬ (5 : Int) < (N : Int) := by omega
  clear hin hsw h5 hN hFQ hRQ
  go_enter Tryz.func8, Tryz.ntmps8
  go_wp2_with fail
  refine (FW.out w HIN.out (by decide) (by decide) (by decide) (by decide)).mono ?_
  rintro e w1 ⟨rfl, hb1⟩
  have HB1 := hidb hb1
  clear hb1
  by_cases hF : FQ < 0
  · obtain rfl : RQ = false := by rw [← HRQ.out]; unfold rgt9; rw [HFQ.out]; simp; omega
    go_wp2_with fail
    go_ret
    exact ⟨rfl, HB1.out⟩
  · go_wp2_with fail
    go_loopw [3] (fun iv wr => ∃ i : Nat, i ≤ N ∧ iv = .int .i64 (i : Int) ∧ Below w.heap.size w wr ∧ ∀ (j : Nat) (q : Tr), j < i → kids[j]? = some q → errT q = 0) (fun iv _ => N - (RowKit.intOf iv).toNat)
    case atStart => exact ⟨0, by omega, rfl, HB1.out, fun j q hj => by omega⟩
    case round =>
    obtain ⟨i, hi, rfl, hb, hno⟩ := hrel
    have HB := hidb hb
    have HO := hidb hno
    have HI := hidb hi
    clear hb hno hi
    by_cases hil : i < N
    · have e1 : (i : Int) < (N : Int) := by omega
      have e2 : (0 : Int) ≤ (i : Int) := by omega
      obtain ⟨⟨k', n', f', s', a', c', ks'⟩, ht⟩ : ∃ t, kids[i]? = some t := ⟨_, List.getElem?_eq_getElem (by have := HN.out; omega)⟩
      obtain ⟨b, o, rfl, hbW, v0, v1, v2, v3, v4, hint⟩ := argi HIN.out HB.out ht
      have RR := hidb (rright_t (.mk k' n' f' s' a' c' ks') wr hint (HSW.out _ (List.mem_of_getElem? ht)))
      simp only [Tr.val, Tr.cells] at RR
      have HT := hidb ht
      clear ht hint
      by_cases he : errT (.mk k' n' f' s' a' c' ks') = 0
      · have he' : (errT (.mk k' n' f' s' a' c' ks') == 0) = true := by simpa using he
        rw [he'] at RR
        have HEr := hidb he
        clear he he'
        generalize ks'.length = L9 at *
        go_wp2_with fail
        refine RR.out.mono ?_
        rintro e w2 ⟨rfl, hb2⟩
        have HB2 := hidb (HB.out.trans (hb2.mono HB.out.size))
        clear hb2
        go_wp2_with fail
        go_roundw
        case rel => exact ⟨i + 1, by omega, by rw [Int.natCast_add]; rfl, HB2.out, fun j q hj hjq => by
          by_cases e : j < i
          · exact HO.out j q e hjq
          · obtain rfl : j = i := by omega
            obtain rfl := Option.some.inj (HT.out.symm.trans hjq)
            exact HEr.out⟩
        case measure => simp [RowKit.intOf]; omega
      · have he' : (errT (.mk k' n' f' s' a' c' ks') == 0) = false := by simpa using he
        rw [he'] at RR
        obtain rfl : RQ = false := by
          rw [← HRQ.out]
          unfold rgt9
          have : kids.all (fun t => errT t == 0) = false := by
            rw [List.all_eq_false]
            exact ⟨_, List.mem_of_getElem? HT.out, by simp [he]⟩
          rw [this, Bool.and_false]
        clear he he'
        generalize ks'.length = L9 at *
        go_wp2_with fail
        refine RR.out.mono ?_
        rintro e w2 ⟨rfl, hb2⟩
        have HB2 := hidb (HB.out.trans (hb2.mono HB.out.size))
        clear hb2
        go_wp2_with fail
        go_ret
        exact ⟨rfl, HB2.out⟩
    · have e1 : ¬ (i : Int) < (N : Int) := by omega
      obtain rfl : RQ = true := by
        rw [← HRQ.out]
        unfold rgt9
        rw [HFQ.out]
        have : kids.all (fun t => errT t == 0) = true := by
          rw [List.all_eq_true]
          intro t ht
          obtain ⟨j, hj⟩ := List.getElem?_of_mem ht
          have := HO.out j t (by have := (List.getElem?_eq_some_iff.1 hj).1; have := HN.out; omega) hj
          simp [this]
        rw [this, Bool.and_true]
        simp; omega
      go_wp2_with fail
      go_ret
      exact ⟨rfl, HB.out⟩
theorem rgt9_ok {a : Option Addr} {c : Nat} {ts : List Tr} (h : rgt9 a c ts = true) : ∀ t ∈ ts, errT t = 0 ∧ Small t ∧ cnT t ≤ 150001 := by
  unfold rgt9 at h
  simp only [Bool.and_eq_true, decide_eq_true_eq, List.all_eq_true, beq_iff_eq] at h
  exact fun t ht => ⟨h.2 t ht, few9_each h.1 ht⟩
end Go.Proofs.YtajadhkpadkikaaGreatDoor


