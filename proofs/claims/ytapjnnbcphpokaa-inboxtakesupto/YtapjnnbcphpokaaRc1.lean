/- Is a term right, all that it has: the document's Check, Right, Words, walked: just what the program's tell. -/
import Derived.Test.YtapjnnbcphpokaaRc0
import Derived.Test.YtapjnnbcphpokaaMeW
import Derived.Test.YtapjnnbcphpokaaChk
namespace Go.Proofs.Ytapjnnbcphpokaa
open Go.RowKit Go.Deep
attribute [local go_sem] store_float
attribute [local go_sem ↓] Go.wp_at_zero Go.wp_at_succ

set_option maxHeartbeats 1600000 in
set_option maxRecDepth 100000 in
theorem rall_any : ∀ (t : Tr) (w : World), t.In w 0 →
    Calls Try.prog 46 #[t.val] w fun e w' => e = .returned (.bool (allT goodT t)) ∧ Below w.heap.size w w' := by
  refine Tr.ind fun k n f s a c kids hk => ?_
  intro w hin
  show Calls Try.prog 46 #[.agg #[.int .i64 k, .int .i64 n, .float .f64 f, .string s, .slice a kids.length c]] w _
  have HK : Hid (∀ t, t ∈ kids → ∀ (w : World), t.In w 0 → Calls Try.prog 46 #[t.val] w fun e w' => e = .returned (.bool (allT goodT t)) ∧ Below w.heap.size w w') := hk
  have HIN : Hid ((Tr.mk k n f s a c kids).In w 0) := hin
  have hlen := len_small hin
  have cF := fields_any k n f s a kids.length c
  obtain ⟨QQ, hQQ⟩ : ∃ Q : Bool, allT goodT (.mk k n f s a c kids) = Q := ⟨_, rfl⟩
  have hq0 : QQ = (gF k n f s kids.length && allAll goodT kids) := by rw [← hQQ]; simp only [allT]; rw [goodT_gF]
  rw [hQQ]
  have HQ := hidb hq0
  clear hk hin hQQ hq0
  go_enter Try.func46, Try.ntmps46
  go_wp2_with fail
  refine (cF _).mono ?_
  rintro e w2 ⟨rfl, hb2⟩
  have B2 := box_then (Below.refl _ _) hb2
  have HB2 : Hid _ := B2
  obtain ⟨d0, d1, d2, d3, d4⟩ := box_at B2
  clear B2 hb2 cF
  cases hF : gF k n f s kids.length with
  | false =>
    have HF := hidb hF
    clear hF
    go_wp2_with fail
    go_ret
    exact ⟨gf_tell (by rw [HQ.out, HF.out]; rfl), box_below HB2.out⟩
  | true =>
    have HF := hidb hF
    clear hF
    go_wp2_with fail
    go_loopw [3] (fun iv wr => ∃ (m : Nat), m ≤ kids.length ∧ iv = .int .i64 m ∧ (allAll goodT kids = allAll goodT (kids.drop m)) ∧ Below (w.heap.size + 1) (w.alloc (.cells #[.int .i64 k, .int .i64 n, .float .f64 f, .string s, .slice a kids.length c] 36)) wr) (fun iv _ => kids.length - (intOf iv).toNat)
    case atStart => exact ⟨0, by omega, rfl, by simp, HB2.out⟩
    case round =>
      clear d0 d1 d2 d3 d4
      obtain ⟨m, hm, rfl, hrest, hbel⟩ := hrel
      have HR := hidb hrest
      have HB1 : Hid _ := hbel
      have d4 := (box_at hbel).2.2.2.2
      have HB : Hid (Below w.heap.size w wr) := box_below hbel
      clear hrest hbel
      by_cases hml : m < kids.length
      · have hmb : (m : Int) < (kids.length : Int) := by omega
        obtain ⟨b, o, rfl, hat⟩ := kid_at (in_below HB.out HIN.out) (by omega)
        obtain ⟨k', n', f', s', a', c', kids', hu, hin', c0, c1, c2, c3, c4⟩ := hat m hml
        have IH := HK.out _ (List.mem_of_getElem? hu) wr hin'
        have hmz : (0 : Int) ≤ (m : Int) := by omega
        have HD := hidb (drop_one hu)
        clear hu hin' hat
        go_wp2_with fail
        refine IH.mono ?_
        rintro e wz ⟨rfl, hbz⟩
        have HZ := box_then HB1.out hbz
        have HZH : Hid _ := HZ
        clear hbz IH HZ
        cases hA : allT goodT (.mk k' n' f' s' a' c' kids') with
        | false =>
          have HA := hidb hA
          clear hA
          go_wp2
          go_ret
          exact ⟨gf_tell (by rw [HQ.out, HR.out, HD.out]; simp only [allAll]; rw [HA.out]; simp), box_below HZH.out⟩
        | true =>
          have HA := hidb hA
          clear hA
          go_wp2
          go_roundw
          case rel => exact ⟨m + 1, by omega, by go_num, by rw [HR.out, HD.out]; simp only [allAll]; rw [HA.out]; simp, HZH.out⟩
          case measure => simp [intOf]; omega
      · have hmn : ¬ (m : Int) < (kids.length : Int) := by omega
        go_wp2
        go_ret
        exact ⟨gf_tell (by rw [HQ.out, HF.out, HR.out, List.drop_of_length_le (by omega)]; rfl), HB.out⟩


set_option maxHeartbeats 1000000 in
theorem rcheck_t (t : Tr) (w : World) (hin : t.In w 0) (hsm : SmallW t) : Calls Try.prog 36 #[t.val] w fun e w' => e = .returned (.int .i64 (errT t)) ∧ Below w.heap.size w w' := by
  cases t with
  | mk k n f s a c kids =>
    show Calls Try.prog 36 #[.agg #[.int .i64 k, .int .i64 n, .float .f64 f, .string s, .slice a kids.length c]] w _
    have cM := fun W h => rmeasureW_any (.mk k n f s a c kids) 200 65536 W h hsm (by decide) (by decide) (by decide) (by decide)
    have cA := fun W h => rall_any (.mk k n f s a c kids) W h
    have HIN := hidb hin
    unfold errT
    generalize meas (.mk k n f s a c kids) 200 65536 = M at cM ⊢
    generalize allT goodT (.mk k n f s a c kids) = A at cA ⊢
    clear hsm hin
    have hIn1 : ∀ {W : World}, Below w.heap.size w W → (Tr.mk k n f s a c kids).In W 0 := fun h => in_below h HIN.out
    by_cases hM : M < 0
    · rw [if_pos hM]
      go_enter Try.func36, Try.ntmps36
      go_wp2_with fail
      refine (cM _ (hIn1 (below_new w _))).mono ?_
      rintro e w2 ⟨rfl, hb2⟩
      have B2 := box_then (Below.refl _ _) hb2
      have HB2 : Hid _ := B2
      obtain ⟨d0, d1, d2, d3, d4⟩ := box_at B2
      clear B2 hb2
      go_wp2_with fail
      go_ret
      exact ⟨rfl, box_below HB2.out⟩
    · rw [if_neg hM]
      cases A with
      | false =>
        go_enter Try.func36, Try.ntmps36
        go_wp2_with fail
        refine (cM _ (hIn1 (below_new w _))).mono ?_
        rintro e w2 ⟨rfl, hb2⟩
        have B2 := box_then (Below.refl _ _) hb2
        have HB2 : Hid _ := B2
        obtain ⟨d0, d1, d2, d3, d4⟩ := box_at B2
        clear B2 hb2
        go_wp2_with fail
        refine (cA _ (hIn1 (box_below HB2.out))).mono ?_
        rintro e w3 ⟨rfl, hb3⟩
        have HB3 : Hid _ := box_then HB2.out hb3
        clear hb3
        go_wp2_with fail
        go_ret
        exact ⟨rfl, box_below HB3.out⟩
      | true =>
        go_enter Try.func36, Try.ntmps36
        go_wp2_with fail
        refine (cM _ (hIn1 (below_new w _))).mono ?_
        rintro e w2 ⟨rfl, hb2⟩
        have B2 := box_then (Below.refl _ _) hb2
        have HB2 : Hid _ := B2
        obtain ⟨d0, d1, d2, d3, d4⟩ := box_at B2
        clear B2 hb2
        go_wp2_with fail
        refine (cA _ (hIn1 (box_below HB2.out))).mono ?_
        rintro e w3 ⟨rfl, hb3⟩
        have HB3 : Hid _ := box_then HB2.out hb3
        clear hb3
        go_wp2_with fail
        go_ret
        exact ⟨rfl, box_below HB3.out⟩

set_option maxHeartbeats 1000000 in
theorem rright_t (t : Tr) (w : World) (hin : t.In w 0) (hsm : SmallW t) : Calls Try.prog 15 #[t.val] w fun e w' => e = .returned (.bool (errT t == 0)) ∧ Below w.heap.size w w' := by
  have cC := rcheck_t t
  generalize errT t = R at cC ⊢
  have HIN := hidb hin
  cases t with
  | mk k n f s a c kids =>
    replace cC : ∀ (w : World), (Tr.mk k n f s a c kids).In w 0 → SmallW (.mk k n f s a c kids) → Calls Try.prog 36 #[.agg #[.int .i64 k, .int .i64 n, .float .f64 f, .string s, .slice a kids.length c]] w fun e w' => e = .returned (.int .i64 R) ∧ Below w.heap.size w w' := cC
    show Calls Try.prog 15 #[.agg #[.int .i64 k, .int .i64 n, .float .f64 f, .string s, .slice a kids.length c]] w _
    have HSM := hidb hsm
    clear hin hsm
    go_enter Try.func15, Try.ntmps15
    go_wp2_with fail
    refine (cC _ (in_below (below_new w _) HIN.out) HSM.out).mono ?_
    rintro e w2 ⟨rfl, hb2⟩
    have HB2 : Hid _ := box_then (Below.refl _ _) hb2
    clear hb2
    go_wp2_with fail
    go_ret
    exact ⟨rfl, box_below HB2.out⟩

set_option maxHeartbeats 1000000 in
theorem rwords_t (t : Tr) (w : World) (hin : t.In w 0) (hsm : SmallW t) : Calls Try.prog 49 #[t.val] w fun e w' => e = .returned (.tuple #[.int .i64 (wordsT t), .int .i64 (errT t)]) ∧ Below w.heap.size w w' := by
  have cC := rcheck_t t
  have cM := fun W h => rmeasureW_any t 200 65536 W h hsm (by decide) (by decide) (by decide) (by decide)
  unfold wordsT
  generalize errT t = R at cC ⊢
  generalize meas t 200 65536 = M at cM ⊢
  have HIN := hidb hin
  cases t with
  | mk k n f s a c kids =>
    replace cC : ∀ (w : World), (Tr.mk k n f s a c kids).In w 0 → SmallW (.mk k n f s a c kids) → Calls Try.prog 36 #[.agg #[.int .i64 k, .int .i64 n, .float .f64 f, .string s, .slice a kids.length c]] w fun e w' => e = .returned (.int .i64 R) ∧ Below w.heap.size w w' := cC
    replace cM : ∀ (w : World), (Tr.mk k n f s a c kids).In w 0 → Calls Try.prog 45 #[.agg #[.int .i64 k, .int .i64 n, .float .f64 f, .string s, .slice a kids.length c], .int .i64 200, .int .i64 65536] w fun e w' => e = .returned (.int .i64 M) ∧ Below w.heap.size w w' := cM
    show Calls Try.prog 49 #[.agg #[.int .i64 k, .int .i64 n, .float .f64 f, .string s, .slice a kids.length c]] w _
    have HSM := hidb hsm
    have hIn1 : ∀ {W : World}, Below w.heap.size w W → (Tr.mk k n f s a c kids).In W 0 := fun h => in_below h HIN.out
    clear hin hsm
    by_cases h0 : R = 0
    · subst h0
      go_enter Try.func49, Try.ntmps49
      go_wp2_with fail
      refine (cC _ (hIn1 (below_new w _)) HSM.out).mono ?_
      rintro e w2 ⟨rfl, hb2⟩
      have B2 := box_then (Below.refl _ _) hb2
      have HB2 : Hid _ := B2
      obtain ⟨d0, d1, d2, d3, d4⟩ := box_at B2
      clear B2 hb2
      go_wp2_with fail
      refine (cM _ (hIn1 (box_below HB2.out))).mono ?_
      rintro e w3 ⟨rfl, hb3⟩
      have HB3 : Hid _ := box_then HB2.out hb3
      clear hb3
      go_wp2_with fail
      exact bodyPost_ret (v := .tuple #[.int .i64 M, .int .i64 0]) (by simp [results, Try.results49, go_sem]) rfl ⟨rfl, box_below HB3.out⟩
    · have k0 : (R == 0) = false := by simpa using h0
      rw [if_neg h0]
      go_enter Try.func49, Try.ntmps49
      go_wp2_with fail
      refine (cC _ (hIn1 (below_new w _)) HSM.out).mono ?_
      rintro e w2 ⟨rfl, hb2⟩
      have B2 := box_then (Below.refl _ _) hb2
      have HB2 : Hid _ := B2
      obtain ⟨d0, d1, d2, d3, d4⟩ := box_at B2
      clear B2 hb2
      clear h0
      go_wp2_with fail
      exact bodyPost_ret (v := .tuple #[.int .i64 0, .int .i64 R]) (by simp [results, Try.results49, go_sem]) rfl ⟨rfl, box_below HB2.out⟩
end Go.Proofs.Ytapjnnbcphpokaa
