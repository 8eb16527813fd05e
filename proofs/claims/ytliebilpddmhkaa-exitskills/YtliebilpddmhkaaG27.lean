import Derived.Test.YtliebilpddmhkaaG25
import Derived.Test.YtliebilpddmhkaaG26
import Derived.Test.YtliebilpddmhkaaG11
import Derived.Test.YtliebilpddmhkaaG24
/- Is a term right, all that it has: the document's Check, Right, Words, walked: just what the program's tell. -/
namespace Go.Proofs.Ytliebilpddmhkaa
open Go.RowKit Go.Deep
attribute [local go_sem] store_float
attribute [local go_sem ↓] Go.wp_at_zero Go.wp_at_succ

set_option maxHeartbeats 1600000 in
set_option maxRecDepth 100000 in
theorem rall_any : ∀ (t : Tr) (w : World), t.In w 0 →
    Calls Try.prog 35 #[t.val] w fun e w' => e = .returned (.bool (allT goodT t)) ∧ Below w.heap.size w w' := by
  refine Tr.ind fun k n f s a c kids hk => ?_
  intro w hin
  show Calls Try.prog 35 #[.agg #[.int .i64 k, .int .i64 n, .float .f64 f, .string s, .slice a kids.length c]] w _
  have HK : Hid (∀ t, t ∈ kids → ∀ (w : World), t.In w 0 → Calls Try.prog 35 #[t.val] w fun e w' => e = .returned (.bool (allT goodT t)) ∧ Below w.heap.size w w') := hk
  have HIN : Hid ((Tr.mk k n f s a c kids).In w 0) := hin
  have hlen := len_small hin
  have cF := fields_any k n f s a kids.length c
  obtain ⟨QQ, hQQ⟩ : ∃ Q : Bool, allT goodT (.mk k n f s a c kids) = Q := ⟨_, rfl⟩
  have hq0 : QQ = (gF k n f s kids.length && allAll goodT kids) := by rw [← hQQ]; simp only [allT]; rw [goodT_gF]
  rw [hQQ]
  have HQ := hidb hq0
  clear hk hin hQQ hq0
  go_enter Try.func35, Try.ntmps35
  go_wp2_with fail
  refine (cF _).mono ?_
  rintro e w2 ⟨rfl, hb2⟩
  have B2 := box_then (Below.refl _ _) hb2
  have HB2 : Hid _ := B2
  obtain ⟨d0, d1, d2, d3, d4⟩ := box_at B2
  clear B2 hb2 cF
  cases hF : gF k n f s kids.length with
  | false =>
    have HF := hidb hF
    clear hF
    go_wp2_with fail
    go_ret
    exact ⟨gf_tell (by rw [HQ.out, HF.out]; rfl), box_below HB2.out⟩
  | true =>
    have HF := hidb hF
    clear hF
    go_wp2_with fail
    go_loopw [3] (fun iv wr => ∃ (m : Nat), m ≤ kids.length ∧ iv = .int .i64 m ∧ (allAll goodT kids = allAll goodT (kids.drop m)) ∧ Below (w.heap.size + 1) (w.alloc (.cells #[.int .i64 k, .int .i64 n, .float .f64 f, .string s, .slice a kids.length c] 25)) wr) (fun iv _ => kids.length - (intOf iv).toNat)
    case atStart => exact ⟨0, by omega, rfl, by simp, HB2.out⟩
    case round =>
      clear d0 d1 d2 d3 d4
      obtain ⟨m, hm, rfl, hrest, hbel⟩ := hrel
      have HR := hidb hrest
      have HB1 : Hid _ := hbel
      have d4 := (box_at hbel).2.2.2.2
      have HB : Hid (Below w.heap.size w wr) := box_below hbel
      clear hrest hbel
      by_cases hml : m < kids.length
      · have hmb : (m : Int) < (kids.length : Int) := by omega
        obtain ⟨b, o, rfl, hat⟩ := kid_at (in_below HB.out HIN.out) (by omega)
        obtain ⟨k', n', f', s', a', c', kids', hu, hin', c0, c1, c2, c3, c4⟩ := hat m hml
        have IH := HK.out _ (List.mem_of_getElem? hu) wr hin'
        have hmz : (0 : Int) ≤ (m : Int) := by omega
        have HD := hidb (drop_one hu)
        clear hu hin' hat
        go_wp2_with fail
        refine IH.mono ?_
        rintro e wz ⟨rfl, hbz⟩
        have HZ := box_then HB1.out hbz
        have HZH : Hid _ := HZ
        clear hbz IH HZ
        cases hA : allT goodT (.mk k' n' f' s' a' c' kids') with
        | false =>
          have HA := hidb hA
          clear hA
          go_wp2
          go_ret
          exact ⟨gf_tell (by rw [HQ.out, HR.out, HD.out]; simp only [allAll]; rw [HA.out]; simp), box_below HZH.out⟩
        | true =>
          have HA := hidb hA
          clear hA
          go_wp2
          go_roundw
          case rel => exact ⟨m + 1, by omega, by go_num, by rw [HR.out, HD.out]; simp only [allAll]; rw [HA.out]; simp, HZH.out⟩
          case measure => simp [intOf]; omega
      · have hmn : ¬ (m : Int) < (kids.length : Int) := by omega
        go_wp2
        go_ret
        exact ⟨gf_tell (by rw [HQ.out, HF.out, HR.out, List.drop_of_length_le (by omega)]; rfl), HB.out⟩


set_option maxHeartbeats 1000000 in
theorem rcheck_t (t : Tr) (w : World) (hin : t.In w 0) (hsm : SmallW t) : Calls Try.prog 25 #[t.val] w fun e w' => e = .returned (.int .i64 (errT t)) ∧ Below w.heap.size w w' := by
  cases t with
  | mk k n f s a c kids =>
    show Calls Try.prog 25 #[.agg #[.int .i64 k, .int .i64 n, .float .f64 f, .string s, .slice a kids.length c]] w _
    have cM := fun W h => rmeasureW_any (.mk k n f s a c kids) 200 65536 W h hsm (by decide) (by decide) (by decide) (by decide)
    have cA := fun W h => rall_any (.mk k n f s a c kids) W h
    have HIN := hidb hin
    unfold errT
    generalize meas (.mk k n f s a c kids) 200 65536 = M at cM ⊢
    generalize allT goodT (.mk k n f s a c kids) = A at cA ⊢
    clear hsm hin
    have hIn1 : ∀ {W : World}, Below w.heap.size w W → (Tr.mk k n f s a c kids).In W 0 := fun h => in_below h HIN.out
    by_cases hM : M < 0
    · rw [if_pos hM]
      go_enter Try.func25, Try.ntmps25
      go_wp2_with fail
      refine (cM _ (hIn1 (below_new w _))).mono ?_
      rintro e w2 ⟨rfl, hb2⟩
      have B2 := box_then (Below.refl _ _) hb2
      have HB2 : Hid _ := B2
      obtain ⟨d0, d1, d2, d3, d4⟩ := box_at B2
      clear B2 hb2
      go_wp2_with fail
      go_ret
      exact ⟨rfl, box_below HB2.out⟩
    · rw [if_neg hM]
      cases A with
      | false =>
        go_enter Try.func25, Try.ntmps25
        go_wp2_with fail
        refine (cM _ (hIn1 (below_new w _))).mono ?_
        rintro e w2 ⟨rfl, hb2⟩
        have B2 := box_then (Below.refl _ _) hb2
        have HB2 : Hid _ := B2
        obtain ⟨d0, d1, d2, d3, d4⟩ := box_at B2
        clear B2 hb2
        go_wp2_with fail
        refine (cA _ (hIn1 (box_below HB2.out))).mono ?_
        rintro e w3 ⟨rfl, hb3⟩
        have HB3 : Hid _ := box_then HB2.out hb3
        clear hb3
        go_wp2_with fail
        go_ret
        exact ⟨rfl, box_below HB3.out⟩
      | true =>
        go_enter Try.func25, Try.ntmps25
        go_wp2_with fail
        refine (cM _ (hIn1 (below_new w _))).mono ?_
        rintro e w2 ⟨rfl, hb2⟩
        have B2 := box_then (Below.refl _ _) hb2
        have HB2 : Hid _ := B2
        obtain ⟨d0, d1, d2, d3, d4⟩ := box_at B2
        clear B2 hb2
        go_wp2_with fail
        refine (cA _ (hIn1 (box_below HB2.out))).mono ?_
        rintro e w3 ⟨rfl, hb3⟩
        have HB3 : Hid _ := box_then HB2.out hb3
        clear hb3
        go_wp2_with fail
        go_ret
        exact ⟨rfl, box_below HB3.out⟩

set_option maxHeartbeats 1000000 in
theorem rright_t (t : Tr) (w : World) (hin : t.In w 0) (hsm : SmallW t) : Calls Try.prog 13 #[t.val] w fun e w' => e = .returned (.bool (errT t == 0)) ∧ Below w.heap.size w w' := by
  have cC := rcheck_t t
  generalize errT t = R at cC ⊢
  have HIN := hidb hin
  cases t with
  | mk k n f s a c kids =>
    replace cC : ∀ (w : World), (Tr.mk k n f s a c kids).In w 0 → SmallW (.mk k n f s a c kids) → Calls Try.prog 25 #[.agg #[.int .i64 k, .int .i64 n, .float .f64 f, .string s, .slice a kids.length c]] w fun e w' => e = .returned (.int .i64 R) ∧ Below w.heap.size w w' := cC
    show Calls Try.prog 13 #[.agg #[.int .i64 k, .int .i64 n, .float .f64 f, .string s, .slice a kids.length c]] w _
    have HSM := hidb hsm
    clear hin hsm
    go_enter Try.func13, Try.ntmps13
    go_wp2_with fail
    refine (cC _ (in_below (below_new w _) HIN.out) HSM.out).mono ?_
    rintro e w2 ⟨rfl, hb2⟩
    have HB2 : Hid _ := box_then (Below.refl _ _) hb2
    clear hb2
    go_wp2_with fail
    go_ret
    exact ⟨rfl, box_below HB2.out⟩

end Go.Proofs.Ytliebilpddmhkaa


/- Terms that are the same but for memory: their measure, whether they are right. -/
namespace Go.Proofs.Ytliebilpddmhkaa
open Go.RowKit Go.Lib Go.Deep
attribute [local go_sem] store_float f64bits
attribute [local go_sem ↓] Go.wp_at_zero Go.wp_at_succ

theorem sm_small : ∀ t t' : Tr, Sm t t' → (Small t → Small t') ∧ cnT t' = cnT t := by
  refine Tr.ind fun k n f s a c kids hk => ?_
  rintro ⟨k', n', f', s', a', c', kids'⟩ h
  unfold Sm at h
  have hl := smA_len h.2.2.2.2
  have hall : ∀ (l l' : List Tr), (∀ t, t ∈ l → t ∈ kids) → SmA l l' → (SmallAll l → SmallAll l') ∧ cnA l' = cnA l := by
    intro l
    induction l with
    | nil =>
      intro l' _ h
      cases l' with
      | nil => exact ⟨fun h => h, rfl⟩
      | cons => unfold SmA at h; exact h.elim
    | cons t r ih =>
      intro l' hm h
      cases l' with
      | nil => unfold SmA at h; exact h.elim
      | cons t' r' =>
        unfold SmA at h
        have h1 := hk t (hm t (by simp)) t' h.1
        have h2 := ih r' (fun u hu => hm u (by simp [hu])) h.2
        simp only [SmallAll, cnA]
        exact ⟨fun h => ⟨h1.1 h.1, h2.1 h.2⟩, by omega⟩
  have := hall kids kids' (fun t h => h) h.2.2.2.2
  simp only [Small, cnT]
  exact ⟨fun h => ⟨by omega, this.1 h.2⟩, by omega⟩


theorem sm_symm : ∀ t t' : Tr, Sm t t' → Sm t' t := by
  refine Tr.ind fun k n f s a c kids hk => ?_
  rintro ⟨k', n', f', s', a', c', kids'⟩ h
  unfold Sm at h ⊢
  obtain ⟨rfl, rfl, rfl, rfl, h⟩ := h
  refine ⟨rfl, rfl, rfl, rfl, ?_⟩
  have hall : ∀ (l l' : List Tr), (∀ t, t ∈ l → t ∈ kids) → SmA l l' → SmA l' l := by
    intro l
    induction l with
    | nil =>
      intro l' _ h
      cases l' with
      | nil => exact h
      | cons => unfold SmA at h; exact h.elim
    | cons t r ih =>
      intro l' hm h
      cases l' with
      | nil => unfold SmA at h; exact h.elim
      | cons t' r' =>
        unfold SmA at h ⊢
        exact ⟨hk t (hm t (by simp)) t' h.1, ih r' (fun u hu => hm u (by simp [hu])) h.2⟩
  exact hall kids kids' (fun t h => h) h

theorem meas_sm : ∀ t u : Tr, Sm t u → ∀ d m, meas u d m = meas t d m := by
  refine Tr.ind fun k n f s a c kids hk u hs => ?_
  obtain ⟨k', n', f', s', a', c', kids'⟩ := u
  unfold Sm at hs
  obtain ⟨rfl, rfl, rfl, rfl, hsa⟩ := hs
  have hl := smA_len hsa
  have hall : ∀ (l l' : List Tr), (∀ t, t ∈ l → t ∈ kids) → SmA l l' → ∀ d m n, measAll l' d m n = measAll l d m n := by
    intro l
    induction l with
    | nil => intro l' _ h d m n; cases l' with
      | nil => rfl
      | cons _ _ => unfold SmA at h; exact h.elim
    | cons t r ih => intro l' hm h d m n; cases l' with
      | nil => unfold SmA at h; exact h.elim
      | cons t' r' =>
        unfold SmA at h
        simp only [measAll]
        rw [hk t (hm t (List.mem_cons_self ..)) t' h.1]
        split
        · rfl
        · exact ih r' (fun u hu => hm u (List.mem_cons_of_mem _ hu)) h.2 _ _ _
  intro d m
  simp only [meas]
  rw [show kids'.length = kids.length by omega]
  split
  · rfl
  · exact hall kids kids' (fun _ h => h) hsa _ _ _
theorem good_sm : ∀ t u : Tr, Sm t u → allT goodT u = allT goodT t := by
  refine Tr.ind fun k n f s a c kids hk u hs => ?_
  obtain ⟨k', n', f', s', a', c', kids'⟩ := u
  unfold Sm at hs
  obtain ⟨rfl, rfl, rfl, rfl, hsa⟩ := hs
  have hl := smA_len hsa
  have hall : ∀ (l l' : List Tr), (∀ t, t ∈ l → t ∈ kids) → SmA l l' → allAll goodT l' = allAll goodT l := by
    intro l
    induction l with
    | nil => intro l' _ h; cases l' with
      | nil => rfl
      | cons _ _ => unfold SmA at h; exact h.elim
    | cons t r ih => intro l' hm h; cases l' with
      | nil => unfold SmA at h; exact h.elim
      | cons t' r' =>
        unfold SmA at h
        simp only [allAll]
        rw [hk t (hm t (List.mem_cons_self ..)) t' h.1, ih r' (fun u hu => hm u (List.mem_cons_of_mem _ hu)) h.2]
  simp only [allT, goodT]
  rw [show kids'.length = kids.length by omega, hall kids kids' (fun _ h => h) hsa]
theorem err_sm {t u : Tr} (h : Sm t u) : errT u = errT t := by
  unfold errT
  rw [meas_sm t u h, good_sm t u h]
theorem small_w : ∀ t : Tr, Small t → SmallW t := by
  refine Tr.ind fun k n f s a c kids hk h => ?_
  unfold Small at h
  unfold SmallW
  refine ⟨by omega, ?_⟩
  have hall : ∀ (l : List Tr), (∀ t, t ∈ l → t ∈ kids) → SmallAll l → SmallWAll l := by
    intro l
    induction l with
    | nil => intro _ _; unfold SmallWAll; trivial
    | cons t r ih =>
      intro hm h
      unfold SmallAll at h
      unfold SmallWAll
      exact ⟨hk t (hm t (List.mem_cons_self ..)) h.1, ih (fun u hu => hm u (List.mem_cons_of_mem _ hu)) h.2⟩
  exact hall kids (fun _ h => h) h.2
end Go.Proofs.Ytliebilpddmhkaa


