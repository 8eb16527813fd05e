import Derived.Test.YtliebilpddmhkaaGreatG24
import Derived.Test.YtliebilpddmhkaaGreatG28
import Derived.Test.YtliebilpddmhkaaGreatG26
/- Terms that are the same but for memory: their measure, whether they are right. -/
namespace Go.Proofs.YtliebilpddmhkaaGreat
open Go.RowKit Go.Lib Go.Deep
attribute [local go_sem] store_float f64bits
attribute [local go_sem ↓] Go.wp_at_zero Go.wp_at_succ

theorem sm_small : ∀ t t' : Tr, Sm t t' → (Small t → Small t') ∧ cnT t' = cnT t := by
  refine Tr.ind fun k n f s a c kids hk => ?_
  rintro ⟨k', n', f', s', a', c', kids'⟩ h
  unfold Sm at h
  have hl := smA_len h.2.2.2.2
  have hall : ∀ (l l' : List Tr), (∀ t, t ∈ l → t ∈ kids) → SmA l l' → (SmallAll l → SmallAll l') ∧ cnA l' = cnA l := by
    intro l
    induction l with
    | nil =>
      intro l' _ h
      cases l' with
      | nil => exact ⟨fun h => h, rfl⟩
      | cons => unfold SmA at h; exact h.elim
    | cons t r ih =>
      intro l' hm h
      cases l' with
      | nil => unfold SmA at h; exact h.elim
      | cons t' r' =>
        unfold SmA at h
        have h1 := hk t (hm t (by simp)) t' h.1
        have h2 := ih r' (fun u hu => hm u (by simp [hu])) h.2
        simp only [SmallAll, cnA]
        exact ⟨fun h => ⟨h1.1 h.1, h2.1 h.2⟩, by omega⟩
  have := hall kids kids' (fun t h => h) h.2.2.2.2
  simp only [Small, cnT]
  exact ⟨fun h => ⟨by omega, this.1 h.2⟩, by omega⟩


theorem sm_symm : ∀ t t' : Tr, Sm t t' → Sm t' t := by
  refine Tr.ind fun k n f s a c kids hk => ?_
  rintro ⟨k', n', f', s', a', c', kids'⟩ h
  unfold Sm at h ⊢
  obtain ⟨rfl, rfl, rfl, rfl, h⟩ := h
  refine ⟨rfl, rfl, rfl, rfl, ?_⟩
  have hall : ∀ (l l' : List Tr), (∀ t, t ∈ l → t ∈ kids) → SmA l l' → SmA l' l := by
    intro l
    induction l with
    | nil =>
      intro l' _ h
      cases l' with
      | nil => exact h
      | cons => unfold SmA at h; exact h.elim
    | cons t r ih =>
      intro l' hm h
      cases l' with
      | nil => unfold SmA at h; exact h.elim
      | cons t' r' =>
        unfold SmA at h ⊢
        exact ⟨hk t (hm t (by simp)) t' h.1, ih r' (fun u hu => hm u (by simp [hu])) h.2⟩
  exact hall kids kids' (fun t h => h) h

theorem meas_sm : ∀ t u : Tr, Sm t u → ∀ d m, meas u d m = meas t d m := by
  refine Tr.ind fun k n f s a c kids hk u hs => ?_
  obtain ⟨k', n', f', s', a', c', kids'⟩ := u
  unfold Sm at hs
  obtain ⟨rfl, rfl, rfl, rfl, hsa⟩ := hs
  have hl := smA_len hsa
  have hall : ∀ (l l' : List Tr), (∀ t, t ∈ l → t ∈ kids) → SmA l l' → ∀ d m n, measAll l' d m n = measAll l d m n := by
    intro l
    induction l with
    | nil => intro l' _ h d m n; cases l' with
      | nil => rfl
      | cons _ _ => unfold SmA at h; exact h.elim
    | cons t r ih => intro l' hm h d m n; cases l' with
      | nil => unfold SmA at h; exact h.elim
      | cons t' r' =>
        unfold SmA at h
        simp only [measAll]
        rw [hk t (hm t (List.mem_cons_self ..)) t' h.1]
        split
        · rfl
        · exact ih r' (fun u hu => hm u (List.mem_cons_of_mem _ hu)) h.2 _ _ _
  intro d m
  simp only [meas]
  rw [show kids'.length = kids.length by omega]
  split
  · rfl
  · exact hall kids kids' (fun _ h => h) hsa _ _ _
theorem good_sm : ∀ t u : Tr, Sm t u → allT goodT u = allT goodT t := by
  refine Tr.ind fun k n f s a c kids hk u hs => ?_
  obtain ⟨k', n', f', s', a', c', kids'⟩ := u
  unfold Sm at hs
  obtain ⟨rfl, rfl, rfl, rfl, hsa⟩ := hs
  have hl := smA_len hsa
  have hall : ∀ (l l' : List Tr), (∀ t, t ∈ l → t ∈ kids) → SmA l l' → allAll goodT l' = allAll goodT l := by
    intro l
    induction l with
    | nil => intro l' _ h; cases l' with
      | nil => rfl
      | cons _ _ => unfold SmA at h; exact h.elim
    | cons t r ih => intro l' hm h; cases l' with
      | nil => unfold SmA at h; exact h.elim
      | cons t' r' =>
        unfold SmA at h
        simp only [allAll]
        rw [hk t (hm t (List.mem_cons_self ..)) t' h.1, ih r' (fun u hu => hm u (List.mem_cons_of_mem _ hu)) h.2]
  simp only [allT, goodT]
  rw [show kids'.length = kids.length by omega, hall kids kids' (fun _ h => h) hsa]
theorem err_sm {t u : Tr} (h : Sm t u) : errT u = errT t := by
  unfold errT
  rw [meas_sm t u h, good_sm t u h]
theorem small_w : ∀ t : Tr, Small t → SmallW t := by
  refine Tr.ind fun k n f s a c kids hk h => ?_
  unfold Small at h
  unfold SmallW
  refine ⟨by omega, ?_⟩
  have hall : ∀ (l : List Tr), (∀ t, t ∈ l → t ∈ kids) → SmallAll l → SmallWAll l := by
    intro l
    induction l with
    | nil => intro _ _; unfold SmallWAll; trivial
    | cons t r ih =>
      intro hm h
      unfold SmallAll at h
      unfold SmallWAll
      exact ⟨hk t (hm t (List.mem_cons_self ..)) h.1, ih (fun u hu => hm u (List.mem_cons_of_mem _ hu)) h.2⟩
  exact hall kids (fun _ h => h) h.2
end Go.Proofs.YtliebilpddmhkaaGreat


/- The document's tuples. -/
namespace Go.Proofs.YtliebilpddmhkaaGreat
open Go.RowKit Go.Lib Go.Deep
attribute [local go_sem] store_float f64bits
attribute [local go_sem ↓] Go.wp_at_zero Go.wp_at_succ

set_option maxRecDepth 100000 in
set_option maxHeartbeats 8000000 in
theorem rMake_any (a : Option Addr) (c : Nat) (kids : List Tr) (w : World) (hin : (Tr.mk 7 0 0 ⟨#[]⟩ a c kids).In w 0) (hsm : Small (.mk 7 0 0 ⟨#[]⟩ a c kids)) (hok : ∀ t, t ∈ kids → errT t = 0) : Calls Tryz.prog 58 #[.int .i64 7, .slice a kids.length c] w (TupR (.mk 7 0 0 ⟨#[]⟩ a c kids) w) := by
  have hlen := len_small hin
  have CK := hidb (fun (w' : World) (hb : Below w.heap.size w w') => rcheck_t (.mk 7 0 0 ⟨#[]⟩ a c kids) w' (in_below hb hin) (small_w _ hsm))
  have CP := hidb (fun (w' : World) (hb : Below w.heap.size w w') => rcopy_any (.mk 7 0 0 ⟨#[]⟩ a c kids) w' (in_below hb hin) hsm)
  simp only [Tr.val, Tr.cells] at CK CP
  have HIN := hidb hin
  have HSM := hidb hsm
  have HOK := hidb hok
  obtain ⟨M, hM⟩ : ∃ M, kids.length = M := ⟨_, rfl⟩
  have HM := hidb hM
  rw [hM] at hlen CK CP ⊢
  have HR : Hid ((w.alloc (.cells #[.int .i64 0, .int .i64 0, .float .f64 0, .string ⟨#[]⟩, .slice none 0 0] 25)).heap[w.heap.size]? = some (.cells #[.int .i64 0, .int .i64 0, .float .f64 0, .string ⟨#[]⟩, .slice none 0 0] 25)) := hidb (at_new w _)
  have HB : Hid (Below w.heap.size w (w.alloc (.cells #[.int .i64 0, .int .i64 0, .float .f64 0, .string ⟨#[]⟩, .slice none 0 0] 25))) := hidb (below_new w _)
  obtain ⟨E, hE⟩ : ∃ E, errT (.mk 7 0 0 ⟨#[]⟩ a c kids) = E := ⟨_, rfl⟩
  rw [hE] at CK
  have HE := hidb hE
  clear hin hsm hok hM hE
  go_enter Tryz.func58, Tryz.ntmps58
  go_wp2_with fail
  generalize w.alloc (.cells #[.int .i64 0, .int .i64 0, .float .f64 0, .string ⟨#[]⟩, .slice none 0 0] 25) = wA at *
  go_loopw [6] (fun iv wr => ∃ (m : Nat), m ≤ M ∧ iv = .int .i64 m ∧ Below wA.heap.size wA wr) (fun iv _ => M - (RowKit.intOf iv).toNat)
  case atStart => exact ⟨0, by omega, rfl, Below.refl _ _⟩
  case round =>
  obtain ⟨m, hm, rfl, hby⟩ := hrel
  have HBY := hidb (HB.out.trans (hby.mono HB.out.size))
  have HRY := hidb (at_keep HR.out hby)
  have HYY := hidb hby
  by_cases hml : m < M
  · have hmb : (m : Int) < (M : Int) := by omega
    have hmz : (0 : Int) ≤ (m : Int) := by omega
    obtain ⟨b, o, rfl, hat⟩ := kid_at (in_below HBY.out HIN.out) (by have := HM.out; omega)
    obtain ⟨k', n', f', s', a', c', kids', hu, hin', c0, c1, c2, c3, c4⟩ := hat m (by have := HM.out; omega)
    have hmem := List.mem_of_getElem? hu
    have CC := hidb (fun (w' : World) (hb : Below wr.heap.size wr w') => rcheck_t (.mk k' n' f' s' a' c' kids') w' (in_below hb hin') (small_w _ (smallAll_get (by have := HSM.out; unfold Small at this; exact this.2) hmem)))
    rw [HOK.out _ hmem] at CC
    simp only [Tr.val, Tr.cells] at CC
    generalize kids'.length = tl' at *
    clear hat hu hin' hby hmem CK CP
    go_wp2_with (go_at_call 45; refine (CC.out _ (Below.refl _ _)).mono ?_; rintro e w1 ⟨rfl, hb1⟩; have HB1 := hidb (HYY.out.trans (hb1.mono HYY.out.size)); clear hb1)
    go_roundw
    case rel => exact ⟨m + 1, by omega, by go_num, HB1.out⟩
    case measure => simp [RowKit.intOf]; omega
  · have hmn : ¬ (m : Int) < (M : Int) := by omega
    clear hby HR HB HYY
    have hlt : w.heap.size < wr.heap.size := (Array.getElem?_eq_some_iff.1 HRY.out).1
    by_cases h0 : E = 0
    · subst h0
      go_wp2_with (first
        | (go_at_call 45; refine (CK.out _ (HBY.out.alloc HBY.out.size _)).mono ?_; rintro e w2 ⟨rfl, hb2⟩; have HR := hidb (at_keep (at_keep HRY.out (below_new _ _)) hb2); have HT := hidb (at_keep (at_new wr (.cells #[.int .i64 7, .int .i64 0, .float .f64 0, .string ⟨#[]⟩, .slice a M c] 25)) hb2); have HB := hidb ((HBY.out.alloc HBY.out.size _).trans (hb2.mono (HBY.out.alloc HBY.out.size _).size)); obtain ⟨u0, u1, u2, u3, u4⟩ := box5 HT.out; clear hb2)
        | (go_at_call 35; refine (CP.out _ HB.out).mono ?_; rintro e w3 ⟨⟨k2, n2, f2, s2, a2, c2, kids2⟩, rfl, hs2, hi2, hb3⟩; have HSX := hidb hs2; have HIX := hidb hi2; have HLT := hidb ((show w.heap.size < _ from (Array.getElem?_eq_some_iff.1 HR.out).1)); have HB := hidb (HB.out.trans (hb3.mono HB.out.size)); obtain ⟨r0, r1, r2, r3, r4⟩ := box5 (at_keep HR.out hb3); obtain ⟨g0, g1, g2, g3, g4⟩ := fro5 (at_keep HR.out hb3); clear hb3 hs2 hi2))
      exact bodyPost_ret (v := .tuple #[.agg #[.int .i64 k2, .int .i64 n2, .float .f64 f2, .string s2, .slice a2 kids2.length c2], .int .i64 0]) (by simp [results, Tryz.results58, go_sem, r0, r1, r2, r3, r4]) rfl (TupR.ok (by (repeat (refine Below.setCell ?_ (by first | (simp; done) | (simp; omega)) _)); exact HB.out) HE.out (.mk k2 n2 f2 s2 a2 c2 kids2) HSX.out (in_base (Nat.le_of_lt HLT.out) _ (in_set (in_set (in_set (in_set (in_set HIX.out HLT.out _) HLT.out _) HLT.out _) HLT.out _) HLT.out _)))
    · have h1 : (E != 0) = true := by simpa using h0
      have H0 := hidb (fun e => h0 (HE.out.symm.trans e))
      clear h0
      go_wp2_with (go_at_call 45; refine (CK.out _ (HBY.out.alloc HBY.out.size _)).mono ?_; rintro e w2 ⟨rfl, hb2⟩; have HR := hidb (at_keep (at_keep HRY.out (below_new _ _)) hb2); have HB := hidb ((HBY.out.alloc HBY.out.size _).trans (hb2.mono (HBY.out.alloc HBY.out.size _).size)); obtain ⟨r0, r1, r2, r3, r4⟩ := box5 HR.out; obtain ⟨g0, g1, g2, g3, g4⟩ := fro5 HR.out; clear hb2)
      exact bodyPost_ret (v := .tuple #[.agg #[.int .i64 0, .int .i64 0, .float .f64 0, .string ⟨#[]⟩, .slice none 0 0], .int .i64 12]) (by simp [results, Tryz.results58, go_sem, r0, r1, r2, r3, r4]) rfl (TupR.bad (by (repeat (refine Below.setCell ?_ (by first | (simp; done) | (simp; omega)) _)); exact HB.out) H0.out)

/-- The document's tuple: a term, or false. -/
def TupB (t : Tr) (w0 : World) (e : Ending) (w' : World) : Prop :=
  Below w0.heap.size w0 w' ∧ ((errT t = 0 ∧ ∃ (k2 n2 : Int) (f2 : Nat) (s2 : ByteArray) (a2 : Option Addr) (c2 : Nat) (kids2 : List Tr), e = .returned (.tuple #[.agg #[.int .i64 k2, .int .i64 n2, .float .f64 f2, .string s2, .slice a2 kids2.length c2], .bool true]) ∧ Sm t (.mk k2 n2 f2 s2 a2 c2 kids2) ∧ (Tr.mk k2 n2 f2 s2 a2 c2 kids2).In w' w0.heap.size) ∨ (¬ errT t = 0 ∧ e = .returned (.tuple #[.agg #[.int .i64 0, .int .i64 0, .float .f64 0, .string ⟨#[]⟩, .slice none 0 0], .bool false])))

set_option maxRecDepth 100000 in
set_option maxHeartbeats 4000000 in
theorem rtuple_any (a : Option Addr) (c : Nat) (kids : List Tr) (w : World) (hin : (Tr.mk 7 0 0 ⟨#[]⟩ a c kids).In w 0) (hsm : Small (.mk 7 0 0 ⟨#[]⟩ a c kids)) (hok : ∀ t, t ∈ kids → errT t = 0) : Calls Tryz.prog 43 #[.slice a kids.length c] w (TupB (.mk 7 0 0 ⟨#[]⟩ a c kids) w) := by
  have BD := hidb (fun (w' : World) (hb : Below w.heap.size w w') => rMake_any a c kids w' (in_below hb hin) hsm hok)
  have HR : Hid ((w.alloc (.cells #[.int .i64 0, .int .i64 0, .float .f64 0, .string ⟨#[]⟩, .slice none 0 0] 25)).heap[w.heap.size]? = some (.cells #[.int .i64 0, .int .i64 0, .float .f64 0, .string ⟨#[]⟩, .slice none 0 0] 25)) := hidb (at_new w _)
  have HB : Hid (Below w.heap.size w (w.alloc (.cells #[.int .i64 0, .int .i64 0, .float .f64 0, .string ⟨#[]⟩, .slice none 0 0] 25))) := hidb (below_new w _)
  generalize Tr.mk 7 0 0 ⟨#[]⟩ a c kids = T0 at *
  generalize kids.length = tl at *
  clear hin hsm hok
  by_cases h0 : errT T0 = 0
  · have BE : Hid (∀ (w' : World), Below w.heap.size w w' → Calls Tryz.prog 58 #[.int .i64 7, .slice a tl c] w' fun e w1 => ∃ (k2 n2 : Int) (f2 : Nat) (s2 : ByteArray) (a2 : Option Addr) (c2 : Nat) (kids2 : List Tr), e = .returned (.tuple #[.agg #[.int .i64 k2, .int .i64 n2, .float .f64 f2, .string s2, .slice a2 kids2.length c2], .int .i64 0]) ∧ Sm T0 (.mk k2 n2 f2 s2 a2 c2 kids2) ∧ (Tr.mk k2 n2 f2 s2 a2 c2 kids2).In w1 w'.heap.size ∧ Below w'.heap.size w' w1) := hidb (fun w' hb => (BD.out w' hb).mono (fun e w1 h => TupR.yes h0 h))
    have H0 := hidb h0
    clear BD h0
    go_enter Tryz.func43, Tryz.ntmps43
    go_wp2_with (go_at_call 58; refine (BE.out _ HB.out).mono ?_; rintro e w1 ⟨k2, n2, f2, s2, a2, c2, kids2, rfl, hs2, hi2, hb1⟩; have HSM := hidb hs2; have HIN := hidb hi2; have HLT := hidb ((show w.heap.size < _ from (Array.getElem?_eq_some_iff.1 HR.out).1)); have hlt1 : w.heap.size < w1.heap.size := Nat.lt_of_lt_of_le HLT.out hb1.size; have hne1 : w.heap.size ≠ w1.heap.size := Nat.ne_of_lt hlt1; have HB := hidb (HB.out.trans (hb1.mono HB.out.size)); obtain ⟨r0, r1, r2, r3, r4⟩ := box5 (at_keep HR.out hb1); obtain ⟨g0, g1, g2, g3, g4⟩ := fro5 (at_keep HR.out hb1); clear hb1 hs2 hi2)
    refine bodyPost_ret (v := .tuple #[.agg #[.int .i64 k2, .int .i64 n2, .float .f64 f2, .string s2, .slice a2 kids2.length c2], .bool true]) ?_ rfl ⟨?_, .inl ⟨H0.out, k2, n2, f2, s2, a2, c2, kids2, rfl, HSM.out, ?_⟩⟩
    · simp [results, Tryz.results43, go_sem, r0, r1, r2, r3, r4, cell_old, hlt1]
    · refine Below.alloc ?_ (by simp; exact HB.out.size) _; (repeat (refine Below.setCell ?_ (by simp) _)); exact HB.out
    · exact in_base (Nat.le_of_lt HLT.out) _ (in_alloc (in_set (in_set (in_set (in_set (in_set HIN.out HLT.out _) HLT.out _) HLT.out _) HLT.out _) HLT.out _) _)
  · have BE : Hid (∀ (w' : World), Below w.heap.size w w' → Calls Tryz.prog 58 #[.int .i64 7, .slice a tl c] w' fun e w1 => e = .returned (.tuple #[.agg #[.int .i64 0, .int .i64 0, .float .f64 0, .string ⟨#[]⟩, .slice none 0 0], .int .i64 12]) ∧ Below w'.heap.size w' w1) := hidb (fun w' hb => (BD.out w' hb).mono (fun e w1 h => TupR.no h0 h))
    have H0 := hidb h0
    clear BD h0
    go_enter Tryz.func43, Tryz.ntmps43
    go_wp2_with (go_at_call 58; refine (BE.out _ HB.out).mono ?_; rintro e w1 ⟨rfl, hb1⟩; have HLT := hidb ((show w.heap.size < _ from (Array.getElem?_eq_some_iff.1 HR.out).1)); have hlt1 : w.heap.size < w1.heap.size := Nat.lt_of_lt_of_le HLT.out hb1.size; have hne1 : w.heap.size ≠ w1.heap.size := Nat.ne_of_lt hlt1; have HB := hidb (HB.out.trans (hb1.mono HB.out.size)); obtain ⟨r0, r1, r2, r3, r4⟩ := box5 (at_keep HR.out hb1); obtain ⟨g0, g1, g2, g3, g4⟩ := fro5 (at_keep HR.out hb1); clear hb1)
    refine bodyPost_ret (v := .tuple #[.agg #[.int .i64 0, .int .i64 0, .float .f64 0, .string ⟨#[]⟩, .slice none 0 0], .bool false]) ?_ rfl ⟨?_, .inr ⟨H0.out, rfl⟩⟩
    · simp [results, Tryz.results43, go_sem, r0, r1, r2, r3, r4, cell_old, hlt1]
    · refine Below.alloc ?_ (by simp; exact HB.out.size) _; (repeat (refine Below.setCell ?_ (by simp) _)); exact HB.out
end Go.Proofs.YtliebilpddmhkaaGreat


