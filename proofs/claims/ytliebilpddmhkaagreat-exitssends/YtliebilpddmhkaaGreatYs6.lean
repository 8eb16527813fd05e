import Derived.Test.YtliebilpddmhkaaGreatG32
/- What an end sends: the program's and the document's side by side. -/
namespace Go.Proofs.YtliebilpddmhkaaGreat
open Go.RowKit Go.Lib Go.Deep
attribute [local go_sem] store_float f64bits
attribute [local go_sem ↓] Go.wp_at_zero Go.wp_at_succ

theorem few_cn : ∀ (t : Tr) (left deep : Int), 0 ≤ fewT t left deep → fewT t left deep = left - cnT t := by
  refine Tr.ind fun k n f s a c kids hk => ?_
  have hall : ∀ left deep, 0 ≤ fewAll kids left deep → fewAll kids left deep = left - cnA kids := by
    induction kids with
    | nil => intro left deep h0; simp [fewAll, cnA]
    | cons t r ih =>
      intro left deep h0
      simp only [fewAll] at h0 ⊢
      by_cases hl : left < 0
      · rw [if_pos hl] at h0; omega
      · rw [if_neg hl] at h0 ⊢
        have hn : 0 ≤ fewT t left deep := by
          by_cases hz : fewT t left deep < 0
          · rw [fewAll_stop _ _ _ hz] at h0; omega
          · omega
        have g := hk t (List.mem_cons_self ..) left deep hn
        have q := ih (fun u hu => hk u (List.mem_cons_of_mem _ hu)) (fewT t left deep) deep h0
        rw [q, g]
        simp only [cnA]
        omega
  intro left deep h0
  simp only [fewT] at h0 ⊢
  by_cases hc : left < 0 ∨ deep < 0
  · rw [if_pos hc] at h0; omega
  · rw [if_neg hc] at h0 ⊢
    rw [hall (left - 1) (deep - 1) h0]
    simp only [cnT]
    omega


theorem few_ok {t : Tr} (h : 0 ≤ fewT t 100000 1000) : Small t ∧ cnT t ≤ 100000 := by
  have h1 := few_small t 100000 1000 (by decide) h
  have h2 := few_cn t 100000 1000 h
  exact ⟨h1.1, by omega⟩
theorem sm_trans : ∀ t t' t'' : Tr, Sm t t' → Sm t' t'' → Sm t t'' := by
  refine Tr.ind fun k n f s a c kids hk => ?_
  rintro ⟨k', n', f', s', a', c', kids'⟩ ⟨k2, n2, f2, s2, a2, c2, kids2⟩ h h2
  unfold Sm at h h2 ⊢
  obtain ⟨rfl, rfl, rfl, rfl, h⟩ := h
  obtain ⟨rfl, rfl, rfl, rfl, h2⟩ := h2
  refine ⟨rfl, rfl, rfl, rfl, ?_⟩
  have hall : ∀ (l l' l2 : List Tr), (∀ t, t ∈ l → t ∈ kids) → SmA l l' → SmA l' l2 → SmA l l2 := by
    intro l
    induction l with
    | nil =>
      intro l' l2 _ h h2
      cases l' with
      | nil => exact h2
      | cons => unfold SmA at h; exact h.elim
    | cons t r ih =>
      intro l' l2 hm h h2
      cases l' with
      | nil => unfold SmA at h; exact h.elim
      | cons t' r' =>
        cases l2 with
        | nil => unfold SmA at h2; exact h2.elim
        | cons t2 r2 =>
          unfold SmA at h h2 ⊢
          exact ⟨hk t (hm t (by simp)) t' t2 h.1 h2.1, ih r' r2 (fun u hu => hm u (by simp [hu])) h.2 h2.2⟩
  exact hall kids kids' kids2 (fun t h => h) h h2
theorem sm_same {t u v : Tr} (h1 : Sm t u) (h2 : Sm t v) : Sm u v := sm_trans _ _ _ (sm_symm _ _ h1) h2
theorem reasonS (cl : Int) (tk tn : Int) (tf : Nat) (ts : ByteArray) (ta : Option Addr) (tc : Nat) (kids : List Tr) (w : World) (hin : (Tr.mk tk tn tf ts ta tc kids).In w 0) (hsm : Small (.mk tk tn tf ts ta tc kids)) (hcn : cnT (.mk tk tn tf ts ta tc kids) ≤ 100000) : ∃ (TR : Tr) (er : Int), (∀ W, Below w.heap.size w W → Calls Tryz.prog 13 #[.int .i64 cl, .agg #[.int .i64 tk, .int .i64 tn, .float .f64 tf, .string ts, .slice ta kids.length tc]] W (fun e w' => ∃ (k2 n2 : Int) (f2 : Nat) (s2 : ByteArray) (a2 : Option Addr) (c2 : Nat) (kids2 : List Tr), e = .returned (.tuple #[.agg #[.int .i64 k2, .int .i64 n2, .float .f64 f2, .string s2, .slice a2 kids2.length c2], .int .i64 er]) ∧ Sm TR (.mk k2 n2 f2 s2 a2 c2 kids2) ∧ (Tr.mk k2 n2 f2 s2 a2 c2 kids2).In w' W.heap.size ∧ Below W.heap.size W w')) ∧ (∀ W, Below w.heap.size w W → Calls Tryz.prog 14 #[.int .i64 cl, .agg #[.int .i64 tk, .int .i64 tn, .float .f64 tf, .string ts, .slice ta kids.length tc]] W (fun e w' => ∃ (k2 n2 : Int) (f2 : Nat) (s2 : ByteArray) (a2 : Option Addr) (c2 : Nat) (kids2 : List Tr), e = .returned (.tuple #[.agg #[.int .i64 k2, .int .i64 n2, .float .f64 f2, .string s2, .slice a2 kids2.length c2], .int .i64 er]) ∧ Sm TR (.mk k2 n2 f2 s2 a2 c2 kids2) ∧ (Tr.mk k2 n2 f2 s2 a2 c2 kids2).In w' W.heap.size ∧ Below W.heap.size W w')) := by
  by_cases h1 : cl = 1
  · subst h1
    by_cases h0 : errT (.mk tk tn tf ts ta tc kids) = 0
    · exact ⟨(.mk tk tn tf ts ta tc kids), 0, fun W hW => reason_cp1 tk tn tf ts ta tc kids W (in_below hW hin) hsm hcn h0, fun W hW => rreason_cp1 tk tn tf ts ta tc kids W (in_below hW hin) hsm hcn h0⟩
    · exact ⟨zTr, 4, fun W hW => reason_ref1 tk tn tf ts ta tc kids W (in_below hW hin) hsm h0, fun W hW => rreason_ref1 tk tn tf ts ta tc kids W (in_below hW hin) hsm h0⟩
  by_cases h2 : cl = 2
  · subst h2
    by_cases h0 : errT (.mk tk tn tf ts ta tc kids) = 0
    · exact ⟨(.mk tk tn tf ts ta tc kids), 0, fun W hW => reason_cp2 tk tn tf ts ta tc kids W (in_below hW hin) hsm hcn h0, fun W hW => rreason_cp2 tk tn tf ts ta tc kids W (in_below hW hin) hsm hcn h0⟩
    · exact ⟨zTr, 4, fun W hW => reason_ref2 tk tn tf ts ta tc kids W (in_below hW hin) hsm h0, fun W hW => rreason_ref2 tk tn tf ts ta tc kids W (in_below hW hin) hsm h0⟩
  by_cases h3 : cl = 3
  · subst h3
    by_cases h0 : errT (.mk tk tn tf ts ta tc kids) = 0
    · by_cases hn : errT (ncOf (.mk tk tn tf ts ta tc kids)) = 0
      · exact ⟨ncOf (.mk tk tn tf ts ta tc kids), 0, fun W hW => reason_nc tk tn tf ts ta tc kids W (in_below hW hin) hsm hcn h0 hn, fun W hW => rreason_nc tk tn tf ts ta tc kids W (in_below hW hin) hsm hcn h0 hn⟩
      · exact ⟨sysT, 0, fun W hW => reason_sys tk tn tf ts ta tc kids W (in_below hW hin) hsm hcn h0 hn, fun W hW => rreason_sys tk tn tf ts ta tc kids W (in_below hW hin) hsm hcn h0 hn⟩
    · exact ⟨zTr, 4, fun W hW => reason_ref3 tk tn tf ts ta tc kids W (in_below hW hin) hsm h0, fun W hW => rreason_ref3 tk tn tf ts ta tc kids W (in_below hW hin) hsm h0⟩
  refine ⟨zTr, 1, fun W _ => reason_bad cl tk tn tf ts ta tc kids W h1 h2 h3, fun W _ => ?_⟩
  by_cases h4 : cl < 1
  · exact rreason_lo cl tk tn tf ts ta tc kids W h4
  · exact rreason_hi cl tk tn tf ts ta tc kids W (by omega)
theorem emitS (self hp hs hid : Int) (tk tn : Int) (tf : Nat) (ts : ByteArray) (ta : Option Addr) (tc : Nat) (kids : List Tr) (w : World) (hin : (Tr.mk tk tn tf ts ta tc kids).In w 0) (hsm : Small (.mk tk tn tf ts ta tc kids)) (hcn : cnT (.mk tk tn tf ts ta tc kids) ≤ 100000) : ∃ (ea eb ec : Int) (ef el : Bool) (TE : Tr), (∀ W, Below w.heap.size w W → Calls Tryz.prog 17 #[.int .i64 self, .agg #[.int .i64 tk, .int .i64 tn, .float .f64 tf, .string ts, .slice ta kids.length tc], .agg #[.int .i64 hp, .int .i64 hs, .int .i64 hid]] W (fun e w' => ∃ (k2 n2 : Int) (f2 : Nat) (s2 : ByteArray) (a2 : Option Addr) (c2 : Nat) (kids2 : List Tr), e = .returned (.tuple #[.agg #[.int .i64 ea, .int .i64 eb, .int .i64 ec, .int .i64 0, .int .i64 0, .bool ef, .string ⟨#[]⟩, .int .i64 k2, .int .i64 n2, .float .f64 f2, .string s2, .slice a2 kids2.length c2], .bool el]) ∧ Sm TE (.mk k2 n2 f2 s2 a2 c2 kids2) ∧ (Tr.mk k2 n2 f2 s2 a2 c2 kids2).In w' W.heap.size ∧ Below W.heap.size W w')) ∧ (∀ W, Below w.heap.size w W → Calls Tryz.prog 18 #[.int .i64 self, .agg #[.int .i64 tk, .int .i64 tn, .float .f64 tf, .string ts, .slice ta kids.length tc], .agg #[.int .i64 hp, .int .i64 hs, .int .i64 hid]] W (fun e w' => ∃ (k2 n2 : Int) (f2 : Nat) (s2 : ByteArray) (a2 : Option Addr) (c2 : Nat) (kids2 : List Tr), e = .returned (.tuple #[.agg #[.int .i64 ea, .int .i64 eb, .int .i64 ec, .int .i64 0, .int .i64 0, .bool ef, .string ⟨#[]⟩, .int .i64 k2, .int .i64 n2, .float .f64 f2, .string s2, .slice a2 kids2.length c2], .bool el]) ∧ Sm TE (.mk k2 n2 f2 s2 a2 c2 kids2) ∧ (Tr.mk k2 n2 f2 s2 a2 c2 kids2).In w' W.heap.size ∧ Below W.heap.size W w')) := by
  by_cases h1 : hs = 1
  · subst h1
    exact ⟨self, hp, 5, true, true, (.mk tk tn tf ts ta tc kids), fun W hW => emit_on self hp hid tk tn tf ts ta tc kids W (in_below hW hin) hsm hcn, fun W hW => remit_on self hp hid tk tn tf ts ta tc kids W (in_below hW hin) hsm hcn⟩
  · refine ⟨0, 0, 0, false, false, zTr, fun W _ => (emit_off self hp hs hid tk tn tf ts ta kids.length tc h1 W).mono ?_, fun W _ => (remit_off self hp hs hid tk tn tf ts ta kids.length tc h1 W).mono ?_⟩ <;>
    · rintro e w' ⟨rfl, hb⟩
      exact ⟨0, 0, 0, ⟨#[]⟩, none, 0, [], rfl, (by unfold zTr Sm SmA; exact ⟨rfl, rfl, rfl, rfl, trivial⟩), leaf0 0 0 _ (by decide) (by decide) (by decide) _ _, hb⟩
theorem leaveS (self mr mp : Int) (mn : ByteArray) : ∃ (la lb lc ld : Int) (ll : Bool), (∀ W, Calls Tryz.prog 22 #[.int .i64 self, .agg #[.int .i64 mr, .int .i64 mp, .string mn]] W fun e w' => e = .returned (.tuple #[.agg #[.int .i64 la, .int .i64 lb, .int .i64 lc, .int .i64 0, .int .i64 ld, .bool false, .string ⟨#[]⟩, .int .i64 0, .int .i64 0, .float .f64 0, .string ⟨#[]⟩, .slice none 0 0], .bool ll]) ∧ Below W.heap.size W w') ∧ (∀ W, Calls Tryz.prog 23 #[.int .i64 self, .agg #[.int .i64 mr, .int .i64 mp, .string mn]] W fun e w' => e = .returned (.tuple #[.agg #[.int .i64 la, .int .i64 lb, .int .i64 lc, .int .i64 0, .int .i64 ld, .bool false, .string ⟨#[]⟩, .int .i64 0, .int .i64 0, .float .f64 0, .string ⟨#[]⟩, .slice none 0 0], .bool ll]) ∧ Below W.heap.size W w') := by
  by_cases h1 : mp = 0
  · subst h1
    exact ⟨0, 0, 0, 0, false, fun W => leave_off self mr mn W, fun W => rleave_off self mr mn W⟩
  · exact ⟨self, mp, 7, mr, true, fun W => leave_on self mr mp mn h1 W, fun W => rleave_on self mr mp mn h1 W⟩

set_option maxRecDepth 100000 in
set_option maxHeartbeats 4000000 in
theorem sameSignal_sm (a b c d e : Int) (f : Bool) (k2 n2 : Int) (f2 : Nat) (s2 : ByteArray) (a2 : Option Addr) (c2 : Nat) (kids2 : List Tr) (k3 n3 : Int) (f3 : Nat) (s3 : ByteArray) (a3 : Option Addr) (c3 : Nat) (kids3 : List Tr) (hs : Sm (.mk k2 n2 f2 s2 a2 c2 kids2) (.mk k3 n3 f3 s3 a3 c3 kids3)) (w : World) (h2 : (Tr.mk k2 n2 f2 s2 a2 c2 kids2).In w 0) (h3 : (Tr.mk k3 n3 f3 s3 a3 c3 kids3).In w 0) : Calls Tryz.prog 19 #[.agg #[.int .i64 a, .int .i64 b, .int .i64 c, .int .i64 d, .int .i64 e, .bool f, .string ⟨#[]⟩, .int .i64 k2, .int .i64 n2, .float .f64 f2, .string s2, .slice a2 kids2.length c2], .agg #[.int .i64 a, .int .i64 b, .int .i64 c, .int .i64 d, .int .i64 e, .bool f, .string ⟨#[]⟩, .int .i64 k3, .int .i64 n3, .float .f64 f3, .string s3, .slice a3 kids3.length c3]] w fun e w' => e = .returned (.bool true) ∧ Below w.heap.size w w' := by
  have TW := hidb (fun (w' : World) (hb : Below w.heap.size w w') => twin_same _ _ hs w' (in_below hb h2) (in_below hb h3))
  simp only [Tr.val, Tr.cells] at TW
  clear hs h2 h3
  generalize kids2.length = t2 at *
  generalize kids3.length = t3 at *
  have HB : Hid (Below w.heap.size w ((w.alloc (.cells #[.int .i64 a, .int .i64 b, .int .i64 c, .int .i64 d, .int .i64 e, .bool f, .string ⟨#[]⟩, .int .i64 k2, .int .i64 n2, .float .f64 f2, .string s2, .slice a2 t2 c2] 27)).alloc (.cells #[.int .i64 a, .int .i64 b, .int .i64 c, .int .i64 d, .int .i64 e, .bool f, .string ⟨#[]⟩, .int .i64 k3, .int .i64 n3, .float .f64 f3, .string s3, .slice a3 t3 c3] 27))) := hidb ((below_new w _).alloc (by simp) _)
  go_enter Tryz.func19, Tryz.ntmps19
  go_wp2_with (go_at_call 15; refine (TW.out _ HB.out).mono ?_; rintro e w1 ⟨rfl, hb1⟩; have HB1 := hidb (HB.out.trans (hb1.mono HB.out.size)); clear hb1)
  go_ret
  exact ⟨by simp, HB1.out⟩
end Go.Proofs.YtliebilpddmhkaaGreat


