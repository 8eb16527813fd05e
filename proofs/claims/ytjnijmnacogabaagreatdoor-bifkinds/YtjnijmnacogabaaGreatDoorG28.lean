import Derived.Test.YtjnijmnacogabaaGreatDoorG27
/- element. -/
namespace Go.Proofs.YtjnijmnacogabaaGreatDoor
open Go.RowKit Go.Lib Go.Deep
attribute [local go_sem] store_float f64bits store_func store_nilFunc
attribute [local go_sem ↓] Go.wp_at_zero Go.wp_at_succ

set_option maxHeartbeats 1600000 in
set_option maxRecDepth 100000 in
theorem element_tc {w : World} {a : Option Addr} {c : Nat} {k n : Int} {f : Nat} {s : ByteArray} {a' : Option Addr} {c' : Nat} {ks0 : List Tr} {k1 n1 : Int} {f1 : Nat} {s1 : ByteArray} {a1 : Option Addr} {c1 : Nat} {ks : List Tr} {nm : ByteArray} {P : Tr → Prop} {E : Int → Prop} (hin : ArgsIn w a c [.mk k n f s a' c' ks0, .mk k1 n1 f1 s1 a1 c1 ks])
    (hsm : ∀ t ∈ ks, Small t ∧ cnT t ≤ 1000000000) (hlen : ks.length ≤ 1000000)
    (hP : k1 = 7 → plB k n ks.length = true → ∀ t, ks[(n - 1).toNat]? = some t → P t) (hE : (k1 ≠ 7 ∨ plB k n ks.length = false) → E 13) :
    TC 33 P E (.agg #[.string nm, .slice a 2 c, noneF]) w := by
  refine ⟨fun args w => by kernel_rfl, fun W hW => ?_⟩
  have HP := hidb hP
  have HWS := hidb hW.size
  have HE := hidb hE
  have HIW := in_below hW hin
  obtain ⟨b, o, rfl, hbW, v0, v1, v2, v3, v4, hin1⟩ := argi hin hW (i := 1) rfl
  have HON := hidb (onAll_get (t := .mk k1 n1 f1 s1 a1 c1 ks) (by have := on_all _ hin; unfold Tr.On at this; exact this.2) (by simp))
  have HI1 := hidb hin1
  have HPL := hidb (fun W1 (hb : Below W.heap.size W W1) => place_any (nm := nm) (ax := a1) (lx := ks.length) (cx := c1) (in_below hb HIW) hlen)
  have HSM := hidb hsm
  by_cases h7 : k1 = 7
  · subst h7
    have EL := hidb (fun W1 (hb : Below W.heap.size W W1) => elementsF_ok (nm := nm) (in_below hb HIW) (i := 1) rfl)
    simp only [List.length_cons, List.length_nil] at EL HPL
    obtain ⟨KL, hKL⟩ : ∃ KL, ks.length = KL := ⟨_, rfl⟩
    rw [hKL] at EL HPL
    have HKL := hidb hKL
    obtain ⟨V1, hV1⟩ : ∃ V1, ((W.alloc (.cells #[.string nm, .slice (some ⟨b, o, none⟩) 2 c, noneF] CT)).alloc (.cells #[.int .i64 0, .int .i64 0, .float .f64 0, .string ⟨#[]⟩, .slice none 0 0] 29)) = V1 := ⟨_, rfl⟩
    have HX0 : Hid (Box V1 (W.heap.size + 1) (.int .i64 0) (.int .i64 0) (.float .f64 0) (.string ⟨#[]⟩) (.slice none 0 0)) := hidb (by
      rw [← hV1]
      have := Box.new (W.alloc (.cells #[.string nm, .slice (some ⟨b, o, none⟩) 2 c, noneF] CT)) 29 (.int .i64 0) (.int .i64 0) (.float .f64 0) (.string ⟨#[]⟩) (.slice none 0 0)
      simpa using this)
    have HC0 : Hid (Tri V1 W.heap.size (.string nm) (.slice (some ⟨b, o, none⟩) 2 c) noneF) := hidb (by rw [← hV1]; exact (Tri.new W _ _ _ _).keep (below_new _ _))
    have HBW : Hid (Below W.heap.size W V1) := hidb (by rw [← hV1]; exact (below_new W _).alloc (by simp) _)
    have HV1 := hidb hV1
    obtain ⟨PP, hPP⟩ : ∃ PP : Ending → World → Prop, Tld P E w.heap.size W = PP := ⟨_, rfl⟩
    have HPP := hidb hPP
    rw [hPP]
    clear hV1 hPP
    clear hP hE hW hin hin1 hsm hlen hKL v0 v1 v2 v3 v4
    go_enter Tryz.func33, Tryz.ntmps33
    go_wp2_with fail
    rw [HV1.out]
    refine (EL.out _ HBW.out).mono ?_
    rintro e w2 ⟨rfl, hb2⟩
    have HB2 := hidb (HBW.out.trans (hb2.mono HBW.out.size))
    have HX2 := hidb (HX0.out.keep hb2)
    have HC2 := hidb (HC0.out.keep hb2)
    have t0 := HC2.out.c0; have t1 := HC2.out.c1; have t2 := HC2.out.c2
    clear hb2
    go_wp2_with fail
    refine (HPL.out _ HB2.out).mono ?_
    rintro e w3 ⟨hb3, ⟨hpl, rfl⟩ | ⟨hpl, rfl⟩⟩
    · have HB3 := hidb (HB2.out.trans (hb3.mono HB2.out.size))
      have HX3 := hidb (HX2.out.keep hb3)
      obtain ⟨⟨x0, x1, x2, x3, x4⟩, ⟨y0, y1, y2, y3, y4⟩, xl⟩ := Box.six HX3.out
      have hpl' : k = 1 ∧ 1 ≤ n ∧ n ≤ (KL : Int) := by simpa [plB] using hpl
      obtain ⟨j, hj⟩ : ∃ j : Nat, n - 1 = (j : Int) := ⟨(n - 1).toNat, by omega⟩
      have hjl : j < KL := by omega
      obtain ⟨⟨k9, n9, f9, s9, a9, c9, ks9⟩, ht⟩ : ∃ t, ks[j]? = some t := ⟨_, List.getElem?_eq_getElem (by have := HKL.out; omega)⟩
      have hin3 := in_below HB3.out HI1.out
      obtain ⟨b1, o1, rfl, hat⟩ := kid_at hin3 (by have := HKL.out; omega)
      obtain ⟨k8, n8, f8, s8, a8, c8, ks8, hu8, hin8, g0, g1, g2, g3, g4⟩ := hat j (by have := HKL.out; omega)
      have hteq := ht.symm.trans hu8
      injection hteq with hteq
      injection hteq with q1 q2 q3 q4 q5 q6 q7
      subst q1 q2 q3 q4 q5 q6 q7
      have HTT : Hid (P (.mk k9 n9 f9 s9 a9 c9 ks9)) := hidb (HP.out (by first | rfl | trivial) (by rw [HKL.out]; exact hpl) _ (by rw [show (n - 1).toNat = j by omega]; exact ht))
      have HT2 := hidb (And.intro hin8 (And.intro (on_kid HON.out (List.mem_of_getElem? ht)) (HSM.out _ (List.mem_of_getElem? ht))))
      have e1 : (j : Int) < (KL : Int) := by omega
      have e2 : (0 : Int) ≤ (j : Int) := by omega
      rw [hj]
      generalize hL9 : ks9.length = L9 at *
      have HL9 := hidb hL9
      clear hb3 hpl hpl' hj hat hu8 hin3 hin8 ht t0 t1 t2 hL9
      go_wp2_with fail
      have bx9 := HX3.out.set (.int .i64 k9) (.int .i64 n9) (.float .f64 f9) (.string s9) (.slice a9 L9 c9)
      obtain ⟨⟨k0, k1', k2, k3, k4⟩, -, -⟩ := Box.six bx9
      simp only [set5] at k0 k1' k2 k3 k4
      refine bodyPost_ret (v := (Tr.mk k9 n9 f9 s9 a9 c9 ks9).val) (by simp [Tr.val, Tr.cells, HL9.out, results, Tryz.results33, go_sem, k0, k1', k2, k3, k4]) rfl ?_
      rw [← HPP.out]
      have hwl : w.heap.size ≤ W.heap.size := HWS.out
      refine ⟨(((((HB3.out.setCell (by simp) _).setCell (by simp) _).setCell (by simp) _).setCell (by simp) _).setCell (by simp) _), .inl ⟨_, rfl, HTT.out, ?_, on_mono (fun q hq => .inl hq) _ HT2.out.2.1, HT2.out.2.2.1, HT2.out.2.2.2⟩⟩
      exact in_on5 (B := w.heap.size) (c := W.heap.size + 2) HT2.out.1 (on_mono (fun q hq => .inl hq) _ HT2.out.2.1) (by omega) (by omega) _ _ _ _ _
    · refine ⟨rfl, ?_⟩
      rw [← HPP.out]
      exact ⟨HB2.out.trans (hb3.mono HB2.out.size), .inr ⟨_, rfl, HE.out (.inr (by rw [HKL.out]; exact hpl))⟩⟩
  · have EL := hidb (fun W1 (hb : Below W.heap.size W W1) => elementsF_no (nm := nm) (kd := 7) (in_below hb HIW) (i := 1) rfl h7)
    simp only [List.length_cons, List.length_nil] at EL
    have HE2 := hidb (HE.out (.inl h7))
    obtain ⟨V1, hV1⟩ : ∃ V1, ((W.alloc (.cells #[.string nm, .slice (some ⟨b, o, none⟩) 2 c, noneF] CT)).alloc (.cells #[.int .i64 0, .int .i64 0, .float .f64 0, .string ⟨#[]⟩, .slice none 0 0] 29)) = V1 := ⟨_, rfl⟩
    have HX0 : Hid (Box V1 (W.heap.size + 1) (.int .i64 0) (.int .i64 0) (.float .f64 0) (.string ⟨#[]⟩) (.slice none 0 0)) := hidb (by
      rw [← hV1]
      have := Box.new (W.alloc (.cells #[.string nm, .slice (some ⟨b, o, none⟩) 2 c, noneF] CT)) 29 (.int .i64 0) (.int .i64 0) (.float .f64 0) (.string ⟨#[]⟩) (.slice none 0 0)
      simpa using this)
    have HC0 : Hid (Tri V1 W.heap.size (.string nm) (.slice (some ⟨b, o, none⟩) 2 c) noneF) := hidb (by rw [← hV1]; exact (Tri.new W _ _ _ _).keep (below_new _ _))
    have HBW : Hid (Below W.heap.size W V1) := hidb (by rw [← hV1]; exact (below_new W _).alloc (by simp) _)
    have HV1 := hidb hV1
    obtain ⟨PP, hPP⟩ : ∃ PP : Ending → World → Prop, Tld P E w.heap.size W = PP := ⟨_, rfl⟩
    have HPP := hidb hPP
    rw [hPP]
    clear hV1 hPP
    clear hP hE hW hin hin1 hsm hlen v0 v1 v2 v3 v4 h7 HP HE HPL
    go_enter Tryz.func33, Tryz.ntmps33
    go_wp2_with fail
    rw [HV1.out]
    refine (EL.out _ HBW.out).mono ?_
    rintro e w2 ⟨rfl, hb2⟩
    refine ⟨rfl, ?_⟩
    rw [← HPP.out]
    exact ⟨HBW.out.trans (hb2.mono HBW.out.size), .inr ⟨_, rfl, HE2.out⟩⟩
end Go.Proofs.YtjnijmnacogabaaGreatDoor


/- known: the chapter's examples. -/
namespace Go.Proofs.YtjnijmnacogabaaGreatDoor
open Go.RowKit Go.Lib Go.Deep
attribute [local go_sem] store_float f64bits store_func store_nilFunc
attribute [local go_sem ↓] Go.wp_at_zero Go.wp_at_succ

abbrev bolS (b : Bool) : ByteArray := if b then trueS else falseS
theorem ans_bool {b : Bool} {w : World} {e : Ending} {w' : World} (h : Ans (fun x => x = bolT b) (fun _ => False) w e w') : ∃ a c, e = .returned (.tuple #[.agg #[.int .i64 3, .int .i64 0, .float .f64 0, .string (bolS b), .slice a 0 c], .int .i64 0]) ∧ Below w.heap.size w w' ∧ (Tr.mk 3 0 0 (bolS b) a c []).In w' w.heap.size := by
  obtain ⟨hb, ⟨t, ⟨k', n', f', s', a', c', ks'⟩, rfl, -, hs, hin, rfl⟩ | ⟨er, hE | ⟨t, rfl, he, -⟩, rfl⟩⟩ := h
  · unfold bolT Sm at hs
    obtain ⟨rfl, rfl, rfl, rfl, h⟩ := hs
    cases ks' with
    | nil => exact ⟨a', c', rfl, hb, hin⟩
    | cons => simp [SmA] at h
  · exact hE.elim
  · exact absurd (bolT_err b) he
theorem ans_err {er : Int} {w : World} {e : Ending} {w' : World} (h : Ans (fun _ => False) (fun x => x = er) w e w') : e = .returned (.tuple #[zterm, .int .i64 er]) ∧ Below w.heap.size w w' := by
  obtain ⟨hb, ⟨t, t', h, -⟩ | ⟨er', rfl | ⟨t, h, -⟩, rfl⟩⟩ := h
  · exact h.elim
  · exact ⟨rfl, hb⟩
  · exact h.elim
theorem in_kind {w : World} {base : Nat} {k' n : Int} {f : Nat} {s : ByteArray} {a : Option Addr} {c : Nat} {ks : List Tr} (h : (Tr.mk 0 n f s a c ks).In w base) (hk : Lit.wf (.int .i64 k') = true) : (Tr.mk k' n f s a c ks).In w base := by
  unfold Tr.In at h ⊢
  exact ⟨⟨hk, h.1.2⟩, h.2⟩

theorem i9_any (k : Int) (w : World) : Calls Tryz.prog 15 #[.int .i64 k] w fun e w' => e = .returned (.agg #[.int .i64 1, .int .i64 k, .float .f64 0, .string ⟨#[]⟩, .slice none 0 0]) ∧ Below w.heap.size w w' := by
  go_enter Tryz.func15, Tryz.ntmps15
  go_wp2
  exact bodyPost_ret (v := .agg #[.int .i64 1, .int .i64 k, .float .f64 0, .string ⟨#[]⟩, .slice none 0 0]) (by simp [results, Tryz.results15, go_sem]) rfl ⟨rfl, below_new w _⟩

set_option maxRecDepth 100000 in
theorem eq_one (w : World) : Calls Tryz.prog 12 #[.string ⟨#[61, 61]⟩, .slice (some ⟨w.heap.size, 0, none⟩) 2 2] (w.alloc (.cells oneC 29)) fun e w' => (∃ a c, e = .returned (.tuple #[.agg #[.int .i64 3, .int .i64 0, .float .f64 0, .string trueS, .slice a 0 c], .int .i64 0])) ∧ Below w.heap.size w w' := by
  refine (op_any (P := fun x => x = bolT true) (E := fun _ => False) (n := 2) (fun r hr => ?_) (fun h => ?_)).mono ?_
  · have hf : bfnd opsL ⟨#[61, 61]⟩ ((2 : Nat) : Int) = some (⟨#[61, 61]⟩, 2, 64) := by kernel_rfl
    rw [hf] at hr
    obtain rfl := Option.some.inj hr
    exact equal_tc (r := 0) (ones_in w _) (fun W hW => cmp_one W) rfl
  · have hf : bfnd opsL ⟨#[61, 61]⟩ ((2 : Nat) : Int) = some (⟨#[61, 61]⟩, 2, 64) := by kernel_rfl
    rw [hf] at h
    cases h
  · intro e w' h
    obtain ⟨a, c, rfl, hb, -⟩ := ans_bool h
    exact ⟨⟨a, c, rfl⟩, (below_new w _).trans (hb.mono (by simp))⟩
set_option maxRecDepth 100000 in
theorem id_one (w : World) : Calls Tryz.prog 12 #[.string ⟨#[61, 58, 61]⟩, .slice (some ⟨w.heap.size, 0, none⟩) 2 2] (w.alloc (.cells oneC 29)) fun e w' => (∃ a c, e = .returned (.tuple #[.agg #[.int .i64 3, .int .i64 0, .float .f64 0, .string falseS, .slice a 0 c], .int .i64 0])) ∧ Below w.heap.size w w' := by
  refine (op_any (P := fun x => x = bolT false) (E := fun _ => False) (n := 2) (fun r hr => ?_) (fun h => ?_)).mono ?_
  · have hf : bfnd opsL ⟨#[61, 58, 61]⟩ ((2 : Nat) : Int) = some (⟨#[61, 58, 61]⟩, 2, 70) := by kernel_rfl
    rw [hf] at hr
    obtain rfl := Option.some.inj hr
    exact identical_tc (r := false) (ones_in w _) (fun W hW => same_one W) rfl
  · have hf : bfnd opsL ⟨#[61, 58, 61]⟩ ((2 : Nat) : Int) = some (⟨#[61, 58, 61]⟩, 2, 70) := by kernel_rfl
    rw [hf] at h
    cases h
  · intro e w' h
    obtain ⟨a, c, rfl, hb, -⟩ := ans_bool h
    exact ⟨⟨a, c, rfl⟩, (below_new w _).trans (hb.mono (by simp))⟩

abbrev sevT : Tr := .mk 1 7 0 ⟨#[]⟩ none 0 []
theorem sev_in (w : World) : sevT.In w 0 := by
  unfold Tr.In
  exact ⟨⟨by decide, by decide, by decide, by show 0 ≤ maxLen; omega, by simp, by simp, fun _ => rfl⟩, fun ad h => by simp at h⟩
theorem num_in (n : Int) (h0 : 0 ≤ n) (h1 : n ≤ 1000) (w : World) : (Tr.mk 1 n 0 ⟨#[]⟩ none 0 []).In w 0 := by
  unfold Tr.In
  refine ⟨⟨by decide, ?_, by decide, by show 0 ≤ maxLen; omega, by simp, by simp, fun _ => rfl⟩, fun ad h => by simp at h⟩
  have e0 : IntKind.i64.min = -9223372036854775808 := by decide
  have e1 : IntKind.i64.max = 9223372036854775807 := by decide
  simp only [Lit.wf, e0, e1, Bool.and_eq_true, decide_eq_true_eq]
  omega
/-- {7} and a number, as arguments. -/
theorem el_args (n : Int) (h0 : 0 ≤ n) (h1 : n ≤ 1000) (w : World) (tb : Nat) (htb : (Tr.mk 0 0 0 ⟨#[]⟩ (some ⟨tb, 0, none⟩) 1 [sevT]).In w 0) (t : TypeId) : ArgsIn (w.alloc (.cells #[.int .i64 1, .int .i64 n, .float .f64 0, .string ⟨#[]⟩, .slice none 0 0, .int .i64 7, .int .i64 0, .float .f64 0, .string ⟨#[]⟩, .slice (some ⟨tb, 0, none⟩) 1 1] t)) (some ⟨w.heap.size, 0, none⟩) 2 [.mk 1 n 0 ⟨#[]⟩ none 0 [], .mk 7 0 0 ⟨#[]⟩ (some ⟨tb, 0, none⟩) 1 [sevT]] :=
  built_in w [.mk 1 n 0 ⟨#[]⟩ none 0 [], .mk 7 0 0 ⟨#[]⟩ (some ⟨tb, 0, none⟩) 1 [sevT]] (fun u hu => by
    rcases List.mem_cons.1 hu with h | h
    · rw [h]; exact num_in n h0 h1 w
    · rw [List.mem_singleton.1 h]; exact in_kind htb (by decide)) t (by simp)
theorem el_find : (bfnd grdL ⟨#[101, 108, 101, 109, 101, 110, 116]⟩ ((2 : Nat) : Int)).or (bfnd othL ⟨#[101, 108, 101, 109, 101, 110, 116]⟩ ((2 : Nat) : Int)) = some (⟨#[101, 108, 101, 109, 101, 110, 116]⟩, 2, 33) := by kernel_rfl
theorem sev_small : ∀ t ∈ [sevT], Small t ∧ cnT t ≤ 1000000000 := fun t ht => by
  rw [List.mem_singleton.1 ht]
  simp [Small, SmallAll, cnT, cnA]
set_option maxRecDepth 100000 in
theorem el_1 (w : World) (tb : Nat) (htb : (Tr.mk 0 0 0 ⟨#[]⟩ (some ⟨tb, 0, none⟩) 1 [sevT]).In w 0) : Calls Tryz.prog 16 #[.string ⟨#[101, 108, 101, 109, 101, 110, 116]⟩, .slice (some ⟨w.heap.size, 0, none⟩) 2 2, noneF] (w.alloc (.cells #[.int .i64 1, .int .i64 1, .float .f64 0, .string ⟨#[]⟩, .slice none 0 0, .int .i64 7, .int .i64 0, .float .f64 0, .string ⟨#[]⟩, .slice (some ⟨tb, 0, none⟩) 1 1] 29)) fun e w' => (∃ a c, e = .returned (.tuple #[.agg #[.int .i64 1, .int .i64 7, .float .f64 0, .string ⟨#[]⟩, .slice a 0 c], .int .i64 0])) ∧ Below w.heap.size w w' := by
  refine (call_any (P := fun x => x = sevT) (E := fun _ => False) (n := 2) (fun r hr => ?_) (fun h => ?_)).mono ?_
  · rw [el_find] at hr
    obtain rfl := Option.some.inj hr
    refine element_tc (el_args 1 (by omega) (by omega) w tb htb _) sev_small (by simp) (fun _ _ t ht => ?_) (fun h => ?_)
    · simpa using ht.symm
    · simp [plB] at h
  · rw [el_find] at h
    cases h
  · intro e w' h
    obtain ⟨hb, ⟨t, ⟨k', n', f', s', a', c', ks'⟩, rfl, -, hs, hin, rfl⟩ | ⟨er, hE | ⟨t, rfl, he, -⟩, rfl⟩⟩ := h
    · unfold Sm at hs
      obtain ⟨rfl, rfl, rfl, rfl, h⟩ := hs
      cases ks' with
      | nil => exact ⟨⟨a', c', rfl⟩, (below_new w _).trans (hb.mono (by simp))⟩
      | cons => simp [SmA] at h
    · exact hE.elim
    · exact absurd (by simp [errT, meas, measAll, own, allT, allAll, goodT, rightB, whB, ByteArray.toList_eq]) he
set_option maxRecDepth 100000 in
theorem el_0 (w : World) (tb : Nat) (htb : (Tr.mk 0 0 0 ⟨#[]⟩ (some ⟨tb, 0, none⟩) 1 [sevT]).In w 0) : Calls Tryz.prog 16 #[.string ⟨#[101, 108, 101, 109, 101, 110, 116]⟩, .slice (some ⟨w.heap.size, 0, none⟩) 2 2, noneF] (w.alloc (.cells #[.int .i64 1, .int .i64 0, .float .f64 0, .string ⟨#[]⟩, .slice none 0 0, .int .i64 7, .int .i64 0, .float .f64 0, .string ⟨#[]⟩, .slice (some ⟨tb, 0, none⟩) 1 1] 29)) fun e w' => e = .returned (.tuple #[zterm, .int .i64 13]) ∧ Below w.heap.size w w' := by
  refine (call_any (P := fun _ => False) (E := fun x => x = 13) (n := 2) (fun r hr => ?_) (fun h => ?_)).mono ?_
  · rw [el_find] at hr
    obtain rfl := Option.some.inj hr
    refine element_tc (el_args 0 (by omega) (by omega) w tb htb _) sev_small (by simp) (fun _ h t ht => ?_) (fun h => rfl)
    simp [plB] at h
  · rw [el_find] at h
    cases h
  · intro e w' h
    obtain ⟨rfl, hb⟩ := ans_err h
    exact ⟨rfl, (below_new w _).trans (hb.mono (by simp))⟩

set_option maxHeartbeats 1600000 in
set_option maxRecDepth 100000 in
theorem known9_any (w : World) : Calls Tryz.prog 8 #[] w fun e w' => e = .returned (.bool true) ∧ Below w.heap.size w w' := by
  go_enter Tryz.func8, Tryz.ntmps8
  go_wp2_with (go_at_call 15; refine (i9_any _ _).mono ?_; rintro e w1 ⟨rfl, hb1⟩; have HB1 := hidb hb1; clear hb1)
  refine (eq_one w1).mono ?_
  rintro e w2 ⟨⟨a1, c1, rfl⟩, hb2⟩
  have HB2 := hidb (HB1.out.trans (hb2.mono HB1.out.size))
  clear hb2 HB1
  go_wp2_with fail
  refine (i9_any _ _).mono ?_
  rintro e w3 ⟨rfl, hb3⟩
  have HA3 := hidb ((Box.new w2 29 (.int .i64 3) (.int .i64 0) (.float .f64 0) (.string trueS) (.slice a1 0 c1)).keep hb3)
  have HB3 := hidb (HB2.out.trans (((below_new w2 _).trans (hb3.mono (by simp))).mono HB2.out.size))
  clear hb3 HB2
  go_wp2_with fail
  refine (id_one w3).mono ?_
  rintro e w4 ⟨⟨a2, c2, rfl⟩, hb4⟩
  have HA4 := hidb (HA3.out.keep hb4)
  have HB4 := hidb (HB3.out.trans (hb4.mono HB3.out.size))
  clear hb4 HA3 HB3
  go_wp2_with fail
  refine (i9_any _ _).mono ?_
  rintro e w5 ⟨rfl, hb5⟩
  have HA5 := hidb ((HA4.out.keep (below_new w4 _)).keep hb5)
  have HD5 := hidb ((Box.new w4 29 (.int .i64 3) (.int .i64 0) (.float .f64 0) (.string falseS) (.slice a2 0 c2)).keep hb5)
  have HB5 := hidb (HB4.out.trans (((below_new w4 _).trans (hb5.mono (by simp))).mono HB4.out.size))
  clear hb5 HA4 HB4
  go_wp2_with fail
  refine (i9_any _ _).mono ?_
  rintro e w6 ⟨rfl, hb6⟩
  have HA6 := hidb (HA5.out.keep hb6)
  have HD6 := hidb (HD5.out.keep hb6)
  have HB6 := hidb (HB5.out.trans (hb6.mono HB5.out.size))
  clear hb6 HA5 HB5 HD5
  go_wp2_with fail
  obtain ⟨V6, hV6⟩ : ∃ V6, w6.alloc (.cells #[.int .i64 1, .int .i64 7, .float .f64 0, .string ⟨#[]⟩, .slice none 0 0] 29) = V6 := ⟨_, rfl⟩
  have htb : (Tr.mk 0 0 0 ⟨#[]⟩ (some ⟨w6.heap.size, 0, none⟩) 1 [sevT]).In V6 0 := by
    rw [← hV6]
    exact built_in w6 [sevT] (fun u hu => by rw [List.mem_singleton.1 hu]; exact sev_in w6) 29 (by simp)
  have hz6 : w6.heap.size + 1 = V6.heap.size := by rw [← hV6]; simp
  have hbV : Below w6.heap.size w6 V6 := by rw [← hV6]; exact below_new _ _
  rw [hV6, hz6]
  refine (el_1 V6 w6.heap.size htb).mono ?_
  rintro e w7 ⟨⟨a3, c3, rfl⟩, hb7⟩
  have hb67 := hbV.trans (hb7.mono hbV.size)
  have HA7 := hidb (HA6.out.keep hb67)
  have HD7 := hidb (HD6.out.keep hb67)
  have HB7 := hidb (HB6.out.trans (hb67.mono HB6.out.size))
  clear hb67 hb7 hbV hz6 htb hV6 HA6 HD6 HB6
  go_wp2_with fail
  refine (i9_any _ _).mono ?_
  rintro e w8 ⟨rfl, hb8⟩
  have HA8 := hidb ((HA7.out.keep (below_new w7 _)).keep hb8)
  have HD8 := hidb ((HD7.out.keep (below_new w7 _)).keep hb8)
  have HF8 := hidb ((Box.new w7 29 (.int .i64 1) (.int .i64 7) (.float .f64 0) (.string ⟨#[]⟩) (.slice a3 0 c3)).keep hb8)
  have HB8 := hidb (HB7.out.trans (((below_new w7 _).trans (hb8.mono (by simp))).mono HB7.out.size))
  clear hb8 HA7 HD7 HB7
  go_wp2_with fail
  refine (i9_any _ _).mono ?_
  rintro e w9 ⟨rfl, hb9⟩
  have HA9 := hidb (HA8.out.keep hb9)
  have HD9 := hidb (HD8.out.keep hb9)
  have HF9 := hidb (HF8.out.keep hb9)
  have HB9 := hidb (HB8.out.trans (hb9.mono HB8.out.size))
  clear hb9 HA8 HD8 HB8 HF8
  go_wp2_with fail
  obtain ⟨V9, hV9⟩ : ∃ V9, w9.alloc (.cells #[.int .i64 1, .int .i64 7, .float .f64 0, .string ⟨#[]⟩, .slice none 0 0] 29) = V9 := ⟨_, rfl⟩
  have htb : (Tr.mk 0 0 0 ⟨#[]⟩ (some ⟨w9.heap.size, 0, none⟩) 1 [sevT]).In V9 0 := by
    rw [← hV9]
    exact built_in w9 [sevT] (fun u hu => by rw [List.mem_singleton.1 hu]; exact sev_in w9) 29 (by simp)
  have hz9 : w9.heap.size + 1 = V9.heap.size := by rw [← hV9]; simp
  have hbV : Below w9.heap.size w9 V9 := by rw [← hV9]; exact below_new _ _
  rw [hV9, hz9]
  refine (el_0 V9 w9.heap.size htb).mono ?_
  rintro e wa ⟨rfl, hba⟩
  have hb9a := hbV.trans (hba.mono hbV.size)
  have HAa := hidb (HA9.out.keep hb9a)
  have HDa := hidb (HD9.out.keep hb9a)
  have HFa := hidb (HF9.out.keep hb9a)
  have HBa := hidb (HB9.out.trans (hb9a.mono HB9.out.size))
  obtain ⟨⟨x0, x1, x2, x3, x4⟩, -, xl⟩ := Box.six HAa.out
  obtain ⟨⟨y0, y1, y2, y3, y4⟩, -, yl⟩ := Box.six HDa.out
  obtain ⟨⟨z0, z1, z2, z3, z4⟩, -, zl⟩ := Box.six HFa.out
  clear hb9a hba hbV hz9 htb hV9 HA9 HD9 HB9 HF9
  go_wp2_with fail
  go_ret
  exact ⟨rfl, HBa.out.alloc HBa.out.size _⟩
end Go.Proofs.YtjnijmnacogabaaGreatDoor


