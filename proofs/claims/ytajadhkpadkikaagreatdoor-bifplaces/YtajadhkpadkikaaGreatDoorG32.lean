import Derived.Test.YtajadhkpadkikaaGreatDoorG31
/- element: a place of a tuple. -/
namespace Go.Proofs.YtajadhkpadkikaaGreatDoor
open Go.RowKit Go.Lib Go.Deep
attribute [local go_sem] store_float f64bits store_func store_nilFunc
attribute [local go_sem ↓] Go.wp_at_zero Go.wp_at_succ

set_option maxHeartbeats 800000 in
set_option maxRecDepth 100000 in
theorem elementsN_ok {w : World} {a : Option Addr} {c : Nat} {kids : List Tr} {nm : ByteArray} {i : Nat} {k n : Int} {f : Nat} {s : ByteArray} {a' : Option Addr} {c' : Nat} {ks : List Tr} (hin : ArgsIn w a c kids) (hi : kids[i]? = some (.mk k n f s a' c' ks)) :
    Calls Tryz.prog 96 #[.agg #[.string nm, .slice a kids.length c, .nilFunc], .int .i64 (i : Int), .int .i64 k] w fun e w' => e = .returned (.slice a' ks.length c') ∧ Below w.heap.size w w' := by
  obtain ⟨b, o, rfl, hbW, v0, v1, v2, v3, v4, -⟩ := argi hin (Below.refl _ _) hi
  have e1 : (i : Int) < (kids.length : Int) := by have := (List.getElem?_eq_some_iff.1 hi).1; omega
  have e2 : (0 : Int) ≤ (i : Int) := by omega
  generalize kids.length = L at *
  generalize ks.length = l0 at *
  clear hin hi
  go_enter Tryz.func96, Tryz.ntmps96
  go_wp2_with (go_at_call 98; refine (must_ok _ _).mono ?_; rintro r w1 ⟨rfl, rfl⟩)
  go_ret
  exact ⟨rfl, below_new _ _⟩
set_option maxHeartbeats 800000 in
set_option maxRecDepth 100000 in
theorem elementsN_no {w : World} {a : Option Addr} {c : Nat} {kids : List Tr} {nm : ByteArray} {i : Nat} {k n kd : Int} {f : Nat} {s : ByteArray} {a' : Option Addr} {c' : Nat} {ks : List Tr} (hin : ArgsIn w a c kids) (hi : kids[i]? = some (.mk k n f s a' c' ks)) (hk : k ≠ kd) :
    Calls Tryz.prog 96 #[.agg #[.string nm, .slice a kids.length c, .nilFunc], .int .i64 (i : Int), .int .i64 kd] w fun e w' => e = raisedBy 13 ∧ Below w.heap.size w w' := by
  obtain ⟨b, o, rfl, hbW, v0, v1, v2, v3, v4, -⟩ := argi hin (Below.refl _ _) hi
  have e1 : (i : Int) < (kids.length : Int) := by have := (List.getElem?_eq_some_iff.1 hi).1; omega
  have e2 : (0 : Int) ≤ (i : Int) := by omega
  have e3 : (k == kd) = false := by simpa using hk
  generalize kids.length = L at *
  generalize ks.length = l0 at *
  clear hin hi hk
  go_enter Tryz.func96, Tryz.ntmps96
  go_wp2_with (go_at_call 98; refine (must_no _ _).mono ?_; rintro r w1 ⟨rfl, hb1⟩; have HB1 := hidb hb1; clear hb1)
  exact ⟨rfl, rfl, (below_new w _).trans (HB1.out.mono (by simp))⟩

set_option maxHeartbeats 800000 in
set_option maxRecDepth 100000 in
theorem elementsF_ok {w : World} {a : Option Addr} {c : Nat} {kids : List Tr} {nm : ByteArray} {i : Nat} {k n : Int} {f : Nat} {s : ByteArray} {a' : Option Addr} {c' : Nat} {ks : List Tr} (hin : ArgsIn w a c kids) (hi : kids[i]? = some (.mk k n f s a' c' ks)) :
    Calls Tryz.prog 96 #[.agg #[.string nm, .slice a kids.length c, noneF], .int .i64 (i : Int), .int .i64 k] w fun e w' => e = .returned (.slice a' ks.length c') ∧ Below w.heap.size w w' := by
  obtain ⟨b, o, rfl, hbW, v0, v1, v2, v3, v4, -⟩ := argi hin (Below.refl _ _) hi
  have e1 : (i : Int) < (kids.length : Int) := by have := (List.getElem?_eq_some_iff.1 hi).1; omega
  have e2 : (0 : Int) ≤ (i : Int) := by omega
  generalize kids.length = L at *
  generalize ks.length = l0 at *
  clear hin hi
  go_enter Tryz.func96, Tryz.ntmps96
  go_wp2_with (go_at_call 98; refine (must_ok _ _).mono ?_; rintro r w1 ⟨rfl, rfl⟩)
  go_ret
  exact ⟨rfl, below_new _ _⟩
set_option maxHeartbeats 800000 in
set_option maxRecDepth 100000 in
theorem elementsF_no {w : World} {a : Option Addr} {c : Nat} {kids : List Tr} {nm : ByteArray} {i : Nat} {k n kd : Int} {f : Nat} {s : ByteArray} {a' : Option Addr} {c' : Nat} {ks : List Tr} (hin : ArgsIn w a c kids) (hi : kids[i]? = some (.mk k n f s a' c' ks)) (hk : k ≠ kd) :
    Calls Tryz.prog 96 #[.agg #[.string nm, .slice a kids.length c, noneF], .int .i64 (i : Int), .int .i64 kd] w fun e w' => e = raisedBy 13 ∧ Below w.heap.size w w' := by
  obtain ⟨b, o, rfl, hbW, v0, v1, v2, v3, v4, -⟩ := argi hin (Below.refl _ _) hi
  have e1 : (i : Int) < (kids.length : Int) := by have := (List.getElem?_eq_some_iff.1 hi).1; omega
  have e2 : (0 : Int) ≤ (i : Int) := by omega
  have e3 : (k == kd) = false := by simpa using hk
  generalize kids.length = L at *
  generalize ks.length = l0 at *
  clear hin hi hk
  go_enter Tryz.func96, Tryz.ntmps96
  go_wp2_with (go_at_call 98; refine (must_no _ _).mono ?_; rintro r w1 ⟨rfl, hb1⟩; have HB1 := hidb hb1; clear hb1)
  exact ⟨rfl, rfl, (below_new w _).trans (HB1.out.mono (by simp))⟩

/-- Is a place one of a row? -/
def plB (k n : Int) (l : Nat) : Bool := decide (k = 1 ∧ 1 ≤ n ∧ n ≤ (l : Int))
def PlR (k n : Int) (l : Nat) (e : Ending) : Prop := plB k n l = true ∧ e = .returned (.int .i64 (n - 1)) ∨ plB k n l = false ∧ e = raisedBy 13
set_option maxHeartbeats 1600000 in
set_option maxRecDepth 100000 in
theorem place_any {w : World} {a : Option Addr} {c : Nat} {rest : List Tr} {nm : ByteArray} {k n : Int} {f : Nat} {s : ByteArray} {a' : Option Addr} {c' : Nat} {ks : List Tr} {ax : Option Addr} {lx cx : Nat} (hin : ArgsIn w a c (.mk k n f s a' c' ks :: rest)) (hl : lx ≤ 1000000) :
    Calls Tryz.prog 105 #[.agg #[.string nm, .slice a (Tr.mk k n f s a' c' ks :: rest).length c, noneF], .slice ax lx cx] w fun e w' => Below w.heap.size w w' ∧ PlR k n lx e := by
  obtain ⟨b, o, rfl, hbW, v0, v1, v2, v3, v4, -⟩ := argi hin (Below.refl _ _) (i := 0) rfl
  simp only [Nat.zero_mul, Nat.add_zero] at v0 v1 v2 v3 v4
  have e1 : (0 : Int) < ((Tr.mk k n f s a' c' ks :: rest).length : Int) := by simp
  generalize (Tr.mk k n f s a' c' ks :: rest).length = L at *
  generalize ks.length = l0 at *
  have HL := hidb hl
  clear hin hl
  by_cases hk : k = 1
  · subst hk
    by_cases h1 : 1 ≤ n
    · by_cases h2 : n ≤ (lx : Int)
      · have HV : Hid (PlR 1 n lx (.returned (.int .i64 (n - 1)))) := hidb (.inl ⟨by simp [plB, h1, h2], rfl⟩)
        have hw : wrap64 (n - 1) = n - 1 := by have := HL.out; unfold wrap64; omega
        go_enter Tryz.func105, Tryz.ntmps105
        go_wp2_with (go_at_call 98; refine (must_ok _ _).mono ?_; rintro r w1 ⟨rfl, rfl⟩)
        refine bodyPost_ret (v := .int .i64 (n - 1)) (by simp [results, Tryz.results105, go_sem, hw]) rfl ⟨(below_new _ _).alloc (by simp) _, HV.out⟩
      · have HV : Hid (PlR 1 n lx (raisedBy 13)) := hidb (.inr ⟨by simp [plB, h2], rfl⟩)
        have hd : decide (n ≤ (lx : Int)) = false := by simpa using h2
        have HD := hidb hd
        clear h2 hd
        go_enter Tryz.func105, Tryz.ntmps105
        go_wp2_with fail
        rw [HD.out]
        refine (must_no _ _).mono ?_
        rintro r w1 ⟨rfl, hb1⟩
        exact ⟨rfl, ((below_new w _).alloc (by simp) _).trans (hb1.mono (by simp; omega)), HV.out⟩
    · have HV : Hid (PlR 1 n lx (raisedBy 13)) := hidb (.inr ⟨by simp [plB, h1], rfl⟩)
      have h3 : n < 1 := by omega
      have h4 : decide (1 ≤ n) = false := by simpa using h1
      clear h1
      go_enter Tryz.func105, Tryz.ntmps105
      go_wp2_with fail
      refine (must_no _ _).mono ?_
      rintro r w1 ⟨rfl, hb1⟩
      exact ⟨rfl, ((below_new w _).alloc (by simp) _).trans (hb1.mono (by simp; omega)), HV.out⟩
  · have HV : Hid (PlR k n lx (raisedBy 13)) := hidb (.inr ⟨by simp [plB, hk], rfl⟩)
    have h3 : (k == 1) = false := by simpa using hk
    clear hk
    go_enter Tryz.func105, Tryz.ntmps105
    go_wp2_with fail
    refine (must_no _ _).mono ?_
    rintro r w1 ⟨rfl, hb1⟩
    exact ⟨rfl, ((below_new w _).alloc (by simp) _).trans (hb1.mono (by simp; omega)), HV.out⟩

/-- What element tells of a tuple's elements. -/
theorem on_kid {S : Nat → Prop} {k n : Int} {f : Nat} {s : ByteArray} {a : Option Addr} {c : Nat} {ks : List Tr} {t : Tr} (h : (Tr.mk k n f s a c ks).On S) (ht : t ∈ ks) : t.On S := by
  unfold Tr.On at h
  exact onAll_get h.2 ht
end Go.Proofs.YtajadhkpadkikaaGreatDoor


/- element. -/
namespace Go.Proofs.YtajadhkpadkikaaGreatDoor
open Go.RowKit Go.Lib Go.Deep
attribute [local go_sem] store_float f64bits store_func store_nilFunc
attribute [local go_sem ↓] Go.wp_at_zero Go.wp_at_succ

set_option maxHeartbeats 1600000 in
set_option maxRecDepth 100000 in
theorem element_tc {w : World} {a : Option Addr} {c : Nat} {k n : Int} {f : Nat} {s : ByteArray} {a' : Option Addr} {c' : Nat} {ks0 : List Tr} {k1 n1 : Int} {f1 : Nat} {s1 : ByteArray} {a1 : Option Addr} {c1 : Nat} {ks : List Tr} {nm : ByteArray} {P : Tr → Prop} {E : Int → Prop} (hin : ArgsIn w a c [.mk k n f s a' c' ks0, .mk k1 n1 f1 s1 a1 c1 ks])
    (hsm : ∀ t ∈ ks, Small t ∧ cnT t ≤ 1000000000) (hlen : ks.length ≤ 1000000)
    (hP : k1 = 7 → plB k n ks.length = true → ∀ t, ks[(n - 1).toNat]? = some t → P t) (hE : (k1 ≠ 7 ∨ plB k n ks.length = false) → E 13) :
    TC 54 P E (.agg #[.string nm, .slice a 2 c, noneF]) w := by
  refine ⟨fun args w => by kernel_rfl, fun W hW => ?_⟩
  have HP := hidb hP
  have HWS := hidb hW.size
  have HE := hidb hE
  have HIW := in_below hW hin
  obtain ⟨b, o, rfl, hbW, v0, v1, v2, v3, v4, hin1⟩ := argi hin hW (i := 1) rfl
  have HON := hidb (onAll_get (t := .mk k1 n1 f1 s1 a1 c1 ks) (by have := on_all _ hin; unfold Tr.On at this; exact this.2) (by simp))
  have HI1 := hidb hin1
  have HPL := hidb (fun W1 (hb : Below W.heap.size W W1) => place_any (nm := nm) (ax := a1) (lx := ks.length) (cx := c1) (in_below hb HIW) hlen)
  have HSM := hidb hsm
  by_cases h7 : k1 = 7
  · subst h7
    have EL := hidb (fun W1 (hb : Below W.heap.size W W1) => elementsF_ok (nm := nm) (in_below hb HIW) (i := 1) rfl)
    simp only [List.length_cons, List.length_nil] at EL HPL
    obtain ⟨KL, hKL⟩ : ∃ KL, ks.length = KL := ⟨_, rfl⟩
    rw [hKL] at EL HPL
    have HKL := hidb hKL
    obtain ⟨V1, hV1⟩ : ∃ V1, ((W.alloc (.cells #[.string nm, .slice (some ⟨b, o, none⟩) 2 c, noneF] CT)).alloc (.cells #[.int .i64 0, .int .i64 0, .float .f64 0, .string ⟨#[]⟩, .slice none 0 0] 25)) = V1 := ⟨_, rfl⟩
    have HX0 : Hid (Box V1 (W.heap.size + 1) (.int .i64 0) (.int .i64 0) (.float .f64 0) (.string ⟨#[]⟩) (.slice none 0 0)) := hidb (by
      rw [← hV1]
      have := Box.new (W.alloc (.cells #[.string nm, .slice (some ⟨b, o, none⟩) 2 c, noneF] CT)) 25 (.int .i64 0) (.int .i64 0) (.float .f64 0) (.string ⟨#[]⟩) (.slice none 0 0)
      simpa using this)
    have HC0 : Hid (Tri V1 W.heap.size (.string nm) (.slice (some ⟨b, o, none⟩) 2 c) noneF) := hidb (by rw [← hV1]; exact (Tri.new W _ _ _ _).keep (below_new _ _))
    have HBW : Hid (Below W.heap.size W V1) := hidb (by rw [← hV1]; exact (below_new W _).alloc (by simp) _)
    have HV1 := hidb hV1
    obtain ⟨PP, hPP⟩ : ∃ PP : Ending → World → Prop, Tld P E w.heap.size W = PP := ⟨_, rfl⟩
    have HPP := hidb hPP
    rw [hPP]
    clear hV1 hPP
    clear hP hE hW hin hin1 hsm hlen hKL v0 v1 v2 v3 v4
    go_enter Tryz.func54, Tryz.ntmps54
    go_wp2_with fail
    rw [HV1.out]
    refine (EL.out _ HBW.out).mono ?_
    rintro e w2 ⟨rfl, hb2⟩
    have HB2 := hidb (HBW.out.trans (hb2.mono HBW.out.size))
    have HX2 := hidb (HX0.out.keep hb2)
    have HC2 := hidb (HC0.out.keep hb2)
    have t0 := HC2.out.c0; have t1 := HC2.out.c1; have t2 := HC2.out.c2
    clear hb2
    go_wp2_with fail
    refine (HPL.out _ HB2.out).mono ?_
    rintro e w3 ⟨hb3, ⟨hpl, rfl⟩ | ⟨hpl, rfl⟩⟩
    · have HB3 := hidb (HB2.out.trans (hb3.mono HB2.out.size))
      have HX3 := hidb (HX2.out.keep hb3)
      obtain ⟨⟨x0, x1, x2, x3, x4⟩, ⟨y0, y1, y2, y3, y4⟩, xl⟩ := Box.six HX3.out
      have hpl' : k = 1 ∧ 1 ≤ n ∧ n ≤ (KL : Int) := by simpa [plB] using hpl
      obtain ⟨j, hj⟩ : ∃ j : Nat, n - 1 = (j : Int) := ⟨(n - 1).toNat, by omega⟩
      have hjl : j < KL := by omega
      obtain ⟨⟨k9, n9, f9, s9, a9, c9, ks9⟩, ht⟩ : ∃ t, ks[j]? = some t := ⟨_, List.getElem?_eq_getElem (by have := HKL.out; omega)⟩
      have hin3 := in_below HB3.out HI1.out
      obtain ⟨b1, o1, rfl, hat⟩ := kid_at hin3 (by have := HKL.out; omega)
      obtain ⟨k8, n8, f8, s8, a8, c8, ks8, hu8, hin8, g0, g1, g2, g3, g4⟩ := hat j (by have := HKL.out; omega)
      have hteq := ht.symm.trans hu8
      injection hteq with hteq
      injection hteq with q1 q2 q3 q4 q5 q6 q7
      subst q1 q2 q3 q4 q5 q6 q7
      have HTT : Hid (P (.mk k9 n9 f9 s9 a9 c9 ks9)) := hidb (HP.out (by first | rfl | trivial) (by rw [HKL.out]; exact hpl) _ (by rw [show (n - 1).toNat = j by omega]; exact ht))
      have HT2 := hidb (And.intro hin8 (And.intro (on_kid HON.out (List.mem_of_getElem? ht)) (HSM.out _ (List.mem_of_getElem? ht))))
      have e1 : (j : Int) < (KL : Int) := by omega
      have e2 : (0 : Int) ≤ (j : Int) := by omega
      rw [hj]
      generalize hL9 : ks9.length = L9 at *
      have HL9 := hidb hL9
      clear hb3 hpl hpl' hj hat hu8 hin3 hin8 ht t0 t1 t2 hL9
      go_wp2_with fail
      have bx9 := HX3.out.set (.int .i64 k9) (.int .i64 n9) (.float .f64 f9) (.string s9) (.slice a9 L9 c9)
      obtain ⟨⟨k0, k1', k2, k3, k4⟩, -, -⟩ := Box.six bx9
      simp only [set5] at k0 k1' k2 k3 k4
      refine bodyPost_ret (v := (Tr.mk k9 n9 f9 s9 a9 c9 ks9).val) (by simp [Tr.val, Tr.cells, HL9.out, results, Tryz.results54, go_sem, k0, k1', k2, k3, k4]) rfl ?_
      rw [← HPP.out]
      have hwl : w.heap.size ≤ W.heap.size := HWS.out
      refine ⟨(((((HB3.out.setCell (by simp) _).setCell (by simp) _).setCell (by simp) _).setCell (by simp) _).setCell (by simp) _), .inl ⟨_, rfl, HTT.out, ?_, on_mono (fun q hq => .inl hq) _ HT2.out.2.1, HT2.out.2.2.1, HT2.out.2.2.2⟩⟩
      exact in_on5 (B := w.heap.size) (c := W.heap.size + 2) HT2.out.1 (on_mono (fun q hq => .inl hq) _ HT2.out.2.1) (by omega) (by omega) _ _ _ _ _
    · refine ⟨rfl, ?_⟩
      rw [← HPP.out]
      exact ⟨HB2.out.trans (hb3.mono HB2.out.size), .inr ⟨_, rfl, HE.out (.inr (by rw [HKL.out]; exact hpl))⟩⟩
  · have EL := hidb (fun W1 (hb : Below W.heap.size W W1) => elementsF_no (nm := nm) (kd := 7) (in_below hb HIW) (i := 1) rfl h7)
    simp only [List.length_cons, List.length_nil] at EL
    have HE2 := hidb (HE.out (.inl h7))
    obtain ⟨V1, hV1⟩ : ∃ V1, ((W.alloc (.cells #[.string nm, .slice (some ⟨b, o, none⟩) 2 c, noneF] CT)).alloc (.cells #[.int .i64 0, .int .i64 0, .float .f64 0, .string ⟨#[]⟩, .slice none 0 0] 25)) = V1 := ⟨_, rfl⟩
    have HX0 : Hid (Box V1 (W.heap.size + 1) (.int .i64 0) (.int .i64 0) (.float .f64 0) (.string ⟨#[]⟩) (.slice none 0 0)) := hidb (by
      rw [← hV1]
      have := Box.new (W.alloc (.cells #[.string nm, .slice (some ⟨b, o, none⟩) 2 c, noneF] CT)) 25 (.int .i64 0) (.int .i64 0) (.float .f64 0) (.string ⟨#[]⟩) (.slice none 0 0)
      simpa using this)
    have HC0 : Hid (Tri V1 W.heap.size (.string nm) (.slice (some ⟨b, o, none⟩) 2 c) noneF) := hidb (by rw [← hV1]; exact (Tri.new W _ _ _ _).keep (below_new _ _))
    have HBW : Hid (Below W.heap.size W V1) := hidb (by rw [← hV1]; exact (below_new W _).alloc (by simp) _)
    have HV1 := hidb hV1
    obtain ⟨PP, hPP⟩ : ∃ PP : Ending → World → Prop, Tld P E w.heap.size W = PP := ⟨_, rfl⟩
    have HPP := hidb hPP
    rw [hPP]
    clear hV1 hPP
    clear hP hE hW hin hin1 hsm hlen v0 v1 v2 v3 v4 h7 HP HE HPL
    go_enter Tryz.func54, Tryz.ntmps54
    go_wp2_with fail
    rw [HV1.out]
    refine (EL.out _ HBW.out).mono ?_
    rintro e w2 ⟨rfl, hb2⟩
    refine ⟨rfl, ?_⟩
    rw [← HPP.out]
    exact ⟨HBW.out.trans (hb2.mono HBW.out.size), .inr ⟨_, rfl, HE2.out⟩⟩
end Go.Proofs.YtajadhkpadkikaaGreatDoor


