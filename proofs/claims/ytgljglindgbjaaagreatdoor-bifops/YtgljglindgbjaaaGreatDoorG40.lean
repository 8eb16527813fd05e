import Derived.Test.YtgljglindgbjaaaGreatDoorG39
import Derived.Test.YtgljglindgbjaaaGreatDoorG36
import Derived.WalkSmall
import Derived.Maps.AppendAt
import Derived.OwnWalk
import Derived.Laws.OwnMore
import Derived.Laws.AppendOwnNone
/- element. -/
namespace Go.Proofs.YtgljglindgbjaaaGreatDoor
open Go.RowKit Go.Lib Go.Deep
attribute [local go_sem] store_float f64bits store_func store_nilFunc
attribute [local go_sem ↓] Go.wp_at_zero Go.wp_at_succ

set_option maxHeartbeats 1600000 in
set_option maxRecDepth 100000 in
theorem element_tc {w : World} {a : Option Addr} {c : Nat} {k n : Int} {f : Nat} {s : ByteArray} {a' : Option Addr} {c' : Nat} {ks0 : List Tr} {k1 n1 : Int} {f1 : Nat} {s1 : ByteArray} {a1 : Option Addr} {c1 : Nat} {ks : List Tr} {nm : ByteArray} {P : Tr → Prop} {E : Int → Prop} (hin : ArgsIn w a c [.mk k n f s a' c' ks0, .mk k1 n1 f1 s1 a1 c1 ks])
    (hsm : ∀ t ∈ ks, Small t ∧ cnT t ≤ 1000000000) (hlen : ks.length ≤ 1000000)
    (hP : k1 = 7 → plB k n ks.length = true → ∀ t, ks[(n - 1).toNat]? = some t → P t) (hE : (k1 ≠ 7 ∨ plB k n ks.length = false) → E 13) :
    TC 63 P E (.agg #[.string nm, .slice a 2 c, noneF]) w := by
  refine ⟨fun args w => by kernel_rfl, fun W hW => ?_⟩
  have HP := hidb hP
  have HWS := hidb hW.size
  have HE := hidb hE
  have HIW := in_below hW hin
  obtain ⟨b, o, rfl, hbW, v0, v1, v2, v3, v4, hin1⟩ := argi hin hW (i := 1) rfl
  have HON := hidb (onAll_get (t := .mk k1 n1 f1 s1 a1 c1 ks) (by have := on_all _ hin; unfold Tr.On at this; exact this.2) (by simp))
  have HI1 := hidb hin1
  have HPL := hidb (fun W1 (hb : Below W.heap.size W W1) => place_any (nm := nm) (ax := a1) (lx := ks.length) (cx := c1) (in_below hb HIW) hlen)
  have HSM := hidb hsm
  by_cases h7 : k1 = 7
  · subst h7
    have EL := hidb (fun W1 (hb : Below W.heap.size W W1) => elementsF_ok (nm := nm) (in_below hb HIW) (i := 1) rfl)
    simp only [List.length_cons, List.length_nil] at EL HPL
    obtain ⟨KL, hKL⟩ : ∃ KL, ks.length = KL := ⟨_, rfl⟩
    rw [hKL] at EL HPL
    have HKL := hidb hKL
    obtain ⟨V1, hV1⟩ : ∃ V1, ((W.alloc (.cells #[.string nm, .slice (some ⟨b, o, none⟩) 2 c, noneF] CT)).alloc (.cells #[.int .i64 0, .int .i64 0, .float .f64 0, .string ⟨#[]⟩, .slice none 0 0] 27)) = V1 := ⟨_, rfl⟩
    have HX0 : Hid (Box V1 (W.heap.size + 1) (.int .i64 0) (.int .i64 0) (.float .f64 0) (.string ⟨#[]⟩) (.slice none 0 0)) := hidb (by
      rw [← hV1]
      have := Box.new (W.alloc (.cells #[.string nm, .slice (some ⟨b, o, none⟩) 2 c, noneF] CT)) 27 (.int .i64 0) (.int .i64 0) (.float .f64 0) (.string ⟨#[]⟩) (.slice none 0 0)
      simpa using this)
    have HC0 : Hid (Tri V1 W.heap.size (.string nm) (.slice (some ⟨b, o, none⟩) 2 c) noneF) := hidb (by rw [← hV1]; exact (Tri.new W _ _ _ _).keep (below_new _ _))
    have HBW : Hid (Below W.heap.size W V1) := hidb (by rw [← hV1]; exact (below_new W _).alloc (by simp) _)
    have HV1 := hidb hV1
    obtain ⟨PP, hPP⟩ : ∃ PP : Ending → World → Prop, Tld P E w.heap.size W = PP := ⟨_, rfl⟩
    have HPP := hidb hPP
    rw [hPP]
    clear hV1 hPP
    clear hP hE hW hin hin1 hsm hlen hKL v0 v1 v2 v3 v4
    go_enter Tryz.func63, Tryz.ntmps63
    go_wp2_with fail
    rw [HV1.out]
    refine (EL.out _ HBW.out).mono ?_
    rintro e w2 ⟨rfl, hb2⟩
    have HB2 := hidb (HBW.out.trans (hb2.mono HBW.out.size))
    have HX2 := hidb (HX0.out.keep hb2)
    have HC2 := hidb (HC0.out.keep hb2)
    have t0 := HC2.out.c0; have t1 := HC2.out.c1; have t2 := HC2.out.c2
    clear hb2
    go_wp2_with fail
    refine (HPL.out _ HB2.out).mono ?_
    rintro e w3 ⟨hb3, ⟨hpl, rfl⟩ | ⟨hpl, rfl⟩⟩
    · have HB3 := hidb (HB2.out.trans (hb3.mono HB2.out.size))
      have HX3 := hidb (HX2.out.keep hb3)
      obtain ⟨⟨x0, x1, x2, x3, x4⟩, ⟨y0, y1, y2, y3, y4⟩, xl⟩ := Box.six HX3.out
      have hpl' : k = 1 ∧ 1 ≤ n ∧ n ≤ (KL : Int) := by simpa [plB] using hpl
      obtain ⟨j, hj⟩ : ∃ j : Nat, n - 1 = (j : Int) := ⟨(n - 1).toNat, by omega⟩
      have hjl : j < KL := by omega
      obtain ⟨⟨k9, n9, f9, s9, a9, c9, ks9⟩, ht⟩ : ∃ t, ks[j]? = some t := ⟨_, List.getElem?_eq_getElem (by have := HKL.out; omega)⟩
      have hin3 := in_below HB3.out HI1.out
      obtain ⟨b1, o1, rfl, hat⟩ := kid_at hin3 (by have := HKL.out; omega)
      obtain ⟨k8, n8, f8, s8, a8, c8, ks8, hu8, hin8, g0, g1, g2, g3, g4⟩ := hat j (by have := HKL.out; omega)
      have hteq := ht.symm.trans hu8
      injection hteq with hteq
      injection hteq with q1 q2 q3 q4 q5 q6 q7
      subst q1 q2 q3 q4 q5 q6 q7
      have HTT : Hid (P (.mk k9 n9 f9 s9 a9 c9 ks9)) := hidb (HP.out (by first | rfl | trivial) (by rw [HKL.out]; exact hpl) _ (by rw [show (n - 1).toNat = j by omega]; exact ht))
      have HT2 := hidb (And.intro hin8 (And.intro (on_kid HON.out (List.mem_of_getElem? ht)) (HSM.out _ (List.mem_of_getElem? ht))))
      have e1 : (j : Int) < (KL : Int) := by omega
      have e2 : (0 : Int) ≤ (j : Int) := by omega
      rw [hj]
      generalize hL9 : ks9.length = L9 at *
      have HL9 := hidb hL9
      clear hb3 hpl hpl' hj hat hu8 hin3 hin8 ht t0 t1 t2 hL9
      go_wp2_with fail
      have bx9 := HX3.out.set (.int .i64 k9) (.int .i64 n9) (.float .f64 f9) (.string s9) (.slice a9 L9 c9)
      obtain ⟨⟨k0, k1', k2, k3, k4⟩, -, -⟩ := Box.six bx9
      simp only [set5] at k0 k1' k2 k3 k4
      refine bodyPost_ret (v := (Tr.mk k9 n9 f9 s9 a9 c9 ks9).val) (by simp [Tr.val, Tr.cells, HL9.out, results, Tryz.results63, go_sem, k0, k1', k2, k3, k4]) rfl ?_
      rw [← HPP.out]
      have hwl : w.heap.size ≤ W.heap.size := HWS.out
      refine ⟨(((((HB3.out.setCell (by simp) _).setCell (by simp) _).setCell (by simp) _).setCell (by simp) _).setCell (by simp) _), .inl ⟨_, rfl, HTT.out, ?_, on_mono (fun q hq => .inl hq) _ HT2.out.2.1, HT2.out.2.2.1, HT2.out.2.2.2⟩⟩
      exact in_on5 (B := w.heap.size) (c := W.heap.size + 2) HT2.out.1 (on_mono (fun q hq => .inl hq) _ HT2.out.2.1) (by omega) (by omega) _ _ _ _ _
    · refine ⟨rfl, ?_⟩
      rw [← HPP.out]
      exact ⟨HB2.out.trans (hb3.mono HB2.out.size), .inr ⟨_, rfl, HE.out (.inr (by rw [HKL.out]; exact hpl))⟩⟩
  · have EL := hidb (fun W1 (hb : Below W.heap.size W W1) => elementsF_no (nm := nm) (kd := 7) (in_below hb HIW) (i := 1) rfl h7)
    simp only [List.length_cons, List.length_nil] at EL
    have HE2 := hidb (HE.out (.inl h7))
    obtain ⟨V1, hV1⟩ : ∃ V1, ((W.alloc (.cells #[.string nm, .slice (some ⟨b, o, none⟩) 2 c, noneF] CT)).alloc (.cells #[.int .i64 0, .int .i64 0, .float .f64 0, .string ⟨#[]⟩, .slice none 0 0] 27)) = V1 := ⟨_, rfl⟩
    have HX0 : Hid (Box V1 (W.heap.size + 1) (.int .i64 0) (.int .i64 0) (.float .f64 0) (.string ⟨#[]⟩) (.slice none 0 0)) := hidb (by
      rw [← hV1]
      have := Box.new (W.alloc (.cells #[.string nm, .slice (some ⟨b, o, none⟩) 2 c, noneF] CT)) 27 (.int .i64 0) (.int .i64 0) (.float .f64 0) (.string ⟨#[]⟩) (.slice none 0 0)
      simpa using this)
    have HC0 : Hid (Tri V1 W.heap.size (.string nm) (.slice (some ⟨b, o, none⟩) 2 c) noneF) := hidb (by rw [← hV1]; exact (Tri.new W _ _ _ _).keep (below_new _ _))
    have HBW : Hid (Below W.heap.size W V1) := hidb (by rw [← hV1]; exact (below_new W _).alloc (by simp) _)
    have HV1 := hidb hV1
    obtain ⟨PP, hPP⟩ : ∃ PP : Ending → World → Prop, Tld P E w.heap.size W = PP := ⟨_, rfl⟩
    have HPP := hidb hPP
    rw [hPP]
    clear hV1 hPP
    clear hP hE hW hin hin1 hsm hlen v0 v1 v2 v3 v4 h7 HP HE HPL
    go_enter Tryz.func63, Tryz.ntmps63
    go_wp2_with fail
    rw [HV1.out]
    refine (EL.out _ HBW.out).mono ?_
    rintro e w2 ⟨rfl, hb2⟩
    refine ⟨rfl, ?_⟩
    rw [← HPP.out]
    exact ⟨HBW.out.trans (hb2.mono HBW.out.size), .inr ⟨_, rfl, HE2.out⟩⟩
end Go.Proofs.YtgljglindgbjaaaGreatDoor


/- right: are terms right, and few? -/
namespace Go.Proofs.YtgljglindgbjaaaGreatDoor
open Go.RowKit Go.Lib Go.Deep
attribute [local go_sem] store_float f64bits store_func store_nilFunc
attribute [local go_sem ↓] Go.wp_at_zero Go.wp_at_succ

theorem few_cn : ∀ (t : Tr) (left deep : Int), 0 ≤ fewT t left deep → fewT t left deep = left - cnT t := by
  refine Tr.ind fun k n f s a c kids hk => ?_
  have hall : ∀ left deep, 0 ≤ fewAll kids left deep → fewAll kids left deep = left - cnA kids := by
    induction kids with
    | nil => intro left deep h0; simp [fewAll, cnA]
    | cons t r ih =>
      intro left deep h0
      simp only [fewAll] at h0 ⊢
      by_cases hl : left < 0
      · rw [if_pos hl] at h0; omega
      · rw [if_neg hl] at h0 ⊢
        have hn : 0 ≤ fewT t left deep := by
          by_cases hz : fewT t left deep < 0
          · rw [fewAll_stop _ _ _ hz] at h0; omega
          · omega
        have g := hk t (List.mem_cons_self ..) left deep hn
        have q := ih (fun u hu => hk u (List.mem_cons_of_mem _ hu)) (fewT t left deep) deep h0
        rw [q, g]
        simp only [cnA]
        omega
  intro left deep h0
  simp only [fewT] at h0 ⊢
  by_cases hc : left < 0 ∨ deep < 0
  · rw [if_pos hc] at h0; omega
  · rw [if_neg hc] at h0 ⊢
    rw [hall (left - 1) (deep - 1) h0]
    simp only [cnT]
    omega

theorem few_range : ∀ (t : Tr) (left deep : Int), 0 ≤ left → -1 ≤ fewT t left deep ∧ fewT t left deep ≤ left := by
  refine Tr.ind fun k n f s a c kids hk => ?_
  have hall : ∀ left deep, -1 ≤ left → -1 ≤ fewAll kids left deep ∧ fewAll kids left deep ≤ left := by
    induction kids with
    | nil => intro left deep h; simp [fewAll]; omega
    | cons t r ih =>
      intro left deep h
      simp only [fewAll]
      by_cases hl : left < 0
      · rw [if_pos hl]; omega
      · rw [if_neg hl]
        have g := hk t (List.mem_cons_self ..) left deep (by omega)
        have q := ih (fun u hu => hk u (List.mem_cons_of_mem _ hu)) (fewT t left deep) deep g.1
        omega
  intro left deep h
  simp only [fewT]
  by_cases hc : left < 0 ∨ deep < 0
  · rw [if_pos hc]; omega
  · rw [if_neg hc]
    have := hall (left - 1) (deep - 1) (by omega)
    omega

/-- What few says of each. -/
theorem few9_each {a : Option Addr} {c : Nat} {ts : List Tr} (h : 0 ≤ fewT (.mk 0 0 0 ⟨#[]⟩ a c ts) 150000 500) {t : Tr} (ht : t ∈ ts) : Small t ∧ cnT t ≤ 150001 := by
  have h1 := (few_small (.mk 0 0 0 ⟨#[]⟩ a c ts) 150000 500 (by omega) h).1
  have h2 := few_cn (.mk 0 0 0 ⟨#[]⟩ a c ts) 150000 500 h
  simp only [Small] at h1
  refine ⟨smallAll_get h1.2 ht, ?_⟩
  have h3 : ∀ l : List Tr, t ∈ l → cnT t ≤ cnA l := by
    intro l
    induction l with
    | nil => intro h; simp at h
    | cons u r ih =>
      intro h
      simp only [cnA]
      rcases List.mem_cons.1 h with rfl | h
      · omega
      · have := ih h; omega
  have := h3 ts ht
  simp only [cnT] at h2
  omega
def rgt9 (a : Option Addr) (c : Nat) (ts : List Tr) : Bool := decide (0 ≤ fewT (.mk 0 0 0 ⟨#[]⟩ a c ts) 150000 500) && ts.all (fun t => errT t == 0)

set_option maxHeartbeats 4000000 in
set_option maxRecDepth 100000 in
theorem right9_any {w : World} {a : Option Addr} {c : Nat} {kids : List Tr} (hin : ArgsIn w a c kids) (hsw : ∀ t ∈ kids, SmallW t) (h5 : kids.length ≤ 5) :
    Calls Tryz.prog 5 #[.slice a kids.length c] w fun e w' => e = .returned (.bool (rgt9 a c kids)) ∧ Below w.heap.size w w' := by
  have FW := hidb (few_any (.mk 0 0 0 ⟨#[]⟩ a c kids) 150000 500)
  have HFR := hidb (few_range (.mk 0 0 0 ⟨#[]⟩ a c kids) 150000 500 (by omega))
  simp only [Tr.val, Tr.cells] at FW
  obtain ⟨N, hN⟩ : ∃ N, kids.length = N := ⟨_, rfl⟩
  obtain ⟨FQ, hFQ⟩ : ∃ FQ, fewT (.mk 0 0 0 ⟨#[]⟩ a c kids) 150000 500 = FQ := ⟨_, rfl⟩
  obtain ⟨RQ, hRQ⟩ : ∃ RQ, rgt9 a c kids = RQ := ⟨_, rfl⟩
  have HRQ := hidb hRQ
  have HFQ := hidb hFQ
  rw [hN] at FW ⊢
  rw [hFQ] at FW HFR
  rw [hRQ]
  have HIN := hidb hin
  have HSW := hidb hsw
  have HN := hidb hN
  have hN5 : N ≤ 5 := by omega
  have hn5 : ¬ (5 : Int) < (N : Int) := by omega
  clear hin hsw h5 hN hFQ hRQ
  go_enter Tryz.func5, Tryz.ntmps5
  go_wp2_with fail
  refine (FW.out w HIN.out (by decide) (by decide) (by decide) (by decide)).mono ?_
  rintro e w1 ⟨rfl, hb1⟩
  have HB1 := hidb hb1
  clear hb1
  by_cases hF : FQ < 0
  · obtain rfl : RQ = false := by rw [← HRQ.out]; unfold rgt9; rw [HFQ.out]; simp; omega
    go_wp2_with fail
    go_ret
    exact ⟨rfl, HB1.out⟩
  · go_wp2_with fail
    go_loopw [3] (fun iv wr => ∃ i : Nat, i ≤ N ∧ iv = .int .i64 (i : Int) ∧ Below w.heap.size w wr ∧ ∀ (j : Nat) (q : Tr), j < i → kids[j]? = some q → errT q = 0) (fun iv _ => N - (RowKit.intOf iv).toNat)
    case atStart => exact ⟨0, by omega, rfl, HB1.out, fun j q hj => by omega⟩
    case round =>
    obtain ⟨i, hi, rfl, hb, hno⟩ := hrel
    have HB := hidb hb
    have HO := hidb hno
    have HI := hidb hi
    clear hb hno hi
    by_cases hil : i < N
    · have e1 : (i : Int) < (N : Int) := by omega
      have e2 : (0 : Int) ≤ (i : Int) := by omega
      obtain ⟨⟨k', n', f', s', a', c', ks'⟩, ht⟩ : ∃ t, kids[i]? = some t := ⟨_, List.getElem?_eq_getElem (by have := HN.out; omega)⟩
      obtain ⟨b, o, rfl, hbW, v0, v1, v2, v3, v4, hint⟩ := argi HIN.out HB.out ht
      have RR := hidb (rright_t (.mk k' n' f' s' a' c' ks') wr hint (HSW.out _ (List.mem_of_getElem? ht)))
      simp only [Tr.val, Tr.cells] at RR
      have HT := hidb ht
      clear ht hint
      by_cases he : errT (.mk k' n' f' s' a' c' ks') = 0
      · have he' : (errT (.mk k' n' f' s' a' c' ks') == 0) = true := by simpa using he
        rw [he'] at RR
        have HEr := hidb he
        clear he he'
        generalize ks'.length = L9 at *
        go_wp2_with fail
        refine RR.out.mono ?_
        rintro e w2 ⟨rfl, hb2⟩
        have HB2 := hidb (HB.out.trans (hb2.mono HB.out.size))
        clear hb2
        go_wp2_with fail
        go_roundw
        case rel => exact ⟨i + 1, by omega, by rw [Int.natCast_add]; rfl, HB2.out, fun j q hj hjq => by
          by_cases e : j < i
          · exact HO.out j q e hjq
          · obtain rfl : j = i := by omega
            obtain rfl := Option.some.inj (HT.out.symm.trans hjq)
            exact HEr.out⟩
        case measure => simp [RowKit.intOf]; omega
      · have he' : (errT (.mk k' n' f' s' a' c' ks') == 0) = false := by simpa using he
        rw [he'] at RR
        obtain rfl : RQ = false := by
          rw [← HRQ.out]
          unfold rgt9
          have : kids.all (fun t => errT t == 0) = false := by
            rw [List.all_eq_false]
            exact ⟨_, List.mem_of_getElem? HT.out, by simp [he]⟩
          rw [this, Bool.and_false]
        clear he he'
        generalize ks'.length = L9 at *
        go_wp2_with fail
        refine RR.out.mono ?_
        rintro e w2 ⟨rfl, hb2⟩
        have HB2 := hidb (HB.out.trans (hb2.mono HB.out.size))
        clear hb2
        go_wp2_with fail
        go_ret
        exact ⟨rfl, HB2.out⟩
    · have e1 : ¬ (i : Int) < (N : Int) := by omega
      obtain rfl : RQ = true := by
        rw [← HRQ.out]
        unfold rgt9
        rw [HFQ.out]
        have : kids.all (fun t => errT t == 0) = true := by
          rw [List.all_eq_true]
          intro t ht
          obtain ⟨j, hj⟩ := List.getElem?_of_mem ht
          have := HO.out j t (by have := (List.getElem?_eq_some_iff.1 hj).1; have := HN.out; omega) hj
          simp [this]
        rw [this, Bool.and_true]
        simp; omega
      go_wp2_with fail
      go_ret
      exact ⟨rfl, HB.out⟩
theorem rgt9_ok {a : Option Addr} {c : Nat} {ts : List Tr} (h : rgt9 a c ts = true) : ∀ t ∈ ts, errT t = 0 ∧ Small t ∧ cnT t ≤ 150001 := by
  unfold rgt9 at h
  simp only [Bool.and_eq_true, decide_eq_true_eq, List.all_eq_true, beq_iff_eq] at h
  exact fun t ht => ⟨h.2 t ht, few9_each h.1 ht⟩
end Go.Proofs.YtgljglindgbjaaaGreatDoor


/- slices.Concat of a row of terms and of nothing. -/
namespace Go.Proofs.YtgljglindgbjaaaGreatDoor
open Go.RowKit Go.Lib Go.Deep
attribute [local go_sem] store_float f64bits store_func store_nilFunc
attribute [local go_sem ↓] Go.wp_at_zero Go.wp_at_succ

theorem infoT5' : ∃ i0, Tryz.prog.info? 27 = some i0 ∧ i0.zero = some (.agg #[.int .i64 0, .int .i64 0, .float .f64 0, .string ⟨#[]⟩, .slice none 0 0]) ∧ i0.size = 5 ∧ i0.bytes = 64 := info_parts infoT5
set_option maxHeartbeats 4000000 in
set_option maxRecDepth 100000 in
theorem concat_one {W : World} {rb : Nat} {a1 : Option Addr} {c1 : Nat} {kids : List Tr} (hin : ArgsIn W a1 c1 kids) (h0 : W.cell? ⟨rb, 0, none⟩ = some (.slice a1 kids.length c1)) (h1 : W.cell? ⟨rb, 1, none⟩ = some (.slice none 0 0)) (hl : kids.length ≤ 65536) :
    Calls Tryz.prog 103 #[.slice (some ⟨rb, 0, none⟩) 2 2] W fun e w' => ∃ v', e = .returned v' ∧ w'.ownsRow W.heap.size 27 5 v' kids.length (kids.flatMap Tr.cells) ∧ Below W.heap.size W w' := by
  have GR := hidb (fun W1 (hb : W.heap.size ≤ W1.heap.size) => grow_terms W.heap.size (.slice none 0 0) 0 kids.length [] W1 (World.ownsRow_nil _ _ _ _) hl (by omega) hb)
  have HIN := hidb hin
  obtain ⟨N, hN⟩ : ∃ N, kids.length = N := ⟨_, rfl⟩
  have HN := hidb hN
  rw [hN] at h0 GR hl ⊢
  obtain ⟨XS, hXS⟩ : ∃ XS, kids.flatMap Tr.cells = XS := ⟨_, rfl⟩
  have HXS := hidb hXS
  rw [hXS]
  clear hXS
  have w1 : wrap64 (0 + (N : Int)) = (N : Int) := by unfold wrap64; omega
  have w2 : wrap64 ((N : Int) + 0) = (N : Int) := by unfold wrap64; omega
  have w3 : wrap64 (N : Int) = (N : Int) := by unfold wrap64; omega
  have w4 : ¬ (N : Int) < 0 := by omega
  have hrl : rb < W.heap.size := World.block_lt_of_cell? _ _ h0
  have HL := hidb hl
  clear hin hN hl
  go_enter Tryz.func103, Tryz.ntmps103
  go_wp2_with fail
  refine wp_loop_times 3 ?_
  unfold Un
  go_wp2_with fail
  unfold Un
  go_wp2_with fail
  unfold Un
  go_wp2_with fail
  refine (GR.out W (Nat.le_refl _)).mono ?_
  rintro e w5 ⟨v5, rfl, hown5, hblk5, hb5⟩
  obtain ⟨q5, c5, rfl⟩ := own_sl hown5
  have HO5 := hidb hown5
  have HB5 := hidb hb5
  have k0 := (hb5.cell (p := ⟨rb, 0, none⟩) hrl).trans h0
  have k1 := (hb5.cell (p := ⟨rb, 1, none⟩) hrl).trans h1
  clear hown5 hblk5 hb5
  obtain ⟨i0, hi, hz0, hs0, hb0⟩ := infoT5'
  cases a1 with
  | none =>
    have hin := HIN.out
    unfold Tr.In at hin
    obtain rfl : c1 = 0 := hin.1.2.2.2.2.2.2 rfl
    have hk0 : kids.length ≤ 0 := hin.1.2.2.2.2.1
    obtain rfl : N = 0 := by have := HN.out; omega
    have hk1 : kids = [] := List.length_eq_zero_iff.1 (by omega)
    clear hin hk0
    subst hk1
    obtain rfl : [] = XS := HXS.out
    have M1 := trivial
    have M2 := trivial
    go_wp2_with fail
    refine wp_loop_times 3 ?_
    unfold Un
    go_wp2_with (at_builtin; clear M1; refine wpList_append_own_none rfl _ _ 22 rfl W.heap.size 27 i0 5 Tryz.underlying22 hi (.slice q5 0 c5) 0 [] rfl HO5.out rfl ?_)
    unfold Un
    go_wp2_with (at_builtin; clear M2; refine wpList_append_own_none rfl _ _ 22 rfl W.heap.size 27 i0 5 Tryz.underlying22 hi (.slice q5 0 c5) 0 [] rfl HO5.out rfl ?_)
    unfold Un
    go_wp2_with fail
    go_ret
    exact ⟨_, rfl, HO5.out, HB5.out⟩
  | some ad =>
    have hnews : ∀ (j : Nat) (u : Value), (kids.flatMap Tr.cells)[j]? = some u → w5.cell? (ad.add j) = some u := by
      intro j u hj
      have hjl := (List.getElem?_eq_some_iff.1 hj).1
      rw [flat_len] at hjl
      obtain ⟨b, o, he, hat⟩ := kid_at (in_below HB5.out HIN.out) (by omega)
      obtain rfl : ad = ⟨b, o, none⟩ := by simpa using he
      have hd : j = j / 5 * 5 + j % 5 := by omega
      obtain ⟨k1, n1, f1, s1, a1, c1', ks1, hu1, -, v0, v1, v2, v3, v4⟩ := hat (j / 5) (by omega)
      have hg := flat5_get kids (j / 5) _ hu1 (j % 5) (by omega)
      rw [← hd, hj] at hg
      have e1 : (⟨b, o, none⟩ : Addr).add j = ⟨b, o + j, none⟩ := by clear hd hg hat v0 v1 v2 v3 v4; unfold Addr.add; split <;> simp_all
      rw [e1, hg, show o + j = o + j / 5 * 5 + j % 5 by omega]
      have h5 : j % 5 < 5 := by omega
      generalize j % 5 = r at *
      match r, h5 with
      | 0, _ => exact v0
      | 1, _ => exact v1
      | 2, _ => exact v2
      | 3, _ => exact v3
      | 4, _ => exact v4
    have hone : ∀ u ∈ kids.flatMap Tr.cells, u.oneCell' = true := by
      intro u hu
      obtain ⟨t, -, ht⟩ := List.mem_flatMap.1 hu
      exact tr_one t u ht
    have hxl : (kids.flatMap Tr.cells).length = N * 5 := by rw [flat_len, HN.out]
    rw [HXS.out] at hnews hone hxl
    have HNW := hidb hnews
    have HON := hidb hone
    have HXL := hidb hxl
    clear hnews hone hxl
    have M1 := trivial
    have M2 := trivial
    go_wp2_with fail
    refine wp_loop_times 3 ?_
    unfold Un
    go_wp2_with (at_builtin; clear M1; refine wpList_append_own_at _ rfl _ _ 22 rfl W.heap.size 27 i0 (.agg #[.int .i64 0, .int .i64 0, .float .f64 0, .string ⟨#[]⟩, .slice none 0 0]) 5 64 Tryz.underlying22 hi hz0 hs0 hb0 rfl (by decide) (.slice q5 0 c5) 0 [] rfl HO5.out ad N c1 XS rfl HXL.out HNW.out HON.out ?e3 ?e4 ?e5 ?_)
    case e3 => have := HL.out; unfold maxLen; omega
    case e4 => have := HL.out; omega
    case e5 => exact HB5.out.size
    intro v6 w6 hown6 hgrow6 hnil6 hat6
    have HB6 := hidb (grown_up HB5.out hgrow6 (fun k hk => (row_lt HO5.out k hk).2))
    (try simp only [List.nil_append, Nat.zero_add] at hown6)
    have HO6 := hidb hown6
    obtain ⟨q6, c6, rfl⟩ := own_sl hown6
    have k1 := (HB6.out.cell (p := ⟨rb, 1, none⟩) hrl).trans h1
    clear hown6 hgrow6 hnil6 hat6 k0
    go_wp2_with fail
    unfold Un
    go_wp2_with (at_builtin; clear M2; refine wpList_append_own_none rfl _ _ 22 rfl W.heap.size 27 i0 5 Tryz.underlying22 hi (.slice q6 N c6) N XS rfl HO6.out rfl ?_)
    unfold Un
    go_wp2_with fail
    go_ret
    exact ⟨_, rfl, HO6.out, HB6.out⟩
end Go.Proofs.YtgljglindgbjaaaGreatDoor


