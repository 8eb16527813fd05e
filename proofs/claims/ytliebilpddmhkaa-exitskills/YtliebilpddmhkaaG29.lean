import Derived.Test.YtliebilpddmhkaaG28
import Derived.Test.YtliebilpddmhkaaG27
/- ExitsOnce. -/
namespace Go.Proofs.Ytliebilpddmhkaa
open Go.RowKit Go.Lib Go.Deep
attribute [local go_sem] store_float f64bits
attribute [local go_sem ↓] Go.wp_at_zero Go.wp_at_succ

theorem err_noproc : errT (.mk 3 0 0 ⟨#[110, 111, 112, 114, 111, 99]⟩ none 0 []) = 0 := by decide
theorem errS_ok {x0 x1 k x3 x4 : Int} {lk : Bool} {nm : ByteArray} {t : Tr} (h : errS x0 x1 k x3 x4 lk nm t = 0) : (isK k = true ∧ inW x0 0 1099511627776 = true ∧ inW x1 1 1099511627776 = true) ∧ fitT (hT k) t = true ∧ fitR k x3 x4 lk nm = true := by
  unfold errS at h
  split at h
  · simp at h
  rename_i h1
  split at h
  · simp at h
  rename_i h2
  split at h
  · simp at h
  rename_i h3
  simp at h1 h2 h3
  exact ⟨⟨h1.1, h1.2.1, h1.2.2⟩, h2, h3⟩
theorem errS_mk {x0 x1 k x3 x4 : Int} {lk : Bool} {nm : ByteArray} {t : Tr} (h1 : isK k = true) (h2 : inW x0 0 1099511627776 = true) (h3 : inW x1 1 1099511627776 = true) (h4 : fitT (hT k) t = true) (h5 : fitR k x3 x4 lk nm = true) : errS x0 x1 k x3 x4 lk nm t = 0 := by
  unfold errS
  simp [h1, h2, h3, h4, h5]
theorem fitR4 (x3 : Int) : fitR 4 x3 0 false ⟨#[]⟩ = fitN x3 (hI 3) 9223372036854775807 := by
  unfold fitR
  rw [show hI 4 = hI 3 by decide, show fitN 0 (hR 4) 1099511627776 = true by decide, show (hL 4 || !false) = true by decide, show (hN 4 || decide ((⟨#[]⟩ : ByteArray).size = 0)) = true by decide]
  simp
theorem fitR8 (x4 : Int) : fitR 8 0 x4 false ⟨#[]⟩ = fitN x4 (hR 6) 1099511627776 := by
  unfold fitR
  rw [show hR 8 = hR 6 by decide, show fitN 0 (hI 8) 9223372036854775807 = true by decide, show (hL 8 || !false) = true by decide, show (hN 8 || decide ((⟨#[]⟩ : ByteArray).size = 0)) = true by decide]
  simp
theorem dead_facts {x0 x1 k x3 x4 : Int} {lk : Bool} {nm : ByteArray} {t : Tr} (h : errS x0 x1 k x3 x4 lk nm t = 0) (D : D8) (hD : deadP x0 x1 k x3 x4 = D) :
    (D.l = false → D.a = 0 ∧ D.b = 0 ∧ D.c = 0) ∧ (D.l = true → D.a = x1 ∧ D.b = x0 ∧ deadP D.a D.b D.c D.d D.e = ⟨0, 0, 0, 0, 0, false, 0, ⟨#[]⟩, false⟩ ∧ errS D.a D.b D.c D.d D.e D.f ⟨#[]⟩ (.mk D.g 0 0 D.h none 0 []) = 0) := by
  obtain ⟨⟨h1, h2, h3⟩, h4, h5⟩ := errS_ok h
  simp only [inW, Bool.and_eq_true, decide_eq_true_eq] at h2 h3
  subst hD
  unfold deadP
  by_cases e0 : x0 = 0
  · simp only [if_pos e0]
    exact ⟨fun _ => ⟨trivial, trivial, trivial⟩, fun h => by simp at h⟩
  have b0 : inW x0 1 1099511627776 = true := by simp only [inW, Bool.and_eq_true, decide_eq_true_eq]; omega
  have b1 : inW x1 0 1099511627776 = true := by simp only [inW, Bool.and_eq_true, decide_eq_true_eq]; omega
  have n1 : ¬ x1 = 0 := by omega
  by_cases e2 : k = 2
  · subst e2
    simp only [if_neg e0, if_true]
    refine ⟨fun h => by simp at h, fun _ => ⟨trivial, trivial, ?_, errS_mk (by decide) b1 b0 (by simp [fitT, hT, err_noproc]) (by decide)⟩⟩
    simp [n1]
  by_cases e3 : k = 3
  · subst e3
    simp only [if_neg e0, if_neg e2, if_true]
    refine ⟨fun h => by simp at h, fun _ => ⟨trivial, trivial, ?_, errS_mk (by decide) b1 b0 (by decide) ?_⟩⟩
    · simp [n1]
    · unfold fitR at h5
      simp only [Bool.and_eq_true] at h5
      rw [fitR4]
      exact h5.1.1.1
  by_cases e6 : k = 6
  · subst e6
    simp only [if_neg e0, if_neg e2, if_neg e3, if_true]
    refine ⟨fun h => by simp at h, fun _ => ⟨trivial, trivial, ?_, errS_mk (by decide) b1 b0 (by simp [fitT, hT, err_noproc]) ?_⟩⟩
    · simp [n1]
    · unfold fitR at h5
      simp only [Bool.and_eq_true] at h5
      rw [fitR8]
      exact h5.1.1.2
  simp only [if_neg e0, if_neg e2, if_neg e3, if_neg e6]
  exact ⟨fun _ => ⟨trivial, trivial, trivial⟩, fun h => by simp at h⟩

set_option maxRecDepth 100000 in
set_option maxHeartbeats 8000000 in
theorem exitsOnce_of (x0 x1 k x3 x4 : Int) (lk : Bool) (nm : ByteArray) (tk tn : Int) (tf : Nat) (ts : ByteArray) (ta : Option Addr) (tc : Nat) (kids : List Tr) (w : World) (hin : (Tr.mk tk tn tf ts ta tc kids).In w 0) : Calls Try.prog 4 #[.agg #[.int .i64 x0, .int .i64 x1, .int .i64 k, .int .i64 x3, .int .i64 x4, .bool lk, .string nm, .int .i64 tk, .int .i64 tn, .float .f64 tf, .string ts, .slice ta kids.length tc]] w fun e w' => e = .returned (.bool true) ∧ Below w.heap.size w w' := by
  have KN := hidb known16_any
  have FW := hidb (fun (w' : World) (hb : Below w.heap.size w w') => few16_any (.mk tk tn tf ts ta tc kids) w' (in_below hb hin))
  simp only [Tr.val, Tr.cells] at FW
  obtain ⟨fw, hfw⟩ : ∃ fw, decide (0 ≤ fewT (.mk tk tn tf ts ta tc kids) 100000 1000) = fw := ⟨_, rfl⟩
  rw [hfw] at FW
  cases fw with
  | false =>
    clear hfw hin
    generalize kids.length = tl at *
    have HS : Hid ((w.alloc (.cells #[.int .i64 x0, .int .i64 x1, .int .i64 k, .int .i64 x3, .int .i64 x4, .bool lk, .string nm, .int .i64 tk, .int .i64 tn, .float .f64 tf, .string ts, .slice ta tl tc] 27)).heap[w.heap.size]? = some (.cells #[.int .i64 x0, .int .i64 x1, .int .i64 k, .int .i64 x3, .int .i64 x4, .bool lk, .string nm, .int .i64 tk, .int .i64 tn, .float .f64 tf, .string ts, .slice ta tl tc] 27)) := hidb (at_new w _)
    have HB : Hid (Below w.heap.size w (w.alloc (.cells #[.int .i64 x0, .int .i64 x1, .int .i64 k, .int .i64 x3, .int .i64 x4, .bool lk, .string nm, .int .i64 tk, .int .i64 tn, .float .f64 tf, .string ts, .slice ta tl tc] 27))) := hidb (below_new w _)
    go_enter Try.func4, Try.ntmps4
    go_wp2_with (first | (go_at_call 6; refine (KN.out _).mono ?_; rintro e w1 ⟨rfl, hb1⟩; have HS := hidb (at_keep HS.out hb1); have HB := hidb (HB.out.trans (hb1.mono HB.out.size)); obtain ⟨s0, s1, s2, s3, s4, s5, s6, s7, s8, s9, s10, s11⟩ := box12 HS.out; clear hb1) | (go_at_call 7; refine (FW.out _ HB.out).mono ?_; rintro e w2 ⟨rfl, hb2⟩; have HS := hidb (at_keep HS.out hb2); have HB := hidb (HB.out.trans (hb2.mono HB.out.size)); obtain ⟨s0, s1, s2, s3, s4, s5, s6, s7, s8, s9, s10, s11⟩ := box12 HS.out; clear hb2))
    go_ret
    exact ⟨rfl, HB.out⟩
  | true =>
  obtain ⟨hsm, hcn⟩ := few_ok (of_decide_eq_true hfw)
  have CK := hidb (fun (w' : World) (hb : Below w.heap.size w w') => check_any x0 x1 k x3 x4 lk nm (.mk tk tn tf ts ta tc kids) w' (in_below hb hin) hsm)
  simp only [Tr.cells] at CK
  obtain ⟨E, hE⟩ : ∃ E, errS x0 x1 k x3 x4 lk nm (.mk tk tn tf ts ta tc kids) = E := ⟨_, rfl⟩
  rw [hE] at CK
  by_cases h0 : E ≠ 0
  · have h1 : (E != 0) = true := by simpa using h0
    clear hfw hin hsm hcn hE h0
    generalize kids.length = tl at *
    have HS : Hid ((w.alloc (.cells #[.int .i64 x0, .int .i64 x1, .int .i64 k, .int .i64 x3, .int .i64 x4, .bool lk, .string nm, .int .i64 tk, .int .i64 tn, .float .f64 tf, .string ts, .slice ta tl tc] 27)).heap[w.heap.size]? = some (.cells #[.int .i64 x0, .int .i64 x1, .int .i64 k, .int .i64 x3, .int .i64 x4, .bool lk, .string nm, .int .i64 tk, .int .i64 tn, .float .f64 tf, .string ts, .slice ta tl tc] 27)) := hidb (at_new w _)
    have HB : Hid (Below w.heap.size w (w.alloc (.cells #[.int .i64 x0, .int .i64 x1, .int .i64 k, .int .i64 x3, .int .i64 x4, .bool lk, .string nm, .int .i64 tk, .int .i64 tn, .float .f64 tf, .string ts, .slice ta tl tc] 27))) := hidb (below_new w _)
    go_enter Try.func4, Try.ntmps4
    go_wp2_with (first | (go_at_call 6; refine (KN.out _).mono ?_; rintro e w1 ⟨rfl, hb1⟩; have HS := hidb (at_keep HS.out hb1); have HB := hidb (HB.out.trans (hb1.mono HB.out.size)); obtain ⟨s0, s1, s2, s3, s4, s5, s6, s7, s8, s9, s10, s11⟩ := box12 HS.out; clear hb1) | (go_at_call 7; refine (FW.out _ HB.out).mono ?_; rintro e w2 ⟨rfl, hb2⟩; have HS := hidb (at_keep HS.out hb2); have HB := hidb (HB.out.trans (hb2.mono HB.out.size)); obtain ⟨s0, s1, s2, s3, s4, s5, s6, s7, s8, s9, s10, s11⟩ := box12 HS.out; clear hb2) | (go_at_call 8; refine (CK.out _ HB.out).mono ?_; clear CK; rintro e w3 ⟨rfl, hb3⟩; have HS := hidb (at_keep HS.out hb3); have HB := hidb (HB.out.trans (hb3.mono HB.out.size)); obtain ⟨s0, s1, s2, s3, s4, s5, s6, s7, s8, s9, s10, s11⟩ := box12 HS.out; clear hb3))
    go_ret
    exact ⟨rfl, HB.out⟩
  obtain rfl : E = 0 := by simpa using h0
  clear h0
  obtain ⟨hg, hh⟩ := deadP_ok x0 x1 k x3 x4
  obtain ⟨hF, hT'⟩ := dead_facts hE _ rfl
  have DE := hidb (fun w => Dead_any x0 x1 k x3 x4 lk nm tk tn tf ts ta kids.length tc w)
  generalize deadP x0 x1 k x3 x4 = D at *
  obtain ⟨da, db, dc, dd, de, df, dg, dh, dl⟩ := D
  simp only at DE hF hT' hg hh
  clear hfw hin hsm hcn hE
  generalize kids.length = tl at *
  have HS : Hid ((w.alloc (.cells #[.int .i64 x0, .int .i64 x1, .int .i64 k, .int .i64 x3, .int .i64 x4, .bool lk, .string nm, .int .i64 tk, .int .i64 tn, .float .f64 tf, .string ts, .slice ta tl tc] 27)).heap[w.heap.size]? = some (.cells #[.int .i64 x0, .int .i64 x1, .int .i64 k, .int .i64 x3, .int .i64 x4, .bool lk, .string nm, .int .i64 tk, .int .i64 tn, .float .f64 tf, .string ts, .slice ta tl tc] 27)) := hidb (at_new w _)
  have HB : Hid (Below w.heap.size w (w.alloc (.cells #[.int .i64 x0, .int .i64 x1, .int .i64 k, .int .i64 x3, .int .i64 x4, .bool lk, .string nm, .int .i64 tk, .int .i64 tn, .float .f64 tf, .string ts, .slice ta tl tc] 27))) := hidb (below_new w _)
  cases dl with
  | false =>
    obtain ⟨rfl, rfl, rfl⟩ := hF rfl
    clear hF hT' hg hh
    go_enter Try.func4, Try.ntmps4
    go_wp2_with (first | (go_at_call 6; refine (KN.out _).mono ?_; rintro e w1 ⟨rfl, hb1⟩; have HS := hidb (at_keep HS.out hb1); have HB := hidb (HB.out.trans (hb1.mono HB.out.size)); obtain ⟨s0, s1, s2, s3, s4, s5, s6, s7, s8, s9, s10, s11⟩ := box12 HS.out; clear hb1) | (go_at_call 7; refine (FW.out _ HB.out).mono ?_; rintro e w2 ⟨rfl, hb2⟩; have HS := hidb (at_keep HS.out hb2); have HB := hidb (HB.out.trans (hb2.mono HB.out.size)); obtain ⟨s0, s1, s2, s3, s4, s5, s6, s7, s8, s9, s10, s11⟩ := box12 HS.out; clear hb2) | (go_at_call 8; refine (CK.out _ HB.out).mono ?_; clear CK; rintro e w3 ⟨rfl, hb3⟩; have HS := hidb (at_keep HS.out hb3); have HB := hidb (HB.out.trans (hb3.mono HB.out.size)); obtain ⟨s0, s1, s2, s3, s4, s5, s6, s7, s8, s9, s10, s11⟩ := box12 HS.out; clear hb3) | (go_at_call 9; refine (DE.out _).mono ?_; clear DE; rintro e w4 ⟨rfl, hb4⟩; have HS := hidb (at_keep HS.out hb4); have HB := hidb (HB.out.trans (hb4.mono HB.out.size)); have hs4 : w.heap.size < w4.heap.size := (Array.getElem?_eq_some_iff.1 HS.out).1; have hsn4 : w.heap.size ≠ w4.heap.size := Nat.ne_of_lt hs4; obtain ⟨s0, s1, s2, s3, s4, s5, s6, s7, s8, s9, s10, s11⟩ := box12 HS.out; clear hb4))
    go_ret
    exact ⟨rfl, HB.out.alloc HB.out.size _⟩
  | true =>
    obtain ⟨rfl, rfl, h3, h4⟩ := hT' rfl
    have DF := hidb (fun w => Dead_any da db dc dd de df ⟨#[]⟩ dg 0 0 dh none 0 0 w)
    rw [h3] at DF
    simp only at DF
    have CL := hidb (fun w => check_any da db dc dd de df ⟨#[]⟩ (.mk dg 0 0 dh none 0 []) w (leaf_in dg dh hg hh w 0) (leaf_small _ _ _ _ _ _))
    rw [h4] at CL
    simp only [Tr.cells, List.length_nil] at CL
    have q1 : (da == da) = true := by simp
    have q2 : (db == db) = true := by simp
    clear hF hT' hg hh h3 h4
    go_enter Try.func4, Try.ntmps4
    go_wp2_with (first | (go_at_call 6; refine (KN.out _).mono ?_; rintro e w1 ⟨rfl, hb1⟩; have HS := hidb (at_keep HS.out hb1); have HB := hidb (HB.out.trans (hb1.mono HB.out.size)); obtain ⟨s0, s1, s2, s3, s4, s5, s6, s7, s8, s9, s10, s11⟩ := box12 HS.out; clear hb1) | (go_at_call 7; refine (FW.out _ HB.out).mono ?_; rintro e w2 ⟨rfl, hb2⟩; have HS := hidb (at_keep HS.out hb2); have HB := hidb (HB.out.trans (hb2.mono HB.out.size)); obtain ⟨s0, s1, s2, s3, s4, s5, s6, s7, s8, s9, s10, s11⟩ := box12 HS.out; clear hb2) | (go_at_call 8; refine (CK.out _ HB.out).mono ?_; clear CK; rintro e w3 ⟨rfl, hb3⟩; have HS := hidb (at_keep HS.out hb3); have HB := hidb (HB.out.trans (hb3.mono HB.out.size)); obtain ⟨s0, s1, s2, s3, s4, s5, s6, s7, s8, s9, s10, s11⟩ := box12 HS.out; clear hb3) | (go_at_call 9; refine (DE.out _).mono ?_; clear DE; rintro e w4 ⟨rfl, hb4⟩; have HS := hidb (at_keep HS.out hb4); have HB := hidb (HB.out.trans (hb4.mono HB.out.size)); have hs4 : w.heap.size < w4.heap.size := (Array.getElem?_eq_some_iff.1 HS.out).1; have hsn4 : w.heap.size ≠ w4.heap.size := Nat.ne_of_lt hs4; obtain ⟨s0, s1, s2, s3, s4, s5, s6, s7, s8, s9, s10, s11⟩ := box12 HS.out; clear hb4) | (go_at_call 9; refine (DF.out _).mono ?_; rintro e w5 ⟨rfl, hb5⟩; have HX := hidb (at_keep (at_new w4 (.cells #[.int .i64 da, .int .i64 db, .int .i64 dc, .int .i64 dd, .int .i64 de, .bool df, .string ⟨#[]⟩, .int .i64 dg, .int .i64 0, .float .f64 0, .string dh, .slice none 0 0] 27)) hb5); have HS := hidb (at_keep (at_keep HS.out (below_new w4 (.cells #[.int .i64 da, .int .i64 db, .int .i64 dc, .int .i64 dd, .int .i64 de, .bool df, .string ⟨#[]⟩, .int .i64 dg, .int .i64 0, .float .f64 0, .string dh, .slice none 0 0] 27))) hb5); have HB := hidb ((HB.out.alloc HB.out.size _).trans (hb5.mono (HB.out.alloc HB.out.size _).size)); have hx5 : w4.heap.size < w5.heap.size := (Array.getElem?_eq_some_iff.1 HX.out).1; have hxn5 : w4.heap.size ≠ w5.heap.size := Nat.ne_of_lt hx5; obtain ⟨p0, p1, p2, p3, p4, p5, p6, p7, p8, p9, p10, p11⟩ := box12 HX.out; obtain ⟨s0, s1, s2, s3, s4, s5, s6, s7, s8, s9, s10, s11⟩ := box12 HS.out; clear hb5) | (go_at_call 8; refine (CL.out _).mono ?_; rintro e w6 ⟨rfl, hb6⟩; have HX := hidb (at_keep (at_keep HX.out (below_new w5 (.cells #[.int .i64 0, .int .i64 0, .int .i64 0, .int .i64 0, .int .i64 0, .bool false, .string ⟨#[]⟩, .int .i64 0, .int .i64 0, .float .f64 0, .string ⟨#[]⟩, .slice none 0 0] 27))) hb6); have HS := hidb (at_keep (at_keep HS.out (below_new w5 (.cells #[.int .i64 0, .int .i64 0, .int .i64 0, .int .i64 0, .int .i64 0, .bool false, .string ⟨#[]⟩, .int .i64 0, .int .i64 0, .float .f64 0, .string ⟨#[]⟩, .slice none 0 0] 27))) hb6); have HB := hidb ((HB.out.alloc HB.out.size _).trans (hb6.mono (HB.out.alloc HB.out.size _).size)); obtain ⟨p0, p1, p2, p3, p4, p5, p6, p7, p8, p9, p10, p11⟩ := box12 HX.out; obtain ⟨s0, s1, s2, s3, s4, s5, s6, s7, s8, s9, s10, s11⟩ := box12 HS.out; clear hb6))
    go_ret
    exact ⟨by simp, HB.out⟩
end Go.Proofs.Ytliebilpddmhkaa


/- exits.Act as ExitsKills asks for it. -/
namespace Go.Proofs.Ytliebilpddmhkaa
open Go.RowKit Go.Lib Go.Deep
attribute [local go_sem] store_float f64bits
attribute [local go_sem ↓] Go.wp_at_zero Go.wp_at_succ

theorem kill_pre {x0 x1 : Int} {lk : Bool} {t : Tr} (h : errS x0 x1 5 0 0 lk ⟨#[]⟩ t = 0) : errT t = 0 ∧ 0 ≤ x0 ∧ x0 ≤ 1099511627776 := by
  obtain ⟨⟨-, h2, -⟩, h4, -⟩ := errS_ok h
  simp only [inW, Bool.and_eq_true, decide_eq_true_eq] at h2
  rw [show hT 5 = true by decide] at h4
  simp [fitT] at h4
  exact ⟨h4, h2.1, h2.2⟩
theorem act_kill (x0 x1 : Int) (lk : Bool) (tk tn : Int) (tf : Nat) (ts : ByteArray) (ta : Option Addr) (tc : Nat) (kids : List Tr) (trap : Bool) (w : World) (hin : (Tr.mk tk tn tf ts ta tc kids).In w 0) (hsm : Small (.mk tk tn tf ts ta tc kids)) (hcn : cnT (.mk tk tn tf ts ta tc kids) ≤ 100000) (hE : errS x0 x1 5 0 0 lk ⟨#[]⟩ (.mk tk tn tf ts ta tc kids) = 0) (hk : (!lk && isA (.mk tk tn tf ts ta tc kids) ⟨#[107, 105, 108, 108]⟩) = true) : Calls Try.prog 12 #[.agg #[.int .i64 x0, .int .i64 x1, .int .i64 5, .int .i64 0, .int .i64 0, .bool lk, .string ⟨#[]⟩, .int .i64 tk, .int .i64 tn, .float .f64 tf, .string ts, .slice ta kids.length tc], .bool trap] w fun e w' => e = .returned (.tuple #[.agg #[.int .i64 2, .int .i64 3, .int .i64 0, .float .f64 0, .string ⟨#[107, 105, 108, 108, 101, 100]⟩, .slice none 0 0], .int .i64 0]) ∧ Below w.heap.size w w' := by
  obtain ⟨h0, hl, hh⟩ := kill_pre hE
  refine (Act_any 0 0 ⟨#[]⟩ x0 x1 lk trap tk tn tf ts ta tc kids w hin hsm (by omega) hE h0 hl hh).mono ?_
  rintro e w' ⟨k0, k2, n2, f2, s2, a2, c2, kids2, rfl, ho, -, hb⟩
  unfold OcR at ho
  rw [if_pos hk] at ho
  obtain ⟨rfl, e2⟩ := ho
  unfold aTr at e2
  cases e2
  exact ⟨rfl, hb⟩
theorem act_none (x0 x1 : Int) (lk : Bool) (tk tn : Int) (tf : Nat) (ts : ByteArray) (ta : Option Addr) (tc : Nat) (kids : List Tr) (w : World) (hin : (Tr.mk tk tn tf ts ta tc kids).In w 0) (hsm : Small (.mk tk tn tf ts ta tc kids)) (hcn : cnT (.mk tk tn tf ts ta tc kids) ≤ 100000) (hE : errS x0 x1 5 0 0 lk ⟨#[]⟩ (.mk tk tn tf ts ta tc kids) = 0) (hk : ¬ (!lk && isA (.mk tk tn tf ts ta tc kids) ⟨#[107, 105, 108, 108]⟩) = true) (hn : (isA (.mk tk tn tf ts ta tc kids) ⟨#[110, 111, 114, 109, 97, 108]⟩ && (lk || decide (x0 ≠ x1))) = true) : Calls Try.prog 12 #[.agg #[.int .i64 x0, .int .i64 x1, .int .i64 5, .int .i64 0, .int .i64 0, .bool lk, .string ⟨#[]⟩, .int .i64 tk, .int .i64 tn, .float .f64 tf, .string ts, .slice ta kids.length tc], .bool false] w fun e w' => e = .returned (.tuple #[.agg #[.int .i64 0, .int .i64 0, .int .i64 0, .float .f64 0, .string ⟨#[]⟩, .slice none 0 0], .int .i64 0]) ∧ Below w.heap.size w w' := by
  obtain ⟨h0, hl, hh⟩ := kill_pre hE
  refine (Act_any 0 0 ⟨#[]⟩ x0 x1 lk false tk tn tf ts ta tc kids w hin hsm (by omega) hE h0 hl hh).mono ?_
  rintro e w' ⟨k0, k2, n2, f2, s2, a2, c2, kids2, rfl, ho, -, hb⟩
  unfold OcR at ho
  rw [if_neg hk, if_neg (show ¬ false = true by simp), if_pos hn] at ho
  obtain ⟨rfl, e2⟩ := ho
  unfold zTr at e2
  cases e2
  exact ⟨rfl, hb⟩
theorem act_copy (x0 x1 : Int) (lk : Bool) (tk tn : Int) (tf : Nat) (ts : ByteArray) (ta : Option Addr) (tc : Nat) (kids : List Tr) (w : World) (hin : (Tr.mk tk tn tf ts ta tc kids).In w 0) (hsm : Small (.mk tk tn tf ts ta tc kids)) (hcn : cnT (.mk tk tn tf ts ta tc kids) ≤ 100000) (hE : errS x0 x1 5 0 0 lk ⟨#[]⟩ (.mk tk tn tf ts ta tc kids) = 0) (hk : ¬ (!lk && isA (.mk tk tn tf ts ta tc kids) ⟨#[107, 105, 108, 108]⟩) = true) (hn : ¬ (isA (.mk tk tn tf ts ta tc kids) ⟨#[110, 111, 114, 109, 97, 108]⟩ && (lk || decide (x0 ≠ x1))) = true) : Calls Try.prog 12 #[.agg #[.int .i64 x0, .int .i64 x1, .int .i64 5, .int .i64 0, .int .i64 0, .bool lk, .string ⟨#[]⟩, .int .i64 tk, .int .i64 tn, .float .f64 tf, .string ts, .slice ta kids.length tc], .bool false] w fun e w' => ∃ (k2 n2 : Int) (f2 : Nat) (s2 : ByteArray) (a2 : Option Addr) (c2 : Nat) (kids2 : List Tr), e = .returned (.tuple #[.agg #[.int .i64 2, .int .i64 k2, .int .i64 n2, .float .f64 f2, .string s2, .slice a2 kids2.length c2], .int .i64 0]) ∧ Hid (∀ W, Below w'.heap.size w' W → Calls Try.prog 14 #[.agg #[.int .i64 k2, .int .i64 n2, .float .f64 f2, .string s2, .slice a2 kids2.length c2], .agg #[.int .i64 tk, .int .i64 tn, .float .f64 tf, .string ts, .slice ta kids.length tc]] W fun e w1 => e = .returned (.bool true) ∧ Below W.heap.size W w1) ∧ Below w.heap.size w w' := by
  obtain ⟨h0, hl, hh⟩ := kill_pre hE
  refine (Act_any 0 0 ⟨#[]⟩ x0 x1 lk false tk tn tf ts ta tc kids w hin hsm (by omega) hE h0 hl hh).mono ?_
  rintro e w' ⟨k0, k2, n2, f2, s2, a2, c2, kids2, rfl, ho, hi, hb⟩
  unfold OcR at ho
  rw [if_neg hk, if_neg (show ¬ false = true by simp), if_neg hn] at ho
  obtain ⟨rfl, hs⟩ := ho
  exact ⟨k2, n2, f2, s2, a2, c2, kids2, rfl, hidb (fun W hW => twin_same (.mk k2 n2 f2 s2 a2 c2 kids2) (.mk tk tn tf ts ta tc kids) (sm_symm _ _ hs) W (in_below hW (in_base (Nat.zero_le _) _ hi)) (in_below (hb.trans (hW.mono hb.size)) hin)), hb⟩

theorem msg_sm {x0 : Int} {t : Tr} {k2 n2 : Int} {f2 : Nat} {s2 : ByteArray} {a2 : Option Addr} {c2 : Nat} {kids2 : List Tr} {w : World} (hs : Sm (msgOf x0 t) (.mk k2 n2 f2 s2 a2 c2 kids2)) (hi : (Tr.mk k2 n2 f2 s2 a2 c2 kids2).In w 0) : k2 = 7 ∧ n2 = 0 ∧ f2 = 0 ∧ s2 = ⟨#[]⟩ ∧ kids2.length = 3 ∧ ∃ b o, a2 = some ⟨b, o, none⟩ ∧ w.cell? ⟨b, o + 3, none⟩ = some (.string ⟨#[69, 88, 73, 84]⟩) ∧ w.cell? ⟨b, o + 6, none⟩ = some (.int .i64 x0) := by
  unfold msgOf Sm at hs
  obtain ⟨rfl, rfl, rfl, rfl, hsa⟩ := hs
  have hl := smA_len hsa
  simp at hl
  obtain ⟨b, o, rfl, hat⟩ := kid_at hi (by omega)
  refine ⟨rfl, rfl, rfl, rfl, by omega, b, o, rfl, ?_, ?_⟩
  · obtain ⟨k', n', f', s', a', c', kids', hu, -, -, -, -, c3, -⟩ := hat 0 (by omega)
    have := smA_get _ _ hsa 0 _ _ rfl hu
    unfold aTr Sm at this
    obtain ⟨rfl, rfl, rfl, rfl, -⟩ := this
    simpa using c3
  · obtain ⟨k', n', f', s', a', c', kids', hu, -, -, c1, -⟩ := hat 1 (by omega)
    have := smA_get _ _ hsa 1 _ _ rfl hu
    unfold pTr Sm at this
    obtain ⟨rfl, rfl, rfl, rfl, -⟩ := this
    simpa [Nat.add_assoc] using c1
theorem msg_small {x0 : Int} {t : Tr} (h : Small t) : Small (msgOf x0 t) := by
  unfold msgOf Small SmallAll SmallAll SmallAll SmallAll
  exact ⟨by simp, leaf_small _ _ _ _ _ _, leaf_small _ _ _ _ _ _, h, trivial⟩
theorem act_trap (x0 x1 : Int) (lk : Bool) (tk tn : Int) (tf : Nat) (ts : ByteArray) (ta : Option Addr) (tc : Nat) (kids : List Tr) (w : World) (hin : (Tr.mk tk tn tf ts ta tc kids).In w 0) (hsm : Small (.mk tk tn tf ts ta tc kids)) (hcn : cnT (.mk tk tn tf ts ta tc kids) ≤ 100000) (hE : errS x0 x1 5 0 0 lk ⟨#[]⟩ (.mk tk tn tf ts ta tc kids) = 0) (hk : ¬ (!lk && isA (.mk tk tn tf ts ta tc kids) ⟨#[107, 105, 108, 108]⟩) = true) : Calls Try.prog 12 #[.agg #[.int .i64 x0, .int .i64 x1, .int .i64 5, .int .i64 0, .int .i64 0, .bool lk, .string ⟨#[]⟩, .int .i64 tk, .int .i64 tn, .float .f64 tf, .string ts, .slice ta kids.length tc], .bool true] w fun e w' => ∃ (b o c2 : Nat), e = .returned (.tuple #[.agg #[.int .i64 1, .int .i64 7, .int .i64 0, .float .f64 0, .string ⟨#[]⟩, .slice (some ⟨b, o, none⟩) 3 c2], .int .i64 0]) ∧ w'.cell? ⟨b, o + 3, none⟩ = some (.string ⟨#[69, 88, 73, 84]⟩) ∧ w'.cell? ⟨b, o + 6, none⟩ = some (.int .i64 x0) ∧ Hid (∀ W, Below w'.heap.size w' W → Calls Try.prog 13 #[.agg #[.int .i64 7, .int .i64 0, .float .f64 0, .string ⟨#[]⟩, .slice (some ⟨b, o, none⟩) 3 c2]] W fun e w1 => e = .returned (.bool true) ∧ Below W.heap.size W w1) ∧ Below w.heap.size w w' := by
  obtain ⟨h0, hl, hh⟩ := kill_pre hE
  refine (Act_any 0 0 ⟨#[]⟩ x0 x1 lk true tk tn tf ts ta tc kids w hin hsm (by omega) hE h0 hl hh).mono ?_
  rintro e w' ⟨k0, k2, n2, f2, s2, a2, c2, kids2, rfl, ho, hi, hb⟩
  have hi0 := in_base (Nat.zero_le _) _ hi
  have hm : k0 = 1 ∧ ∃ v : Tr, Sm (msgOf x0 v) (.mk k2 n2 f2 s2 a2 c2 kids2) ∧ errT (msgOf x0 v) = 0 ∧ Small v := by
    by_cases he : errT (msgOf x0 (.mk tk tn tf ts ta tc kids)) = 0
    · have hM := if_A he
      unfold OcR at ho
      rw [hM, if_neg hk, if_pos (show true = true from rfl)] at ho
      exact ⟨ho.1, _, ho.2, he, hsm⟩
    · have hM := if_B he
      unfold OcR at ho
      rw [hM, if_neg hk, if_pos (show true = true from rfl)] at ho
      exact ⟨ho.1, _, ho.2, err_msgs hl hh, leaf_small _ _ _ _ _ _⟩
  obtain ⟨rfl, v, hs, he, hv⟩ := hm
  have hr : errT (.mk k2 n2 f2 s2 a2 c2 kids2) = 0 := (err_sm hs).trans he
  have hw : SmallW (.mk k2 n2 f2 s2 a2 c2 kids2) := small_w _ ((sm_small _ _ hs).1 (msg_small hv))
  obtain ⟨rfl, rfl, rfl, rfl, h3, b, o, rfl, z1, z2⟩ := msg_sm hs hi0
  have RT := fun W (hW : Below w'.heap.size w' W) => rright_t (.mk 7 0 0 ⟨#[]⟩ (some ⟨b, o, none⟩) c2 kids2) W (in_below hW hi0) hw
  rw [hr] at RT
  simp only [Tr.val, Tr.cells, h3] at RT
  refine ⟨b, o, c2, by rw [h3], z1, z2, hidb (fun W hW => (RT W hW).mono (by rintro e w1 ⟨rfl, hb1⟩; exact ⟨rfl, hb1⟩)), hb⟩
end Go.Proofs.Ytliebilpddmhkaa


