/- ExitsDead. -/
import Derived.Test.YtliebilpddmhkaaXp0
namespace Go.Proofs.Ytliebilpddmhkaa
open Go.RowKit Go.Lib Go.Deep
attribute [local go_sem] store_float f64bits
attribute [local go_sem ↓] Go.wp_at_zero Go.wp_at_succ

theorem few_cn : ∀ (t : Tr) (left deep : Int), 0 ≤ fewT t left deep → fewT t left deep = left - cnT t := by
  refine Tr.ind fun k n f s a c kids hk => ?_
  have hall : ∀ left deep, 0 ≤ fewAll kids left deep → fewAll kids left deep = left - cnA kids := by
    induction kids with
    | nil => intro left deep h0; simp [fewAll, cnA]
    | cons t r ih =>
      intro left deep h0
      simp only [fewAll] at h0 ⊢
      by_cases hl : left < 0
      · rw [if_pos hl] at h0; omega
      · rw [if_neg hl] at h0 ⊢
        have hn : 0 ≤ fewT t left deep := by
          by_cases hz : fewT t left deep < 0
          · rw [fewAll_stop _ _ _ hz] at h0; omega
          · omega
        have g := hk t (List.mem_cons_self ..) left deep hn
        have q := ih (fun u hu => hk u (List.mem_cons_of_mem _ hu)) (fewT t left deep) deep h0
        rw [q, g]
        simp only [cnA]
        omega
  intro left deep h0
  simp only [fewT] at h0 ⊢
  by_cases hc : left < 0 ∨ deep < 0
  · rw [if_pos hc] at h0; omega
  · rw [if_neg hc] at h0 ⊢
    rw [hall (left - 1) (deep - 1) h0]
    simp only [cnT]
    omega


theorem few_ok {t : Tr} (h : 0 ≤ fewT t 100000 1000) : Small t ∧ cnT t ≤ 100000 := by
  have h1 := few_small t 100000 1000 (by decide) h
  have h2 := few_cn t 100000 1000 h
  exact ⟨h1.1, by omega⟩
theorem deadP_ok (x0 x1 k x3 x4 : Int) : (Lit.int .i64 (deadP x0 x1 k x3 x4).g).wf = true ∧ (deadP x0 x1 k x3 x4).h.size ≤ maxLen := by
  unfold deadP
  repeat' split
  all_goals (simp only; exact ⟨by decide, by decide⟩)

set_option maxRecDepth 100000 in
set_option maxHeartbeats 8000000 in
theorem exitsDead_of (x0 x1 k x3 x4 : Int) (lk : Bool) (nm : ByteArray) (tk tn : Int) (tf : Nat) (ts : ByteArray) (ta : Option Addr) (tc : Nat) (kids : List Tr) (w : World) (hin : (Tr.mk tk tn tf ts ta tc kids).In w 0) : Calls Try.prog 3 #[.agg #[.int .i64 x0, .int .i64 x1, .int .i64 k, .int .i64 x3, .int .i64 x4, .bool lk, .string nm, .int .i64 tk, .int .i64 tn, .float .f64 tf, .string ts, .slice ta kids.length tc]] w fun e w' => e = .returned (.bool true) ∧ Below w.heap.size w w' := by
  have KN := hidb known16_any
  have FW := hidb (fun (w' : World) (hb : Below w.heap.size w w') => few16_any (.mk tk tn tf ts ta tc kids) w' (in_below hb hin))
  simp only [Tr.val, Tr.cells] at FW
  obtain ⟨fw, hfw⟩ : ∃ fw, decide (0 ≤ fewT (.mk tk tn tf ts ta tc kids) 100000 1000) = fw := ⟨_, rfl⟩
  rw [hfw] at FW
  cases fw with
  | false =>
    clear hfw hin
    generalize kids.length = tl at *
    have HS : Hid ((w.alloc (.cells #[.int .i64 x0, .int .i64 x1, .int .i64 k, .int .i64 x3, .int .i64 x4, .bool lk, .string nm, .int .i64 tk, .int .i64 tn, .float .f64 tf, .string ts, .slice ta tl tc] 27)).heap[w.heap.size]? = some (.cells #[.int .i64 x0, .int .i64 x1, .int .i64 k, .int .i64 x3, .int .i64 x4, .bool lk, .string nm, .int .i64 tk, .int .i64 tn, .float .f64 tf, .string ts, .slice ta tl tc] 27)) := hidb (at_new w _)
    have HB : Hid (Below w.heap.size w (w.alloc (.cells #[.int .i64 x0, .int .i64 x1, .int .i64 k, .int .i64 x3, .int .i64 x4, .bool lk, .string nm, .int .i64 tk, .int .i64 tn, .float .f64 tf, .string ts, .slice ta tl tc] 27))) := hidb (below_new w _)
    go_enter Try.func3, Try.ntmps3
    go_wp2_with (first | (go_at_call 6; refine (KN.out _).mono ?_; rintro e w1 ⟨rfl, hb1⟩; have HS := hidb (at_keep HS.out hb1); have HB := hidb (HB.out.trans (hb1.mono HB.out.size)); obtain ⟨s0, s1, s2, s3, s4, s5, s6, s7, s8, s9, s10, s11⟩ := box12 HS.out; clear hb1) | (go_at_call 7; refine (FW.out _ HB.out).mono ?_; rintro e w2 ⟨rfl, hb2⟩; have HS := hidb (at_keep HS.out hb2); have HB := hidb (HB.out.trans (hb2.mono HB.out.size)); obtain ⟨s0, s1, s2, s3, s4, s5, s6, s7, s8, s9, s10, s11⟩ := box12 HS.out; clear hb2))
    go_ret
    exact ⟨rfl, HB.out⟩
  | true =>
  obtain ⟨hsm, hcn⟩ := few_ok (of_decide_eq_true hfw)
  have CK := hidb (fun (w' : World) (hb : Below w.heap.size w w') => check_any x0 x1 k x3 x4 lk nm (.mk tk tn tf ts ta tc kids) w' (in_below hb hin) hsm)
  simp only [Tr.cells] at CK
  obtain ⟨E, hE⟩ : ∃ E, errS x0 x1 k x3 x4 lk nm (.mk tk tn tf ts ta tc kids) = E := ⟨_, rfl⟩
  rw [hE] at CK
  by_cases h0 : E ≠ 0
  · have h1 : (E != 0) = true := by simpa using h0
    clear hfw hin hsm hcn hE h0
    generalize kids.length = tl at *
    have HS : Hid ((w.alloc (.cells #[.int .i64 x0, .int .i64 x1, .int .i64 k, .int .i64 x3, .int .i64 x4, .bool lk, .string nm, .int .i64 tk, .int .i64 tn, .float .f64 tf, .string ts, .slice ta tl tc] 27)).heap[w.heap.size]? = some (.cells #[.int .i64 x0, .int .i64 x1, .int .i64 k, .int .i64 x3, .int .i64 x4, .bool lk, .string nm, .int .i64 tk, .int .i64 tn, .float .f64 tf, .string ts, .slice ta tl tc] 27)) := hidb (at_new w _)
    have HB : Hid (Below w.heap.size w (w.alloc (.cells #[.int .i64 x0, .int .i64 x1, .int .i64 k, .int .i64 x3, .int .i64 x4, .bool lk, .string nm, .int .i64 tk, .int .i64 tn, .float .f64 tf, .string ts, .slice ta tl tc] 27))) := hidb (below_new w _)
    go_enter Try.func3, Try.ntmps3
    go_wp2_with (first | (go_at_call 6; refine (KN.out _).mono ?_; rintro e w1 ⟨rfl, hb1⟩; have HS := hidb (at_keep HS.out hb1); have HB := hidb (HB.out.trans (hb1.mono HB.out.size)); obtain ⟨s0, s1, s2, s3, s4, s5, s6, s7, s8, s9, s10, s11⟩ := box12 HS.out; clear hb1) | (go_at_call 7; refine (FW.out _ HB.out).mono ?_; rintro e w2 ⟨rfl, hb2⟩; have HS := hidb (at_keep HS.out hb2); have HB := hidb (HB.out.trans (hb2.mono HB.out.size)); obtain ⟨s0, s1, s2, s3, s4, s5, s6, s7, s8, s9, s10, s11⟩ := box12 HS.out; clear hb2) | (go_at_call 8; refine (CK.out _ HB.out).mono ?_; clear CK; rintro e w3 ⟨rfl, hb3⟩; have HS := hidb (at_keep HS.out hb3); have HB := hidb (HB.out.trans (hb3.mono HB.out.size)); obtain ⟨s0, s1, s2, s3, s4, s5, s6, s7, s8, s9, s10, s11⟩ := box12 HS.out; clear hb3))
    go_ret
    exact ⟨rfl, HB.out⟩
  obtain rfl : E = 0 := by simpa using h0
  clear h0
  obtain ⟨hg, hh⟩ := deadP_ok x0 x1 k x3 x4
  have DE := hidb (fun w => Dead_any x0 x1 k x3 x4 lk nm tk tn tf ts ta kids.length tc w)
  have RD := hidb (fun w => rDead_any x0 x1 k x3 x4 lk nm tk tn tf ts ta kids.length tc w)
  generalize deadP x0 x1 k x3 x4 = D at *
  obtain ⟨da, db, dc, dd, de, df, dg, dh, dl⟩ := D
  have SS := hidb (fun w => sameSignal_leaf da db dc dd de df dg dh hg hh w)
  simp only at DE RD
  have hd : (dl == dl) = true := by simp
  clear hfw hin hsm hcn hE hg hh
  generalize kids.length = tl at *
  have HS : Hid ((w.alloc (.cells #[.int .i64 x0, .int .i64 x1, .int .i64 k, .int .i64 x3, .int .i64 x4, .bool lk, .string nm, .int .i64 tk, .int .i64 tn, .float .f64 tf, .string ts, .slice ta tl tc] 27)).heap[w.heap.size]? = some (.cells #[.int .i64 x0, .int .i64 x1, .int .i64 k, .int .i64 x3, .int .i64 x4, .bool lk, .string nm, .int .i64 tk, .int .i64 tn, .float .f64 tf, .string ts, .slice ta tl tc] 27)) := hidb (at_new w _)
  have HB : Hid (Below w.heap.size w (w.alloc (.cells #[.int .i64 x0, .int .i64 x1, .int .i64 k, .int .i64 x3, .int .i64 x4, .bool lk, .string nm, .int .i64 tk, .int .i64 tn, .float .f64 tf, .string ts, .slice ta tl tc] 27))) := hidb (below_new w _)
  go_enter Try.func3, Try.ntmps3
  go_wp2_with (first | (go_at_call 6; refine (KN.out _).mono ?_; rintro e w1 ⟨rfl, hb1⟩; have HS := hidb (at_keep HS.out hb1); have HB := hidb (HB.out.trans (hb1.mono HB.out.size)); obtain ⟨s0, s1, s2, s3, s4, s5, s6, s7, s8, s9, s10, s11⟩ := box12 HS.out; clear hb1) | (go_at_call 7; refine (FW.out _ HB.out).mono ?_; rintro e w2 ⟨rfl, hb2⟩; have HS := hidb (at_keep HS.out hb2); have HB := hidb (HB.out.trans (hb2.mono HB.out.size)); obtain ⟨s0, s1, s2, s3, s4, s5, s6, s7, s8, s9, s10, s11⟩ := box12 HS.out; clear hb2) | (go_at_call 8; refine (CK.out _ HB.out).mono ?_; clear CK; rintro e w3 ⟨rfl, hb3⟩; have HS := hidb (at_keep HS.out hb3); have HB := hidb (HB.out.trans (hb3.mono HB.out.size)); obtain ⟨s0, s1, s2, s3, s4, s5, s6, s7, s8, s9, s10, s11⟩ := box12 HS.out; clear hb3) | (go_at_call 9; refine (DE.out _).mono ?_; clear DE; rintro e w4 ⟨rfl, hb4⟩; have HS := hidb (at_keep HS.out hb4); have HB := hidb (HB.out.trans (hb4.mono HB.out.size)); have hs4 : w.heap.size < w4.heap.size := (Array.getElem?_eq_some_iff.1 HS.out).1; have hsn4 : w.heap.size ≠ w4.heap.size := Nat.ne_of_lt hs4; obtain ⟨s0, s1, s2, s3, s4, s5, s6, s7, s8, s9, s10, s11⟩ := box12 HS.out; clear hb4) | (go_at_call 10; refine (RD.out _).mono ?_; rintro e w5 ⟨rfl, hb5⟩; have HX := hidb (at_keep (at_new w4 (.cells #[.int .i64 da, .int .i64 db, .int .i64 dc, .int .i64 dd, .int .i64 de, .bool df, .string ⟨#[]⟩, .int .i64 dg, .int .i64 0, .float .f64 0, .string dh, .slice none 0 0] 27)) hb5); have HB := hidb ((HB.out.alloc HB.out.size _).trans (hb5.mono (HB.out.alloc HB.out.size _).size)); have hx5 : w4.heap.size < w5.heap.size := (Array.getElem?_eq_some_iff.1 HX.out).1; have hxn5 : w4.heap.size ≠ w5.heap.size := Nat.ne_of_lt hx5; obtain ⟨p0, p1, p2, p3, p4, p5, p6, p7, p8, p9, p10, p11⟩ := box12 HX.out; clear hb5) | (go_at_call 11; refine (SS.out _).mono ?_; rintro e w6 ⟨rfl, hb6⟩; have HB := hidb ((HB.out.alloc HB.out.size _).trans (hb6.mono (HB.out.alloc HB.out.size _).size)); clear hb6))
  go_ret
  exact ⟨by simp, HB.out⟩
end Go.Proofs.Ytliebilpddmhkaa
