import Derived.Test.YtliebilpddmhkaaG24
/- The chapter's examples, as stage 16's laws ask for them. -/
namespace Go.Proofs.Ytliebilpddmhkaa
open Go.RowKit Go.Lib Go.Deep
attribute [local go_sem] store_float f64bits
attribute [local go_sem ↓] Go.wp_at_zero Go.wp_at_succ

theorem err_kill : errT (aTr ⟨#[107, 105, 108, 108]⟩) = 0 := by decide
theorem kill_in (w : World) (B : Nat) : (aTr ⟨#[107, 105, 108, 108]⟩).In w B := leaf0 3 0 _ (by decide) (by decide) (by decide) w B
theorem act_known1 (w : World) : Calls Try.prog 12 #[.agg #[.int .i64 3, .int .i64 1, .int .i64 5, .int .i64 0, .int .i64 0, .bool false, .string ⟨#[]⟩, .int .i64 3, .int .i64 0, .float .f64 0, .string ⟨#[107, 105, 108, 108]⟩, .slice none 0 0], .bool true] w fun e w' => e = .returned (.tuple #[.agg #[.int .i64 2, .int .i64 3, .int .i64 0, .float .f64 0, .string ⟨#[107, 105, 108, 108, 101, 100]⟩, .slice none 0 0], .int .i64 0]) ∧ Below w.heap.size w w' := by
  refine (Act_any 0 0 ⟨#[]⟩ 3 1 false true 3 0 0 ⟨#[107, 105, 108, 108]⟩ none 0 [] w (kill_in w 0) (leaf_small _ _ _ _ _ _) (by decide) (by decide) err_kill (by decide) (by decide)).mono ?_
  rintro e w' ⟨k0, k2, n2, f2, s2, a2, c2, kids2, rfl, ho, -, hb⟩
  unfold OcR at ho
  rw [if_pos (by decide)] at ho
  obtain ⟨rfl, e2⟩ := ho
  unfold aTr at e2
  cases e2
  exact ⟨rfl, hb⟩
theorem act_known2 (w : World) : Calls Try.prog 12 #[.agg #[.int .i64 3, .int .i64 1, .int .i64 5, .int .i64 0, .int .i64 0, .bool true, .string ⟨#[]⟩, .int .i64 3, .int .i64 0, .float .f64 0, .string ⟨#[107, 105, 108, 108]⟩, .slice none 0 0], .bool false] w fun e w' => ∃ (ay : Option Addr) (cy : Nat), e = .returned (.tuple #[.agg #[.int .i64 2, .int .i64 3, .int .i64 0, .float .f64 0, .string ⟨#[107, 105, 108, 108]⟩, .slice ay 0 cy], .int .i64 0]) ∧ Below w.heap.size w w' := by
  refine (Act_any 0 0 ⟨#[]⟩ 3 1 true false 3 0 0 ⟨#[107, 105, 108, 108]⟩ none 0 [] w (kill_in w 0) (leaf_small _ _ _ _ _ _) (by decide) (by decide) err_kill (by decide) (by decide)).mono ?_
  rintro e w' ⟨k0, k2, n2, f2, s2, a2, c2, kids2, rfl, ho, -, hb⟩
  unfold OcR at ho
  rw [if_neg (by decide), if_neg (by decide), if_neg (by decide)] at ho
  obtain ⟨rfl, hs⟩ := ho
  unfold Sm at hs
  obtain ⟨rfl, rfl, rfl, rfl, hk⟩ := hs
  have : kids2 = [] := by
    cases kids2 with
    | nil => rfl
    | cons a l => unfold SmA at hk; exact hk.elim
  subst this
  exact ⟨a2, c2, rfl, hb⟩
theorem latom_val (s : ByteArray) (w : World) : Calls Try.prog 15 #[.string s] w fun e w' => e = .returned (.agg #[.int .i64 3, .int .i64 0, .float .f64 0, .string s, .slice none 0 0]) ∧ Below w.heap.size w w' := by
  go_enter Try.func15, Try.ntmps15
  go_wp2
  exact bodyPost_ret (v := .agg #[.int .i64 3, .int .i64 0, .float .f64 0, .string s, .slice none 0 0]) (by simp [results, Try.results15, go_sem]) rfl ⟨rfl, by (repeat (first | exact Below.refl _ _ | assumption | refine Below.drew ?_ | refine below_drewN ?_ _ | refine Below.setCell ?_ (by simp) _ | refine Below.alloc ?_ (by (first | exact Nat.le_refl _ | (simp; done) | (simp; omega) | omega)) _ | refine Below.trans ?_ (Below.mono (by assumption) (by first | exact Nat.le_refl _ | (simp; done) | (simp; omega) | omega))))⟩

set_option maxRecDepth 100000 in
set_option maxHeartbeats 4000000 in
theorem known16_any (w : World) : Calls Try.prog 6 #[] w fun e w' => e = .returned (.bool true) ∧ Below w.heap.size w w' := by
  have A1 := hidb (fun w => latom_val ⟨#[107, 105, 108, 108]⟩ w)
  have A2 := hidb (fun w => latom_val ⟨#[107, 105, 108, 108]⟩ w)
  have K1 := hidb act_known1
  have K2 := hidb act_known2
  have DE : Hid (∀ w, Calls Try.prog 9 #[.agg #[.int .i64 1, .int .i64 7, .int .i64 2, .int .i64 0, .int .i64 0, .bool false, .string ⟨#[]⟩, .int .i64 0, .int .i64 0, .float .f64 0, .string ⟨#[]⟩, .slice none 0 0]] w fun e w' => e = .returned (.tuple #[.agg #[.int .i64 7, .int .i64 1, .int .i64 5, .int .i64 0, .int .i64 0, .bool true, .string ⟨#[]⟩, .int .i64 3, .int .i64 0, .float .f64 0, .string ⟨#[110, 111, 112, 114, 111, 99]⟩, .slice none 0 0], .bool true]) ∧ Below w.heap.size w w') := hidb (fun w => Dead_link 1 7 0 0 false ⟨#[]⟩ 0 0 0 ⟨#[]⟩ none 0 0 (by decide) w)
  go_enter Try.func6, Try.ntmps6
  go_wp2_with (first
    | (go_at_call 15; refine (A1.out _).mono ?_; clear A1; rintro e w1 ⟨rfl, hb1⟩; have HB1 := hidb hb1; clear hb1)
    | (go_at_call 12; refine (K1.out _).mono ?_; clear K1; rintro e w2 ⟨rfl, hb2⟩; have HB2 := hidb (HB1.out.trans (hb2.mono HB1.out.size)); clear hb2)
    | (go_at_call 15; refine (A2.out _).mono ?_; clear A2; rintro e w3 ⟨rfl, hb3⟩; have HB3 := hidb ((HB2.out.alloc HB2.out.size _).trans (hb3.mono (HB2.out.alloc HB2.out.size _).size)); have HX3 := hidb (at_keep (at_new w2 (.cells #[.int .i64 2, .int .i64 3, .int .i64 0, .float .f64 0, .string ⟨#[107, 105, 108, 108, 101, 100]⟩, .slice none 0 0] 37)) hb3); clear hb3)
    | (go_at_call 12; refine (K2.out _).mono ?_; clear K2; rintro e w4 ⟨ay, cy, rfl, hb4⟩; have HB4 := hidb (HB3.out.trans (hb4.mono HB3.out.size)); have HX4 := hidb (at_keep HX3.out hb4); clear hb4)
    | (go_at_call 9; refine (DE.out _).mono ?_; clear DE; rintro e w5 ⟨rfl, hb5⟩; have HB5 := hidb ((HB4.out.alloc HB4.out.size _).trans (hb5.mono (HB4.out.alloc HB4.out.size _).size)); have HX5 := hidb (at_keep (at_keep HX4.out (below_new w4 (.cells #[.int .i64 2, .int .i64 3, .int .i64 0, .float .f64 0, .string ⟨#[107, 105, 108, 108]⟩, .slice ay 0 cy] 37))) hb5); have HY5 := hidb (at_keep (at_new w4 (.cells #[.int .i64 2, .int .i64 3, .int .i64 0, .float .f64 0, .string ⟨#[107, 105, 108, 108]⟩, .slice ay 0 cy] 37)) hb5); obtain ⟨p0, p1, p2, p3, p4, p5⟩ := box6 HX5.out; obtain ⟨q0, q1, q2, q3, q4, q5⟩ := box6 HY5.out; have hx5 : w2.heap.size < w5.heap.size := (Array.getElem?_eq_some_iff.1 HX5.out).1; have hy5 : w4.heap.size < w5.heap.size := (Array.getElem?_eq_some_iff.1 HY5.out).1; have hxn : w2.heap.size ≠ w5.heap.size := Nat.ne_of_lt hx5; have hyn : w4.heap.size ≠ w5.heap.size := Nat.ne_of_lt hy5; clear hb5))
  go_ret
  exact ⟨rfl, HB5.out.alloc HB5.out.size _⟩
end Go.Proofs.Ytliebilpddmhkaa


/- ExitsDead. -/
namespace Go.Proofs.Ytliebilpddmhkaa
open Go.RowKit Go.Lib Go.Deep
attribute [local go_sem] store_float f64bits
attribute [local go_sem ↓] Go.wp_at_zero Go.wp_at_succ

theorem few_cn : ∀ (t : Tr) (left deep : Int), 0 ≤ fewT t left deep → fewT t left deep = left - cnT t := by
  refine Tr.ind fun k n f s a c kids hk => ?_
  have hall : ∀ left deep, 0 ≤ fewAll kids left deep → fewAll kids left deep = left - cnA kids := by
    induction kids with
    | nil => intro left deep h0; simp [fewAll, cnA]
    | cons t r ih =>
      intro left deep h0
      simp only [fewAll] at h0 ⊢
      by_cases hl : left < 0
      · rw [if_pos hl] at h0; omega
      · rw [if_neg hl] at h0 ⊢
        have hn : 0 ≤ fewT t left deep := by
          by_cases hz : fewT t left deep < 0
          · rw [fewAll_stop _ _ _ hz] at h0; omega
          · omega
        have g := hk t (List.mem_cons_self ..) left deep hn
        have q := ih (fun u hu => hk u (List.mem_cons_of_mem _ hu)) (fewT t left deep) deep h0
        rw [q, g]
        simp only [cnA]
        omega
  intro left deep h0
  simp only [fewT] at h0 ⊢
  by_cases hc : left < 0 ∨ deep < 0
  · rw [if_pos hc] at h0; omega
  · rw [if_neg hc] at h0 ⊢
    rw [hall (left - 1) (deep - 1) h0]
    simp only [cnT]
    omega


theorem few_ok {t : Tr} (h : 0 ≤ fewT t 100000 1000) : Small t ∧ cnT t ≤ 100000 := by
  have h1 := few_small t 100000 1000 (by decide) h
  have h2 := few_cn t 100000 1000 h
  exact ⟨h1.1, by omega⟩
theorem deadP_ok (x0 x1 k x3 x4 : Int) : (Lit.int .i64 (deadP x0 x1 k x3 x4).g).wf = true ∧ (deadP x0 x1 k x3 x4).h.size ≤ maxLen := by
  unfold deadP
  repeat' split
  all_goals (simp only; exact ⟨by decide, by decide⟩)

set_option maxRecDepth 100000 in
set_option maxHeartbeats 8000000 in
theorem exitsDead_of (x0 x1 k x3 x4 : Int) (lk : Bool) (nm : ByteArray) (tk tn : Int) (tf : Nat) (ts : ByteArray) (ta : Option Addr) (tc : Nat) (kids : List Tr) (w : World) (hin : (Tr.mk tk tn tf ts ta tc kids).In w 0) : Calls Try.prog 3 #[.agg #[.int .i64 x0, .int .i64 x1, .int .i64 k, .int .i64 x3, .int .i64 x4, .bool lk, .string nm, .int .i64 tk, .int .i64 tn, .float .f64 tf, .string ts, .slice ta kids.length tc]] w fun e w' => e = .returned (.bool true) ∧ Below w.heap.size w w' := by
  have KN := hidb known16_any
  have FW := hidb (fun (w' : World) (hb : Below w.heap.size w w') => few16_any (.mk tk tn tf ts ta tc kids) w' (in_below hb hin))
  simp only [Tr.val, Tr.cells] at FW
  obtain ⟨fw, hfw⟩ : ∃ fw, decide (0 ≤ fewT (.mk tk tn tf ts ta tc kids) 100000 1000) = fw := ⟨_, rfl⟩
  rw [hfw] at FW
  cases fw with
  | false =>
    clear hfw hin
    generalize kids.length = tl at *
    have HS : Hid ((w.alloc (.cells #[.int .i64 x0, .int .i64 x1, .int .i64 k, .int .i64 x3, .int .i64 x4, .bool lk, .string nm, .int .i64 tk, .int .i64 tn, .float .f64 tf, .string ts, .slice ta tl tc] 27)).heap[w.heap.size]? = some (.cells #[.int .i64 x0, .int .i64 x1, .int .i64 k, .int .i64 x3, .int .i64 x4, .bool lk, .string nm, .int .i64 tk, .int .i64 tn, .float .f64 tf, .string ts, .slice ta tl tc] 27)) := hidb (at_new w _)
    have HB : Hid (Below w.heap.size w (w.alloc (.cells #[.int .i64 x0, .int .i64 x1, .int .i64 k, .int .i64 x3, .int .i64 x4, .bool lk, .string nm, .int .i64 tk, .int .i64 tn, .float .f64 tf, .string ts, .slice ta tl tc] 27))) := hidb (below_new w _)
    go_enter Try.func3, Try.ntmps3
    go_wp2_with (first | (go_at_call 6; refine (KN.out _).mono ?_; rintro e w1 ⟨rfl, hb1⟩; have HS := hidb (at_keep HS.out hb1); have HB := hidb (HB.out.trans (hb1.mono HB.out.size)); obtain ⟨s0, s1, s2, s3, s4, s5, s6, s7, s8, s9, s10, s11⟩ := box12 HS.out; clear hb1) | (go_at_call 7; refine (FW.out _ HB.out).mono ?_; rintro e w2 ⟨rfl, hb2⟩; have HS := hidb (at_keep HS.out hb2); have HB := hidb (HB.out.trans (hb2.mono HB.out.size)); obtain ⟨s0, s1, s2, s3, s4, s5, s6, s7, s8, s9, s10, s11⟩ := box12 HS.out; clear hb2))
    go_ret
    exact ⟨rfl, HB.out⟩
  | true =>
  obtain ⟨hsm, hcn⟩ := few_ok (of_decide_eq_true hfw)
  have CK := hidb (fun (w' : World) (hb : Below w.heap.size w w') => check_any x0 x1 k x3 x4 lk nm (.mk tk tn tf ts ta tc kids) w' (in_below hb hin) hsm)
  simp only [Tr.cells] at CK
  obtain ⟨E, hE⟩ : ∃ E, errS x0 x1 k x3 x4 lk nm (.mk tk tn tf ts ta tc kids) = E := ⟨_, rfl⟩
  rw [hE] at CK
  by_cases h0 : E ≠ 0
  · have h1 : (E != 0) = true := by simpa using h0
    clear hfw hin hsm hcn hE h0
    generalize kids.length = tl at *
    have HS : Hid ((w.alloc (.cells #[.int .i64 x0, .int .i64 x1, .int .i64 k, .int .i64 x3, .int .i64 x4, .bool lk, .string nm, .int .i64 tk, .int .i64 tn, .float .f64 tf, .string ts, .slice ta tl tc] 27)).heap[w.heap.size]? = some (.cells #[.int .i64 x0, .int .i64 x1, .int .i64 k, .int .i64 x3, .int .i64 x4, .bool lk, .string nm, .int .i64 tk, .int .i64 tn, .float .f64 tf, .string ts, .slice ta tl tc] 27)) := hidb (at_new w _)
    have HB : Hid (Below w.heap.size w (w.alloc (.cells #[.int .i64 x0, .int .i64 x1, .int .i64 k, .int .i64 x3, .int .i64 x4, .bool lk, .string nm, .int .i64 tk, .int .i64 tn, .float .f64 tf, .string ts, .slice ta tl tc] 27))) := hidb (below_new w _)
    go_enter Try.func3, Try.ntmps3
    go_wp2_with (first | (go_at_call 6; refine (KN.out _).mono ?_; rintro e w1 ⟨rfl, hb1⟩; have HS := hidb (at_keep HS.out hb1); have HB := hidb (HB.out.trans (hb1.mono HB.out.size)); obtain ⟨s0, s1, s2, s3, s4, s5, s6, s7, s8, s9, s10, s11⟩ := box12 HS.out; clear hb1) | (go_at_call 7; refine (FW.out _ HB.out).mono ?_; rintro e w2 ⟨rfl, hb2⟩; have HS := hidb (at_keep HS.out hb2); have HB := hidb (HB.out.trans (hb2.mono HB.out.size)); obtain ⟨s0, s1, s2, s3, s4, s5, s6, s7, s8, s9, s10, s11⟩ := box12 HS.out; clear hb2) | (go_at_call 8; refine (CK.out _ HB.out).mono ?_; clear CK; rintro e w3 ⟨rfl, hb3⟩; have HS := hidb (at_keep HS.out hb3); have HB := hidb (HB.out.trans (hb3.mono HB.out.size)); obtain ⟨s0, s1, s2, s3, s4, s5, s6, s7, s8, s9, s10, s11⟩ := box12 HS.out; clear hb3))
    go_ret
    exact ⟨rfl, HB.out⟩
  obtain rfl : E = 0 := by simpa using h0
  clear h0
  obtain ⟨hg, hh⟩ := deadP_ok x0 x1 k x3 x4
  have DE := hidb (fun w => Dead_any x0 x1 k x3 x4 lk nm tk tn tf ts ta kids.length tc w)
  have RD := hidb (fun w => rDead_any x0 x1 k x3 x4 lk nm tk tn tf ts ta kids.length tc w)
  generalize deadP x0 x1 k x3 x4 = D at *
  obtain ⟨da, db, dc, dd, de, df, dg, dh, dl⟩ := D
  have SS := hidb (fun w => sameSignal_leaf da db dc dd de df dg dh hg hh w)
  simp only at DE RD
  have hd : (dl == dl) = true := by simp
  clear hfw hin hsm hcn hE hg hh
  generalize kids.length = tl at *
  have HS : Hid ((w.alloc (.cells #[.int .i64 x0, .int .i64 x1, .int .i64 k, .int .i64 x3, .int .i64 x4, .bool lk, .string nm, .int .i64 tk, .int .i64 tn, .float .f64 tf, .string ts, .slice ta tl tc] 27)).heap[w.heap.size]? = some (.cells #[.int .i64 x0, .int .i64 x1, .int .i64 k, .int .i64 x3, .int .i64 x4, .bool lk, .string nm, .int .i64 tk, .int .i64 tn, .float .f64 tf, .string ts, .slice ta tl tc] 27)) := hidb (at_new w _)
  have HB : Hid (Below w.heap.size w (w.alloc (.cells #[.int .i64 x0, .int .i64 x1, .int .i64 k, .int .i64 x3, .int .i64 x4, .bool lk, .string nm, .int .i64 tk, .int .i64 tn, .float .f64 tf, .string ts, .slice ta tl tc] 27))) := hidb (below_new w _)
  go_enter Try.func3, Try.ntmps3
  go_wp2_with (first | (go_at_call 6; refine (KN.out _).mono ?_; rintro e w1 ⟨rfl, hb1⟩; have HS := hidb (at_keep HS.out hb1); have HB := hidb (HB.out.trans (hb1.mono HB.out.size)); obtain ⟨s0, s1, s2, s3, s4, s5, s6, s7, s8, s9, s10, s11⟩ := box12 HS.out; clear hb1) | (go_at_call 7; refine (FW.out _ HB.out).mono ?_; rintro e w2 ⟨rfl, hb2⟩; have HS := hidb (at_keep HS.out hb2); have HB := hidb (HB.out.trans (hb2.mono HB.out.size)); obtain ⟨s0, s1, s2, s3, s4, s5, s6, s7, s8, s9, s10, s11⟩ := box12 HS.out; clear hb2) | (go_at_call 8; refine (CK.out _ HB.out).mono ?_; clear CK; rintro e w3 ⟨rfl, hb3⟩; have HS := hidb (at_keep HS.out hb3); have HB := hidb (HB.out.trans (hb3.mono HB.out.size)); obtain ⟨s0, s1, s2, s3, s4, s5, s6, s7, s8, s9, s10, s11⟩ := box12 HS.out; clear hb3) | (go_at_call 9; refine (DE.out _).mono ?_; clear DE; rintro e w4 ⟨rfl, hb4⟩; have HS := hidb (at_keep HS.out hb4); have HB := hidb (HB.out.trans (hb4.mono HB.out.size)); have hs4 : w.heap.size < w4.heap.size := (Array.getElem?_eq_some_iff.1 HS.out).1; have hsn4 : w.heap.size ≠ w4.heap.size := Nat.ne_of_lt hs4; obtain ⟨s0, s1, s2, s3, s4, s5, s6, s7, s8, s9, s10, s11⟩ := box12 HS.out; clear hb4) | (go_at_call 10; refine (RD.out _).mono ?_; rintro e w5 ⟨rfl, hb5⟩; have HX := hidb (at_keep (at_new w4 (.cells #[.int .i64 da, .int .i64 db, .int .i64 dc, .int .i64 dd, .int .i64 de, .bool df, .string ⟨#[]⟩, .int .i64 dg, .int .i64 0, .float .f64 0, .string dh, .slice none 0 0] 27)) hb5); have HB := hidb ((HB.out.alloc HB.out.size _).trans (hb5.mono (HB.out.alloc HB.out.size _).size)); have hx5 : w4.heap.size < w5.heap.size := (Array.getElem?_eq_some_iff.1 HX.out).1; have hxn5 : w4.heap.size ≠ w5.heap.size := Nat.ne_of_lt hx5; obtain ⟨p0, p1, p2, p3, p4, p5, p6, p7, p8, p9, p10, p11⟩ := box12 HX.out; clear hb5) | (go_at_call 11; refine (SS.out _).mono ?_; rintro e w6 ⟨rfl, hb6⟩; have HB := hidb ((HB.out.alloc HB.out.size _).trans (hb6.mono (HB.out.alloc HB.out.size _).size)); clear hb6))
  go_ret
  exact ⟨by simp, HB.out⟩
end Go.Proofs.Ytliebilpddmhkaa


