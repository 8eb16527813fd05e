import Derived.Test.YtpcpdehnppfbfaaGreatG34
import Derived.BigQuiet
/- ether.Check of any signal. -/
namespace Go.Proofs.YtpcpdehnppfbfaaGreat.Xk
open Go.RowKit Go.Lib
attribute [local go_sem] store_float f64bits
attribute [local go_sem ↓] Go.wp_at_zero Go.wp_at_succ

theorem size0 {s : ByteArray} (h : s.size = 0) : s = ⟨#[]⟩ := by
  obtain ⟨d⟩ := s
  have : d = #[] := Array.eq_empty_of_size_eq_zero h
  rw [this]

theorem lit_f {a : ByteArray} {l : List UInt8} (h : ¬ a = ⟨l.toArray⟩) : (a.toList == l) = false := by
  rw [ByteArray.toList_eq]
  refine Bool.eq_false_iff.2 fun he => h ?_
  have : a.data.toList = l := by simpa using he
  cases a
  simp at this
  simp [← this]
theorem lit_F {a : ByteArray} {l : List UInt8} (h : ¬ a = ⟨l.toArray⟩) : ¬ a.toList = l := fun e => by have := lit_f h; simp [e] at this
theorem toList_ne {s : ByteArray} (h : ¬ s.size = 0) : (s.toList == []) = false ∧ ¬ s.toList = [] := by
  have h1 : ¬ s = ⟨[].toArray⟩ := fun e => h (by rw [e]; rfl)
  exact ⟨lit_f h1, lit_F h1⟩

set_option maxHeartbeats 1000000 in
theorem zeroTerm_all (tk tn : Int) (tf : Nat) (ts : ByteArray) (ta : Option Addr) (tc : Nat) (kids : List Tr) (w : World) : Calls Tryz.prog 47 #[.agg #[.int .i64 tk, .int .i64 tn, .float .f64 tf, .string ts, .slice ta kids.length tc]] w fun e w' => e = .returned (.bool (isZ (.mk tk tn tf ts ta tc kids))) ∧ Below w.heap.size w w' := by
  rw [show isZ (.mk tk tn tf ts ta tc kids) = (decide (tk = 0) && decide (tn = 0) && decide (tf = 0) && decide (ts.size = 0) && decide (kids.length = 0)) from rfl]
  generalize kids.length = tl
  by_cases h0 : tk = 0
  · subst h0
    by_cases h1 : tn = 0
    · subst h1
      by_cases h2 : tf = 0
      · subst h2
        by_cases h3 : ts.size = 0
        · obtain rfl := size0 h3
          clear h3
          by_cases h4 : tl = 0
          · subst h4
            go_enter Tryz.func47, Tryz.ntmps47
            go_wp2
            go_ret
            exact ⟨rfl, by (repeat (first | exact Below.refl _ _ | assumption | refine Below.drew ?_ | refine below_drewN ?_ _ | refine Below.setCell ?_ (by simp) _ | refine Below.alloc ?_ (by (first | exact Nat.le_refl _ | (simp; done) | (simp; omega) | omega)) _ | refine Below.trans ?_ (Below.mono (by assumption) (by first | exact Nat.le_refl _ | (simp; done) | (simp; omega) | omega))))⟩
          · have h5 : ((tl : Int) == 0) = false := by simp; omega
            go_enter Tryz.func47, Tryz.ntmps47
            go_wp2
            go_ret
            exact ⟨by simp [h4], by (repeat (first | exact Below.refl _ _ | assumption | refine Below.drew ?_ | refine below_drewN ?_ _ | refine Below.setCell ?_ (by simp) _ | refine Below.alloc ?_ (by (first | exact Nat.le_refl _ | (simp; done) | (simp; omega) | omega)) _ | refine Below.trans ?_ (Below.mono (by assumption) (by first | exact Nat.le_refl _ | (simp; done) | (simp; omega) | omega))))⟩
        · obtain ⟨h5, h6⟩ := toList_ne h3
          go_enter Tryz.func47, Tryz.ntmps47
          go_wp2
          go_ret
          exact ⟨by simp [h3], by (repeat (first | exact Below.refl _ _ | assumption | refine Below.drew ?_ | refine below_drewN ?_ _ | refine Below.setCell ?_ (by simp) _ | refine Below.alloc ?_ (by (first | exact Nat.le_refl _ | (simp; done) | (simp; omega) | omega)) _ | refine Below.trans ?_ (Below.mono (by assumption) (by first | exact Nat.le_refl _ | (simp; done) | (simp; omega) | omega))))⟩
      · have h5 : ((tf : Int) == 0) = false := by simp; omega
        go_enter Tryz.func47, Tryz.ntmps47
        go_wp2
        go_ret
        exact ⟨by simp [h2], by (repeat (first | exact Below.refl _ _ | assumption | refine Below.drew ?_ | refine below_drewN ?_ _ | refine Below.setCell ?_ (by simp) _ | refine Below.alloc ?_ (by (first | exact Nat.le_refl _ | (simp; done) | (simp; omega) | omega)) _ | refine Below.trans ?_ (Below.mono (by assumption) (by first | exact Nat.le_refl _ | (simp; done) | (simp; omega) | omega))))⟩
    · have h5 : (tn == 0) = false := by simpa using h1
      go_enter Tryz.func47, Tryz.ntmps47
      go_wp2
      go_ret
      exact ⟨by simp [h1], by (repeat (first | exact Below.refl _ _ | assumption | refine Below.drew ?_ | refine below_drewN ?_ _ | refine Below.setCell ?_ (by simp) _ | refine Below.alloc ?_ (by (first | exact Nat.le_refl _ | (simp; done) | (simp; omega) | omega)) _ | refine Below.trans ?_ (Below.mono (by assumption) (by first | exact Nat.le_refl _ | (simp; done) | (simp; omega) | omega))))⟩
  · have h5 : (tk == 0) = false := by simpa using h0
    go_enter Tryz.func47, Tryz.ntmps47
    go_wp2
    go_ret
    exact ⟨by simp [h0], by (repeat (first | exact Below.refl _ _ | assumption | refine Below.drew ?_ | refine below_drewN ?_ _ | refine Below.setCell ?_ (by simp) _ | refine Below.alloc ?_ (by (first | exact Nat.le_refl _ | (simp; done) | (simp; omega) | omega)) _ | refine Below.trans ?_ (Below.mono (by assumption) (by first | exact Nat.le_refl _ | (simp; done) | (simp; omega) | omega))))⟩

/-- A signal as a value. -/
abbrev sgv (x0 x1 k x3 x4 : Int) (lk : Bool) (nm : ByteArray) (tk tn : Int) (tf : Nat) (ts : ByteArray) (ta : Option Addr) (tl tc : Nat) : Value := .agg #[.int .i64 x0, .int .i64 x1, .int .i64 k, .int .i64 x3, .int .i64 x4, .bool lk, .string nm, .int .i64 tk, .int .i64 tn, .float .f64 tf, .string ts, .slice ta tl tc]

set_option maxHeartbeats 2000000 in
theorem fitTerm_any (b0 b1 b2 b3 b4 : Bool) (x0 x1 k x3 x4 : Int) (lk : Bool) (nm : ByteArray) (tk tn : Int) (tf : Nat) (ts : ByteArray) (ta : Option Addr) (tc : Nat) (kids : List Tr) (w : World) (hin : (Tr.mk tk tn tf ts ta tc kids).In w 0) (hs : Small (.mk tk tn tf ts ta tc kids)) : Calls Tryz.prog 33 #[.agg #[.bool b0, .bool b1, .bool b2, .bool b3, .bool b4], sgv x0 x1 k x3 x4 lk nm tk tn tf ts ta kids.length tc] w fun e w' => e = .returned (.bool (fitT b0 (.mk tk tn tf ts ta tc kids))) ∧ Below w.heap.size w w' := by
  have IZ := hidb (fun w => zeroTerm_all tk tn tf ts ta tc kids w)
  have CK := hidb (fun (w' : World) (hb : Below w.heap.size w w') => check_t (.mk tk tn tf ts ta tc kids) w' (in_below hb hin) hs)
  simp only [Tr.val, Tr.cells] at CK
  clear hin hs
  cases b0 with
  | false =>
    unfold fitT
    rw [if_neg (by decide)]
    generalize isZ (.mk tk tn tf ts ta tc kids) = z at *
    generalize kids.length = tl at *
    go_enter Tryz.func33, Tryz.ntmps33
    go_wp2_with (go_at_call 47; refine (IZ.out _).mono ?_; rintro e w1 ⟨rfl, hb1⟩)
    go_ret
    exact ⟨rfl, (show Below w.heap.size w _ by (repeat (first | exact Below.refl _ _ | assumption | refine Below.drew ?_ | refine below_drewN ?_ _ | refine Below.setCell ?_ (by simp) _ | refine Below.alloc ?_ (by (first | exact Nat.le_refl _ | (simp; done) | (simp; omega) | omega)) _ | refine Below.trans ?_ (Below.mono (by assumption) (by first | exact Nat.le_refl _ | (simp; done) | (simp; omega) | omega))))).trans (hb1.mono (by simp; omega))⟩
  | true =>
    unfold fitT
    rw [if_pos rfl]
    generalize errT (.mk tk tn tf ts ta tc kids) = z at *
    generalize kids.length = tl at *
    go_enter Tryz.func33, Tryz.ntmps33
    go_wp2_with (go_at_call 46; refine (CK.out _ (by (repeat (first | exact Below.refl _ _ | assumption | refine Below.drew ?_ | refine below_drewN ?_ _ | refine Below.setCell ?_ (by simp) _ | refine Below.alloc ?_ (by (first | exact Nat.le_refl _ | (simp; done) | (simp; omega) | omega)) _ | refine Below.trans ?_ (Below.mono (by assumption) (by first | exact Nat.le_refl _ | (simp; done) | (simp; omega) | omega)))))).mono ?_; rintro e w1 ⟨rfl, hb1⟩)
    go_ret
    exact ⟨by first | rfl | simp, (show Below w.heap.size w _ by (repeat (first | exact Below.refl _ _ | assumption | refine Below.drew ?_ | refine below_drewN ?_ _ | refine Below.setCell ?_ (by simp) _ | refine Below.alloc ?_ (by (first | exact Nat.le_refl _ | (simp; done) | (simp; omega) | omega)) _ | refine Below.trans ?_ (Below.mono (by assumption) (by first | exact Nat.le_refl _ | (simp; done) | (simp; omega) | omega))))).trans (hb1.mono (by simp; omega))⟩

set_option maxHeartbeats 4000000 in
theorem fitRest_all (b0 b1 b2 b3 b4 : Bool) (x0 x1 k x3 x4 : Int) (lk : Bool) (nm : ByteArray) (tk tn : Int) (tf : Nat) (ts : ByteArray) (ta : Option Addr) (tl tc : Nat) (w : World) : Calls Tryz.prog 34 #[.agg #[.bool b0, .bool b1, .bool b2, .bool b3, .bool b4], sgv x0 x1 k x3 x4 lk nm tk tn tf ts ta tl tc] w fun e w' => e = .returned (.bool (fitN x3 b1 9223372036854775807 && fitN x4 b2 1099511627776 && (b3 || !lk) && (b4 || decide (nm.size = 0)))) ∧ Below w.heap.size w w' := by
  have FN := hidb (fun w => fitNumber_any x3 b1 9223372036854775807 w)
  have FM := hidb (fun w => fitNumber_any x4 b2 1099511627776 w)
  generalize fitN x3 b1 9223372036854775807 = z1 at *
  generalize fitN x4 b2 1099511627776 = z2 at *
  by_cases hn : nm.size = 0
  · obtain rfl := size0 hn
    clear hn
    rw [show decide ((⟨#[]⟩ : ByteArray).size = 0) = true from rfl]
    cases z1 <;> cases z2 <;> cases b3 <;> cases lk <;> cases b4 <;> (
      go_enter Tryz.func34, Tryz.ntmps34
      go_wp2_with (first
        | (go_at_call 48; refine (FN.out _).mono ?_; clear FN; rintro e w1 ⟨rfl, rfl⟩)
        | (go_at_call 48; refine (FM.out _).mono ?_; clear FM; rintro e w1 ⟨rfl, rfl⟩))
      go_ret
      exact ⟨rfl, by (repeat (first | exact Below.refl _ _ | assumption | refine Below.drew ?_ | refine below_drewN ?_ _ | refine Below.setCell ?_ (by simp) _ | refine Below.alloc ?_ (by (first | exact Nat.le_refl _ | (simp; done) | (simp; omega) | omega)) _ | refine Below.trans ?_ (Below.mono (by assumption) (by first | exact Nat.le_refl _ | (simp; done) | (simp; omega) | omega))))⟩)
  · obtain ⟨h5, h6⟩ := toList_ne hn
    rw [show decide (nm.size = 0) = false by simpa using hn]
    cases z1 <;> cases z2 <;> cases b3 <;> cases lk <;> cases b4 <;> (
      go_enter Tryz.func34, Tryz.ntmps34
      go_wp2_with (first
        | (go_at_call 48; refine (FN.out _).mono ?_; clear FN; rintro e w1 ⟨rfl, rfl⟩)
        | (go_at_call 48; refine (FM.out _).mono ?_; clear FM; rintro e w1 ⟨rfl, rfl⟩))
      go_ret
      exact ⟨rfl, by (repeat (first | exact Below.refl _ _ | assumption | refine Below.drew ?_ | refine below_drewN ?_ _ | refine Below.setCell ?_ (by simp) _ | refine Below.alloc ?_ (by (first | exact Nat.le_refl _ | (simp; done) | (simp; omega) | omega)) _ | refine Below.trans ?_ (Below.mono (by assumption) (by first | exact Nat.le_refl _ | (simp; done) | (simp; omega) | omega))))⟩)
end Go.Proofs.YtpcpdehnppfbfaaGreat.Xk


/- ether.Check of any signal. -/
namespace Go.Proofs.YtpcpdehnppfbfaaGreat.Xk
open Go.RowKit Go.Lib
attribute [local go_sem] store_float f64bits
attribute [local go_sem ↓] Go.wp_at_zero Go.wp_at_succ

set_option maxHeartbeats 8000000 in
theorem check_any (x0 x1 k x3 x4 : Int) (lk : Bool) (nm : ByteArray) (t : Tr) (w : World) (hin : t.In w 0) (hsm : Small t) : Calls Tryz.prog 18 #[.agg (#[.int .i64 x0, .int .i64 x1, .int .i64 k, .int .i64 x3, .int .i64 x4, .bool lk, .string nm] ++ t.cells.toArray)] w fun e w' => e = .returned (.int .i64 (errS x0 x1 k x3 x4 lk nm t)) ∧ Below w.heap.size w w' := by
  obtain ⟨tk, tn, tf, ts, ta, tc, kids⟩ := t
  show Calls Tryz.prog 18 #[sgv x0 x1 k x3 x4 lk nm tk tn tf ts ta kids.length tc] w _
  have FI := hidb (fun w => fieldsOf_any k w)
  have FT := hidb (fun (w' : World) (hb : Below w.heap.size w w') => fitTerm_any (hT k) (hI k) (hR k) (hL k) (hN k) x0 x1 k x3 x4 lk nm tk tn tf ts ta tc kids w' (in_below hb hin) hsm)
  have FR := hidb (fun w => fitRest_all (hT k) (hI k) (hR k) (hL k) (hN k) x0 x1 k x3 x4 lk nm tk tn tf ts ta kids.length tc w)
  have WI := hidb within_any
  unfold errS
  rw [show (fitN x3 (hI k) 9223372036854775807 && fitN x4 (hR k) 1099511627776 && (hL k || !lk) && (hN k || decide (nm.size = 0))) = fitR k x3 x4 lk nm from rfl] at FR
  generalize fitR k x3 x4 lk nm = b4 at *
  generalize fitT (hT k) (.mk tk tn tf ts ta tc kids) = b3 at *
  obtain ⟨b1, d0⟩ : ∃ b, inW x0 0 1099511627776 = b := ⟨_, rfl⟩
  obtain ⟨b2, d1⟩ : ∃ b, inW x1 1 1099511627776 = b := ⟨_, rfl⟩
  rw [d0, d1]
  generalize isK k = b0 at *
  generalize hT k = f0 at *
  generalize hI k = f1 at *
  generalize hR k = f2 at *
  generalize hL k = f3 at *
  generalize hN k = f4 at *
  generalize kids.length = tl at *
  clear hin hsm
  have HS := hidb (at_new w (.cells #[.int .i64 x0, .int .i64 x1, .int .i64 k, .int .i64 x3, .int .i64 x4, .bool lk, .string nm, .int .i64 tk, .int .i64 tn, .float .f64 tf, .string ts, .slice ta tl tc] ST))
  have HB := hidb (below_new w (.cells #[.int .i64 x0, .int .i64 x1, .int .i64 k, .int .i64 x3, .int .i64 x4, .bool lk, .string nm, .int .i64 tk, .int .i64 tn, .float .f64 tf, .string ts, .slice ta tl tc] ST))
  cases b0 with
  | false =>
    rw [if_pos (by simp)]
    go_enter Tryz.func18, Tryz.ntmps18
    go_wp2_with (first
    | (go_at_call 31; refine (FI.out _).mono ?_; rintro e w1 ⟨rfl, hb1⟩; have HB1 := hidb (HB.out.trans (hb1.mono HB.out.size)); have HS1 := hidb (at_keep HS.out hb1); obtain ⟨s0, s1, s2, s3, s4, s5, s6, s7, s8, s9, s10, s11⟩ := box12 HS1.out; have hlt : w.heap.size < w1.heap.size := (Array.getElem?_eq_some_iff.1 HS1.out).1; clear hb1)
    | (go_at_call 32; refine (WI.out _ _ _ _).mono ?_; (first | rw [d0] | rw [d1]); rintro e w2 ⟨rfl, rfl⟩)
    | (go_at_call 33; refine (FT.out _ (HB1.out.alloc HB1.out.size _)).mono ?_; rintro e w3 ⟨rfl, hb3⟩; have HB3 := hidb ((HB1.out.alloc HB1.out.size _).trans (hb3.mono (Nat.le_trans HB1.out.size (by simp)))); have HS3 := hidb (at_keep (at_keep HS1.out (below_new w1 _)) hb3); obtain ⟨t0, t1, t2, t3, t4, t5, t6, t7, t8, t9, t10, t11⟩ := box12 HS3.out; obtain ⟨u0, u1, u2, u3, u4⟩ := box5 (at_keep (at_new w1 (.cells #[.bool f0, .bool f1, .bool f2, .bool f3, .bool f4] 74)) hb3); clear hb3)
    | (go_at_call 34; refine (FR.out _).mono ?_; rintro e w4 ⟨rfl, hb4⟩; have HB4 := hidb (HB3.out.trans (hb4.mono HB3.out.size)); clear hb4))
    go_ret
    exact ⟨rfl, HB1.out.alloc HB1.out.size _⟩
  | true =>
  cases b1 with
  | false =>
    rw [if_pos (by simp)]
    go_enter Tryz.func18, Tryz.ntmps18
    go_wp2_with (first
    | (go_at_call 31; refine (FI.out _).mono ?_; rintro e w1 ⟨rfl, hb1⟩; have HB1 := hidb (HB.out.trans (hb1.mono HB.out.size)); have HS1 := hidb (at_keep HS.out hb1); obtain ⟨s0, s1, s2, s3, s4, s5, s6, s7, s8, s9, s10, s11⟩ := box12 HS1.out; have hlt : w.heap.size < w1.heap.size := (Array.getElem?_eq_some_iff.1 HS1.out).1; clear hb1)
    | (go_at_call 32; refine (WI.out _ _ _ _).mono ?_; (first | rw [d0] | rw [d1]); rintro e w2 ⟨rfl, rfl⟩)
    | (go_at_call 33; refine (FT.out _ (HB1.out.alloc HB1.out.size _)).mono ?_; rintro e w3 ⟨rfl, hb3⟩; have HB3 := hidb ((HB1.out.alloc HB1.out.size _).trans (hb3.mono (Nat.le_trans HB1.out.size (by simp)))); have HS3 := hidb (at_keep (at_keep HS1.out (below_new w1 _)) hb3); obtain ⟨t0, t1, t2, t3, t4, t5, t6, t7, t8, t9, t10, t11⟩ := box12 HS3.out; obtain ⟨u0, u1, u2, u3, u4⟩ := box5 (at_keep (at_new w1 (.cells #[.bool f0, .bool f1, .bool f2, .bool f3, .bool f4] 74)) hb3); clear hb3)
    | (go_at_call 34; refine (FR.out _).mono ?_; rintro e w4 ⟨rfl, hb4⟩; have HB4 := hidb (HB3.out.trans (hb4.mono HB3.out.size)); clear hb4))
    go_ret
    exact ⟨rfl, HB1.out.alloc HB1.out.size _⟩
  | true =>
  cases b2 with
  | false =>
    rw [if_pos (by simp)]
    go_enter Tryz.func18, Tryz.ntmps18
    go_wp2_with (first
    | (go_at_call 31; refine (FI.out _).mono ?_; rintro e w1 ⟨rfl, hb1⟩; have HB1 := hidb (HB.out.trans (hb1.mono HB.out.size)); have HS1 := hidb (at_keep HS.out hb1); obtain ⟨s0, s1, s2, s3, s4, s5, s6, s7, s8, s9, s10, s11⟩ := box12 HS1.out; have hlt : w.heap.size < w1.heap.size := (Array.getElem?_eq_some_iff.1 HS1.out).1; clear hb1)
    | (go_at_call 32; refine (WI.out _ _ _ _).mono ?_; (first | rw [d0] | rw [d1]); rintro e w2 ⟨rfl, rfl⟩)
    | (go_at_call 33; refine (FT.out _ (HB1.out.alloc HB1.out.size _)).mono ?_; rintro e w3 ⟨rfl, hb3⟩; have HB3 := hidb ((HB1.out.alloc HB1.out.size _).trans (hb3.mono (Nat.le_trans HB1.out.size (by simp)))); have HS3 := hidb (at_keep (at_keep HS1.out (below_new w1 _)) hb3); obtain ⟨t0, t1, t2, t3, t4, t5, t6, t7, t8, t9, t10, t11⟩ := box12 HS3.out; obtain ⟨u0, u1, u2, u3, u4⟩ := box5 (at_keep (at_new w1 (.cells #[.bool f0, .bool f1, .bool f2, .bool f3, .bool f4] 74)) hb3); clear hb3)
    | (go_at_call 34; refine (FR.out _).mono ?_; rintro e w4 ⟨rfl, hb4⟩; have HB4 := hidb (HB3.out.trans (hb4.mono HB3.out.size)); clear hb4))
    go_ret
    exact ⟨rfl, HB1.out.alloc HB1.out.size _⟩
  | true =>
  rw [if_neg (by simp)]
  cases b3 with
  | false =>
    rw [if_pos rfl]
    go_enter Tryz.func18, Tryz.ntmps18
    go_wp2_with (first
    | (go_at_call 31; refine (FI.out _).mono ?_; rintro e w1 ⟨rfl, hb1⟩; have HB1 := hidb (HB.out.trans (hb1.mono HB.out.size)); have HS1 := hidb (at_keep HS.out hb1); obtain ⟨s0, s1, s2, s3, s4, s5, s6, s7, s8, s9, s10, s11⟩ := box12 HS1.out; have hlt : w.heap.size < w1.heap.size := (Array.getElem?_eq_some_iff.1 HS1.out).1; clear hb1)
    | (go_at_call 32; refine (WI.out _ _ _ _).mono ?_; (first | rw [d0] | rw [d1]); rintro e w2 ⟨rfl, rfl⟩)
    | (go_at_call 33; refine (FT.out _ (HB1.out.alloc HB1.out.size _)).mono ?_; rintro e w3 ⟨rfl, hb3⟩; have HB3 := hidb ((HB1.out.alloc HB1.out.size _).trans (hb3.mono (Nat.le_trans HB1.out.size (by simp)))); have HS3 := hidb (at_keep (at_keep HS1.out (below_new w1 _)) hb3); obtain ⟨t0, t1, t2, t3, t4, t5, t6, t7, t8, t9, t10, t11⟩ := box12 HS3.out; obtain ⟨u0, u1, u2, u3, u4⟩ := box5 (at_keep (at_new w1 (.cells #[.bool f0, .bool f1, .bool f2, .bool f3, .bool f4] 74)) hb3); clear hb3)
    | (go_at_call 34; refine (FR.out _).mono ?_; rintro e w4 ⟨rfl, hb4⟩; have HB4 := hidb (HB3.out.trans (hb4.mono HB3.out.size)); clear hb4))
    go_ret
    exact ⟨rfl, HB3.out⟩
  | true =>
  rw [if_neg (by simp)]
  cases b4 with
  | false =>
    rw [if_pos rfl]
    go_enter Tryz.func18, Tryz.ntmps18
    go_wp2_with (first
    | (go_at_call 31; refine (FI.out _).mono ?_; rintro e w1 ⟨rfl, hb1⟩; have HB1 := hidb (HB.out.trans (hb1.mono HB.out.size)); have HS1 := hidb (at_keep HS.out hb1); obtain ⟨s0, s1, s2, s3, s4, s5, s6, s7, s8, s9, s10, s11⟩ := box12 HS1.out; have hlt : w.heap.size < w1.heap.size := (Array.getElem?_eq_some_iff.1 HS1.out).1; clear hb1)
    | (go_at_call 32; refine (WI.out _ _ _ _).mono ?_; (first | rw [d0] | rw [d1]); rintro e w2 ⟨rfl, rfl⟩)
    | (go_at_call 33; refine (FT.out _ (HB1.out.alloc HB1.out.size _)).mono ?_; rintro e w3 ⟨rfl, hb3⟩; have HB3 := hidb ((HB1.out.alloc HB1.out.size _).trans (hb3.mono (Nat.le_trans HB1.out.size (by simp)))); have HS3 := hidb (at_keep (at_keep HS1.out (below_new w1 _)) hb3); obtain ⟨t0, t1, t2, t3, t4, t5, t6, t7, t8, t9, t10, t11⟩ := box12 HS3.out; obtain ⟨u0, u1, u2, u3, u4⟩ := box5 (at_keep (at_new w1 (.cells #[.bool f0, .bool f1, .bool f2, .bool f3, .bool f4] 74)) hb3); clear hb3)
    | (go_at_call 34; refine (FR.out _).mono ?_; rintro e w4 ⟨rfl, hb4⟩; have HB4 := hidb (HB3.out.trans (hb4.mono HB3.out.size)); clear hb4))
    go_ret
    exact ⟨rfl, HB4.out⟩
  | true =>
    rw [if_neg (by simp)]
    go_enter Tryz.func18, Tryz.ntmps18
    go_wp2_with (first
    | (go_at_call 31; refine (FI.out _).mono ?_; rintro e w1 ⟨rfl, hb1⟩; have HB1 := hidb (HB.out.trans (hb1.mono HB.out.size)); have HS1 := hidb (at_keep HS.out hb1); obtain ⟨s0, s1, s2, s3, s4, s5, s6, s7, s8, s9, s10, s11⟩ := box12 HS1.out; have hlt : w.heap.size < w1.heap.size := (Array.getElem?_eq_some_iff.1 HS1.out).1; clear hb1)
    | (go_at_call 32; refine (WI.out _ _ _ _).mono ?_; (first | rw [d0] | rw [d1]); rintro e w2 ⟨rfl, rfl⟩)
    | (go_at_call 33; refine (FT.out _ (HB1.out.alloc HB1.out.size _)).mono ?_; rintro e w3 ⟨rfl, hb3⟩; have HB3 := hidb ((HB1.out.alloc HB1.out.size _).trans (hb3.mono (Nat.le_trans HB1.out.size (by simp)))); have HS3 := hidb (at_keep (at_keep HS1.out (below_new w1 _)) hb3); obtain ⟨t0, t1, t2, t3, t4, t5, t6, t7, t8, t9, t10, t11⟩ := box12 HS3.out; obtain ⟨u0, u1, u2, u3, u4⟩ := box5 (at_keep (at_new w1 (.cells #[.bool f0, .bool f1, .bool f2, .bool f3, .bool f4] 74)) hb3); clear hb3)
    | (go_at_call 34; refine (FR.out _).mono ?_; rintro e w4 ⟨rfl, hb4⟩; have HB4 := hidb (HB3.out.trans (hb4.mono HB3.out.size)); clear hb4))
    go_ret
    exact ⟨rfl, HB4.out⟩
end Go.Proofs.YtpcpdehnppfbfaaGreat.Xk


