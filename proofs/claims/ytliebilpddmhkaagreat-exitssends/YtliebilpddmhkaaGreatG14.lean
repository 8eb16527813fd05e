import Derived.Test.YtliebilpddmhkaaGreatG13
import Derived.Deep.RegionHeld3
/- ether.Check of any signal. -/
namespace Go.Proofs.YtliebilpddmhkaaGreat
open Go.RowKit Go.Lib
attribute [local go_sem] store_float f64bits
attribute [local go_sem ↓] Go.wp_at_zero Go.wp_at_succ

set_option maxHeartbeats 8000000 in
theorem check_any (x0 x1 k x3 x4 : Int) (lk : Bool) (nm : ByteArray) (t : Tr) (w : World) (hin : t.In w 0) (hsm : Small t) : Calls Tryz.prog 27 #[.agg (#[.int .i64 x0, .int .i64 x1, .int .i64 k, .int .i64 x3, .int .i64 x4, .bool lk, .string nm] ++ t.cells.toArray)] w fun e w' => e = .returned (.int .i64 (errS x0 x1 k x3 x4 lk nm t)) ∧ Below w.heap.size w w' := by
  obtain ⟨tk, tn, tf, ts, ta, tc, kids⟩ := t
  show Calls Tryz.prog 27 #[sgv x0 x1 k x3 x4 lk nm tk tn tf ts ta kids.length tc] w _
  have FI := hidb (fun w => fieldsOf_any k w)
  have FT := hidb (fun (w' : World) (hb : Below w.heap.size w w') => fitTerm_any (hT k) (hI k) (hR k) (hL k) (hN k) x0 x1 k x3 x4 lk nm tk tn tf ts ta tc kids w' (in_below hb hin) hsm)
  have FR := hidb (fun w => fitRest_all (hT k) (hI k) (hR k) (hL k) (hN k) x0 x1 k x3 x4 lk nm tk tn tf ts ta kids.length tc w)
  have WI := hidb within_any
  unfold errS
  rw [show (fitN x3 (hI k) 9223372036854775807 && fitN x4 (hR k) 1099511627776 && (hL k || !lk) && (hN k || decide (nm.size = 0))) = fitR k x3 x4 lk nm from rfl] at FR
  generalize fitR k x3 x4 lk nm = b4 at *
  generalize fitT (hT k) (.mk tk tn tf ts ta tc kids) = b3 at *
  obtain ⟨b1, d0⟩ : ∃ b, inW x0 0 1099511627776 = b := ⟨_, rfl⟩
  obtain ⟨b2, d1⟩ : ∃ b, inW x1 1 1099511627776 = b := ⟨_, rfl⟩
  rw [d0, d1]
  generalize isK k = b0 at *
  generalize hT k = f0 at *
  generalize hI k = f1 at *
  generalize hR k = f2 at *
  generalize hL k = f3 at *
  generalize hN k = f4 at *
  generalize kids.length = tl at *
  clear hin hsm
  have HS := hidb (at_new w (.cells #[.int .i64 x0, .int .i64 x1, .int .i64 k, .int .i64 x3, .int .i64 x4, .bool lk, .string nm, .int .i64 tk, .int .i64 tn, .float .f64 tf, .string ts, .slice ta tl tc] ST))
  have HB := hidb (below_new w (.cells #[.int .i64 x0, .int .i64 x1, .int .i64 k, .int .i64 x3, .int .i64 x4, .bool lk, .string nm, .int .i64 tk, .int .i64 tn, .float .f64 tf, .string ts, .slice ta tl tc] ST))
  cases b0 with
  | false =>
    rw [if_pos (by simp)]
    go_enter Tryz.func27, Tryz.ntmps27
    go_wp2_with (first
    | (go_at_call 49; refine (FI.out _).mono ?_; rintro e w1 ⟨rfl, hb1⟩; have HB1 := hidb (HB.out.trans (hb1.mono HB.out.size)); have HS1 := hidb (at_keep HS.out hb1); obtain ⟨s0, s1, s2, s3, s4, s5, s6, s7, s8, s9, s10, s11⟩ := box12 HS1.out; have hlt : w.heap.size < w1.heap.size := (Array.getElem?_eq_some_iff.1 HS1.out).1; clear hb1)
    | (go_at_call 50; refine (WI.out _ _ _ _).mono ?_; (first | rw [d0] | rw [d1]); rintro e w2 ⟨rfl, rfl⟩)
    | (go_at_call 51; refine (FT.out _ (HB1.out.alloc HB1.out.size _)).mono ?_; rintro e w3 ⟨rfl, hb3⟩; have HB3 := hidb ((HB1.out.alloc HB1.out.size _).trans (hb3.mono (Nat.le_trans HB1.out.size (by simp)))); have HS3 := hidb (at_keep (at_keep HS1.out (below_new w1 _)) hb3); obtain ⟨t0, t1, t2, t3, t4, t5, t6, t7, t8, t9, t10, t11⟩ := box12 HS3.out; obtain ⟨u0, u1, u2, u3, u4⟩ := box5 (at_keep (at_new w1 (.cells #[.bool f0, .bool f1, .bool f2, .bool f3, .bool f4] 82)) hb3); clear hb3)
    | (go_at_call 52; refine (FR.out _).mono ?_; rintro e w4 ⟨rfl, hb4⟩; have HB4 := hidb (HB3.out.trans (hb4.mono HB3.out.size)); clear hb4))
    go_ret
    exact ⟨rfl, HB1.out.alloc HB1.out.size _⟩
  | true =>
  cases b1 with
  | false =>
    rw [if_pos (by simp)]
    go_enter Tryz.func27, Tryz.ntmps27
    go_wp2_with (first
    | (go_at_call 49; refine (FI.out _).mono ?_; rintro e w1 ⟨rfl, hb1⟩; have HB1 := hidb (HB.out.trans (hb1.mono HB.out.size)); have HS1 := hidb (at_keep HS.out hb1); obtain ⟨s0, s1, s2, s3, s4, s5, s6, s7, s8, s9, s10, s11⟩ := box12 HS1.out; have hlt : w.heap.size < w1.heap.size := (Array.getElem?_eq_some_iff.1 HS1.out).1; clear hb1)
    | (go_at_call 50; refine (WI.out _ _ _ _).mono ?_; (first | rw [d0] | rw [d1]); rintro e w2 ⟨rfl, rfl⟩)
    | (go_at_call 51; refine (FT.out _ (HB1.out.alloc HB1.out.size _)).mono ?_; rintro e w3 ⟨rfl, hb3⟩; have HB3 := hidb ((HB1.out.alloc HB1.out.size _).trans (hb3.mono (Nat.le_trans HB1.out.size (by simp)))); have HS3 := hidb (at_keep (at_keep HS1.out (below_new w1 _)) hb3); obtain ⟨t0, t1, t2, t3, t4, t5, t6, t7, t8, t9, t10, t11⟩ := box12 HS3.out; obtain ⟨u0, u1, u2, u3, u4⟩ := box5 (at_keep (at_new w1 (.cells #[.bool f0, .bool f1, .bool f2, .bool f3, .bool f4] 82)) hb3); clear hb3)
    | (go_at_call 52; refine (FR.out _).mono ?_; rintro e w4 ⟨rfl, hb4⟩; have HB4 := hidb (HB3.out.trans (hb4.mono HB3.out.size)); clear hb4))
    go_ret
    exact ⟨rfl, HB1.out.alloc HB1.out.size _⟩
  | true =>
  cases b2 with
  | false =>
    rw [if_pos (by simp)]
    go_enter Tryz.func27, Tryz.ntmps27
    go_wp2_with (first
    | (go_at_call 49; refine (FI.out _).mono ?_; rintro e w1 ⟨rfl, hb1⟩; have HB1 := hidb (HB.out.trans (hb1.mono HB.out.size)); have HS1 := hidb (at_keep HS.out hb1); obtain ⟨s0, s1, s2, s3, s4, s5, s6, s7, s8, s9, s10, s11⟩ := box12 HS1.out; have hlt : w.heap.size < w1.heap.size := (Array.getElem?_eq_some_iff.1 HS1.out).1; clear hb1)
    | (go_at_call 50; refine (WI.out _ _ _ _).mono ?_; (first | rw [d0] | rw [d1]); rintro e w2 ⟨rfl, rfl⟩)
    | (go_at_call 51; refine (FT.out _ (HB1.out.alloc HB1.out.size _)).mono ?_; rintro e w3 ⟨rfl, hb3⟩; have HB3 := hidb ((HB1.out.alloc HB1.out.size _).trans (hb3.mono (Nat.le_trans HB1.out.size (by simp)))); have HS3 := hidb (at_keep (at_keep HS1.out (below_new w1 _)) hb3); obtain ⟨t0, t1, t2, t3, t4, t5, t6, t7, t8, t9, t10, t11⟩ := box12 HS3.out; obtain ⟨u0, u1, u2, u3, u4⟩ := box5 (at_keep (at_new w1 (.cells #[.bool f0, .bool f1, .bool f2, .bool f3, .bool f4] 82)) hb3); clear hb3)
    | (go_at_call 52; refine (FR.out _).mono ?_; rintro e w4 ⟨rfl, hb4⟩; have HB4 := hidb (HB3.out.trans (hb4.mono HB3.out.size)); clear hb4))
    go_ret
    exact ⟨rfl, HB1.out.alloc HB1.out.size _⟩
  | true =>
  rw [if_neg (by simp)]
  cases b3 with
  | false =>
    rw [if_pos rfl]
    go_enter Tryz.func27, Tryz.ntmps27
    go_wp2_with (first
    | (go_at_call 49; refine (FI.out _).mono ?_; rintro e w1 ⟨rfl, hb1⟩; have HB1 := hidb (HB.out.trans (hb1.mono HB.out.size)); have HS1 := hidb (at_keep HS.out hb1); obtain ⟨s0, s1, s2, s3, s4, s5, s6, s7, s8, s9, s10, s11⟩ := box12 HS1.out; have hlt : w.heap.size < w1.heap.size := (Array.getElem?_eq_some_iff.1 HS1.out).1; clear hb1)
    | (go_at_call 50; refine (WI.out _ _ _ _).mono ?_; (first | rw [d0] | rw [d1]); rintro e w2 ⟨rfl, rfl⟩)
    | (go_at_call 51; refine (FT.out _ (HB1.out.alloc HB1.out.size _)).mono ?_; rintro e w3 ⟨rfl, hb3⟩; have HB3 := hidb ((HB1.out.alloc HB1.out.size _).trans (hb3.mono (Nat.le_trans HB1.out.size (by simp)))); have HS3 := hidb (at_keep (at_keep HS1.out (below_new w1 _)) hb3); obtain ⟨t0, t1, t2, t3, t4, t5, t6, t7, t8, t9, t10, t11⟩ := box12 HS3.out; obtain ⟨u0, u1, u2, u3, u4⟩ := box5 (at_keep (at_new w1 (.cells #[.bool f0, .bool f1, .bool f2, .bool f3, .bool f4] 82)) hb3); clear hb3)
    | (go_at_call 52; refine (FR.out _).mono ?_; rintro e w4 ⟨rfl, hb4⟩; have HB4 := hidb (HB3.out.trans (hb4.mono HB3.out.size)); clear hb4))
    go_ret
    exact ⟨rfl, HB3.out⟩
  | true =>
  rw [if_neg (by simp)]
  cases b4 with
  | false =>
    rw [if_pos rfl]
    go_enter Tryz.func27, Tryz.ntmps27
    go_wp2_with (first
    | (go_at_call 49; refine (FI.out _).mono ?_; rintro e w1 ⟨rfl, hb1⟩; have HB1 := hidb (HB.out.trans (hb1.mono HB.out.size)); have HS1 := hidb (at_keep HS.out hb1); obtain ⟨s0, s1, s2, s3, s4, s5, s6, s7, s8, s9, s10, s11⟩ := box12 HS1.out; have hlt : w.heap.size < w1.heap.size := (Array.getElem?_eq_some_iff.1 HS1.out).1; clear hb1)
    | (go_at_call 50; refine (WI.out _ _ _ _).mono ?_; (first | rw [d0] | rw [d1]); rintro e w2 ⟨rfl, rfl⟩)
    | (go_at_call 51; refine (FT.out _ (HB1.out.alloc HB1.out.size _)).mono ?_; rintro e w3 ⟨rfl, hb3⟩; have HB3 := hidb ((HB1.out.alloc HB1.out.size _).trans (hb3.mono (Nat.le_trans HB1.out.size (by simp)))); have HS3 := hidb (at_keep (at_keep HS1.out (below_new w1 _)) hb3); obtain ⟨t0, t1, t2, t3, t4, t5, t6, t7, t8, t9, t10, t11⟩ := box12 HS3.out; obtain ⟨u0, u1, u2, u3, u4⟩ := box5 (at_keep (at_new w1 (.cells #[.bool f0, .bool f1, .bool f2, .bool f3, .bool f4] 82)) hb3); clear hb3)
    | (go_at_call 52; refine (FR.out _).mono ?_; rintro e w4 ⟨rfl, hb4⟩; have HB4 := hidb (HB3.out.trans (hb4.mono HB3.out.size)); clear hb4))
    go_ret
    exact ⟨rfl, HB4.out⟩
  | true =>
    rw [if_neg (by simp)]
    go_enter Tryz.func27, Tryz.ntmps27
    go_wp2_with (first
    | (go_at_call 49; refine (FI.out _).mono ?_; rintro e w1 ⟨rfl, hb1⟩; have HB1 := hidb (HB.out.trans (hb1.mono HB.out.size)); have HS1 := hidb (at_keep HS.out hb1); obtain ⟨s0, s1, s2, s3, s4, s5, s6, s7, s8, s9, s10, s11⟩ := box12 HS1.out; have hlt : w.heap.size < w1.heap.size := (Array.getElem?_eq_some_iff.1 HS1.out).1; clear hb1)
    | (go_at_call 50; refine (WI.out _ _ _ _).mono ?_; (first | rw [d0] | rw [d1]); rintro e w2 ⟨rfl, rfl⟩)
    | (go_at_call 51; refine (FT.out _ (HB1.out.alloc HB1.out.size _)).mono ?_; rintro e w3 ⟨rfl, hb3⟩; have HB3 := hidb ((HB1.out.alloc HB1.out.size _).trans (hb3.mono (Nat.le_trans HB1.out.size (by simp)))); have HS3 := hidb (at_keep (at_keep HS1.out (below_new w1 _)) hb3); obtain ⟨t0, t1, t2, t3, t4, t5, t6, t7, t8, t9, t10, t11⟩ := box12 HS3.out; obtain ⟨u0, u1, u2, u3, u4⟩ := box5 (at_keep (at_new w1 (.cells #[.bool f0, .bool f1, .bool f2, .bool f3, .bool f4] 82)) hb3); clear hb3)
    | (go_at_call 52; refine (FR.out _).mono ?_; rintro e w4 ⟨rfl, hb4⟩; have HB4 := hidb (HB3.out.trans (hb4.mono HB3.out.size)); clear hb4))
    go_ret
    exact ⟨rfl, HB4.out⟩
end Go.Proofs.YtliebilpddmhkaaGreat


/- Signals by their kind; what the dead answer. -/
namespace Go.Proofs.YtliebilpddmhkaaGreat
open Go.RowKit Go.Lib
attribute [local go_sem] store_float f64bits
attribute [local go_sem ↓] Go.wp_at_zero Go.wp_at_succ

theorem cell_past {w : World} {b c i j : Nat} {v : Value} (h : b ≠ c) : (w.setCell ⟨b, i, none⟩ v).cell? ⟨c, j, none⟩ = w.cell? ⟨c, j, none⟩ := World.cell?_setCell_other _ _ _ _ (fun e => h (by simpa using (congrArg Addr.block e)))
theorem ne_up (n : Nat) : n ≠ n + 1 := by omega

theorem atom_val (s : ByteArray) (w : World) : Calls Tryz.prog 41 #[.string s] w fun e w' => e = .returned (.agg #[.int .i64 3, .int .i64 0, .float .f64 0, .string s, .slice none 0 0]) ∧ Below w.heap.size w w' := by
  go_enter Tryz.func41, Tryz.ntmps41
  go_wp2
  exact bodyPost_ret (v := .agg #[.int .i64 3, .int .i64 0, .float .f64 0, .string s, .slice none 0 0]) (by simp [results, Tryz.results41, go_sem]) rfl ⟨rfl, by (repeat (first | exact Below.refl _ _ | assumption | refine Below.drew ?_ | refine below_drewN ?_ _ | refine Below.setCell ?_ (by simp) _ | refine Below.alloc ?_ (by (first | exact Nat.le_refl _ | (simp; done) | (simp; omega) | omega)) _ | refine Below.trans ?_ (Below.mono (by assumption) (by first | exact Nat.le_refl _ | (simp; done) | (simp; omega) | omega))))⟩

set_option maxHeartbeats 1000000 in
theorem byKind_link (x0 x1 x3 x4 : Int) (lk : Bool) (nm : ByteArray) (tk tn : Int) (tf : Nat) (ts : ByteArray) (ta : Option Addr) (tl tc : Nat) (w : World) : Calls Tryz.prog 29 #[.agg #[.int .i64 x0, .int .i64 x1, .int .i64 2, .int .i64 x3, .int .i64 x4, .bool lk, .string nm, .int .i64 tk, .int .i64 tn, .float .f64 tf, .string ts, .slice ta tl tc]] w fun e w' => e = .returned (.iface 93 (.agg #[.int .i64 x0, .int .i64 x1])) ∧ Below w.heap.size w w' := by
  go_enter Tryz.func29, Tryz.ntmps29
  go_wp2
  go_ret
  exact ⟨rfl, by (repeat (first | exact Below.refl _ _ | assumption | refine Below.drew ?_ | refine below_drewN ?_ _ | refine Below.setCell ?_ (by simp) _ | refine Below.alloc ?_ (by (first | exact Nat.le_refl _ | (simp; done) | (simp; omega) | omega)) _ | refine Below.trans ?_ (Below.mono (by assumption) (by first | exact Nat.le_refl _ | (simp; done) | (simp; omega) | omega))))⟩
set_option maxHeartbeats 1000000 in
theorem byKind_unlink (x0 x1 x3 x4 : Int) (lk : Bool) (nm : ByteArray) (tk tn : Int) (tf : Nat) (ts : ByteArray) (ta : Option Addr) (tl tc : Nat) (w : World) : Calls Tryz.prog 29 #[.agg #[.int .i64 x0, .int .i64 x1, .int .i64 3, .int .i64 x3, .int .i64 x4, .bool lk, .string nm, .int .i64 tk, .int .i64 tn, .float .f64 tf, .string ts, .slice ta tl tc]] w fun e w' => e = .returned (.iface 95 (.agg #[.int .i64 x0, .int .i64 x1, .int .i64 x3])) ∧ Below w.heap.size w w' := by
  go_enter Tryz.func29, Tryz.ntmps29
  go_wp2
  go_ret
  exact ⟨rfl, by (repeat (first | exact Below.refl _ _ | assumption | refine Below.drew ?_ | refine below_drewN ?_ _ | refine Below.setCell ?_ (by simp) _ | refine Below.alloc ?_ (by (first | exact Nat.le_refl _ | (simp; done) | (simp; omega) | omega)) _ | refine Below.trans ?_ (Below.mono (by assumption) (by first | exact Nat.le_refl _ | (simp; done) | (simp; omega) | omega))))⟩
set_option maxHeartbeats 1000000 in
theorem byKind_exit (x0 x1 x3 x4 : Int) (lk : Bool) (nm : ByteArray) (tk tn : Int) (tf : Nat) (ts : ByteArray) (ta : Option Addr) (tl tc : Nat) (w : World) : Calls Tryz.prog 29 #[.agg #[.int .i64 x0, .int .i64 x1, .int .i64 5, .int .i64 x3, .int .i64 x4, .bool lk, .string nm, .int .i64 tk, .int .i64 tn, .float .f64 tf, .string ts, .slice ta tl tc]] w fun e w' => e = .returned (.iface 90 (.agg #[.int .i64 x0, .int .i64 x1, .bool lk, .int .i64 tk, .int .i64 tn, .float .f64 tf, .string ts, .slice ta tl tc])) ∧ Below w.heap.size w w' := by
  go_enter Tryz.func29, Tryz.ntmps29
  go_wp2
  go_ret
  exact ⟨rfl, by (repeat (first | exact Below.refl _ _ | assumption | refine Below.drew ?_ | refine below_drewN ?_ _ | refine Below.setCell ?_ (by simp) _ | refine Below.alloc ?_ (by (first | exact Nat.le_refl _ | (simp; done) | (simp; omega) | omega)) _ | refine Below.trans ?_ (Below.mono (by assumption) (by first | exact Nat.le_refl _ | (simp; done) | (simp; omega) | omega))))⟩
set_option maxHeartbeats 1000000 in
theorem byKind_monitor (x0 x1 x3 x4 : Int) (lk : Bool) (nm : ByteArray) (tk tn : Int) (tf : Nat) (ts : ByteArray) (ta : Option Addr) (tl tc : Nat) (w : World) : Calls Tryz.prog 29 #[.agg #[.int .i64 x0, .int .i64 x1, .int .i64 6, .int .i64 x3, .int .i64 x4, .bool lk, .string nm, .int .i64 tk, .int .i64 tn, .float .f64 tf, .string ts, .slice ta tl tc]] w fun e w' => e = .returned (.iface 97 (.agg #[.int .i64 x0, .int .i64 x1, .int .i64 x4])) ∧ Below w.heap.size w w' := by
  go_enter Tryz.func29, Tryz.ntmps29
  go_wp2
  go_ret
  exact ⟨rfl, by (repeat (first | exact Below.refl _ _ | assumption | refine Below.drew ?_ | refine below_drewN ?_ _ | refine Below.setCell ?_ (by simp) _ | refine Below.alloc ?_ (by (first | exact Nat.le_refl _ | (simp; done) | (simp; omega) | omega)) _ | refine Below.trans ?_ (Below.mono (by assumption) (by first | exact Nat.le_refl _ | (simp; done) | (simp; omega) | omega))))⟩
set_option maxHeartbeats 1000000 in
theorem byKind_down (x0 x1 x3 x4 : Int) (lk : Bool) (nm : ByteArray) (tk tn : Int) (tf : Nat) (ts : ByteArray) (ta : Option Addr) (tl tc : Nat) (w : World) : Calls Tryz.prog 29 #[.agg #[.int .i64 x0, .int .i64 x1, .int .i64 8, .int .i64 x3, .int .i64 x4, .bool lk, .string nm, .int .i64 tk, .int .i64 tn, .float .f64 tf, .string ts, .slice ta tl tc]] w fun e w' => e = .returned (.iface 99 (.agg #[.int .i64 x0, .int .i64 x1, .int .i64 x4, .int .i64 tk, .int .i64 tn, .float .f64 tf, .string ts, .slice ta tl tc])) ∧ Below w.heap.size w w' := by
  go_enter Tryz.func29, Tryz.ntmps29
  go_wp2
  go_ret
  exact ⟨rfl, by (repeat (first | exact Below.refl _ _ | assumption | refine Below.drew ?_ | refine below_drewN ?_ _ | refine Below.setCell ?_ (by simp) _ | refine Below.alloc ?_ (by (first | exact Nat.le_refl _ | (simp; done) | (simp; omega) | omega)) _ | refine Below.trans ?_ (Below.mono (by assumption) (by first | exact Nat.le_refl _ | (simp; done) | (simp; omega) | omega))))⟩
set_option maxHeartbeats 1000000 in
theorem byKind_none (x0 x1 k x3 x4 : Int) (lk : Bool) (nm : ByteArray) (tk tn : Int) (tf : Nat) (ts : ByteArray) (ta : Option Addr) (tl tc : Nat) (h2 : k ≠ 2) (h3 : k ≠ 3) (h5 : k ≠ 5) (h6 : k ≠ 6) (h8 : k ≠ 8) (w : World) : Calls Tryz.prog 29 #[.agg #[.int .i64 x0, .int .i64 x1, .int .i64 k, .int .i64 x3, .int .i64 x4, .bool lk, .string nm, .int .i64 tk, .int .i64 tn, .float .f64 tf, .string ts, .slice ta tl tc]] w fun e w' => e = .returned .nilIface ∧ Below w.heap.size w w' := by
  go_enter Tryz.func29, Tryz.ntmps29
  go_wp2
  go_ret
  exact ⟨rfl, by (repeat (first | exact Below.refl _ _ | assumption | refine Below.drew ?_ | refine below_drewN ?_ _ | refine Below.setCell ?_ (by simp) _ | refine Below.alloc ?_ (by (first | exact Nat.le_refl _ | (simp; done) | (simp; omega) | omega)) _ | refine Below.trans ?_ (Below.mono (by assumption) (by first | exact Nat.le_refl _ | (simp; done) | (simp; omega) | omega))))⟩

theorem ta_link_link (v : Value) (w : World) : (Instr.typeAssert (.iface 93 v) 20 93 true).run Tryz.prog w = .ok (.tuple #[v, .bool true]) w := by kernel_rfl
theorem ta_link_unlink (v : Value) (w : World) : (Instr.typeAssert (.iface 93 v) 20 95 true).run Tryz.prog w = .ok (.tuple #[.agg #[.int .i64 0, .int .i64 0, .int .i64 0], .bool false]) w := by kernel_rfl
theorem ta_link_monitor (v : Value) (w : World) : (Instr.typeAssert (.iface 93 v) 20 97 true).run Tryz.prog w = .ok (.tuple #[.agg #[.int .i64 0, .int .i64 0, .int .i64 0], .bool false]) w := by kernel_rfl
theorem ta_link_exit (v : Value) (w : World) : (Instr.typeAssert (.iface 93 v) 20 90 true).run Tryz.prog w = .ok (.tuple #[.agg #[.int .i64 0, .int .i64 0, .bool false, .int .i64 0, .int .i64 0, .float .f64 0, .string ⟨#[]⟩, .slice none 0 0], .bool false]) w := by kernel_rfl
theorem ta_link_down (v : Value) (w : World) : (Instr.typeAssert (.iface 93 v) 20 99 true).run Tryz.prog w = .ok (.tuple #[.agg #[.int .i64 0, .int .i64 0, .int .i64 0, .int .i64 0, .int .i64 0, .float .f64 0, .string ⟨#[]⟩, .slice none 0 0], .bool false]) w := by kernel_rfl
theorem ta_unlink_link (v : Value) (w : World) : (Instr.typeAssert (.iface 95 v) 20 93 true).run Tryz.prog w = .ok (.tuple #[.agg #[.int .i64 0, .int .i64 0], .bool false]) w := by kernel_rfl
theorem ta_unlink_unlink (v : Value) (w : World) : (Instr.typeAssert (.iface 95 v) 20 95 true).run Tryz.prog w = .ok (.tuple #[v, .bool true]) w := by kernel_rfl
theorem ta_unlink_monitor (v : Value) (w : World) : (Instr.typeAssert (.iface 95 v) 20 97 true).run Tryz.prog w = .ok (.tuple #[.agg #[.int .i64 0, .int .i64 0, .int .i64 0], .bool false]) w := by kernel_rfl
theorem ta_unlink_exit (v : Value) (w : World) : (Instr.typeAssert (.iface 95 v) 20 90 true).run Tryz.prog w = .ok (.tuple #[.agg #[.int .i64 0, .int .i64 0, .bool false, .int .i64 0, .int .i64 0, .float .f64 0, .string ⟨#[]⟩, .slice none 0 0], .bool false]) w := by kernel_rfl
theorem ta_unlink_down (v : Value) (w : World) : (Instr.typeAssert (.iface 95 v) 20 99 true).run Tryz.prog w = .ok (.tuple #[.agg #[.int .i64 0, .int .i64 0, .int .i64 0, .int .i64 0, .int .i64 0, .float .f64 0, .string ⟨#[]⟩, .slice none 0 0], .bool false]) w := by kernel_rfl
theorem ta_exit_link (v : Value) (w : World) : (Instr.typeAssert (.iface 90 v) 20 93 true).run Tryz.prog w = .ok (.tuple #[.agg #[.int .i64 0, .int .i64 0], .bool false]) w := by kernel_rfl
theorem ta_exit_unlink (v : Value) (w : World) : (Instr.typeAssert (.iface 90 v) 20 95 true).run Tryz.prog w = .ok (.tuple #[.agg #[.int .i64 0, .int .i64 0, .int .i64 0], .bool false]) w := by kernel_rfl
theorem ta_exit_monitor (v : Value) (w : World) : (Instr.typeAssert (.iface 90 v) 20 97 true).run Tryz.prog w = .ok (.tuple #[.agg #[.int .i64 0, .int .i64 0, .int .i64 0], .bool false]) w := by kernel_rfl
theorem ta_exit_exit (v : Value) (w : World) : (Instr.typeAssert (.iface 90 v) 20 90 true).run Tryz.prog w = .ok (.tuple #[v, .bool true]) w := by kernel_rfl
theorem ta_exit_down (v : Value) (w : World) : (Instr.typeAssert (.iface 90 v) 20 99 true).run Tryz.prog w = .ok (.tuple #[.agg #[.int .i64 0, .int .i64 0, .int .i64 0, .int .i64 0, .int .i64 0, .float .f64 0, .string ⟨#[]⟩, .slice none 0 0], .bool false]) w := by kernel_rfl
theorem ta_monitor_link (v : Value) (w : World) : (Instr.typeAssert (.iface 97 v) 20 93 true).run Tryz.prog w = .ok (.tuple #[.agg #[.int .i64 0, .int .i64 0], .bool false]) w := by kernel_rfl
theorem ta_monitor_unlink (v : Value) (w : World) : (Instr.typeAssert (.iface 97 v) 20 95 true).run Tryz.prog w = .ok (.tuple #[.agg #[.int .i64 0, .int .i64 0, .int .i64 0], .bool false]) w := by kernel_rfl
theorem ta_monitor_monitor (v : Value) (w : World) : (Instr.typeAssert (.iface 97 v) 20 97 true).run Tryz.prog w = .ok (.tuple #[v, .bool true]) w := by kernel_rfl
theorem ta_monitor_exit (v : Value) (w : World) : (Instr.typeAssert (.iface 97 v) 20 90 true).run Tryz.prog w = .ok (.tuple #[.agg #[.int .i64 0, .int .i64 0, .bool false, .int .i64 0, .int .i64 0, .float .f64 0, .string ⟨#[]⟩, .slice none 0 0], .bool false]) w := by kernel_rfl
theorem ta_monitor_down (v : Value) (w : World) : (Instr.typeAssert (.iface 97 v) 20 99 true).run Tryz.prog w = .ok (.tuple #[.agg #[.int .i64 0, .int .i64 0, .int .i64 0, .int .i64 0, .int .i64 0, .float .f64 0, .string ⟨#[]⟩, .slice none 0 0], .bool false]) w := by kernel_rfl
theorem ta_down_link (v : Value) (w : World) : (Instr.typeAssert (.iface 99 v) 20 93 true).run Tryz.prog w = .ok (.tuple #[.agg #[.int .i64 0, .int .i64 0], .bool false]) w := by kernel_rfl
theorem ta_down_unlink (v : Value) (w : World) : (Instr.typeAssert (.iface 99 v) 20 95 true).run Tryz.prog w = .ok (.tuple #[.agg #[.int .i64 0, .int .i64 0, .int .i64 0], .bool false]) w := by kernel_rfl
theorem ta_down_monitor (v : Value) (w : World) : (Instr.typeAssert (.iface 99 v) 20 97 true).run Tryz.prog w = .ok (.tuple #[.agg #[.int .i64 0, .int .i64 0, .int .i64 0], .bool false]) w := by kernel_rfl
theorem ta_down_exit (v : Value) (w : World) : (Instr.typeAssert (.iface 99 v) 20 90 true).run Tryz.prog w = .ok (.tuple #[.agg #[.int .i64 0, .int .i64 0, .bool false, .int .i64 0, .int .i64 0, .float .f64 0, .string ⟨#[]⟩, .slice none 0 0], .bool false]) w := by kernel_rfl
theorem ta_down_down (v : Value) (w : World) : (Instr.typeAssert (.iface 99 v) 20 99 true).run Tryz.prog w = .ok (.tuple #[v, .bool true]) w := by kernel_rfl
theorem ta_nil_link (w : World) : (Instr.typeAssert .nilIface 20 93 true).run Tryz.prog w = .ok (.tuple #[.agg #[.int .i64 0, .int .i64 0], .bool false]) w := by kernel_rfl
theorem ta_nil_unlink (w : World) : (Instr.typeAssert .nilIface 20 95 true).run Tryz.prog w = .ok (.tuple #[.agg #[.int .i64 0, .int .i64 0, .int .i64 0], .bool false]) w := by kernel_rfl
theorem ta_nil_monitor (w : World) : (Instr.typeAssert .nilIface 20 97 true).run Tryz.prog w = .ok (.tuple #[.agg #[.int .i64 0, .int .i64 0, .int .i64 0], .bool false]) w := by kernel_rfl
theorem ta_nil_exit (w : World) : (Instr.typeAssert .nilIface 20 90 true).run Tryz.prog w = .ok (.tuple #[.agg #[.int .i64 0, .int .i64 0, .bool false, .int .i64 0, .int .i64 0, .float .f64 0, .string ⟨#[]⟩, .slice none 0 0], .bool false]) w := by kernel_rfl
theorem ta_nil_down (w : World) : (Instr.typeAssert .nilIface 20 99 true).run Tryz.prog w = .ok (.tuple #[.agg #[.int .i64 0, .int .i64 0, .int .i64 0, .int .i64 0, .int .i64 0, .float .f64 0, .string ⟨#[]⟩, .slice none 0 0], .bool false]) w := by kernel_rfl
end Go.Proofs.YtliebilpddmhkaaGreat


