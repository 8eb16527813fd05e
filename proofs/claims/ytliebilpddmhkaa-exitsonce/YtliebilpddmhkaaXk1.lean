/- ether.Check of any signal. -/
import Derived.Test.YtliebilpddmhkaaXk0
import Derived.BigQuiet
namespace Go.Proofs.Ytliebilpddmhkaa
open Go.RowKit Go.Lib
attribute [local go_sem] store_float f64bits
attribute [local go_sem ↓] Go.wp_at_zero Go.wp_at_succ

theorem size0 {s : ByteArray} (h : s.size = 0) : s = ⟨#[]⟩ := by
  obtain ⟨d⟩ := s
  have : d = #[] := Array.eq_empty_of_size_eq_zero h
  rw [this]

theorem lit_f {a : ByteArray} {l : List UInt8} (h : ¬ a = ⟨l.toArray⟩) : (a.toList == l) = false := by
  rw [ByteArray.toList_eq]
  refine Bool.eq_false_iff.2 fun he => h ?_
  have : a.data.toList = l := by simpa using he
  cases a
  simp at this
  simp [← this]
theorem lit_F {a : ByteArray} {l : List UInt8} (h : ¬ a = ⟨l.toArray⟩) : ¬ a.toList = l := fun e => by have := lit_f h; simp [e] at this
theorem toList_ne {s : ByteArray} (h : ¬ s.size = 0) : (s.toList == []) = false ∧ ¬ s.toList = [] := by
  have h1 : ¬ s = ⟨[].toArray⟩ := fun e => h (by rw [e]; rfl)
  exact ⟨lit_f h1, lit_F h1⟩

set_option maxHeartbeats 1000000 in
theorem zeroTerm_all (tk tn : Int) (tf : Nat) (ts : ByteArray) (ta : Option Addr) (tc : Nat) (kids : List Tr) (w : World) : Calls Try.prog 28 #[.agg #[.int .i64 tk, .int .i64 tn, .float .f64 tf, .string ts, .slice ta kids.length tc]] w fun e w' => e = .returned (.bool (isZ (.mk tk tn tf ts ta tc kids))) ∧ Below w.heap.size w w' := by
  rw [show isZ (.mk tk tn tf ts ta tc kids) = (decide (tk = 0) && decide (tn = 0) && decide (tf = 0) && decide (ts.size = 0) && decide (kids.length = 0)) from rfl]
  generalize kids.length = tl
  by_cases h0 : tk = 0
  · subst h0
    by_cases h1 : tn = 0
    · subst h1
      by_cases h2 : tf = 0
      · subst h2
        by_cases h3 : ts.size = 0
        · obtain rfl := size0 h3
          clear h3
          by_cases h4 : tl = 0
          · subst h4
            go_enter Try.func28, Try.ntmps28
            go_wp2
            go_ret
            exact ⟨rfl, by (repeat (first | exact Below.refl _ _ | assumption | refine Below.drew ?_ | refine below_drewN ?_ _ | refine Below.setCell ?_ (by simp) _ | refine Below.alloc ?_ (by (first | exact Nat.le_refl _ | (simp; done) | (simp; omega) | omega)) _ | refine Below.trans ?_ (Below.mono (by assumption) (by first | exact Nat.le_refl _ | (simp; done) | (simp; omega) | omega))))⟩
          · have h5 : ((tl : Int) == 0) = false := by simp; omega
            go_enter Try.func28, Try.ntmps28
            go_wp2
            go_ret
            exact ⟨by simp [h4], by (repeat (first | exact Below.refl _ _ | assumption | refine Below.drew ?_ | refine below_drewN ?_ _ | refine Below.setCell ?_ (by simp) _ | refine Below.alloc ?_ (by (first | exact Nat.le_refl _ | (simp; done) | (simp; omega) | omega)) _ | refine Below.trans ?_ (Below.mono (by assumption) (by first | exact Nat.le_refl _ | (simp; done) | (simp; omega) | omega))))⟩
        · obtain ⟨h5, h6⟩ := toList_ne h3
          go_enter Try.func28, Try.ntmps28
          go_wp2
          go_ret
          exact ⟨by simp [h3], by (repeat (first | exact Below.refl _ _ | assumption | refine Below.drew ?_ | refine below_drewN ?_ _ | refine Below.setCell ?_ (by simp) _ | refine Below.alloc ?_ (by (first | exact Nat.le_refl _ | (simp; done) | (simp; omega) | omega)) _ | refine Below.trans ?_ (Below.mono (by assumption) (by first | exact Nat.le_refl _ | (simp; done) | (simp; omega) | omega))))⟩
      · have h5 : ((tf : Int) == 0) = false := by simp; omega
        go_enter Try.func28, Try.ntmps28
        go_wp2
        go_ret
        exact ⟨by simp [h2], by (repeat (first | exact Below.refl _ _ | assumption | refine Below.drew ?_ | refine below_drewN ?_ _ | refine Below.setCell ?_ (by simp) _ | refine Below.alloc ?_ (by (first | exact Nat.le_refl _ | (simp; done) | (simp; omega) | omega)) _ | refine Below.trans ?_ (Below.mono (by assumption) (by first | exact Nat.le_refl _ | (simp; done) | (simp; omega) | omega))))⟩
    · have h5 : (tn == 0) = false := by simpa using h1
      go_enter Try.func28, Try.ntmps28
      go_wp2
      go_ret
      exact ⟨by simp [h1], by (repeat (first | exact Below.refl _ _ | assumption | refine Below.drew ?_ | refine below_drewN ?_ _ | refine Below.setCell ?_ (by simp) _ | refine Below.alloc ?_ (by (first | exact Nat.le_refl _ | (simp; done) | (simp; omega) | omega)) _ | refine Below.trans ?_ (Below.mono (by assumption) (by first | exact Nat.le_refl _ | (simp; done) | (simp; omega) | omega))))⟩
  · have h5 : (tk == 0) = false := by simpa using h0
    go_enter Try.func28, Try.ntmps28
    go_wp2
    go_ret
    exact ⟨by simp [h0], by (repeat (first | exact Below.refl _ _ | assumption | refine Below.drew ?_ | refine below_drewN ?_ _ | refine Below.setCell ?_ (by simp) _ | refine Below.alloc ?_ (by (first | exact Nat.le_refl _ | (simp; done) | (simp; omega) | omega)) _ | refine Below.trans ?_ (Below.mono (by assumption) (by first | exact Nat.le_refl _ | (simp; done) | (simp; omega) | omega))))⟩

/-- A signal as a value. -/
abbrev sgv (x0 x1 k x3 x4 : Int) (lk : Bool) (nm : ByteArray) (tk tn : Int) (tf : Nat) (ts : ByteArray) (ta : Option Addr) (tl tc : Nat) : Value := .agg #[.int .i64 x0, .int .i64 x1, .int .i64 k, .int .i64 x3, .int .i64 x4, .bool lk, .string nm, .int .i64 tk, .int .i64 tn, .float .f64 tf, .string ts, .slice ta tl tc]

set_option maxHeartbeats 2000000 in
theorem fitTerm_any (b0 b1 b2 b3 b4 : Bool) (x0 x1 k x3 x4 : Int) (lk : Bool) (nm : ByteArray) (tk tn : Int) (tf : Nat) (ts : ByteArray) (ta : Option Addr) (tc : Nat) (kids : List Tr) (w : World) (hin : (Tr.mk tk tn tf ts ta tc kids).In w 0) (hs : Small (.mk tk tn tf ts ta tc kids)) : Calls Try.prog 19 #[.agg #[.bool b0, .bool b1, .bool b2, .bool b3, .bool b4], sgv x0 x1 k x3 x4 lk nm tk tn tf ts ta kids.length tc] w fun e w' => e = .returned (.bool (fitT b0 (.mk tk tn tf ts ta tc kids))) ∧ Below w.heap.size w w' := by
  have IZ := hidb (fun w => zeroTerm_all tk tn tf ts ta tc kids w)
  have CK := hidb (fun (w' : World) (hb : Below w.heap.size w w') => check_t (.mk tk tn tf ts ta tc kids) w' (in_below hb hin) hs)
  simp only [Tr.val, Tr.cells] at CK
  clear hin hs
  cases b0 with
  | false =>
    unfold fitT
    rw [if_neg (by decide)]
    generalize isZ (.mk tk tn tf ts ta tc kids) = z at *
    generalize kids.length = tl at *
    go_enter Try.func19, Try.ntmps19
    go_wp2_with (go_at_call 28; refine (IZ.out _).mono ?_; rintro e w1 ⟨rfl, hb1⟩)
    go_ret
    exact ⟨rfl, (show Below w.heap.size w _ by (repeat (first | exact Below.refl _ _ | assumption | refine Below.drew ?_ | refine below_drewN ?_ _ | refine Below.setCell ?_ (by simp) _ | refine Below.alloc ?_ (by (first | exact Nat.le_refl _ | (simp; done) | (simp; omega) | omega)) _ | refine Below.trans ?_ (Below.mono (by assumption) (by first | exact Nat.le_refl _ | (simp; done) | (simp; omega) | omega))))).trans (hb1.mono (by simp; omega))⟩
  | true =>
    unfold fitT
    rw [if_pos rfl]
    generalize errT (.mk tk tn tf ts ta tc kids) = z at *
    generalize kids.length = tl at *
    go_enter Try.func19, Try.ntmps19
    go_wp2_with (go_at_call 27; refine (CK.out _ (by (repeat (first | exact Below.refl _ _ | assumption | refine Below.drew ?_ | refine below_drewN ?_ _ | refine Below.setCell ?_ (by simp) _ | refine Below.alloc ?_ (by (first | exact Nat.le_refl _ | (simp; done) | (simp; omega) | omega)) _ | refine Below.trans ?_ (Below.mono (by assumption) (by first | exact Nat.le_refl _ | (simp; done) | (simp; omega) | omega)))))).mono ?_; rintro e w1 ⟨rfl, hb1⟩)
    go_ret
    exact ⟨by first | rfl | simp, (show Below w.heap.size w _ by (repeat (first | exact Below.refl _ _ | assumption | refine Below.drew ?_ | refine below_drewN ?_ _ | refine Below.setCell ?_ (by simp) _ | refine Below.alloc ?_ (by (first | exact Nat.le_refl _ | (simp; done) | (simp; omega) | omega)) _ | refine Below.trans ?_ (Below.mono (by assumption) (by first | exact Nat.le_refl _ | (simp; done) | (simp; omega) | omega))))).trans (hb1.mono (by simp; omega))⟩

set_option maxHeartbeats 4000000 in
theorem fitRest_all (b0 b1 b2 b3 b4 : Bool) (x0 x1 k x3 x4 : Int) (lk : Bool) (nm : ByteArray) (tk tn : Int) (tf : Nat) (ts : ByteArray) (ta : Option Addr) (tl tc : Nat) (w : World) : Calls Try.prog 20 #[.agg #[.bool b0, .bool b1, .bool b2, .bool b3, .bool b4], sgv x0 x1 k x3 x4 lk nm tk tn tf ts ta tl tc] w fun e w' => e = .returned (.bool (fitN x3 b1 9223372036854775807 && fitN x4 b2 1099511627776 && (b3 || !lk) && (b4 || decide (nm.size = 0)))) ∧ Below w.heap.size w w' := by
  have FN := hidb (fun w => fitNumber_any x3 b1 9223372036854775807 w)
  have FM := hidb (fun w => fitNumber_any x4 b2 1099511627776 w)
  generalize fitN x3 b1 9223372036854775807 = z1 at *
  generalize fitN x4 b2 1099511627776 = z2 at *
  by_cases hn : nm.size = 0
  · obtain rfl := size0 hn
    clear hn
    rw [show decide ((⟨#[]⟩ : ByteArray).size = 0) = true from rfl]
    cases z1 <;> cases z2 <;> cases b3 <;> cases lk <;> cases b4 <;> (
      go_enter Try.func20, Try.ntmps20
      go_wp2_with (first
        | (go_at_call 29; refine (FN.out _).mono ?_; clear FN; rintro e w1 ⟨rfl, rfl⟩)
        | (go_at_call 29; refine (FM.out _).mono ?_; clear FM; rintro e w1 ⟨rfl, rfl⟩))
      go_ret
      exact ⟨rfl, by (repeat (first | exact Below.refl _ _ | assumption | refine Below.drew ?_ | refine below_drewN ?_ _ | refine Below.setCell ?_ (by simp) _ | refine Below.alloc ?_ (by (first | exact Nat.le_refl _ | (simp; done) | (simp; omega) | omega)) _ | refine Below.trans ?_ (Below.mono (by assumption) (by first | exact Nat.le_refl _ | (simp; done) | (simp; omega) | omega))))⟩)
  · obtain ⟨h5, h6⟩ := toList_ne hn
    rw [show decide (nm.size = 0) = false by simpa using hn]
    cases z1 <;> cases z2 <;> cases b3 <;> cases lk <;> cases b4 <;> (
      go_enter Try.func20, Try.ntmps20
      go_wp2_with (first
        | (go_at_call 29; refine (FN.out _).mono ?_; clear FN; rintro e w1 ⟨rfl, rfl⟩)
        | (go_at_call 29; refine (FM.out _).mono ?_; clear FM; rintro e w1 ⟨rfl, rfl⟩))
      go_ret
      exact ⟨rfl, by (repeat (first | exact Below.refl _ _ | assumption | refine Below.drew ?_ | refine below_drewN ?_ _ | refine Below.setCell ?_ (by simp) _ | refine Below.alloc ?_ (by (first | exact Nat.le_refl _ | (simp; done) | (simp; omega) | omega)) _ | refine Below.trans ?_ (Below.mono (by assumption) (by first | exact Nat.le_refl _ | (simp; done) | (simp; omega) | omega))))⟩)
end Go.Proofs.Ytliebilpddmhkaa
