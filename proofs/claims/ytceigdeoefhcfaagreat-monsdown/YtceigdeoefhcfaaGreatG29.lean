import Derived.Test.YtceigdeoefhcfaaGreatG28
import Derived.Test.YtceigdeoefhcfaaGreatG16
/- The program's measure of a term, its Check and Words: by the tree. -/
namespace Go.Proofs.YtceigdeoefhcfaaGreat
open Go.RowKit Go.Deep
attribute [local go_sem ↓] Go.wp_at_zero Go.wp_at_succ

/-- The error of a term: a limit is told ahead of a wrong field. -/
def errT (t : Tr) : Int := if meas t 200 65536 < 0 then 12 else if allT goodT t then 0 else 4
def wordsT (t : Tr) : Int := if errT t = 0 then meas t 200 65536 else 0
def depthT (t : Tr) : Int := if errT t = 0 then deep t else 0

theorem In.start {w : World} {t : Tr} (h : t.In w 0) (o1 o2 : Obj) : t.In ((w.alloc o1).alloc o2) 0 := in_below (((Below.refl _ _).alloc (Nat.le_refl _) _).alloc (by simp) _) h

set_option maxHeartbeats 1000000 in
set_option maxRecDepth 100000 in
theorem measure_t (t : Tr) (w : World) (hin : t.In w 0) (hs : Small t) : Calls Tryz.prog 61 #[t.val] w fun e w' => e = .returned (.tuple #[.agg #[.int .i64 (wordsT t), .int .i64 (depthT t)], .int .i64 (errT t)]) ∧ Below w.heap.size w w' := by
  have key := agree_start goodT t
  have OV := hidb (over_any goodT looks_good w t hin hs 1 (0, 0, false))
  obtain ⟨k, n, f, s, a, c, kids⟩ := t
  show Calls Tryz.prog 61 #[.agg #[.int .i64 k, .int .i64 n, .float .f64 f, .string s, .slice a kids.length c]] w _
  generalize hW : wordsT (.mk k n f s a c kids) = W
  generalize hD : depthT (.mk k n f s a c kids) = D
  generalize hE : errT (.mk k n f s a c kids) = E
  unfold wordsT at hW
  unfold depthT at hD
  rw [hE] at hW hD
  unfold errT at hE
  have HW := hidb hW
  have HD := hidb hD
  have HE := hidb hE
  have KEY := hidb key
  clear hW hD hE key hin hs
  go_enter Tryz.func61, Tryz.ntmps61
  go_wp2_with fail
  have hB3 : Below w.heap.size w (((w.alloc (.cells #[.int .i64 k, .int .i64 n, .float .f64 f, .string s, .slice a kids.length c] 62)).alloc (.cells #[.int .i64 0, .int .i64 0] 118)).alloc (.cells #[.int .i64 0, .int .i64 0, .bool false] 127)) := (((Below.refl _ _).alloc (Nat.le_refl _) _).alloc (by simp) _).alloc (by simp; omega) _
  have hT3 := Tri.new ((w.alloc (.cells #[.int .i64 k, .int .i64 n, .float .f64 f, .string s, .slice a kids.length c] 62)).alloc (.cells #[.int .i64 0, .int .i64 0] 118)) 127 (.int .i64 0) (.int .i64 0) (.bool false)
  have hsz : ((w.alloc (.cells #[.int .i64 k, .int .i64 n, .float .f64 f, .string s, .slice a kids.length c] 62)).alloc (.cells #[.int .i64 0, .int .i64 0] 118)).heap.size = w.heap.size + 1 + 1 := by simp
  rw [hsz] at hT3
  refine (OV.out _ (w.heap.size + 1 + 1) (by omega) hB3 hT3 (by omega) (by omega) (by simp) (by simp) (by simp) (by simp)).mono ?_
  rintro e w1 ⟨rfl, hc, hb⟩
  have hD2 := ((Duo.new (w.alloc (.cells #[.int .i64 k, .int .i64 n, .float .f64 f, .string s, .slice a kids.length c] 62)) 118 (.int .i64 0) (.int .i64 0)).keep (below_new _ (.cells #[.int .i64 0, .int .i64 0, .bool false] 127))).but hb (by simp)
  have hsz1 : (w.alloc (.cells #[.int .i64 k, .int .i64 n, .float .f64 f, .string s, .slice a kids.length c] 62)).heap.size = w.heap.size + 1 := by simp
  rw [hsz1] at hD2
  have HB := hidb (hB3.trans (hb.below (B := w.heap.size) (by simp; omega) (by rintro x rfl; omega)))
  clear hb hB3 hT3 hsz hsz1 OV
  obtain ⟨d0, d1, g0, g1, hlt⟩ := hD2
  rcases KEY.out with ⟨hm, ho⟩ | ⟨hm, _, _, ho⟩
  · obtain rfl : (12 : Int) = E := by have := HE.out; rwa [if_pos hm] at this
    obtain rfl : (0 : Int) = W := by have := HW.out; rwa [if_neg (by decide)] at this
    obtain rfl : (0 : Int) = D := by have := HD.out; rwa [if_neg (by decide)] at this
    rw [ho]
    clear KEY HE HW HD hm ho hc
    go_wp2
    exact bodyPost_ret (v := .tuple #[.agg #[.int .i64 0, .int .i64 0], .int .i64 12]) (by simp [results, Tryz.results61, go_sem, d0, d1]) rfl ⟨rfl, (HB.out.setCell (by simp) _).setCell (by simp) _⟩
  · rw [ho] at hc
    rw [ho]
    obtain ⟨c0, c1, c2, f0, f1, f2, hlt1⟩ := hc
    cases hal : allT goodT (.mk k n f s a c kids) with
    | false =>
      obtain rfl : (4 : Int) = E := by have := HE.out; rw [if_neg (by omega), hal] at this; simpa using this
      obtain rfl : (0 : Int) = W := by have := HW.out; rwa [if_neg (by decide)] at this
      obtain rfl : (0 : Int) = D := by have := HD.out; rwa [if_neg (by decide)] at this
      rw [hal] at c2
      simp only [Bool.not_false] at c2
      clear KEY HE HW HD hm ho hal
      go_wp2
      exact bodyPost_ret (v := .tuple #[.agg #[.int .i64 0, .int .i64 0], .int .i64 4]) (by simp [results, Tryz.results61, go_sem, d0, d1]) rfl ⟨rfl, (HB.out.setCell (by simp) _).setCell (by simp) _⟩
    | true =>
      obtain rfl : (0 : Int) = E := by have := HE.out; rw [if_neg (by omega), hal] at this; simpa using this
      have ew : meas (.mk k n f s a c kids) 200 65536 = W := by have := HW.out; rwa [if_pos rfl] at this
      have ed : deep (.mk k n f s a c kids) = D := by have := HD.out; rwa [if_pos rfl] at this
      rw [ew] at c0
      rw [ed] at c1
      rw [hal] at c2
      simp only [Bool.not_true] at c2
      clear KEY HE HW HD hm ho hal ew ed
      go_wp2
      exact bodyPost_ret (v := .tuple #[.agg #[.int .i64 W, .int .i64 D], .int .i64 0]) (by simp [results, Tryz.results61, go_sem, d0, d1]) rfl ⟨rfl, (HB.out.setCell (by simp) _).setCell (by simp) _⟩

set_option maxHeartbeats 1000000 in
set_option maxRecDepth 100000 in
theorem check_t (t : Tr) (w : World) (hin : t.In w 0) (hs : Small t) : Calls Tryz.prog 52 #[t.val] w fun e w' => e = .returned (.int .i64 (errT t)) ∧ Below w.heap.size w w' := by
  have M := hidb fun w' hw => measure_t t w' (in_below (w := w) hw hin) hs
  generalize wordsT t = W at *
  generalize depthT t = D at *
  generalize errT t = E at *
  obtain ⟨k, n, f, s, a, c, kids⟩ := t
  clear hin hs
  show Calls Tryz.prog 52 #[.agg #[.int .i64 k, .int .i64 n, .float .f64 f, .string s, .slice a kids.length c]] w _
  go_enter Tryz.func52, Tryz.ntmps52
  go_wp2_with fail
  refine (M.out _ (below_new w _)).mono ?_
  rintro e w1 ⟨rfl, hb1⟩
  have HB := hidb (below_in hb1)
  clear hb1 M
  go_wp2
  go_ret
  exact ⟨rfl, below_a0 HB.out _⟩

end Go.Proofs.YtceigdeoefhcfaaGreat


/- ether.Check of signals with a reference: kinds 6 (monitor), 7 (demonitor), 8 (down, with an atom). -/
namespace Go.Proofs.YtceigdeoefhcfaaGreat
open Go.RowKit Go.Lib Go.Maps
attribute [local go_sem] store_float f64bits
attribute [local go_sem ↓] Go.wp_at_zero Go.wp_at_succ

theorem fields6 (w : World) : Calls Tryz.prog 38 #[.int .i64 6] w fun e w' => e = .returned (.tuple #[.agg #[.bool false, .bool false, .bool true, .bool false, .bool true], .bool true]) ∧ Below w.heap.size w w' := by
  go_enter Tryz.func38, Tryz.ntmps38
  go_wp2
  exact bodyPost_ret (v := .tuple #[.agg #[.bool false, .bool false, .bool true, .bool false, .bool true], .bool true]) (by simp [results, Tryz.results38, go_sem]) rfl ⟨rfl, by (repeat (first | exact Below.refl _ _ | assumption | refine Below.drew ?_ | refine below_drewN ?_ _ | refine Below.setCell ?_ (by simp) _ | refine Below.alloc ?_ (by (first | exact Nat.le_refl _ | (simp; done) | (simp; omega) | omega)) _ | refine Below.trans ?_ (Below.mono (by assumption) (by first | exact Nat.le_refl _ | (simp; done) | (simp; omega) | omega))))⟩
theorem fields7 (w : World) : Calls Tryz.prog 38 #[.int .i64 7] w fun e w' => e = .returned (.tuple #[.agg #[.bool false, .bool false, .bool true, .bool false, .bool false], .bool true]) ∧ Below w.heap.size w w' := by
  go_enter Tryz.func38, Tryz.ntmps38
  go_wp2
  exact bodyPost_ret (v := .tuple #[.agg #[.bool false, .bool false, .bool true, .bool false, .bool false], .bool true]) (by simp [results, Tryz.results38, go_sem]) rfl ⟨rfl, by (repeat (first | exact Below.refl _ _ | assumption | refine Below.drew ?_ | refine below_drewN ?_ _ | refine Below.setCell ?_ (by simp) _ | refine Below.alloc ?_ (by (first | exact Nat.le_refl _ | (simp; done) | (simp; omega) | omega)) _ | refine Below.trans ?_ (Below.mono (by assumption) (by first | exact Nat.le_refl _ | (simp; done) | (simp; omega) | omega))))⟩
theorem fields8 (w : World) : Calls Tryz.prog 38 #[.int .i64 8] w fun e w' => e = .returned (.tuple #[.agg #[.bool true, .bool false, .bool true, .bool false, .bool false], .bool true]) ∧ Below w.heap.size w w' := by
  go_enter Tryz.func38, Tryz.ntmps38
  go_wp2
  exact bodyPost_ret (v := .tuple #[.agg #[.bool true, .bool false, .bool true, .bool false, .bool false], .bool true]) (by simp [results, Tryz.results38, go_sem]) rfl ⟨rfl, by (repeat (first | exact Below.refl _ _ | assumption | refine Below.drew ?_ | refine below_drewN ?_ _ | refine Below.setCell ?_ (by simp) _ | refine Below.alloc ?_ (by (first | exact Nat.le_refl _ | (simp; done) | (simp; omega) | omega)) _ | refine Below.trans ?_ (Below.mono (by assumption) (by first | exact Nat.le_refl _ | (simp; done) | (simp; omega) | omega))))⟩

set_option maxHeartbeats 2000000 in
theorem fitRest_ref (t nm : Bool) (x0 x1 x2 x4 : Int) (tk tn : Int) (tf : Nat) (ts : ByteArray) (ta : Option Addr) (tl tc : Nat) (h4 : 1 ≤ x4) (h5 : x4 ≤ 1099511627776) (w : World) : Calls Tryz.prog 41 #[.agg #[.bool t, .bool false, .bool true, .bool false, .bool nm], .agg #[.int .i64 x0, .int .i64 x1, .int .i64 x2, .int .i64 0, .int .i64 x4, .bool false, .string ⟨#[]⟩, .int .i64 tk, .int .i64 tn, .float .f64 tf, .string ts, .slice ta tl tc]] w fun e w' => e = .returned (.bool true) ∧ Below w.heap.size w w' := by
  have FN := hidb (fun w => fitNumber_any 0 false 9223372036854775807 w)
  have FM := hidb (fun w => fitNumber_any x4 true 1099511627776 w)
  rw [show (if true = true then decide (1 ≤ x4) && decide (x4 ≤ 1099511627776) else decide (x4 = 0)) = true by simp; omega] at FM
  rw [show (if false = true then decide ((1 : Int) ≤ 0) && decide ((0 : Int) ≤ 9223372036854775807) else decide ((0 : Int) = 0)) = true by simp] at FN
  clear h4 h5
  cases nm with
  | true =>
    go_enter Tryz.func41, Tryz.ntmps41
    go_wp2_with (first
      | (go_at_call 54; refine (FN.out _).mono ?_; clear FN; rintro e w1 ⟨rfl, rfl⟩)
      | (go_at_call 54; refine (FM.out _).mono ?_; clear FM; rintro e w1 ⟨rfl, rfl⟩))
    go_ret
    exact ⟨rfl, by (repeat (first | exact Below.refl _ _ | assumption | refine Below.drew ?_ | refine below_drewN ?_ _ | refine Below.setCell ?_ (by simp) _ | refine Below.alloc ?_ (by (first | exact Nat.le_refl _ | (simp; done) | (simp; omega) | omega)) _ | refine Below.trans ?_ (Below.mono (by assumption) (by first | exact Nat.le_refl _ | (simp; done) | (simp; omega) | omega))))⟩
  | false =>
    go_enter Tryz.func41, Tryz.ntmps41
    go_wp2_with (first
      | (go_at_call 54; refine (FN.out _).mono ?_; clear FN; rintro e w1 ⟨rfl, rfl⟩)
      | (go_at_call 54; refine (FM.out _).mono ?_; clear FM; rintro e w1 ⟨rfl, rfl⟩))
    go_ret
    exact ⟨rfl, by (repeat (first | exact Below.refl _ _ | assumption | refine Below.drew ?_ | refine below_drewN ?_ _ | refine Below.setCell ?_ (by simp) _ | refine Below.alloc ?_ (by (first | exact Nat.le_refl _ | (simp; done) | (simp; omega) | omega)) _ | refine Below.trans ?_ (Below.mono (by assumption) (by first | exact Nat.le_refl _ | (simp; done) | (simp; omega) | omega))))⟩

/-- An atom is right. -/
theorem check_atom (s : ByteArray) (hs : errT (.mk 3 0 0 s none 0 []) = 0) (hsz : s.size ≤ 255) (w : World) : Calls Tryz.prog 52 #[.agg #[.int .i64 3, .int .i64 0, .float .f64 0, .string s, .slice none 0 0]] w fun e w' => e = .returned (.int .i64 0) ∧ Below w.heap.size w w' := by
  have h := check_t (.mk 3 0 0 s none 0 []) w (by
    unfold Tr.In
    exact ⟨⟨by decide, by decide, by decide, by unfold maxLen; omega, Nat.le_refl _, Nat.zero_le _, fun _ => rfl⟩, fun ad h => by simp at h⟩) (by unfold Small SmallAll; exact ⟨by simp, trivial⟩)
  rw [hs] at h
  exact h

end Go.Proofs.YtceigdeoefhcfaaGreat


