/- The program's measure of a term, its Check and Words: by the tree. -/
import Derived.Test.YtliebilpddmhkaaKnr
namespace Go.Proofs.Ytliebilpddmhkaa
open Go.RowKit Go.Deep
attribute [local go_sem ↓] Go.wp_at_zero Go.wp_at_succ

/-- The error of a term: a limit is told ahead of a wrong field. -/
def errT (t : Tr) : Int := if meas t 200 65536 < 0 then 12 else if allT goodT t then 0 else 4
def wordsT (t : Tr) : Int := if errT t = 0 then meas t 200 65536 else 0
def depthT (t : Tr) : Int := if errT t = 0 then deep t else 0

theorem In.start {w : World} {t : Tr} (h : t.In w 0) (o1 o2 : Obj) : t.In ((w.alloc o1).alloc o2) 0 := in_below (((Below.refl _ _).alloc (Nat.le_refl _) _).alloc (by simp) _) h

set_option maxHeartbeats 1000000 in
set_option maxRecDepth 100000 in
theorem measure_t (t : Tr) (w : World) (hin : t.In w 0) (hs : Small t) : Calls Try.prog 36 #[t.val] w fun e w' => e = .returned (.tuple #[.agg #[.int .i64 (wordsT t), .int .i64 (depthT t)], .int .i64 (errT t)]) ∧ Below w.heap.size w w' := by
  have key := agree_start goodT t
  have OV := hidb (over_any goodT looks_good w t hin hs 1 (0, 0, false))
  obtain ⟨k, n, f, s, a, c, kids⟩ := t
  show Calls Try.prog 36 #[.agg #[.int .i64 k, .int .i64 n, .float .f64 f, .string s, .slice a kids.length c]] w _
  generalize hW : wordsT (.mk k n f s a c kids) = W
  generalize hD : depthT (.mk k n f s a c kids) = D
  generalize hE : errT (.mk k n f s a c kids) = E
  unfold wordsT at hW
  unfold depthT at hD
  rw [hE] at hW hD
  unfold errT at hE
  have HW := hidb hW
  have HD := hidb hD
  have HE := hidb hE
  have KEY := hidb key
  clear hW hD hE key hin hs
  go_enter Try.func36, Try.ntmps36
  go_wp2_with fail
  have hB3 : Below w.heap.size w (((w.alloc (.cells #[.int .i64 k, .int .i64 n, .float .f64 f, .string s, .slice a kids.length c] 25)).alloc (.cells #[.int .i64 0, .int .i64 0] 73)).alloc (.cells #[.int .i64 0, .int .i64 0, .bool false] 81)) := (((Below.refl _ _).alloc (Nat.le_refl _) _).alloc (by simp) _).alloc (by simp; omega) _
  have hT3 := Tri.new ((w.alloc (.cells #[.int .i64 k, .int .i64 n, .float .f64 f, .string s, .slice a kids.length c] 25)).alloc (.cells #[.int .i64 0, .int .i64 0] 73)) 81 (.int .i64 0) (.int .i64 0) (.bool false)
  have hsz : ((w.alloc (.cells #[.int .i64 k, .int .i64 n, .float .f64 f, .string s, .slice a kids.length c] 25)).alloc (.cells #[.int .i64 0, .int .i64 0] 73)).heap.size = w.heap.size + 1 + 1 := by simp
  rw [hsz] at hT3
  refine (OV.out _ (w.heap.size + 1 + 1) (by omega) hB3 hT3 (by omega) (by omega) (by simp) (by simp) (by simp) (by simp)).mono ?_
  rintro e w1 ⟨rfl, hc, hb⟩
  have hD2 := ((Duo.new (w.alloc (.cells #[.int .i64 k, .int .i64 n, .float .f64 f, .string s, .slice a kids.length c] 25)) 73 (.int .i64 0) (.int .i64 0)).keep (below_new _ (.cells #[.int .i64 0, .int .i64 0, .bool false] 81))).but hb (by simp)
  have hsz1 : (w.alloc (.cells #[.int .i64 k, .int .i64 n, .float .f64 f, .string s, .slice a kids.length c] 25)).heap.size = w.heap.size + 1 := by simp
  rw [hsz1] at hD2
  have HB := hidb (hB3.trans (hb.below (B := w.heap.size) (by simp; omega) (by rintro x rfl; omega)))
  clear hb hB3 hT3 hsz hsz1 OV
  obtain ⟨d0, d1, g0, g1, hlt⟩ := hD2
  rcases KEY.out with ⟨hm, ho⟩ | ⟨hm, _, _, ho⟩
  · obtain rfl : (12 : Int) = E := by have := HE.out; rwa [if_pos hm] at this
    obtain rfl : (0 : Int) = W := by have := HW.out; rwa [if_neg (by decide)] at this
    obtain rfl : (0 : Int) = D := by have := HD.out; rwa [if_neg (by decide)] at this
    rw [ho]
    clear KEY HE HW HD hm ho hc
    go_wp2
    exact bodyPost_ret (v := .tuple #[.agg #[.int .i64 0, .int .i64 0], .int .i64 12]) (by simp [results, Try.results36, go_sem, d0, d1]) rfl ⟨rfl, (HB.out.setCell (by simp) _).setCell (by simp) _⟩
  · rw [ho] at hc
    rw [ho]
    obtain ⟨c0, c1, c2, f0, f1, f2, hlt1⟩ := hc
    cases hal : allT goodT (.mk k n f s a c kids) with
    | false =>
      obtain rfl : (4 : Int) = E := by have := HE.out; rw [if_neg (by omega), hal] at this; simpa using this
      obtain rfl : (0 : Int) = W := by have := HW.out; rwa [if_neg (by decide)] at this
      obtain rfl : (0 : Int) = D := by have := HD.out; rwa [if_neg (by decide)] at this
      rw [hal] at c2
      simp only [Bool.not_false] at c2
      clear KEY HE HW HD hm ho hal
      go_wp2
      exact bodyPost_ret (v := .tuple #[.agg #[.int .i64 0, .int .i64 0], .int .i64 4]) (by simp [results, Try.results36, go_sem, d0, d1]) rfl ⟨rfl, (HB.out.setCell (by simp) _).setCell (by simp) _⟩
    | true =>
      obtain rfl : (0 : Int) = E := by have := HE.out; rw [if_neg (by omega), hal] at this; simpa using this
      have ew : meas (.mk k n f s a c kids) 200 65536 = W := by have := HW.out; rwa [if_pos rfl] at this
      have ed : deep (.mk k n f s a c kids) = D := by have := HD.out; rwa [if_pos rfl] at this
      rw [ew] at c0
      rw [ed] at c1
      rw [hal] at c2
      simp only [Bool.not_true] at c2
      clear KEY HE HW HD hm ho hal ew ed
      go_wp2
      exact bodyPost_ret (v := .tuple #[.agg #[.int .i64 W, .int .i64 D], .int .i64 0]) (by simp [results, Try.results36, go_sem, d0, d1]) rfl ⟨rfl, (HB.out.setCell (by simp) _).setCell (by simp) _⟩

set_option maxHeartbeats 1000000 in
set_option maxRecDepth 100000 in
theorem check_t (t : Tr) (w : World) (hin : t.In w 0) (hs : Small t) : Calls Try.prog 27 #[t.val] w fun e w' => e = .returned (.int .i64 (errT t)) ∧ Below w.heap.size w w' := by
  have M := hidb fun w' hw => measure_t t w' (in_below (w := w) hw hin) hs
  generalize wordsT t = W at *
  generalize depthT t = D at *
  generalize errT t = E at *
  obtain ⟨k, n, f, s, a, c, kids⟩ := t
  clear hin hs
  show Calls Try.prog 27 #[.agg #[.int .i64 k, .int .i64 n, .float .f64 f, .string s, .slice a kids.length c]] w _
  go_enter Try.func27, Try.ntmps27
  go_wp2_with fail
  refine (M.out _ (below_new w _)).mono ?_
  rintro e w1 ⟨rfl, hb1⟩
  have HB := hidb (below_in hb1)
  clear hb1 M
  go_wp2
  go_ret
  exact ⟨rfl, below_a0 HB.out _⟩

end Go.Proofs.Ytliebilpddmhkaa
