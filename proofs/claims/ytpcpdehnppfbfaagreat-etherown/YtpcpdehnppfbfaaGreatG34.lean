import Derived.Test.YtpcpdehnppfbfaaGreatG33
import Derived.Test.YtpcpdehnppfbfaaGreatG04
/- The program's measure of a term, its Check and Words: by the tree. -/
namespace Go.Proofs.YtpcpdehnppfbfaaGreat
open Go.RowKit Go.Deep
attribute [local go_sem ↓] Go.wp_at_zero Go.wp_at_succ

/-- The error of a term: a limit is told ahead of a wrong field. -/
def errT (t : Tr) : Int := if meas t 200 65536 < 0 then 12 else if allT goodT t then 0 else 4
def wordsT (t : Tr) : Int := if errT t = 0 then meas t 200 65536 else 0
def depthT (t : Tr) : Int := if errT t = 0 then deep t else 0

theorem In.start {w : World} {t : Tr} (h : t.In w 0) (o1 o2 : Obj) : t.In ((w.alloc o1).alloc o2) 0 := in_below (((Below.refl _ _).alloc (Nat.le_refl _) _).alloc (by simp) _) h

set_option maxHeartbeats 1000000 in
set_option maxRecDepth 100000 in
theorem measure_t (t : Tr) (w : World) (hin : t.In w 0) (hs : Small t) : Calls Tryz.prog 65 #[t.val] w fun e w' => e = .returned (.tuple #[.agg #[.int .i64 (wordsT t), .int .i64 (depthT t)], .int .i64 (errT t)]) ∧ Below w.heap.size w w' := by
  have key := agree_start goodT t
  have OV := hidb (over_any goodT looks_good w t hin hs 1 (0, 0, false))
  obtain ⟨k, n, f, s, a, c, kids⟩ := t
  show Calls Tryz.prog 65 #[.agg #[.int .i64 k, .int .i64 n, .float .f64 f, .string s, .slice a kids.length c]] w _
  generalize hW : wordsT (.mk k n f s a c kids) = W
  generalize hD : depthT (.mk k n f s a c kids) = D
  generalize hE : errT (.mk k n f s a c kids) = E
  unfold wordsT at hW
  unfold depthT at hD
  rw [hE] at hW hD
  unfold errT at hE
  have HW := hidb hW
  have HD := hidb hD
  have HE := hidb hE
  have KEY := hidb key
  clear hW hD hE key hin hs
  go_enter Tryz.func65, Tryz.ntmps65
  go_wp2_with fail
  have hB3 : Below w.heap.size w (((w.alloc (.cells #[.int .i64 k, .int .i64 n, .float .f64 f, .string s, .slice a kids.length c] 28)).alloc (.cells #[.int .i64 0, .int .i64 0] 114)).alloc (.cells #[.int .i64 0, .int .i64 0, .bool false] 130)) := (((Below.refl _ _).alloc (Nat.le_refl _) _).alloc (by simp) _).alloc (by simp; omega) _
  have hT3 := Tri.new ((w.alloc (.cells #[.int .i64 k, .int .i64 n, .float .f64 f, .string s, .slice a kids.length c] 28)).alloc (.cells #[.int .i64 0, .int .i64 0] 114)) 130 (.int .i64 0) (.int .i64 0) (.bool false)
  have hsz : ((w.alloc (.cells #[.int .i64 k, .int .i64 n, .float .f64 f, .string s, .slice a kids.length c] 28)).alloc (.cells #[.int .i64 0, .int .i64 0] 114)).heap.size = w.heap.size + 1 + 1 := by simp
  rw [hsz] at hT3
  refine (OV.out _ (w.heap.size + 1 + 1) (by omega) hB3 hT3 (by omega) (by omega) (by simp) (by simp) (by simp) (by simp)).mono ?_
  rintro e w1 ⟨rfl, hc, hb⟩
  have hD2 := ((Duo.new (w.alloc (.cells #[.int .i64 k, .int .i64 n, .float .f64 f, .string s, .slice a kids.length c] 28)) 114 (.int .i64 0) (.int .i64 0)).keep (below_new _ (.cells #[.int .i64 0, .int .i64 0, .bool false] 130))).but hb (by simp)
  have hsz1 : (w.alloc (.cells #[.int .i64 k, .int .i64 n, .float .f64 f, .string s, .slice a kids.length c] 28)).heap.size = w.heap.size + 1 := by simp
  rw [hsz1] at hD2
  have HB := hidb (hB3.trans (hb.below (B := w.heap.size) (by simp; omega) (by rintro x rfl; omega)))
  clear hb hB3 hT3 hsz hsz1 OV
  obtain ⟨d0, d1, g0, g1, hlt⟩ := hD2
  rcases KEY.out with ⟨hm, ho⟩ | ⟨hm, _, _, ho⟩
  · obtain rfl : (12 : Int) = E := by have := HE.out; rwa [if_pos hm] at this
    obtain rfl : (0 : Int) = W := by have := HW.out; rwa [if_neg (by decide)] at this
    obtain rfl : (0 : Int) = D := by have := HD.out; rwa [if_neg (by decide)] at this
    rw [ho]
    clear KEY HE HW HD hm ho hc
    go_wp2
    exact bodyPost_ret (v := .tuple #[.agg #[.int .i64 0, .int .i64 0], .int .i64 12]) (by simp [results, Tryz.results65, go_sem, d0, d1]) rfl ⟨rfl, (HB.out.setCell (by simp) _).setCell (by simp) _⟩
  · rw [ho] at hc
    rw [ho]
    obtain ⟨c0, c1, c2, f0, f1, f2, hlt1⟩ := hc
    cases hal : allT goodT (.mk k n f s a c kids) with
    | false =>
      obtain rfl : (4 : Int) = E := by have := HE.out; rw [if_neg (by omega), hal] at this; simpa using this
      obtain rfl : (0 : Int) = W := by have := HW.out; rwa [if_neg (by decide)] at this
      obtain rfl : (0 : Int) = D := by have := HD.out; rwa [if_neg (by decide)] at this
      rw [hal] at c2
      simp only [Bool.not_false] at c2
      clear KEY HE HW HD hm ho hal
      go_wp2
      exact bodyPost_ret (v := .tuple #[.agg #[.int .i64 0, .int .i64 0], .int .i64 4]) (by simp [results, Tryz.results65, go_sem, d0, d1]) rfl ⟨rfl, (HB.out.setCell (by simp) _).setCell (by simp) _⟩
    | true =>
      obtain rfl : (0 : Int) = E := by have := HE.out; rw [if_neg (by omega), hal] at this; simpa using this
      have ew : meas (.mk k n f s a c kids) 200 65536 = W := by have := HW.out; rwa [if_pos rfl] at this
      have ed : deep (.mk k n f s a c kids) = D := by have := HD.out; rwa [if_pos rfl] at this
      rw [ew] at c0
      rw [ed] at c1
      rw [hal] at c2
      simp only [Bool.not_true] at c2
      clear KEY HE HW HD hm ho hal ew ed
      go_wp2
      exact bodyPost_ret (v := .tuple #[.agg #[.int .i64 W, .int .i64 D], .int .i64 0]) (by simp [results, Tryz.results65, go_sem, d0, d1]) rfl ⟨rfl, (HB.out.setCell (by simp) _).setCell (by simp) _⟩

set_option maxHeartbeats 1000000 in
set_option maxRecDepth 100000 in
theorem check_t (t : Tr) (w : World) (hin : t.In w 0) (hs : Small t) : Calls Tryz.prog 46 #[t.val] w fun e w' => e = .returned (.int .i64 (errT t)) ∧ Below w.heap.size w w' := by
  have M := hidb fun w' hw => measure_t t w' (in_below (w := w) hw hin) hs
  generalize wordsT t = W at *
  generalize depthT t = D at *
  generalize errT t = E at *
  obtain ⟨k, n, f, s, a, c, kids⟩ := t
  clear hin hs
  show Calls Tryz.prog 46 #[.agg #[.int .i64 k, .int .i64 n, .float .f64 f, .string s, .slice a kids.length c]] w _
  go_enter Tryz.func46, Tryz.ntmps46
  go_wp2_with fail
  refine (M.out _ (below_new w _)).mono ?_
  rintro e w1 ⟨rfl, hb1⟩
  have HB := hidb (below_in hb1)
  clear hb1 M
  go_wp2
  go_ret
  exact ⟨rfl, below_a0 HB.out _⟩

end Go.Proofs.YtpcpdehnppfbfaaGreat


/- What ether.Check tells of any signal: pure; its small steps walked. -/
namespace Go.Proofs.YtpcpdehnppfbfaaGreat.Xk
open Go.RowKit Go.Lib
attribute [local go_sem] store_float f64bits
attribute [local go_sem ↓] Go.wp_at_zero Go.wp_at_succ

def hT (k : Int) : Bool := decide (k = 1 ∨ k = 5 ∨ k = 8)
def hI (k : Int) : Bool := decide (k = 3 ∨ k = 4)
def hR (k : Int) : Bool := decide (k = 6 ∨ k = 7 ∨ k = 8)
def hL (k : Int) : Bool := decide (k = 5)
def hN (k : Int) : Bool := decide (k = 6)
def isK (k : Int) : Bool := decide (1 ≤ k ∧ k ≤ 8)
def inW (n lo hi : Int) : Bool := decide (lo ≤ n) && decide (n ≤ hi)
def fitN (n : Int) (has : Bool) (most : Int) : Bool := if has then inW n 1 most else decide (n = 0)
def isZ : Tr → Bool
  | .mk k n f s _ _ kids => decide (k = 0) && decide (n = 0) && decide (f = 0) && decide (s.size = 0) && decide (kids.length = 0)
def fitT (has : Bool) (t : Tr) : Bool := if has then decide (errT t = 0) else isZ t
def fitR (k x3 x4 : Int) (lk : Bool) (nm : ByteArray) : Bool := fitN x3 (hI k) 9223372036854775807 && fitN x4 (hR k) 1099511627776 && (hL k || !lk) && (hN k || decide (nm.size = 0))
def errS (x0 x1 k x3 x4 : Int) (lk : Bool) (nm : ByteArray) (t : Tr) : Int := if (isK k && inW x0 0 1099511627776 && inW x1 1 1099511627776) = false then 1 else if fitT (hT k) t = false then 4 else if fitR k x3 x4 lk nm = false then 1 else 0

/-- A signal in memory. -/
theorem box12 {w : World} {b : Nat} {t : TypeId} {v0 v1 v2 v3 v4 v5 v6 v7 v8 v9 v10 v11 : Value} (h : w.heap[b]? = some (.cells #[v0, v1, v2, v3, v4, v5, v6, v7, v8, v9, v10, v11] t)) : w.cell? ⟨b, 0, none⟩ = some v0 ∧ w.cell? ⟨b, 1, none⟩ = some v1 ∧ w.cell? ⟨b, 2, none⟩ = some v2 ∧ w.cell? ⟨b, 3, none⟩ = some v3 ∧ w.cell? ⟨b, 4, none⟩ = some v4 ∧ w.cell? ⟨b, 5, none⟩ = some v5 ∧ w.cell? ⟨b, 6, none⟩ = some v6 ∧ w.cell? ⟨b, 7, none⟩ = some v7 ∧ w.cell? ⟨b, 8, none⟩ = some v8 ∧ w.cell? ⟨b, 9, none⟩ = some v9 ∧ w.cell? ⟨b, 10, none⟩ = some v10 ∧ w.cell? ⟨b, 11, none⟩ = some v11 :=
  ⟨by rw [cell_of_row w b _ _ _ _ h]; rfl, by rw [cell_of_row w b _ _ _ _ h]; rfl, by rw [cell_of_row w b _ _ _ _ h]; rfl, by rw [cell_of_row w b _ _ _ _ h]; rfl, by rw [cell_of_row w b _ _ _ _ h]; rfl, by rw [cell_of_row w b _ _ _ _ h]; rfl, by rw [cell_of_row w b _ _ _ _ h]; rfl, by rw [cell_of_row w b _ _ _ _ h]; rfl, by rw [cell_of_row w b _ _ _ _ h]; rfl, by rw [cell_of_row w b _ _ _ _ h]; rfl, by rw [cell_of_row w b _ _ _ _ h]; rfl, by rw [cell_of_row w b _ _ _ _ h]; rfl⟩
theorem box5 {w : World} {b : Nat} {t : TypeId} {v0 v1 v2 v3 v4 : Value} (h : w.heap[b]? = some (.cells #[v0, v1, v2, v3, v4] t)) : w.cell? ⟨b, 0, none⟩ = some v0 ∧ w.cell? ⟨b, 1, none⟩ = some v1 ∧ w.cell? ⟨b, 2, none⟩ = some v2 ∧ w.cell? ⟨b, 3, none⟩ = some v3 ∧ w.cell? ⟨b, 4, none⟩ = some v4 :=
  ⟨by rw [cell_of_row w b _ _ _ _ h]; rfl, by rw [cell_of_row w b _ _ _ _ h]; rfl, by rw [cell_of_row w b _ _ _ _ h]; rfl, by rw [cell_of_row w b _ _ _ _ h]; rfl, by rw [cell_of_row w b _ _ _ _ h]; rfl⟩
theorem fro12 {w : World} {b : Nat} {t : TypeId} {v0 v1 v2 v3 v4 v5 v6 v7 v8 v9 v10 v11 : Value} (h : w.heap[b]? = some (.cells #[v0, v1, v2, v3, v4, v5, v6, v7, v8, v9, v10, v11] t)) : w.frozen? ⟨b, 0, none⟩ = false ∧ w.frozen? ⟨b, 1, none⟩ = false ∧ w.frozen? ⟨b, 2, none⟩ = false ∧ w.frozen? ⟨b, 3, none⟩ = false ∧ w.frozen? ⟨b, 4, none⟩ = false ∧ w.frozen? ⟨b, 5, none⟩ = false ∧ w.frozen? ⟨b, 6, none⟩ = false ∧ w.frozen? ⟨b, 7, none⟩ = false ∧ w.frozen? ⟨b, 8, none⟩ = false ∧ w.frozen? ⟨b, 9, none⟩ = false ∧ w.frozen? ⟨b, 10, none⟩ = false ∧ w.frozen? ⟨b, 11, none⟩ = false :=
  ⟨frozen_of_row w b _ _ _ h, frozen_of_row w b _ _ _ h, frozen_of_row w b _ _ _ h, frozen_of_row w b _ _ _ h, frozen_of_row w b _ _ _ h, frozen_of_row w b _ _ _ h, frozen_of_row w b _ _ _ h, frozen_of_row w b _ _ _ h, frozen_of_row w b _ _ _ h, frozen_of_row w b _ _ _ h, frozen_of_row w b _ _ _ h, frozen_of_row w b _ _ _ h⟩
theorem at_new (w : World) (o : Obj) : (w.alloc o).heap[w.heap.size]? = some o := (MapKept.heap_alloc w o).1
theorem at_keep {w w' : World} {b : Nat} {o : Obj} (h : w.heap[b]? = some o) (hb : Below w.heap.size w w') : w'.heap[b]? = some o := (hb.block b (Array.getElem?_eq_some_iff.1 h).1).trans h

theorem within_any (n lo hi : Int) (w : World) : Calls Tryz.prog 32 #[.int .i64 n, .int .i64 lo, .int .i64 hi] w fun e w' => e = .returned (.bool (inW n lo hi)) ∧ w' = w := by
  unfold inW
  by_cases h1 : lo ≤ n
  · by_cases h2 : n ≤ hi
    · go_enter Tryz.func32, Tryz.ntmps32
      go_wp2
      go_ret
      exact ⟨by simp [h1, h2], rfl⟩
    · have h3 : hi < n := by omega
      go_enter Tryz.func32, Tryz.ntmps32
      go_wp2
      go_ret
      exact ⟨by simp [h2], rfl⟩
  · have h3 : n < lo := by omega
    go_enter Tryz.func32, Tryz.ntmps32
    go_wp2
    go_ret
    exact ⟨by simp; omega, rfl⟩

theorem fitNumber_any (n : Int) (has : Bool) (most : Int) (w : World) : Calls Tryz.prog 48 #[.int .i64 n, .bool has, .int .i64 most] w fun e w' => e = .returned (.bool (fitN n has most)) ∧ w' = w := by
  unfold fitN
  cases has with
  | true =>
    go_enter Tryz.func48, Tryz.ntmps48
    go_wp2_with (go_at_call 32; refine (within_any _ _ _ _).mono ?_; rintro e w1 ⟨rfl, rfl⟩)
    go_ret
    exact ⟨by simp, rfl⟩
  | false =>
    go_enter Tryz.func48, Tryz.ntmps48
    go_wp2
    go_ret
    exact ⟨by simp; rfl, rfl⟩

set_option maxHeartbeats 1000000 in
theorem fieldsOf_any (k : Int) (w : World) : Calls Tryz.prog 31 #[.int .i64 k] w fun e w' => e = .returned (.tuple #[.agg #[.bool (hT k), .bool (hI k), .bool (hR k), .bool (hL k), .bool (hN k)], .bool (isK k)]) ∧ Below w.heap.size w w' := by
  refine by_kind (Q := fun k => Calls Tryz.prog 31 #[.int .i64 k] w fun e w' => e = .returned (.tuple #[.agg #[.bool (hT k), .bool (hI k), .bool (hR k), .bool (hL k), .bool (hN k)], .bool (isK k)]) ∧ Below w.heap.size w w') k ?_ ?_ ?_ ?_ ?_ ?_ ?_ ?_ ?_
  · rw [show hT 1 = true by decide, show hI 1 = false by decide, show hR 1 = false by decide, show hL 1 = false by decide, show hN 1 = false by decide, show isK 1 = true by decide]
    go_enter Tryz.func31, Tryz.ntmps31
    go_wp2
    exact bodyPost_ret (v := .tuple #[.agg #[.bool true, .bool false, .bool false, .bool false, .bool false], .bool true]) (by simp [results, Tryz.results31, go_sem]) rfl ⟨rfl, by (repeat (first | exact Below.refl _ _ | assumption | refine Below.drew ?_ | refine below_drewN ?_ _ | refine Below.setCell ?_ (by simp) _ | refine Below.alloc ?_ (by (first | exact Nat.le_refl _ | (simp; done) | (simp; omega) | omega)) _ | refine Below.trans ?_ (Below.mono (by assumption) (by first | exact Nat.le_refl _ | (simp; done) | (simp; omega) | omega))))⟩
  · rw [show hT 2 = false by decide, show hI 2 = false by decide, show hR 2 = false by decide, show hL 2 = false by decide, show hN 2 = false by decide, show isK 2 = true by decide]
    go_enter Tryz.func31, Tryz.ntmps31
    go_wp2
    exact bodyPost_ret (v := .tuple #[.agg #[.bool false, .bool false, .bool false, .bool false, .bool false], .bool true]) (by simp [results, Tryz.results31, go_sem]) rfl ⟨rfl, by (repeat (first | exact Below.refl _ _ | assumption | refine Below.drew ?_ | refine below_drewN ?_ _ | refine Below.setCell ?_ (by simp) _ | refine Below.alloc ?_ (by (first | exact Nat.le_refl _ | (simp; done) | (simp; omega) | omega)) _ | refine Below.trans ?_ (Below.mono (by assumption) (by first | exact Nat.le_refl _ | (simp; done) | (simp; omega) | omega))))⟩
  · rw [show hT 3 = false by decide, show hI 3 = true by decide, show hR 3 = false by decide, show hL 3 = false by decide, show hN 3 = false by decide, show isK 3 = true by decide]
    go_enter Tryz.func31, Tryz.ntmps31
    go_wp2
    exact bodyPost_ret (v := .tuple #[.agg #[.bool false, .bool true, .bool false, .bool false, .bool false], .bool true]) (by simp [results, Tryz.results31, go_sem]) rfl ⟨rfl, by (repeat (first | exact Below.refl _ _ | assumption | refine Below.drew ?_ | refine below_drewN ?_ _ | refine Below.setCell ?_ (by simp) _ | refine Below.alloc ?_ (by (first | exact Nat.le_refl _ | (simp; done) | (simp; omega) | omega)) _ | refine Below.trans ?_ (Below.mono (by assumption) (by first | exact Nat.le_refl _ | (simp; done) | (simp; omega) | omega))))⟩
  · rw [show hT 4 = false by decide, show hI 4 = true by decide, show hR 4 = false by decide, show hL 4 = false by decide, show hN 4 = false by decide, show isK 4 = true by decide]
    go_enter Tryz.func31, Tryz.ntmps31
    go_wp2
    exact bodyPost_ret (v := .tuple #[.agg #[.bool false, .bool true, .bool false, .bool false, .bool false], .bool true]) (by simp [results, Tryz.results31, go_sem]) rfl ⟨rfl, by (repeat (first | exact Below.refl _ _ | assumption | refine Below.drew ?_ | refine below_drewN ?_ _ | refine Below.setCell ?_ (by simp) _ | refine Below.alloc ?_ (by (first | exact Nat.le_refl _ | (simp; done) | (simp; omega) | omega)) _ | refine Below.trans ?_ (Below.mono (by assumption) (by first | exact Nat.le_refl _ | (simp; done) | (simp; omega) | omega))))⟩
  · rw [show hT 5 = true by decide, show hI 5 = false by decide, show hR 5 = false by decide, show hL 5 = true by decide, show hN 5 = false by decide, show isK 5 = true by decide]
    go_enter Tryz.func31, Tryz.ntmps31
    go_wp2
    exact bodyPost_ret (v := .tuple #[.agg #[.bool true, .bool false, .bool false, .bool true, .bool false], .bool true]) (by simp [results, Tryz.results31, go_sem]) rfl ⟨rfl, by (repeat (first | exact Below.refl _ _ | assumption | refine Below.drew ?_ | refine below_drewN ?_ _ | refine Below.setCell ?_ (by simp) _ | refine Below.alloc ?_ (by (first | exact Nat.le_refl _ | (simp; done) | (simp; omega) | omega)) _ | refine Below.trans ?_ (Below.mono (by assumption) (by first | exact Nat.le_refl _ | (simp; done) | (simp; omega) | omega))))⟩
  · rw [show hT 6 = false by decide, show hI 6 = false by decide, show hR 6 = true by decide, show hL 6 = false by decide, show hN 6 = true by decide, show isK 6 = true by decide]
    go_enter Tryz.func31, Tryz.ntmps31
    go_wp2
    exact bodyPost_ret (v := .tuple #[.agg #[.bool false, .bool false, .bool true, .bool false, .bool true], .bool true]) (by simp [results, Tryz.results31, go_sem]) rfl ⟨rfl, by (repeat (first | exact Below.refl _ _ | assumption | refine Below.drew ?_ | refine below_drewN ?_ _ | refine Below.setCell ?_ (by simp) _ | refine Below.alloc ?_ (by (first | exact Nat.le_refl _ | (simp; done) | (simp; omega) | omega)) _ | refine Below.trans ?_ (Below.mono (by assumption) (by first | exact Nat.le_refl _ | (simp; done) | (simp; omega) | omega))))⟩
  · rw [show hT 7 = false by decide, show hI 7 = false by decide, show hR 7 = true by decide, show hL 7 = false by decide, show hN 7 = false by decide, show isK 7 = true by decide]
    go_enter Tryz.func31, Tryz.ntmps31
    go_wp2
    exact bodyPost_ret (v := .tuple #[.agg #[.bool false, .bool false, .bool true, .bool false, .bool false], .bool true]) (by simp [results, Tryz.results31, go_sem]) rfl ⟨rfl, by (repeat (first | exact Below.refl _ _ | assumption | refine Below.drew ?_ | refine below_drewN ?_ _ | refine Below.setCell ?_ (by simp) _ | refine Below.alloc ?_ (by (first | exact Nat.le_refl _ | (simp; done) | (simp; omega) | omega)) _ | refine Below.trans ?_ (Below.mono (by assumption) (by first | exact Nat.le_refl _ | (simp; done) | (simp; omega) | omega))))⟩
  · rw [show hT 8 = true by decide, show hI 8 = false by decide, show hR 8 = true by decide, show hL 8 = false by decide, show hN 8 = false by decide, show isK 8 = true by decide]
    go_enter Tryz.func31, Tryz.ntmps31
    go_wp2
    exact bodyPost_ret (v := .tuple #[.agg #[.bool true, .bool false, .bool true, .bool false, .bool false], .bool true]) (by simp [results, Tryz.results31, go_sem]) rfl ⟨rfl, by (repeat (first | exact Below.refl _ _ | assumption | refine Below.drew ?_ | refine below_drewN ?_ _ | refine Below.setCell ?_ (by simp) _ | refine Below.alloc ?_ (by (first | exact Nat.le_refl _ | (simp; done) | (simp; omega) | omega)) _ | refine Below.trans ?_ (Below.mono (by assumption) (by first | exact Nat.le_refl _ | (simp; done) | (simp; omega) | omega))))⟩
  · intro k h1 h2 h3 h4 h5 h6 h7 h8
    rw [show hT k = false by simp [hT, h1, h5, h8], show hI k = false by simp [hI, h3, h4], show hR k = false by simp [hR, h6, h7, h8], show hL k = false by simp [hL, h5], show hN k = false by simp [hN, h6], show isK k = false by simp [isK]; omega]
    go_enter Tryz.func31, Tryz.ntmps31
    go_wp2
    exact bodyPost_ret (v := .tuple #[.agg #[.bool false, .bool false, .bool false, .bool false, .bool false], .bool false]) (by simp [results, Tryz.results31, go_sem]) rfl ⟨rfl, by (repeat (first | exact Below.refl _ _ | assumption | refine Below.drew ?_ | refine below_drewN ?_ _ | refine Below.setCell ?_ (by simp) _ | refine Below.alloc ?_ (by (first | exact Nat.le_refl _ | (simp; done) | (simp; omega) | omega)) _ | refine Below.trans ?_ (Below.mono (by assumption) (by first | exact Nat.le_refl _ | (simp; done) | (simp; omega) | omega))))⟩
end Go.Proofs.YtpcpdehnppfbfaaGreat.Xk


