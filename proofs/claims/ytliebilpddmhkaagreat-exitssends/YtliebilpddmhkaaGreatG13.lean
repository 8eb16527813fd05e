import Derived.Test.YtliebilpddmhkaaGreatG11
import Derived.Test.YtliebilpddmhkaaGreatG12
import Derived.BigQuiet
/- What ether.Check tells of any signal: pure; its small steps walked. -/
namespace Go.Proofs.YtliebilpddmhkaaGreat
open Go.RowKit Go.Lib
attribute [local go_sem] store_float f64bits
attribute [local go_sem ↓] Go.wp_at_zero Go.wp_at_succ

def hT (k : Int) : Bool := decide (k = 1 ∨ k = 5 ∨ k = 8)
def hI (k : Int) : Bool := decide (k = 3 ∨ k = 4)
def hR (k : Int) : Bool := decide (k = 6 ∨ k = 7 ∨ k = 8)
def hL (k : Int) : Bool := decide (k = 5)
def hN (k : Int) : Bool := decide (k = 6)
def isK (k : Int) : Bool := decide (1 ≤ k ∧ k ≤ 8)
def inW (n lo hi : Int) : Bool := decide (lo ≤ n) && decide (n ≤ hi)
def fitN (n : Int) (has : Bool) (most : Int) : Bool := if has then inW n 1 most else decide (n = 0)
def isZ : Tr → Bool
  | .mk k n f s _ _ kids => decide (k = 0) && decide (n = 0) && decide (f = 0) && decide (s.size = 0) && decide (kids.length = 0)
def fitT (has : Bool) (t : Tr) : Bool := if has then decide (errT t = 0) else isZ t
def fitR (k x3 x4 : Int) (lk : Bool) (nm : ByteArray) : Bool := fitN x3 (hI k) 9223372036854775807 && fitN x4 (hR k) 1099511627776 && (hL k || !lk) && (hN k || decide (nm.size = 0))
def errS (x0 x1 k x3 x4 : Int) (lk : Bool) (nm : ByteArray) (t : Tr) : Int := if (isK k && inW x0 0 1099511627776 && inW x1 1 1099511627776) = false then 1 else if fitT (hT k) t = false then 4 else if fitR k x3 x4 lk nm = false then 1 else 0

/-- A signal in memory. -/
theorem box12 {w : World} {b : Nat} {t : TypeId} {v0 v1 v2 v3 v4 v5 v6 v7 v8 v9 v10 v11 : Value} (h : w.heap[b]? = some (.cells #[v0, v1, v2, v3, v4, v5, v6, v7, v8, v9, v10, v11] t)) : w.cell? ⟨b, 0, none⟩ = some v0 ∧ w.cell? ⟨b, 1, none⟩ = some v1 ∧ w.cell? ⟨b, 2, none⟩ = some v2 ∧ w.cell? ⟨b, 3, none⟩ = some v3 ∧ w.cell? ⟨b, 4, none⟩ = some v4 ∧ w.cell? ⟨b, 5, none⟩ = some v5 ∧ w.cell? ⟨b, 6, none⟩ = some v6 ∧ w.cell? ⟨b, 7, none⟩ = some v7 ∧ w.cell? ⟨b, 8, none⟩ = some v8 ∧ w.cell? ⟨b, 9, none⟩ = some v9 ∧ w.cell? ⟨b, 10, none⟩ = some v10 ∧ w.cell? ⟨b, 11, none⟩ = some v11 :=
  ⟨by rw [cell_of_row w b _ _ _ _ h]; rfl, by rw [cell_of_row w b _ _ _ _ h]; rfl, by rw [cell_of_row w b _ _ _ _ h]; rfl, by rw [cell_of_row w b _ _ _ _ h]; rfl, by rw [cell_of_row w b _ _ _ _ h]; rfl, by rw [cell_of_row w b _ _ _ _ h]; rfl, by rw [cell_of_row w b _ _ _ _ h]; rfl, by rw [cell_of_row w b _ _ _ _ h]; rfl, by rw [cell_of_row w b _ _ _ _ h]; rfl, by rw [cell_of_row w b _ _ _ _ h]; rfl, by rw [cell_of_row w b _ _ _ _ h]; rfl, by rw [cell_of_row w b _ _ _ _ h]; rfl⟩
theorem box5 {w : World} {b : Nat} {t : TypeId} {v0 v1 v2 v3 v4 : Value} (h : w.heap[b]? = some (.cells #[v0, v1, v2, v3, v4] t)) : w.cell? ⟨b, 0, none⟩ = some v0 ∧ w.cell? ⟨b, 1, none⟩ = some v1 ∧ w.cell? ⟨b, 2, none⟩ = some v2 ∧ w.cell? ⟨b, 3, none⟩ = some v3 ∧ w.cell? ⟨b, 4, none⟩ = some v4 :=
  ⟨by rw [cell_of_row w b _ _ _ _ h]; rfl, by rw [cell_of_row w b _ _ _ _ h]; rfl, by rw [cell_of_row w b _ _ _ _ h]; rfl, by rw [cell_of_row w b _ _ _ _ h]; rfl, by rw [cell_of_row w b _ _ _ _ h]; rfl⟩
theorem fro12 {w : World} {b : Nat} {t : TypeId} {v0 v1 v2 v3 v4 v5 v6 v7 v8 v9 v10 v11 : Value} (h : w.heap[b]? = some (.cells #[v0, v1, v2, v3, v4, v5, v6, v7, v8, v9, v10, v11] t)) : w.frozen? ⟨b, 0, none⟩ = false ∧ w.frozen? ⟨b, 1, none⟩ = false ∧ w.frozen? ⟨b, 2, none⟩ = false ∧ w.frozen? ⟨b, 3, none⟩ = false ∧ w.frozen? ⟨b, 4, none⟩ = false ∧ w.frozen? ⟨b, 5, none⟩ = false ∧ w.frozen? ⟨b, 6, none⟩ = false ∧ w.frozen? ⟨b, 7, none⟩ = false ∧ w.frozen? ⟨b, 8, none⟩ = false ∧ w.frozen? ⟨b, 9, none⟩ = false ∧ w.frozen? ⟨b, 10, none⟩ = false ∧ w.frozen? ⟨b, 11, none⟩ = false :=
  ⟨frozen_of_row w b _ _ _ h, frozen_of_row w b _ _ _ h, frozen_of_row w b _ _ _ h, frozen_of_row w b _ _ _ h, frozen_of_row w b _ _ _ h, frozen_of_row w b _ _ _ h, frozen_of_row w b _ _ _ h, frozen_of_row w b _ _ _ h, frozen_of_row w b _ _ _ h, frozen_of_row w b _ _ _ h, frozen_of_row w b _ _ _ h, frozen_of_row w b _ _ _ h⟩
theorem at_new (w : World) (o : Obj) : (w.alloc o).heap[w.heap.size]? = some o := (MapKept.heap_alloc w o).1
theorem at_keep {w w' : World} {b : Nat} {o : Obj} (h : w.heap[b]? = some o) (hb : Below w.heap.size w w') : w'.heap[b]? = some o := (hb.block b (Array.getElem?_eq_some_iff.1 h).1).trans h

theorem within_any (n lo hi : Int) (w : World) : Calls Tryz.prog 50 #[.int .i64 n, .int .i64 lo, .int .i64 hi] w fun e w' => e = .returned (.bool (inW n lo hi)) ∧ w' = w := by
  unfold inW
  by_cases h1 : lo ≤ n
  · by_cases h2 : n ≤ hi
    · go_enter Tryz.func50, Tryz.ntmps50
      go_wp2
      go_ret
      exact ⟨by simp [h1, h2], rfl⟩
    · have h3 : hi < n := by omega
      go_enter Tryz.func50, Tryz.ntmps50
      go_wp2
      go_ret
      exact ⟨by simp [h2], rfl⟩
  · have h3 : n < lo := by omega
    go_enter Tryz.func50, Tryz.ntmps50
    go_wp2
    go_ret
    exact ⟨by simp; omega, rfl⟩

theorem fitNumber_any (n : Int) (has : Bool) (most : Int) (w : World) : Calls Tryz.prog 62 #[.int .i64 n, .bool has, .int .i64 most] w fun e w' => e = .returned (.bool (fitN n has most)) ∧ w' = w := by
  unfold fitN
  cases has with
  | true =>
    go_enter Tryz.func62, Tryz.ntmps62
    go_wp2_with (go_at_call 50; refine (within_any _ _ _ _).mono ?_; rintro e w1 ⟨rfl, rfl⟩)
    go_ret
    exact ⟨by simp, rfl⟩
  | false =>
    go_enter Tryz.func62, Tryz.ntmps62
    go_wp2
    go_ret
    exact ⟨by simp; rfl, rfl⟩

set_option maxHeartbeats 1000000 in
theorem fieldsOf_any (k : Int) (w : World) : Calls Tryz.prog 49 #[.int .i64 k] w fun e w' => e = .returned (.tuple #[.agg #[.bool (hT k), .bool (hI k), .bool (hR k), .bool (hL k), .bool (hN k)], .bool (isK k)]) ∧ Below w.heap.size w w' := by
  refine by_kind (Q := fun k => Calls Tryz.prog 49 #[.int .i64 k] w fun e w' => e = .returned (.tuple #[.agg #[.bool (hT k), .bool (hI k), .bool (hR k), .bool (hL k), .bool (hN k)], .bool (isK k)]) ∧ Below w.heap.size w w') k ?_ ?_ ?_ ?_ ?_ ?_ ?_ ?_ ?_
  · rw [show hT 1 = true by decide, show hI 1 = false by decide, show hR 1 = false by decide, show hL 1 = false by decide, show hN 1 = false by decide, show isK 1 = true by decide]
    go_enter Tryz.func49, Tryz.ntmps49
    go_wp2
    exact bodyPost_ret (v := .tuple #[.agg #[.bool true, .bool false, .bool false, .bool false, .bool false], .bool true]) (by simp [results, Tryz.results49, go_sem]) rfl ⟨rfl, by (repeat (first | exact Below.refl _ _ | assumption | refine Below.drew ?_ | refine below_drewN ?_ _ | refine Below.setCell ?_ (by simp) _ | refine Below.alloc ?_ (by (first | exact Nat.le_refl _ | (simp; done) | (simp; omega) | omega)) _ | refine Below.trans ?_ (Below.mono (by assumption) (by first | exact Nat.le_refl _ | (simp; done) | (simp; omega) | omega))))⟩
  · rw [show hT 2 = false by decide, show hI 2 = false by decide, show hR 2 = false by decide, show hL 2 = false by decide, show hN 2 = false by decide, show isK 2 = true by decide]
    go_enter Tryz.func49, Tryz.ntmps49
    go_wp2
    exact bodyPost_ret (v := .tuple #[.agg #[.bool false, .bool false, .bool false, .bool false, .bool false], .bool true]) (by simp [results, Tryz.results49, go_sem]) rfl ⟨rfl, by (repeat (first | exact Below.refl _ _ | assumption | refine Below.drew ?_ | refine below_drewN ?_ _ | refine Below.setCell ?_ (by simp) _ | refine Below.alloc ?_ (by (first | exact Nat.le_refl _ | (simp; done) | (simp; omega) | omega)) _ | refine Below.trans ?_ (Below.mono (by assumption) (by first | exact Nat.le_refl _ | (simp; done) | (simp; omega) | omega))))⟩
  · rw [show hT 3 = false by decide, show hI 3 = true by decide, show hR 3 = false by decide, show hL 3 = false by decide, show hN 3 = false by decide, show isK 3 = true by decide]
    go_enter Tryz.func49, Tryz.ntmps49
    go_wp2
    exact bodyPost_ret (v := .tuple #[.agg #[.bool false, .bool true, .bool false, .bool false, .bool false], .bool true]) (by simp [results, Tryz.results49, go_sem]) rfl ⟨rfl, by (repeat (first | exact Below.refl _ _ | assumption | refine Below.drew ?_ | refine below_drewN ?_ _ | refine Below.setCell ?_ (by simp) _ | refine Below.alloc ?_ (by (first | exact Nat.le_refl _ | (simp; done) | (simp; omega) | omega)) _ | refine Below.trans ?_ (Below.mono (by assumption) (by first | exact Nat.le_refl _ | (simp; done) | (simp; omega) | omega))))⟩
  · rw [show hT 4 = false by decide, show hI 4 = true by decide, show hR 4 = false by decide, show hL 4 = false by decide, show hN 4 = false by decide, show isK 4 = true by decide]
    go_enter Tryz.func49, Tryz.ntmps49
    go_wp2
    exact bodyPost_ret (v := .tuple #[.agg #[.bool false, .bool true, .bool false, .bool false, .bool false], .bool true]) (by simp [results, Tryz.results49, go_sem]) rfl ⟨rfl, by (repeat (first | exact Below.refl _ _ | assumption | refine Below.drew ?_ | refine below_drewN ?_ _ | refine Below.setCell ?_ (by simp) _ | refine Below.alloc ?_ (by (first | exact Nat.le_refl _ | (simp; done) | (simp; omega) | omega)) _ | refine Below.trans ?_ (Below.mono (by assumption) (by first | exact Nat.le_refl _ | (simp; done) | (simp; omega) | omega))))⟩
  · rw [show hT 5 = true by decide, show hI 5 = false by decide, show hR 5 = false by decide, show hL 5 = true by decide, show hN 5 = false by decide, show isK 5 = true by decide]
    go_enter Tryz.func49, Tryz.ntmps49
    go_wp2
    exact bodyPost_ret (v := .tuple #[.agg #[.bool true, .bool false, .bool false, .bool true, .bool false], .bool true]) (by simp [results, Tryz.results49, go_sem]) rfl ⟨rfl, by (repeat (first | exact Below.refl _ _ | assumption | refine Below.drew ?_ | refine below_drewN ?_ _ | refine Below.setCell ?_ (by simp) _ | refine Below.alloc ?_ (by (first | exact Nat.le_refl _ | (simp; done) | (simp; omega) | omega)) _ | refine Below.trans ?_ (Below.mono (by assumption) (by first | exact Nat.le_refl _ | (simp; done) | (simp; omega) | omega))))⟩
  · rw [show hT 6 = false by decide, show hI 6 = false by decide, show hR 6 = true by decide, show hL 6 = false by decide, show hN 6 = true by decide, show isK 6 = true by decide]
    go_enter Tryz.func49, Tryz.ntmps49
    go_wp2
    exact bodyPost_ret (v := .tuple #[.agg #[.bool false, .bool false, .bool true, .bool false, .bool true], .bool true]) (by simp [results, Tryz.results49, go_sem]) rfl ⟨rfl, by (repeat (first | exact Below.refl _ _ | assumption | refine Below.drew ?_ | refine below_drewN ?_ _ | refine Below.setCell ?_ (by simp) _ | refine Below.alloc ?_ (by (first | exact Nat.le_refl _ | (simp; done) | (simp; omega) | omega)) _ | refine Below.trans ?_ (Below.mono (by assumption) (by first | exact Nat.le_refl _ | (simp; done) | (simp; omega) | omega))))⟩
  · rw [show hT 7 = false by decide, show hI 7 = false by decide, show hR 7 = true by decide, show hL 7 = false by decide, show hN 7 = false by decide, show isK 7 = true by decide]
    go_enter Tryz.func49, Tryz.ntmps49
    go_wp2
    exact bodyPost_ret (v := .tuple #[.agg #[.bool false, .bool false, .bool true, .bool false, .bool false], .bool true]) (by simp [results, Tryz.results49, go_sem]) rfl ⟨rfl, by (repeat (first | exact Below.refl _ _ | assumption | refine Below.drew ?_ | refine below_drewN ?_ _ | refine Below.setCell ?_ (by simp) _ | refine Below.alloc ?_ (by (first | exact Nat.le_refl _ | (simp; done) | (simp; omega) | omega)) _ | refine Below.trans ?_ (Below.mono (by assumption) (by first | exact Nat.le_refl _ | (simp; done) | (simp; omega) | omega))))⟩
  · rw [show hT 8 = true by decide, show hI 8 = false by decide, show hR 8 = true by decide, show hL 8 = false by decide, show hN 8 = false by decide, show isK 8 = true by decide]
    go_enter Tryz.func49, Tryz.ntmps49
    go_wp2
    exact bodyPost_ret (v := .tuple #[.agg #[.bool true, .bool false, .bool true, .bool false, .bool false], .bool true]) (by simp [results, Tryz.results49, go_sem]) rfl ⟨rfl, by (repeat (first | exact Below.refl _ _ | assumption | refine Below.drew ?_ | refine below_drewN ?_ _ | refine Below.setCell ?_ (by simp) _ | refine Below.alloc ?_ (by (first | exact Nat.le_refl _ | (simp; done) | (simp; omega) | omega)) _ | refine Below.trans ?_ (Below.mono (by assumption) (by first | exact Nat.le_refl _ | (simp; done) | (simp; omega) | omega))))⟩
  · intro k h1 h2 h3 h4 h5 h6 h7 h8
    rw [show hT k = false by simp [hT, h1, h5, h8], show hI k = false by simp [hI, h3, h4], show hR k = false by simp [hR, h6, h7, h8], show hL k = false by simp [hL, h5], show hN k = false by simp [hN, h6], show isK k = false by simp [isK]; omega]
    go_enter Tryz.func49, Tryz.ntmps49
    go_wp2
    exact bodyPost_ret (v := .tuple #[.agg #[.bool false, .bool false, .bool false, .bool false, .bool false], .bool false]) (by simp [results, Tryz.results49, go_sem]) rfl ⟨rfl, by (repeat (first | exact Below.refl _ _ | assumption | refine Below.drew ?_ | refine below_drewN ?_ _ | refine Below.setCell ?_ (by simp) _ | refine Below.alloc ?_ (by (first | exact Nat.le_refl _ | (simp; done) | (simp; omega) | omega)) _ | refine Below.trans ?_ (Below.mono (by assumption) (by first | exact Nat.le_refl _ | (simp; done) | (simp; omega) | omega))))⟩
end Go.Proofs.YtliebilpddmhkaaGreat


/- ether.Check of any signal. -/
namespace Go.Proofs.YtliebilpddmhkaaGreat
open Go.RowKit Go.Lib
attribute [local go_sem] store_float f64bits
attribute [local go_sem ↓] Go.wp_at_zero Go.wp_at_succ

theorem size0 {s : ByteArray} (h : s.size = 0) : s = ⟨#[]⟩ := by
  obtain ⟨d⟩ := s
  have : d = #[] := Array.eq_empty_of_size_eq_zero h
  rw [this]

theorem lit_f {a : ByteArray} {l : List UInt8} (h : ¬ a = ⟨l.toArray⟩) : (a.toList == l) = false := by
  rw [ByteArray.toList_eq]
  refine Bool.eq_false_iff.2 fun he => h ?_
  have : a.data.toList = l := by simpa using he
  cases a
  simp at this
  simp [← this]
theorem lit_F {a : ByteArray} {l : List UInt8} (h : ¬ a = ⟨l.toArray⟩) : ¬ a.toList = l := fun e => by have := lit_f h; simp [e] at this
theorem toList_ne {s : ByteArray} (h : ¬ s.size = 0) : (s.toList == []) = false ∧ ¬ s.toList = [] := by
  have h1 : ¬ s = ⟨[].toArray⟩ := fun e => h (by rw [e]; rfl)
  exact ⟨lit_f h1, lit_F h1⟩

set_option maxHeartbeats 1000000 in
theorem zeroTerm_all (tk tn : Int) (tf : Nat) (ts : ByteArray) (ta : Option Addr) (tc : Nat) (kids : List Tr) (w : World) : Calls Tryz.prog 61 #[.agg #[.int .i64 tk, .int .i64 tn, .float .f64 tf, .string ts, .slice ta kids.length tc]] w fun e w' => e = .returned (.bool (isZ (.mk tk tn tf ts ta tc kids))) ∧ Below w.heap.size w w' := by
  rw [show isZ (.mk tk tn tf ts ta tc kids) = (decide (tk = 0) && decide (tn = 0) && decide (tf = 0) && decide (ts.size = 0) && decide (kids.length = 0)) from rfl]
  generalize kids.length = tl
  by_cases h0 : tk = 0
  · subst h0
    by_cases h1 : tn = 0
    · subst h1
      by_cases h2 : tf = 0
      · subst h2
        by_cases h3 : ts.size = 0
        · obtain rfl := size0 h3
          clear h3
          by_cases h4 : tl = 0
          · subst h4
            go_enter Tryz.func61, Tryz.ntmps61
            go_wp2
            go_ret
            exact ⟨rfl, by (repeat (first | exact Below.refl _ _ | assumption | refine Below.drew ?_ | refine below_drewN ?_ _ | refine Below.setCell ?_ (by simp) _ | refine Below.alloc ?_ (by (first | exact Nat.le_refl _ | (simp; done) | (simp; omega) | omega)) _ | refine Below.trans ?_ (Below.mono (by assumption) (by first | exact Nat.le_refl _ | (simp; done) | (simp; omega) | omega))))⟩
          · have h5 : ((tl : Int) == 0) = false := by simp; omega
            go_enter Tryz.func61, Tryz.ntmps61
            go_wp2
            go_ret
            exact ⟨by simp [h4], by (repeat (first | exact Below.refl _ _ | assumption | refine Below.drew ?_ | refine below_drewN ?_ _ | refine Below.setCell ?_ (by simp) _ | refine Below.alloc ?_ (by (first | exact Nat.le_refl _ | (simp; done) | (simp; omega) | omega)) _ | refine Below.trans ?_ (Below.mono (by assumption) (by first | exact Nat.le_refl _ | (simp; done) | (simp; omega) | omega))))⟩
        · obtain ⟨h5, h6⟩ := toList_ne h3
          go_enter Tryz.func61, Tryz.ntmps61
          go_wp2
          go_ret
          exact ⟨by simp [h3], by (repeat (first | exact Below.refl _ _ | assumption | refine Below.drew ?_ | refine below_drewN ?_ _ | refine Below.setCell ?_ (by simp) _ | refine Below.alloc ?_ (by (first | exact Nat.le_refl _ | (simp; done) | (simp; omega) | omega)) _ | refine Below.trans ?_ (Below.mono (by assumption) (by first | exact Nat.le_refl _ | (simp; done) | (simp; omega) | omega))))⟩
      · have h5 : ((tf : Int) == 0) = false := by simp; omega
        go_enter Tryz.func61, Tryz.ntmps61
        go_wp2
        go_ret
        exact ⟨by simp [h2], by (repeat (first | exact Below.refl _ _ | assumption | refine Below.drew ?_ | refine below_drewN ?_ _ | refine Below.setCell ?_ (by simp) _ | refine Below.alloc ?_ (by (first | exact Nat.le_refl _ | (simp; done) | (simp; omega) | omega)) _ | refine Below.trans ?_ (Below.mono (by assumption) (by first | exact Nat.le_refl _ | (simp; done) | (simp; omega) | omega))))⟩
    · have h5 : (tn == 0) = false := by simpa using h1
      go_enter Tryz.func61, Tryz.ntmps61
      go_wp2
      go_ret
      exact ⟨by simp [h1], by (repeat (first | exact Below.refl _ _ | assumption | refine Below.drew ?_ | refine below_drewN ?_ _ | refine Below.setCell ?_ (by simp) _ | refine Below.alloc ?_ (by (first | exact Nat.le_refl _ | (simp; done) | (simp; omega) | omega)) _ | refine Below.trans ?_ (Below.mono (by assumption) (by first | exact Nat.le_refl _ | (simp; done) | (simp; omega) | omega))))⟩
  · have h5 : (tk == 0) = false := by simpa using h0
    go_enter Tryz.func61, Tryz.ntmps61
    go_wp2
    go_ret
    exact ⟨by simp [h0], by (repeat (first | exact Below.refl _ _ | assumption | refine Below.drew ?_ | refine below_drewN ?_ _ | refine Below.setCell ?_ (by simp) _ | refine Below.alloc ?_ (by (first | exact Nat.le_refl _ | (simp; done) | (simp; omega) | omega)) _ | refine Below.trans ?_ (Below.mono (by assumption) (by first | exact Nat.le_refl _ | (simp; done) | (simp; omega) | omega))))⟩

/-- A signal as a value. -/
abbrev sgv (x0 x1 k x3 x4 : Int) (lk : Bool) (nm : ByteArray) (tk tn : Int) (tf : Nat) (ts : ByteArray) (ta : Option Addr) (tl tc : Nat) : Value := .agg #[.int .i64 x0, .int .i64 x1, .int .i64 k, .int .i64 x3, .int .i64 x4, .bool lk, .string nm, .int .i64 tk, .int .i64 tn, .float .f64 tf, .string ts, .slice ta tl tc]

set_option maxHeartbeats 2000000 in
theorem fitTerm_any (b0 b1 b2 b3 b4 : Bool) (x0 x1 k x3 x4 : Int) (lk : Bool) (nm : ByteArray) (tk tn : Int) (tf : Nat) (ts : ByteArray) (ta : Option Addr) (tc : Nat) (kids : List Tr) (w : World) (hin : (Tr.mk tk tn tf ts ta tc kids).In w 0) (hs : Small (.mk tk tn tf ts ta tc kids)) : Calls Tryz.prog 51 #[.agg #[.bool b0, .bool b1, .bool b2, .bool b3, .bool b4], sgv x0 x1 k x3 x4 lk nm tk tn tf ts ta kids.length tc] w fun e w' => e = .returned (.bool (fitT b0 (.mk tk tn tf ts ta tc kids))) ∧ Below w.heap.size w w' := by
  have IZ := hidb (fun w => zeroTerm_all tk tn tf ts ta tc kids w)
  have CK := hidb (fun (w' : World) (hb : Below w.heap.size w w') => check_t (.mk tk tn tf ts ta tc kids) w' (in_below hb hin) hs)
  simp only [Tr.val, Tr.cells] at CK
  clear hin hs
  cases b0 with
  | false =>
    unfold fitT
    rw [if_neg (by decide)]
    generalize isZ (.mk tk tn tf ts ta tc kids) = z at *
    generalize kids.length = tl at *
    go_enter Tryz.func51, Tryz.ntmps51
    go_wp2_with (go_at_call 61; refine (IZ.out _).mono ?_; rintro e w1 ⟨rfl, hb1⟩)
    go_ret
    exact ⟨rfl, (show Below w.heap.size w _ by (repeat (first | exact Below.refl _ _ | assumption | refine Below.drew ?_ | refine below_drewN ?_ _ | refine Below.setCell ?_ (by simp) _ | refine Below.alloc ?_ (by (first | exact Nat.le_refl _ | (simp; done) | (simp; omega) | omega)) _ | refine Below.trans ?_ (Below.mono (by assumption) (by first | exact Nat.le_refl _ | (simp; done) | (simp; omega) | omega))))).trans (hb1.mono (by simp; omega))⟩
  | true =>
    unfold fitT
    rw [if_pos rfl]
    generalize errT (.mk tk tn tf ts ta tc kids) = z at *
    generalize kids.length = tl at *
    go_enter Tryz.func51, Tryz.ntmps51
    go_wp2_with (go_at_call 38; refine (CK.out _ (by (repeat (first | exact Below.refl _ _ | assumption | refine Below.drew ?_ | refine below_drewN ?_ _ | refine Below.setCell ?_ (by simp) _ | refine Below.alloc ?_ (by (first | exact Nat.le_refl _ | (simp; done) | (simp; omega) | omega)) _ | refine Below.trans ?_ (Below.mono (by assumption) (by first | exact Nat.le_refl _ | (simp; done) | (simp; omega) | omega)))))).mono ?_; rintro e w1 ⟨rfl, hb1⟩)
    go_ret
    exact ⟨by first | rfl | simp, (show Below w.heap.size w _ by (repeat (first | exact Below.refl _ _ | assumption | refine Below.drew ?_ | refine below_drewN ?_ _ | refine Below.setCell ?_ (by simp) _ | refine Below.alloc ?_ (by (first | exact Nat.le_refl _ | (simp; done) | (simp; omega) | omega)) _ | refine Below.trans ?_ (Below.mono (by assumption) (by first | exact Nat.le_refl _ | (simp; done) | (simp; omega) | omega))))).trans (hb1.mono (by simp; omega))⟩

set_option maxHeartbeats 4000000 in
theorem fitRest_all (b0 b1 b2 b3 b4 : Bool) (x0 x1 k x3 x4 : Int) (lk : Bool) (nm : ByteArray) (tk tn : Int) (tf : Nat) (ts : ByteArray) (ta : Option Addr) (tl tc : Nat) (w : World) : Calls Tryz.prog 52 #[.agg #[.bool b0, .bool b1, .bool b2, .bool b3, .bool b4], sgv x0 x1 k x3 x4 lk nm tk tn tf ts ta tl tc] w fun e w' => e = .returned (.bool (fitN x3 b1 9223372036854775807 && fitN x4 b2 1099511627776 && (b3 || !lk) && (b4 || decide (nm.size = 0)))) ∧ Below w.heap.size w w' := by
  have FN := hidb (fun w => fitNumber_any x3 b1 9223372036854775807 w)
  have FM := hidb (fun w => fitNumber_any x4 b2 1099511627776 w)
  generalize fitN x3 b1 9223372036854775807 = z1 at *
  generalize fitN x4 b2 1099511627776 = z2 at *
  by_cases hn : nm.size = 0
  · obtain rfl := size0 hn
    clear hn
    rw [show decide ((⟨#[]⟩ : ByteArray).size = 0) = true from rfl]
    cases z1 <;> cases z2 <;> cases b3 <;> cases lk <;> cases b4 <;> (
      go_enter Tryz.func52, Tryz.ntmps52
      go_wp2_with (first
        | (go_at_call 62; refine (FN.out _).mono ?_; clear FN; rintro e w1 ⟨rfl, rfl⟩)
        | (go_at_call 62; refine (FM.out _).mono ?_; clear FM; rintro e w1 ⟨rfl, rfl⟩))
      go_ret
      exact ⟨rfl, by (repeat (first | exact Below.refl _ _ | assumption | refine Below.drew ?_ | refine below_drewN ?_ _ | refine Below.setCell ?_ (by simp) _ | refine Below.alloc ?_ (by (first | exact Nat.le_refl _ | (simp; done) | (simp; omega) | omega)) _ | refine Below.trans ?_ (Below.mono (by assumption) (by first | exact Nat.le_refl _ | (simp; done) | (simp; omega) | omega))))⟩)
  · obtain ⟨h5, h6⟩ := toList_ne hn
    rw [show decide (nm.size = 0) = false by simpa using hn]
    cases z1 <;> cases z2 <;> cases b3 <;> cases lk <;> cases b4 <;> (
      go_enter Tryz.func52, Tryz.ntmps52
      go_wp2_with (first
        | (go_at_call 62; refine (FN.out _).mono ?_; clear FN; rintro e w1 ⟨rfl, rfl⟩)
        | (go_at_call 62; refine (FM.out _).mono ?_; clear FM; rintro e w1 ⟨rfl, rfl⟩))
      go_ret
      exact ⟨rfl, by (repeat (first | exact Below.refl _ _ | assumption | refine Below.drew ?_ | refine below_drewN ?_ _ | refine Below.setCell ?_ (by simp) _ | refine Below.alloc ?_ (by (first | exact Nat.le_refl _ | (simp; done) | (simp; omega) | omega)) _ | refine Below.trans ?_ (Below.mono (by assumption) (by first | exact Nat.le_refl _ | (simp; done) | (simp; omega) | omega))))⟩)
end Go.Proofs.YtliebilpddmhkaaGreat


