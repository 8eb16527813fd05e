import Derived.Test.YtggpbfmdhenjdaaG11
import Derived.Test.YtggpbfmdhenjdaaG17
/- How numbers are made, or refused, by the document's own reckoning. -/
namespace Go.Proofs.Ytggpbfmdhenjdaa
open Go.RowKit
attribute [local go_sem] store_float

theorem refFinite_any (x : Nat) (w : World) : Calls Try.prog 42 #[.float .f64 x] w fun e w' => e = .returned (.bool (Flt.fin x)) ∧ Below w.heap.size w w' := by
  cases hb : Flt.fin x
  · have hs := fun t w => sub_nan t x hb w
    have ho : ∀ t y, (FloatKind.f64.format.order (Flt.nanOf t) y) = none := fun t y => Flt.nanOf_order t y
    go_enter Try.func42, Try.ntmps42
    go_wp2
    go_ret
    exact ⟨rfl, (Below.refl _ _).drew⟩
  · have hs := fun t w => sub_fin t x hb w
    have ho : (FloatKind.f64.format.order 0 0) = some .eq := Flt.order_zero_zero
    go_enter Try.func42, Try.ntmps42
    go_wp2
    go_ret
    exact ⟨rfl, Below.refl _ _⟩

end Go.Proofs.Ytggpbfmdhenjdaa


/- Is a term right by itself? The document's own look, walked: just what the program's tells. -/
namespace Go.Proofs.Ytggpbfmdhenjdaa
open Go.RowKit Go.Deep
attribute [local go_sem] store_float
attribute [local go_sem ↓] Go.wp_at_zero Go.wp_at_succ

theorem refPlus_any (x : Nat) (b : Bool) (hx : ((x : Int) == 0) = b) (w : World) : Calls Try.prog 40 #[.float .f64 x] w fun e w' => e = .returned (.bool b) ∧ w' = w := by
  have hb := f64bits
  go_enter Try.func40, Try.ntmps40
  go_wp2
  go_ret
  exact ⟨rfl, rfl⟩

set_option maxHeartbeats 1000000 in
theorem rr_s (k n : Int) (f : Nat) (s : ByteArray) (l : Nat) (a : Option Addr) (c : Nat) (hs : s.toList.isEmpty = false) (w : World) : Calls Try.prog 39 #[.agg #[.int .i64 k, .int .i64 n, .float .f64 f, .string s, .slice a l c]] w fun e w' => e = .returned (.bool false) ∧ Below w.heap.size w w' := by
  go_enter Try.func39, Try.ntmps39
  go_wp2
  go_ret
  exact ⟨rfl, below_new _ _⟩

set_option maxHeartbeats 1000000 in
theorem rr_l (k n : Int) (f : Nat) (s : ByteArray) (l : Nat) (a : Option Addr) (c : Nat) (hs : s.toList.isEmpty = true) (hl : ((l : Int) == 0) = false) (w : World) : Calls Try.prog 39 #[.agg #[.int .i64 k, .int .i64 n, .float .f64 f, .string s, .slice a l c]] w fun e w' => e = .returned (.bool false) ∧ Below w.heap.size w w' := by
  go_enter Try.func39, Try.ntmps39
  go_wp2
  go_ret
  exact ⟨rfl, below_new _ _⟩

set_option maxHeartbeats 1000000 in
theorem rr_1a (n : Int) (f : Nat) (s : ByteArray) (a : Option Addr) (c : Nat) (hs : s.toList.isEmpty = true) (h : n < -576460752303423488) (w : World) : Calls Try.prog 39 #[.agg #[.int .i64 1, .int .i64 n, .float .f64 f, .string s, .slice a 0 c]] w fun e w' => e = .returned (.bool false) ∧ Below w.heap.size w w' := by
  go_enter Try.func39, Try.ntmps39
  go_wp2
  go_ret
  exact ⟨rfl, below_new _ _⟩

set_option maxHeartbeats 1000000 in
theorem rr_1b (n : Int) (f : Nat) (s : ByteArray) (a : Option Addr) (c : Nat) (hs : s.toList.isEmpty = true) (h : 576460752303423487 < n) (w : World) : Calls Try.prog 39 #[.agg #[.int .i64 1, .int .i64 n, .float .f64 f, .string s, .slice a 0 c]] w fun e w' => e = .returned (.bool false) ∧ Below w.heap.size w w' := by
  have d1 : -576460752303423488 ≤ n := by omega
  have d2 : decide (n ≤ 576460752303423487) = false := by simp; omega
  go_enter Try.func39, Try.ntmps39
  go_wp2
  go_ret
  exact ⟨rfl, below_new _ _⟩

set_option maxHeartbeats 1000000 in
theorem rr_1c (n : Int) (f : Nat) (s : ByteArray) (a : Option Addr) (c : Nat) (hs : s.toList.isEmpty = true) (d1 : -576460752303423488 ≤ n) (d3 : n ≤ 576460752303423487) (b : Bool) (hp : ((f : Int) == 0) = b) (w : World) : Calls Try.prog 39 #[.agg #[.int .i64 1, .int .i64 n, .float .f64 f, .string s, .slice a 0 c]] w fun e w' => e = .returned (.bool b) ∧ Below w.heap.size w w' := by
  have d2 : decide (n ≤ 576460752303423487) = true := by simpa using d3
  clear d3
  go_enter Try.func39, Try.ntmps39
  go_wp2_with fail
  refine (refPlus_any f _ hp _).mono ?_
  rintro e w' ⟨rfl, rfl⟩
  go_wp2
  go_ret
  exact ⟨rfl, below_new _ _⟩

set_option maxHeartbeats 1000000 in
theorem rr_2a (n : Int) (f : Nat) (s : ByteArray) (a : Option Addr) (c : Nat) (hs : s.toList.isEmpty = true) (hn : (n == 0) = false) (w : World) : Calls Try.prog 39 #[.agg #[.int .i64 2, .int .i64 n, .float .f64 f, .string s, .slice a 0 c]] w fun e w' => e = .returned (.bool false) ∧ Below w.heap.size w w' := by
  go_enter Try.func39, Try.ntmps39
  go_wp2
  go_ret
  exact ⟨rfl, below_new _ _⟩

set_option maxHeartbeats 1000000 in
theorem rr_2b (f : Nat) (s : ByteArray) (a : Option Addr) (c : Nat) (hs : s.toList.isEmpty = true) (b : Bool) (hp : Flt.fin f = b) (w : World) : Calls Try.prog 39 #[.agg #[.int .i64 2, .int .i64 0, .float .f64 f, .string s, .slice a 0 c]] w fun e w' => e = .returned (.bool b) ∧ Below w.heap.size w w' := by
  go_enter Try.func39, Try.ntmps39
  go_wp2_with fail
  refine (refFinite_any f _).mono ?_
  rintro e w2 ⟨rfl, hb⟩
  rw [hp]
  have hW : Below w.heap.size w w2 := (below_new w _).trans (hb.mono (by simp))
  clear hb
  go_wp2
  go_ret
  exact ⟨rfl, hW⟩

set_option maxHeartbeats 1000000 in
theorem rr_0 (k n : Int) (f : Nat) (s : ByteArray) (a : Option Addr) (c : Nat) (hs : s.toList.isEmpty = true) (h1 : (k == 1) = false) (h2 : (k == 2) = false) (w : World) : Calls Try.prog 39 #[.agg #[.int .i64 k, .int .i64 n, .float .f64 f, .string s, .slice a 0 c]] w fun e w' => e = .returned (.bool false) ∧ Below w.heap.size w w' := by
  go_enter Try.func39, Try.ntmps39
  go_wp2
  go_ret
  exact ⟨rfl, below_new _ _⟩

theorem refRight_any (k n : Int) (f : Nat) (s : ByteArray) (a : Option Addr) (l c : Nat) (w : World) : Calls Try.prog 39 #[.agg #[.int .i64 k, .int .i64 n, .float .f64 f, .string s, .slice a l c]] w fun e w' => e = .returned (.bool (rightB k n f s l)) ∧ Below w.heap.size w w' := by
  cases hs : s.toList.isEmpty
  · rw [show rightB k n f s l = false by simp [rightB, hs]]
    exact rr_s k n f s l a c hs w
  by_cases hl : l = 0
  · subst hl
    by_cases h1 : k = 1
    · subst h1
      cases hn : whB n
      · rw [show rightB 1 n f s 0 = false by simp [rightB, hn]]
        rcases whB_no hn with h | h
        · exact rr_1a n f s a c hs h w
        · exact rr_1b n f s a c hs h w
      · obtain ⟨b1, b2⟩ := whB_yes hn
        have := rr_1c n f s a c hs b1 b2 _ rfl w
        rw [show rightB 1 n f s 0 = ((f : Int) == 0) by
          by_cases hf : f = 0
          · subst hf; simp [rightB, hn, hs]
          · have : ((f : Int) == 0) = false := by simp; omega
            rw [this]; simp [rightB, hn, hf]]
        exact this
    · by_cases h2 : k = 2
      · subst h2
        by_cases hn : n = 0
        · subst hn
          have := rr_2b f s a c hs _ rfl w
          rw [show rightB 2 0 f s 0 = Flt.fin f by simp [rightB, hs]]
          exact this
        · rw [show rightB 2 n f s 0 = false by simp [rightB, hn]]
          exact rr_2a n f s a c hs (by simpa using hn) w
      · rw [show rightB k n f s 0 = false by simp [rightB, h1, h2]]
        exact rr_0 k n f s a c hs (by simpa using h1) (by simpa using h2) w
  · rw [show rightB k n f s l = false by simp [rightB, hl]]
    exact rr_l k n f s l a c hs (by simp; omega) w


def gF (k n : Int) (f : Nat) (s : ByteArray) (l : Nat) : Bool :=
  if k = 1 ∨ k = 2 then rightB k n f s l
  else if k = 3 then decide (s.size ≤ 64) && ((f == 0) && (n == 0) && (l == 0))
  else if k = 4 ∨ k = 6 then decide (0 ≤ n) && decide (n ≤ 1099511627776) && ((f == 0) && s.toList.isEmpty && (l == 0))
  else if k = 5 then decide (0 ≤ n) && decide (n ≤ 16384) && ((f == 0) && s.toList.isEmpty)
  else if k = 7 ∨ k = 8 then (f == 0) && (n == 0) && s.toList.isEmpty
  else false
theorem goodT_gF (k n : Int) (f : Nat) (s : ByteArray) (a : Option Addr) (c : Nat) (kids : List Tr) : goodT (.mk k n f s a c kids) = gF k n f s kids.length := rfl
theorem gf_tell {b b' : Bool} (h : b' = b) : Ending.returned (.bool b) = Ending.returned (.bool b') := by rw [h]

set_option maxHeartbeats 1000000 in
theorem fields_3 (n : Int) (f : Nat) (s : ByteArray) (a : Option Addr) (l c : Nat) (w : World) : Calls Try.prog 36 #[.agg #[.int .i64 3, .int .i64 n, .float .f64 f, .string s, .slice a l c]] w fun e w' => e = .returned (.bool (gF 3 n f s l)) ∧ Below w.heap.size w w' := by
  by_cases hc2 : (64 : Int) < (s.size : Int)
  · go_enter Try.func36, Try.ntmps36
    go_wp2_with (first | (go_at_call 40; refine (refPlus_any f _ hp _).mono ?_; rintro e w' ⟨rfl, hw'⟩; obtain rfl := hw'.symm))
    go_ret
    exact ⟨gf_tell (by have e1 := natz f; have e2 := natz l; simp_all [gF] <;> omega), (Below.refl _ _).alloc (Nat.le_refl _) _⟩
  replace hc2 : (s.size : Int) ≤ 64 := by omega
  cases hn : (n == 0)
  · go_enter Try.func36, Try.ntmps36
    go_wp2_with (first | (go_at_call 40; refine (refPlus_any f _ hp _).mono ?_; rintro e w' ⟨rfl, hw'⟩; obtain rfl := hw'.symm))
    go_ret
    exact ⟨gf_tell (by have e1 := natz f; have e2 := natz l; simp_all [gF] <;> omega), (Below.refl _ _).alloc (Nat.le_refl _) _⟩
  · cases hp : ((f : Int) == 0)
    · go_enter Try.func36, Try.ntmps36
      go_wp2_with (first | (go_at_call 40; refine (refPlus_any f _ hp _).mono ?_; rintro e w' ⟨rfl, hw'⟩; obtain rfl := hw'.symm))
      go_ret
      exact ⟨gf_tell (by have e1 := natz f; have e2 := natz l; simp_all [gF] <;> omega), (Below.refl _ _).alloc (Nat.le_refl _) _⟩
    · cases hl : ((l : Int) == 0)
      · go_enter Try.func36, Try.ntmps36
        go_wp2_with (first | (go_at_call 40; refine (refPlus_any f _ hp _).mono ?_; rintro e w' ⟨rfl, hw'⟩; obtain rfl := hw'.symm))
        go_ret
        exact ⟨gf_tell (by have e1 := natz f; have e2 := natz l; simp_all [gF] <;> omega), (Below.refl _ _).alloc (Nat.le_refl _) _⟩
      · go_enter Try.func36, Try.ntmps36
        go_wp2_with (first | (go_at_call 40; refine (refPlus_any f _ hp _).mono ?_; rintro e w' ⟨rfl, hw'⟩; obtain rfl := hw'.symm))
        go_ret
        exact ⟨gf_tell (by have e1 := natz f; have e2 := natz l; simp_all [gF] <;> omega), (Below.refl _ _).alloc (Nat.le_refl _) _⟩

set_option maxHeartbeats 1000000 in
theorem fields_4 (n : Int) (f : Nat) (s : ByteArray) (a : Option Addr) (l c : Nat) (w : World) : Calls Try.prog 36 #[.agg #[.int .i64 4, .int .i64 n, .float .f64 f, .string s, .slice a l c]] w fun e w' => e = .returned (.bool (gF 4 n f s l)) ∧ Below w.heap.size w w' := by
  by_cases hc2 : n < 0
  · go_enter Try.func36, Try.ntmps36
    go_wp2_with (first | (go_at_call 40; refine (refPlus_any f _ hp _).mono ?_; rintro e w' ⟨rfl, hw'⟩; obtain rfl := hw'.symm))
    go_ret
    exact ⟨gf_tell (by have e1 := natz f; have e2 := natz l; simp_all [gF] <;> omega), (Below.refl _ _).alloc (Nat.le_refl _) _⟩
  have hc1 : 0 ≤ n := by omega
  by_cases hc2 : 1099511627776 < n
  · go_enter Try.func36, Try.ntmps36
    go_wp2_with (first | (go_at_call 40; refine (refPlus_any f _ hp _).mono ?_; rintro e w' ⟨rfl, hw'⟩; obtain rfl := hw'.symm))
    go_ret
    exact ⟨gf_tell (by have e1 := natz f; have e2 := natz l; simp_all [gF] <;> omega), (Below.refl _ _).alloc (Nat.le_refl _) _⟩
  replace hc2 : n ≤ 1099511627776 := by omega
  cases hs : s.toList.isEmpty
  · go_enter Try.func36, Try.ntmps36
    go_wp2_with (first | (go_at_call 40; refine (refPlus_any f _ hp _).mono ?_; rintro e w' ⟨rfl, hw'⟩; obtain rfl := hw'.symm))
    go_ret
    exact ⟨gf_tell (by have e1 := natz f; have e2 := natz l; simp_all [gF] <;> omega), (Below.refl _ _).alloc (Nat.le_refl _) _⟩
  · cases hp : ((f : Int) == 0)
    · go_enter Try.func36, Try.ntmps36
      go_wp2_with (first | (go_at_call 40; refine (refPlus_any f _ hp _).mono ?_; rintro e w' ⟨rfl, hw'⟩; obtain rfl := hw'.symm))
      go_ret
      exact ⟨gf_tell (by have e1 := natz f; have e2 := natz l; simp_all [gF] <;> omega), (Below.refl _ _).alloc (Nat.le_refl _) _⟩
    · cases hl : ((l : Int) == 0)
      · go_enter Try.func36, Try.ntmps36
        go_wp2_with (first | (go_at_call 40; refine (refPlus_any f _ hp _).mono ?_; rintro e w' ⟨rfl, hw'⟩; obtain rfl := hw'.symm))
        go_ret
        exact ⟨gf_tell (by have e1 := natz f; have e2 := natz l; simp_all [gF] <;> omega), (Below.refl _ _).alloc (Nat.le_refl _) _⟩
      · go_enter Try.func36, Try.ntmps36
        go_wp2_with (first | (go_at_call 40; refine (refPlus_any f _ hp _).mono ?_; rintro e w' ⟨rfl, hw'⟩; obtain rfl := hw'.symm))
        go_ret
        exact ⟨gf_tell (by have e1 := natz f; have e2 := natz l; simp_all [gF] <;> omega), (Below.refl _ _).alloc (Nat.le_refl _) _⟩

set_option maxHeartbeats 1000000 in
theorem fields_6 (n : Int) (f : Nat) (s : ByteArray) (a : Option Addr) (l c : Nat) (w : World) : Calls Try.prog 36 #[.agg #[.int .i64 6, .int .i64 n, .float .f64 f, .string s, .slice a l c]] w fun e w' => e = .returned (.bool (gF 6 n f s l)) ∧ Below w.heap.size w w' := by
  by_cases hc2 : n < 0
  · go_enter Try.func36, Try.ntmps36
    go_wp2_with (first | (go_at_call 40; refine (refPlus_any f _ hp _).mono ?_; rintro e w' ⟨rfl, hw'⟩; obtain rfl := hw'.symm))
    go_ret
    exact ⟨gf_tell (by have e1 := natz f; have e2 := natz l; simp_all [gF] <;> omega), (Below.refl _ _).alloc (Nat.le_refl _) _⟩
  have hc1 : 0 ≤ n := by omega
  by_cases hc2 : 1099511627776 < n
  · go_enter Try.func36, Try.ntmps36
    go_wp2_with (first | (go_at_call 40; refine (refPlus_any f _ hp _).mono ?_; rintro e w' ⟨rfl, hw'⟩; obtain rfl := hw'.symm))
    go_ret
    exact ⟨gf_tell (by have e1 := natz f; have e2 := natz l; simp_all [gF] <;> omega), (Below.refl _ _).alloc (Nat.le_refl _) _⟩
  replace hc2 : n ≤ 1099511627776 := by omega
  cases hs : s.toList.isEmpty
  · go_enter Try.func36, Try.ntmps36
    go_wp2_with (first | (go_at_call 40; refine (refPlus_any f _ hp _).mono ?_; rintro e w' ⟨rfl, hw'⟩; obtain rfl := hw'.symm))
    go_ret
    exact ⟨gf_tell (by have e1 := natz f; have e2 := natz l; simp_all [gF] <;> omega), (Below.refl _ _).alloc (Nat.le_refl _) _⟩
  · cases hp : ((f : Int) == 0)
    · go_enter Try.func36, Try.ntmps36
      go_wp2_with (first | (go_at_call 40; refine (refPlus_any f _ hp _).mono ?_; rintro e w' ⟨rfl, hw'⟩; obtain rfl := hw'.symm))
      go_ret
      exact ⟨gf_tell (by have e1 := natz f; have e2 := natz l; simp_all [gF] <;> omega), (Below.refl _ _).alloc (Nat.le_refl _) _⟩
    · cases hl : ((l : Int) == 0)
      · go_enter Try.func36, Try.ntmps36
        go_wp2_with (first | (go_at_call 40; refine (refPlus_any f _ hp _).mono ?_; rintro e w' ⟨rfl, hw'⟩; obtain rfl := hw'.symm))
        go_ret
        exact ⟨gf_tell (by have e1 := natz f; have e2 := natz l; simp_all [gF] <;> omega), (Below.refl _ _).alloc (Nat.le_refl _) _⟩
      · go_enter Try.func36, Try.ntmps36
        go_wp2_with (first | (go_at_call 40; refine (refPlus_any f _ hp _).mono ?_; rintro e w' ⟨rfl, hw'⟩; obtain rfl := hw'.symm))
        go_ret
        exact ⟨gf_tell (by have e1 := natz f; have e2 := natz l; simp_all [gF] <;> omega), (Below.refl _ _).alloc (Nat.le_refl _) _⟩

set_option maxHeartbeats 1000000 in
theorem fields_5 (n : Int) (f : Nat) (s : ByteArray) (a : Option Addr) (l c : Nat) (w : World) : Calls Try.prog 36 #[.agg #[.int .i64 5, .int .i64 n, .float .f64 f, .string s, .slice a l c]] w fun e w' => e = .returned (.bool (gF 5 n f s l)) ∧ Below w.heap.size w w' := by
  by_cases hc2 : n < 0
  · go_enter Try.func36, Try.ntmps36
    go_wp2_with (first | (go_at_call 40; refine (refPlus_any f _ hp _).mono ?_; rintro e w' ⟨rfl, hw'⟩; obtain rfl := hw'.symm))
    go_ret
    exact ⟨gf_tell (by have e1 := natz f; have e2 := natz l; simp_all [gF] <;> omega), (Below.refl _ _).alloc (Nat.le_refl _) _⟩
  have hc1 : 0 ≤ n := by omega
  by_cases hc2 : 16384 < n
  · go_enter Try.func36, Try.ntmps36
    go_wp2_with (first | (go_at_call 40; refine (refPlus_any f _ hp _).mono ?_; rintro e w' ⟨rfl, hw'⟩; obtain rfl := hw'.symm))
    go_ret
    exact ⟨gf_tell (by have e1 := natz f; have e2 := natz l; simp_all [gF] <;> omega), (Below.refl _ _).alloc (Nat.le_refl _) _⟩
  replace hc2 : n ≤ 16384 := by omega
  cases hs : s.toList.isEmpty
  · go_enter Try.func36, Try.ntmps36
    go_wp2_with (first | (go_at_call 40; refine (refPlus_any f _ hp _).mono ?_; rintro e w' ⟨rfl, hw'⟩; obtain rfl := hw'.symm))
    go_ret
    exact ⟨gf_tell (by have e1 := natz f; have e2 := natz l; simp_all [gF] <;> omega), (Below.refl _ _).alloc (Nat.le_refl _) _⟩
  · cases hp : ((f : Int) == 0)
    · go_enter Try.func36, Try.ntmps36
      go_wp2_with (first | (go_at_call 40; refine (refPlus_any f _ hp _).mono ?_; rintro e w' ⟨rfl, hw'⟩; obtain rfl := hw'.symm))
      go_ret
      exact ⟨gf_tell (by have e1 := natz f; have e2 := natz l; simp_all [gF] <;> omega), (Below.refl _ _).alloc (Nat.le_refl _) _⟩
    · go_enter Try.func36, Try.ntmps36
      go_wp2_with (first | (go_at_call 40; refine (refPlus_any f _ hp _).mono ?_; rintro e w' ⟨rfl, hw'⟩; obtain rfl := hw'.symm))
      go_ret
      exact ⟨gf_tell (by have e1 := natz f; have e2 := natz l; simp_all [gF] <;> omega), (Below.refl _ _).alloc (Nat.le_refl _) _⟩

set_option maxHeartbeats 1000000 in
theorem fields_7 (n : Int) (f : Nat) (s : ByteArray) (a : Option Addr) (l c : Nat) (w : World) : Calls Try.prog 36 #[.agg #[.int .i64 7, .int .i64 n, .float .f64 f, .string s, .slice a l c]] w fun e w' => e = .returned (.bool (gF 7 n f s l)) ∧ Below w.heap.size w w' := by
  cases hn : (n == 0)
  · go_enter Try.func36, Try.ntmps36
    go_wp2_with (first | (go_at_call 40; refine (refPlus_any f _ hp _).mono ?_; rintro e w' ⟨rfl, hw'⟩; obtain rfl := hw'.symm))
    go_ret
    exact ⟨gf_tell (by have e1 := natz f; have e2 := natz l; simp_all [gF] <;> omega), (Below.refl _ _).alloc (Nat.le_refl _) _⟩
  · cases hs : s.toList.isEmpty
    · go_enter Try.func36, Try.ntmps36
      go_wp2_with (first | (go_at_call 40; refine (refPlus_any f _ hp _).mono ?_; rintro e w' ⟨rfl, hw'⟩; obtain rfl := hw'.symm))
      go_ret
      exact ⟨gf_tell (by have e1 := natz f; have e2 := natz l; simp_all [gF] <;> omega), (Below.refl _ _).alloc (Nat.le_refl _) _⟩
    · cases hp : ((f : Int) == 0)
      · go_enter Try.func36, Try.ntmps36
        go_wp2_with (first | (go_at_call 40; refine (refPlus_any f _ hp _).mono ?_; rintro e w' ⟨rfl, hw'⟩; obtain rfl := hw'.symm))
        go_ret
        exact ⟨gf_tell (by have e1 := natz f; have e2 := natz l; simp_all [gF] <;> omega), (Below.refl _ _).alloc (Nat.le_refl _) _⟩
      · go_enter Try.func36, Try.ntmps36
        go_wp2_with (first | (go_at_call 40; refine (refPlus_any f _ hp _).mono ?_; rintro e w' ⟨rfl, hw'⟩; obtain rfl := hw'.symm))
        go_ret
        exact ⟨gf_tell (by have e1 := natz f; have e2 := natz l; simp_all [gF] <;> omega), (Below.refl _ _).alloc (Nat.le_refl _) _⟩

set_option maxHeartbeats 1000000 in
theorem fields_8 (n : Int) (f : Nat) (s : ByteArray) (a : Option Addr) (l c : Nat) (w : World) : Calls Try.prog 36 #[.agg #[.int .i64 8, .int .i64 n, .float .f64 f, .string s, .slice a l c]] w fun e w' => e = .returned (.bool (gF 8 n f s l)) ∧ Below w.heap.size w w' := by
  cases hn : (n == 0)
  · go_enter Try.func36, Try.ntmps36
    go_wp2_with (first | (go_at_call 40; refine (refPlus_any f _ hp _).mono ?_; rintro e w' ⟨rfl, hw'⟩; obtain rfl := hw'.symm))
    go_ret
    exact ⟨gf_tell (by have e1 := natz f; have e2 := natz l; simp_all [gF] <;> omega), (Below.refl _ _).alloc (Nat.le_refl _) _⟩
  · cases hs : s.toList.isEmpty
    · go_enter Try.func36, Try.ntmps36
      go_wp2_with (first | (go_at_call 40; refine (refPlus_any f _ hp _).mono ?_; rintro e w' ⟨rfl, hw'⟩; obtain rfl := hw'.symm))
      go_ret
      exact ⟨gf_tell (by have e1 := natz f; have e2 := natz l; simp_all [gF] <;> omega), (Below.refl _ _).alloc (Nat.le_refl _) _⟩
    · cases hp : ((f : Int) == 0)
      · go_enter Try.func36, Try.ntmps36
        go_wp2_with (first | (go_at_call 40; refine (refPlus_any f _ hp _).mono ?_; rintro e w' ⟨rfl, hw'⟩; obtain rfl := hw'.symm))
        go_ret
        exact ⟨gf_tell (by have e1 := natz f; have e2 := natz l; simp_all [gF] <;> omega), (Below.refl _ _).alloc (Nat.le_refl _) _⟩
      · go_enter Try.func36, Try.ntmps36
        go_wp2_with (first | (go_at_call 40; refine (refPlus_any f _ hp _).mono ?_; rintro e w' ⟨rfl, hw'⟩; obtain rfl := hw'.symm))
        go_ret
        exact ⟨gf_tell (by have e1 := natz f; have e2 := natz l; simp_all [gF] <;> omega), (Below.refl _ _).alloc (Nat.le_refl _) _⟩

set_option maxHeartbeats 1000000 in
theorem fields_1 (n : Int) (f : Nat) (s : ByteArray) (a : Option Addr) (l c : Nat) (w : World) : Calls Try.prog 36 #[.agg #[.int .i64 1, .int .i64 n, .float .f64 f, .string s, .slice a l c]] w fun e w' => e = .returned (.bool (gF 1 n f s l)) ∧ Below w.heap.size w w' := by
  have cR := refRight_any 1 n f s a l c
  go_enter Try.func36, Try.ntmps36
  go_wp2_with (first | (go_at_call 39; refine (cR _).mono ?_; rintro e w1 ⟨rfl, hb1⟩))
  go_ret
  exact ⟨gf_tell (by simp [gF]), (below_new w _).trans (hb1.mono (by simp))⟩

set_option maxHeartbeats 1000000 in
theorem fields_2 (n : Int) (f : Nat) (s : ByteArray) (a : Option Addr) (l c : Nat) (w : World) : Calls Try.prog 36 #[.agg #[.int .i64 2, .int .i64 n, .float .f64 f, .string s, .slice a l c]] w fun e w' => e = .returned (.bool (gF 2 n f s l)) ∧ Below w.heap.size w w' := by
  have cR := refRight_any 2 n f s a l c
  go_enter Try.func36, Try.ntmps36
  go_wp2_with (first | (go_at_call 39; refine (cR _).mono ?_; rintro e w1 ⟨rfl, hb1⟩))
  go_ret
  exact ⟨gf_tell (by simp [gF]), (below_new w _).trans (hb1.mono (by simp))⟩

set_option maxHeartbeats 1000000 in
theorem fields_any (k : Int) (n : Int) (f : Nat) (s : ByteArray) (a : Option Addr) (l c : Nat) (w : World) : Calls Try.prog 36 #[.agg #[.int .i64 k, .int .i64 n, .float .f64 f, .string s, .slice a l c]] w fun e w' => e = .returned (.bool (gF k n f s l)) ∧ Below w.heap.size w w' := by
  by_cases h1 : k = 1
  · subst h1; exact fields_1 n f s a l c w
  by_cases h2 : k = 2
  · subst h2; exact fields_2 n f s a l c w
  by_cases h3 : k = 3
  · subst h3; exact fields_3 n f s a l c w
  by_cases h4 : k = 4
  · subst h4; exact fields_4 n f s a l c w
  by_cases h5 : k = 5
  · subst h5; exact fields_5 n f s a l c w
  by_cases h6 : k = 6
  · subst h6; exact fields_6 n f s a l c w
  by_cases h7 : k = 7
  · subst h7; exact fields_7 n f s a l c w
  by_cases h8 : k = 8
  · subst h8; exact fields_8 n f s a l c w
  go_enter Try.func36, Try.ntmps36
  go_wp2_with fail
  go_ret
  exact ⟨gf_tell (by have e1 := natz f; have e2 := natz l; simp_all [gF] <;> omega), (Below.refl _ _).alloc (Nat.le_refl _) _⟩
end Go.Proofs.Ytggpbfmdhenjdaa


