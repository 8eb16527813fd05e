import Derived.Test.YtmijabhnbmmmfaaGreatG23
import Derived.Test.YtmijabhnbmmmfaaGreatG04
/- Reading words: what stands alone, what points; blocks. -/
namespace Go.Proofs.YtmijabhnbmmmfaaGreat
open Go.RowKit Go.Deep
attribute [local go_sem] store_float f64bits f64frombits
attribute [local go_sem ↓] Go.wp_at_zero Go.wp_at_succ

def ptB (u : Int) : Bool := (tagI u == 5) || (tagI u == 6)

theorem points_any (u : Int) (h0 : 0 ≤ u) (h1 : u ≤ 18446744073709551615) (w : World) : Calls Tryz.prog 51 #[.int .u64 u] w fun e w' => e = .returned (.bool (ptB u)) ∧ w' = w := by
  have T := hidb (tag_any u h0 h1)
  unfold ptB
  generalize tagI u = T0 at *
  by_cases e5 : T0 = 5
  · subst e5
    go_enter Tryz.func51, Tryz.ntmps51
    go_wp2_with (go_at_call 81; refine (T.out _).mono ?_; rintro e w' ⟨rfl, rfl⟩)
    go_ret
    exact ⟨rfl, rfl⟩
  · go_enter Tryz.func51, Tryz.ntmps51
    go_wp2_with (go_at_call 81; refine (T.out _).mono ?_; rintro e w' ⟨rfl, rfl⟩)
    go_ret
    exact ⟨rfl, rfl⟩

def frN (k : Int) : Nat := if k = 7 then 1 else 2
def lnN (k s : Int) : Int := if k = 7 then 1 + s else if k = 5 then 2 + s else 2
def lnB (k s : Int) : Bool := k == 7 || k == 5 || s == 1

theorem frontOf_any (k : Int) (w : World) : Calls Tryz.prog 87 #[.int .i64 k] w fun e w' => e = .returned (.int .i64 (frN k)) ∧ w' = w := by
  by_cases h : k = 7
  · subst h
    go_enter Tryz.func87, Tryz.ntmps87; go_wp2; go_ret; exact ⟨rfl, rfl⟩
  · have e : frN k = 2 := by simp [frN, h]
    rw [e]
    go_enter Tryz.func87, Tryz.ntmps87; go_wp2; go_ret; exact ⟨rfl, rfl⟩

set_option maxHeartbeats 1000000 in
theorem lengthOf_any (k s : Int) (h0 : 0 ≤ s) (h1 : s ≤ 65536) (w : World) : Calls Tryz.prog 98 #[.int .i64 k, .int .i64 s] w fun e w' => e = .returned (.tuple #[.int .i64 (lnN k s), .bool (lnB k s)]) ∧ w' = w := by
  have hw1 : wrap64 (1 + s) = 1 + s := by unfold wrap64; omega
  have hw2 : wrap64 (2 + s) = 2 + s := by unfold wrap64; omega
  by_cases h7 : k = 7
  · subst h7
    have FR : Hid (∀ w, Calls Tryz.prog 87 #[.int .i64 7] w fun e w' => e = .returned (.int .i64 1) ∧ w' = w) := frontOf_any 7
    have e1 : lnN 7 s = 1 + s := by simp [lnN]
    have e2 : lnB 7 s = true := by simp [lnB]
    rw [e1, e2]
    clear e1 e2
    go_enter Tryz.func98, Tryz.ntmps98
    go_wp2_with (go_at_call 87; refine (FR.out _).mono ?_; rintro e w' ⟨rfl, rfl⟩)
    exact bodyPost_ret (v := .tuple #[.int .i64 (1 + s), .bool true]) (by simp [results, Tryz.results98, go_sem]) rfl ⟨rfl, rfl⟩
  by_cases h5 : k = 5
  · subst h5
    have FR : Hid (∀ w, Calls Tryz.prog 87 #[.int .i64 5] w fun e w' => e = .returned (.int .i64 2) ∧ w' = w) := frontOf_any 5
    have e1 : lnN 5 s = 2 + s := by simp [lnN]
    have e2 : lnB 5 s = true := by simp [lnB]
    rw [e1, e2]
    clear e1 e2
    go_enter Tryz.func98, Tryz.ntmps98
    go_wp2_with (go_at_call 87; refine (FR.out _).mono ?_; rintro e w' ⟨rfl, rfl⟩)
    exact bodyPost_ret (v := .tuple #[.int .i64 (2 + s), .bool true]) (by simp [results, Tryz.results98, go_sem]) rfl ⟨rfl, rfl⟩
  have e3 : frN k = 2 := by simp [frN, h7]
  have FR := frontOf_any k
  rw [e3] at FR
  have FR' : Hid (∀ w, Calls Tryz.prog 87 #[.int .i64 k] w fun e w' => e = .returned (.int .i64 2) ∧ w' = w) := FR
  have e1 : lnN k s = 2 := by simp [lnN, h7, h5]
  have e2 : lnB k s = (s == 1) := by simp [lnB, h7, h5]
  rw [e1, e2]
  have b7 : (k == 7) = false := by simpa using h7
  have b5 : (k == 5) = false := by simpa using h5
  clear e1 e2 e3 FR
  go_enter Tryz.func98, Tryz.ntmps98
  go_wp2_with (go_at_call 87; refine (FR'.out _).mono ?_; rintro e w' ⟨rfl, rfl⟩)
  exact bodyPost_ret (v := .tuple #[.int .i64 2, .bool (s == 1)]) (by simp [results, Tryz.results98, go_sem]) rfl ⟨rfl, rfl⟩

/-- What a header's block says of itself: the number, the float. -/
def brN (k x : Int) : Int := if k = 4 ∨ k = 5 then (if x < 9223372036854775808 then x else x - 18446744073709551616) else 0
def brF (k x : Int) : Nat := if k = 2 then x.toNat else 0

end Go.Proofs.YtmijabhnbmmmfaaGreat


/- Eight cells of a block, not frozen. -/
namespace Go.Proofs.YtmijabhnbmmmfaaGreat
open Go.RowKit

structure Oct (w : World) (b : Nat) (v0 v1 v2 v3 v4 v5 v6 v7 : Value) : Prop where
  c0 : w.cell? ⟨b, 0, none⟩ = some v0
  c1 : w.cell? ⟨b, 1, none⟩ = some v1
  c2 : w.cell? ⟨b, 2, none⟩ = some v2
  c3 : w.cell? ⟨b, 3, none⟩ = some v3
  c4 : w.cell? ⟨b, 4, none⟩ = some v4
  c5 : w.cell? ⟨b, 5, none⟩ = some v5
  c6 : w.cell? ⟨b, 6, none⟩ = some v6
  c7 : w.cell? ⟨b, 7, none⟩ = some v7
  f0 : w.frozen? ⟨b, 0, none⟩ = false
  f1 : w.frozen? ⟨b, 1, none⟩ = false
  f2 : w.frozen? ⟨b, 2, none⟩ = false
  f3 : w.frozen? ⟨b, 3, none⟩ = false
  f4 : w.frozen? ⟨b, 4, none⟩ = false
  f5 : w.frozen? ⟨b, 5, none⟩ = false
  f6 : w.frozen? ⟨b, 6, none⟩ = false
  f7 : w.frozen? ⟨b, 7, none⟩ = false
  lt : b < w.heap.size

theorem Oct.new (w : World) (t : TypeId) (v0 v1 v2 v3 v4 v5 v6 v7 : Value) : Oct (w.alloc (.cells #[v0, v1, v2, v3, v4, v5, v6, v7] t)) w.heap.size v0 v1 v2 v3 v4 v5 v6 v7 :=
  ⟨by rw [World.cell?_alloc_new]; rfl, by rw [World.cell?_alloc_new]; rfl, by rw [World.cell?_alloc_new]; rfl, by rw [World.cell?_alloc_new]; rfl, by rw [World.cell?_alloc_new]; rfl, by rw [World.cell?_alloc_new]; rfl, by rw [World.cell?_alloc_new]; rfl, by rw [World.cell?_alloc_new]; rfl, World.frozen?_alloc_new _ _ _ _, World.frozen?_alloc_new _ _ _ _, World.frozen?_alloc_new _ _ _ _, World.frozen?_alloc_new _ _ _ _, World.frozen?_alloc_new _ _ _ _, World.frozen?_alloc_new _ _ _ _, World.frozen?_alloc_new _ _ _ _, World.frozen?_alloc_new _ _ _ _, by simp⟩

theorem Oct.keep {w w' : World} {b : Nat} {v0 v1 v2 v3 v4 v5 v6 v7 : Value} (h : Oct w b v0 v1 v2 v3 v4 v5 v6 v7) (hb : Below w.heap.size w w') : Oct w' b v0 v1 v2 v3 v4 v5 v6 v7 :=
  ⟨(hb.cell h.lt).trans h.c0, (hb.cell h.lt).trans h.c1, (hb.cell h.lt).trans h.c2, (hb.cell h.lt).trans h.c3, (hb.cell h.lt).trans h.c4, (hb.cell h.lt).trans h.c5, (hb.cell h.lt).trans h.c6, (hb.cell h.lt).trans h.c7, (hb.frozen h.lt).trans h.f0, (hb.frozen h.lt).trans h.f1, (hb.frozen h.lt).trans h.f2, (hb.frozen h.lt).trans h.f3, (hb.frozen h.lt).trans h.f4, (hb.frozen h.lt).trans h.f5, (hb.frozen h.lt).trans h.f6, (hb.frozen h.lt).trans h.f7, Nat.lt_of_lt_of_le h.lt hb.size⟩

def set8 (w : World) (b : Nat) (u0 u1 u2 u3 u4 u5 u6 u7 : Value) : World := (((((((((((((((w.setCell ⟨b, 0, none⟩ u0)).setCell ⟨b, 1, none⟩ u1)).setCell ⟨b, 2, none⟩ u2)).setCell ⟨b, 3, none⟩ u3)).setCell ⟨b, 4, none⟩ u4)).setCell ⟨b, 5, none⟩ u5)).setCell ⟨b, 6, none⟩ u6)).setCell ⟨b, 7, none⟩ u7)

theorem Oct.at {w w' : World} {b : Nat} {v0 v1 v2 v3 v4 v5 v6 v7 : Value} (h : Oct w b v0 v1 v2 v3 v4 v5 v6 v7) (e : w'.heap[b]? = w.heap[b]?) (hs : w.heap.size ≤ w'.heap.size) : Oct w' b v0 v1 v2 v3 v4 v5 v6 v7 :=
  ⟨(World.cell?_of_block (w := w) e).trans h.c0, (World.cell?_of_block (w := w) e).trans h.c1, (World.cell?_of_block (w := w) e).trans h.c2, (World.cell?_of_block (w := w) e).trans h.c3, (World.cell?_of_block (w := w) e).trans h.c4, (World.cell?_of_block (w := w) e).trans h.c5, (World.cell?_of_block (w := w) e).trans h.c6, (World.cell?_of_block (w := w) e).trans h.c7, (World.frozen?_of_block (w := w) e).trans h.f0, (World.frozen?_of_block (w := w) e).trans h.f1, (World.frozen?_of_block (w := w) e).trans h.f2, (World.frozen?_of_block (w := w) e).trans h.f3, (World.frozen?_of_block (w := w) e).trans h.f4, (World.frozen?_of_block (w := w) e).trans h.f5, (World.frozen?_of_block (w := w) e).trans h.f6, (World.frozen?_of_block (w := w) e).trans h.f7, Nat.lt_of_lt_of_le h.lt hs⟩
end Go.Proofs.YtmijabhnbmmmfaaGreat


