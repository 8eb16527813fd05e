/- An inbox: its small methods. -/
import Derived.Test.YtapjnnbcphpokaaIb0
import Derived.Deep.RegionHeld3
import Derived.Deep.DrawnRows
namespace Go.Proofs.Ytapjnnbcphpokaa
open Go.RowKit Go.Deep
attribute [local go_sem] store_float f64bits
attribute [local go_sem ↓] Go.wp_at_zero Go.wp_at_succ

abbrev BT : Nat := 60
abbrev GT : Nat := 71

set_option maxRecDepth 100000 in
theorem newB (n : Int) (h1 : 1 ≤ n) (h2 : n ≤ 16777216) (w : World) : Calls Try.prog 8 #[.int .i64 n] w fun e w' => e = .returned (.tuple #[.pointer (some ⟨w.heap.size, 0, none⟩), .int .i64 0]) ∧ w' = w.alloc (.cells #[.pointer none, .pointer none, .pointer none, .int .i64 0, .int .i64 0, .int .i64 n, .int .i64 0] BT) := by
  have e1 : ¬ n < 1 := by omega
  have e2 : ¬ 16777216 < n := by omega
  go_enter Try.func8, Try.ntmps8
  go_wp2
  exact bodyPost_ret (v := .tuple #[.pointer (some ⟨w.heap.size, 0, none⟩), .int .i64 0]) (by simp [results, Try.results8, go_sem]) rfl ⟨rfl, rfl⟩

variable {w : World} {bb place most puts : Nat} {ms : List Msg} {R : Nat → Prop}

theorem lenB (h : BX w bb ms place most puts R) : Calls Try.prog 11 #[.pointer (some ⟨bb, 0, none⟩)] w fun e w' => e = .returned (.int .i64 (ms.length : Int)) ∧ w' = w := by
  have c3 := (h.box.1 3 _ rfl).1
  clear h
  go_enter Try.func11, Try.ntmps11
  go_wp2
  go_ret
  exact ⟨rfl, rfl⟩

theorem wordsB (h : BX w bb ms place most puts R) : Calls Try.prog 12 #[.pointer (some ⟨bb, 0, none⟩)] w fun e w' => e = .returned (.int .i64 (wds ms : Int)) ∧ w' = w := by
  have c4 := (h.box.1 4 _ rfl).1
  clear h
  go_enter Try.func12, Try.ntmps12
  go_wp2
  go_ret
  exact ⟨rfl, rfl⟩

/-- Where join writes. -/
def jA (bb : Nat) (ah : Option Nat) : Addr := match ah with | none => ⟨bb, 0, none⟩ | some x => ⟨x, 1, none⟩
def jB (bb : Nat) (bh : Option Nat) : Addr := match bh with | none => ⟨bb, 1, none⟩ | some x => ⟨x, 0, none⟩

theorem joinB (ah bh : Option Nat) (u v : Value) (h1 : w.cell? (jA bb ah) = some u) (h2 : w.frozen? (jA bb ah) = false) (h3 : w.cell? (jB bb bh) = some v) (h4 : w.frozen? (jB bb bh) = false) (hx : ∀ x, ah = some x → x ≠ bb) (hy : ∀ y, bh = some y → y ≠ bb) :
    Calls Try.prog 48 #[.pointer (some ⟨bb, 0, none⟩), pt ah, pt bh] w fun e w' => e = .returned (.tuple #[]) ∧ w' = (w.setCell (jA bb ah) (pt bh)).setCell (jB bb bh) (pt ah) := by
  have h3' : (w.setCell (jA bb ah) (pt bh)).cell? (jB bb bh) = some v := by
    rw [World.cell?_setCell_other]
    · exact h3
    · cases ah with
      | none => cases bh with
        | none => simp [jA, jB]
        | some y => have := hy y rfl; simp [jA, jB]; try omega
      | some x => cases bh with
        | none => have := hx x rfl; simp [jA, jB]; try omega
        | some y => simp [jA, jB]
  clear hx hy
  cases ah with
  | none =>
    cases bh with
    | none =>
      simp only [jA, jB, pt, Option.map_none] at *
      go_enter Try.func48, Try.ntmps48
      go_wp2
      exact bodyPost_end (by simp [results, Try.results48]) rfl ⟨rfl, rfl⟩
    | some y =>
      simp only [jA, jB, pt, Option.map_none, Option.map_some] at *
      go_enter Try.func48, Try.ntmps48
      go_wp2
      exact bodyPost_end (by simp [results, Try.results48]) rfl ⟨rfl, rfl⟩
  | some x =>
    cases bh with
    | none =>
      simp only [jA, jB, pt, Option.map_none, Option.map_some] at *
      go_enter Try.func48, Try.ntmps48
      go_wp2
      exact bodyPost_end (by simp [results, Try.results48]) rfl ⟨rfl, rfl⟩
    | some y =>
      simp only [jA, jB, pt, Option.map_some] at *
      go_enter Try.func48, Try.ntmps48
      go_wp2
      exact bodyPost_end (by simp [results, Try.results48]) rfl ⟨rfl, rfl⟩

end Go.Proofs.Ytapjnnbcphpokaa
