/- The statement WordAtoms walked: any row of texts is numbered by the program and by the document alike. -/
import Derived.Test.YtjeenmllohaleaaKn3
import Derived.Test.YtjeenmllohaleaaAt5
import Derived.Deep.DrawnRows
import Derived.BigQuiet
import Derived.Lib.QuietBelow
namespace Go.Proofs.Ytjeenmllohaleaa
open Go.RowKit Go.Maps Go.WideMaps Go.Sort

/-- the texts that have numbers behind the first k of the row -/
def acc (N : Nat → ByteArray) : Nat → List ByteArray
  | 0 => []
  | k + 1 => stepL (acc N k) (N k)
theorem acc_len (N : Nat → ByteArray) : ∀ k, (acc N k).length ≤ k
  | 0 => Nat.le_refl _
  | k + 1 => Nat.le_trans (stepL_len _ _) (Nat.succ_le_succ (acc_len N k))

/-- both tables, apart, in new blocks -/
structure Both (n0 : Nat) (w wr : World) (T R : Nat) (L : List ByteArray) (F G : List Nat) : Prop where
  tab : Tab wr T L F
  rtab : RTab wr R L G
  apart : ∀ x, x ∈ F → x ∉ G
  newF : ∀ x, x ∈ F → n0 ≤ x
  newG : ∀ x, x ∈ G → n0 ≤ x
  below : Below n0 w wr

theorem Both.step {w wr w2 w3 : World} {T R : Nat} {L L' : List ByteArray} {F G F' G' : List Nat} (h : Both w.heap.size w wr T R L F G)
    (t2 : Tab w2 T L' F') (f2 : ∀ k, k ∈ F' → k ∈ F ∨ wr.heap.size ≤ k) (k2 : Kept F wr w2)
    (t3 : RTab w3 R L' G') (g3 : ∀ k, k ∈ G' → k ∈ G ∨ w2.heap.size ≤ k) (k3 : Kept G w2 w3) : Both w.heap.size w w3 T R L' F' G' := by
  have hlG := h.rtab.lt
  have hlF' := t2.lt
  have hb := h.below.size
  have hs := k2.size
  have a1 : ∀ x, x ∈ F' → x ∉ G := fun x hx hG => by
    rcases f2 x hx with h1 | h1
    · exact h.apart x h1 hG
    · have := hlG x hG; omega
  refine ⟨t2.kept k3 a1, t3, fun x hx hG => ?_, fun x hx => ?_, fun x hx => ?_, ?_⟩
  · rcases g3 x hG with h1 | h1
    · exact a1 x hx h1
    · have := hlF' x hx; omega
  · rcases f2 x hx with h1 | h1
    · exact h.newF x h1
    · omega
  · rcases g3 x hx with h1 | h1
    · exact h.newG x h1
    · omega
  · exact k3.below (k2.below h.below (Nat.le_refl _) h.newF) (Nat.le_refl _) h.newG

theorem Both.mid {w wr w2 : World} {T R : Nat} {L : List ByteArray} {F G : List Nat} (h : Both w.heap.size w wr T R L F G) (k2 : Kept F wr w2) : RTab w2 R L G :=
  h.rtab.kept k2 (fun x hx hF => h.apart x hF hx)

theorem Both.after {w wr w' : World} {T R : Nat} {L : List ByteArray} {F G : List Nat} (h : Both w.heap.size w wr T R L F G) (k : Below wr.heap.size wr w') : Both w.heap.size w w' T R L F G :=
  ⟨h.tab.kept (Kept.of_below (F := []) k) (by simp), h.rtab.kept (Kept.of_below (F := []) k) (by simp), h.apart, h.newF, h.newG, h.below.trans (k.mono h.below.size)⟩

theorem RTab.cell {w : World} {r : Nat} {L : List ByteArray} {G : List Nat} (h : RTab w r L G) : ∃ a c, w.cell? ⟨r, 0, none⟩ = some (.slice a L.length c) := by
  obtain ⟨v, ⟨c0, f0, row, nb⟩, rfl⟩ := h
  obtain ⟨a, cap, rfl⟩ := row_shape row
  exact ⟨a, cap, c0⟩

theorem both_start {w w1 w2 : World} (hb : Below w.heap.size w w1) (hb2 : Below w1.heap.size w1 w2) (hz : w2.heap.size = w1.heap.size + 1) (ht : Tab w2 w1.heap.size [] [w1.heap.size]) :
    Both w.heap.size w (w2.alloc (.cells #[.slice none 0 0] 47)) w1.heap.size (w1.heap.size + 1) [] [w1.heap.size] [w1.heap.size + 1] := by
  rw [← hz]
  have hs := hb.size
  refine ⟨ht.kept (Kept.of_below (F := []) (below_alloc w2 _)) (by simp), ⟨.slice none 0 0, ⟨by simp, by simp, World.ownsRow_nil _ _ _ _, by simp [Value.ownBlock]⟩, by simp [Value.ownBlock]⟩, ?_, ?_, ?_, ?_⟩
  · intro x hx; simp at hx ⊢; omega
  · intro x hx; simp at hx; omega
  · intro x hx; simp at hx; omega
  · exact (hb.trans (hb2.mono hs)).trans ((below_alloc w2 _).mono (by omega))

attribute [local go_sem ↓] Go.wp_at_zero Go.wp_at_succ

set_option maxHeartbeats 4000000 in
theorem wordAtoms_pos (b off len cap : Nat) (N : Nat → ByteArray) (n : Int) (w : World) (hlen : len ≤ 2000) (hb : b < w.heap.size)
    (hc : ∀ j, j < len → w.cell? ⟨b, off + j, none⟩ = some (.string (N j))) :
    Calls Try.prog 6 #[.slice (some ⟨b, off, none⟩) len cap, .int .i64 n] w fun e w' => e = .returned (.bool true) ∧ Below w.heap.size w w' := by
  go_enter Try.func6, Try.ntmps6
  go_wp2_with (first
    | (go_at_call 9; refine (known_any _).mono ?_; rintro e w1 ⟨rfl, hb1⟩)
    | (go_at_call 22; refine (new_any _).mono ?_; rintro e w2 ⟨rfl, hb2, hz2, ht2⟩))
  have hst := both_start hb1 hb2 hz2 ht2
  clear ht2
  go_loopw [7] (fun i wr => ∃ (k : Nat) (F G : List Nat), k ≤ len ∧ i = .int .i64 k ∧ Both w.heap.size w wr w1.heap.size (w1.heap.size + 1) (acc N k) F G) (fun i _ => len - (intOf i).toNat)
  case atStart => exact ⟨0, _, _, Nat.zero_le _, rfl, hst⟩
  case round =>
    obtain ⟨k, F, G, hk, rfl, hB⟩ := hrel
    have hcx : k < len → wr.cell? ⟨b, off + k, none⟩ = some (.string (N k)) := fun h => (hB.below.cell (p := ⟨b, off + k, none⟩) hb).trans (hc k h)
    have hal := acc_len N k
    go_wp2_with (first
      | (go_at_call 23; refine (number_any (s := N k) hB.tab (by omega)).mono ?_; rintro e w3 ⟨rfl, F3, ht3, hF3, hk3⟩
         have hcx3 : k < len → w3.cell? ⟨b, off + k, none⟩ = some (.string (N k)) := fun h => ((hk3.below hB.below (Nat.le_refl _) hB.newF).cell (p := ⟨b, off + k, none⟩) hb).trans (hc k h))
      | (go_at_call 24; refine (rnumber_any (s := N k) (hB.mid hk3) (by omega)).mono ?_; rintro e w4 ⟨rfl, G4, ht4, hG4, hk4⟩
         have hB4 := hB.step ht3 hF3 hk3 ht4 hG4 hk4
         obtain ⟨a4, cap4, hc4⟩ := hB4.rtab.cell)
      | (go_at_call 25; refine (len_any hB4.tab).mono ?_; rintro e w' ⟨rfl, rfl⟩)
      | go_in)
    · have kc4 := cell_regrown hc4
      have hlen4 : ∀ d os, Calls Try.prog 25 #[.pointer (some ⟨w1.heap.size, 0, none⟩)] (grow (redrawn w4 d) os) fun e w' => e = .returned (.int .i64 ((stepL (acc N k) (N k)).length : Int)) ∧ Below (grow (redrawn w4 d) os).heap.size (grow (redrawn w4 d) os) w' := fun d os =>
        (len_any (hB4.after (below_regrown w4 d os)).tab).mono (by rintro e w' ⟨rfl, rfl⟩; exact ⟨rfl, Below.refl _ _⟩)
      refine wp_region_quiet_below (by kernel_rfl) (by kernel_rfl) ?_
      repeat (first
        | go_big_quiet_step (first | (go_at_call 25; exact Calls.regrown_of (hlen4 _ _)))
        | quiet_step (first | (go_at_call 25; exact Calls.regrown_of (hlen4 _ _))))
      refine wpQuiet_nil ?_
      intro _ hw'
      obtain ⟨⟨dq, osq⟩, hw2⟩ := hw'
      subst hw2
      go_wp2
      have hlt : k < len := by assumption
      exact ⟨⟨k + 1, F3, G4, by omega, by simp, hB4.after (below_regrown w4 dq osq)⟩, by simp [intOf]; omega⟩
    · have hd : decide (k < len) = false := decide_eq_false (by omega)
      rw [hd]
      go_loop [12] (fun iv => ∃ (j : Int), -1 ≤ j ∧ j ≤ len + 1 ∧ iv = .int .i64 j) (fun iv => ((len : Int) + 1 - intOf iv).toNat)
      case atStart => exact ⟨-1, by omega, by omega, rfl⟩
      case round =>
        obtain ⟨j, hj0, hj1, rfl⟩ := hrel
        go_wp2_with (first
          | (go_at_call 26; first | (with_reducible refine (text_any hB.tab j).mono ?_; rintro e w' ⟨rfl, rfl⟩) | (with_reducible refine (text_any hB.tab n).mono ?_; rintro e w' ⟨rfl, rfl⟩))
          | (go_at_call 27; first | (with_reducible refine (rtext_any hB.rtab j).mono ?_; rintro e w' ⟨rfl, rfl⟩) | (with_reducible refine (rtext_any hB.rtab n).mono ?_; rintro e w' ⟨rfl, rfl⟩)))
        · go_round
          case rel => exact ⟨j + 1, by omega, by omega, by simp⟩
          case measure => simp [intOf]; omega
        · go_ret
          exact ⟨rfl, hB.below⟩

set_option maxHeartbeats 4000000 in
theorem wordAtoms_none (a : Option Addr) (cap : Nat) (n : Int) (w : World) :
    Calls Try.prog 6 #[.slice a 0 cap, .int .i64 n] w fun e w' => e = .returned (.bool true) ∧ Below w.heap.size w w' := by
  go_enter Try.func6, Try.ntmps6
  go_wp2_with (first
    | (go_at_call 9; refine (known_any _).mono ?_; rintro e w1 ⟨rfl, hb1⟩)
    | (go_at_call 22; refine (new_any _).mono ?_; rintro e w2 ⟨rfl, hb2, hz2, ht2⟩))
  have hB := both_start hb1 hb2 hz2 ht2
  clear ht2
  refine wp_loop_rounds 1 ?_
  rw [rounds_succ]
  go_wp2
  generalize (w2.alloc (.cells #[.slice none 0 0] 47)) = wr at hB
  go_loop [12] (fun iv => ∃ (j : Int), -1 ≤ j ∧ j ≤ 1 ∧ iv = .int .i64 j) (fun iv => (1 - intOf iv).toNat)
  case atStart => exact ⟨-1, by omega, by omega, rfl⟩
  case round =>
    obtain ⟨j, hj0, hj1, rfl⟩ := hrel
    go_wp2_with (first
      | (go_at_call 26; first | (with_reducible refine (text_any hB.tab j).mono ?_; rintro e w' ⟨rfl, rfl⟩) | (with_reducible refine (text_any hB.tab n).mono ?_; rintro e w' ⟨rfl, rfl⟩))
      | (go_at_call 27; first | (with_reducible refine (rtext_any hB.rtab j).mono ?_; rintro e w' ⟨rfl, rfl⟩) | (with_reducible refine (rtext_any hB.rtab n).mono ?_; rintro e w' ⟨rfl, rfl⟩)))
    · go_round
      case rel => exact ⟨j + 1, by omega, by omega, by simp⟩
      case measure => simp [intOf]; omega
    · go_ret
      exact ⟨rfl, hB.below⟩

theorem wordAtoms_big (a : Option Addr) (len cap : Nat) (n : Int) (w : World) (h : 2000 < len) :
    Calls Try.prog 6 #[.slice a len cap, .int .i64 n] w fun e w' => e = .returned (.bool true) ∧ Below w.heap.size w w' := by
  go_enter Try.func6, Try.ntmps6
  go_wp2_with (first
    | (go_at_call 9; refine (known_any _).mono ?_; rintro e w1 ⟨rfl, hb1⟩))
  go_ret
  exact ⟨rfl, hb1⟩
end Go.Proofs.Ytjeenmllohaleaa
