import Derived.Test.YtajadhkpadkikaaGreatDoorG08
import Derived.Lib.AppendZerosOnto
import Derived.Lib.AppendZeros
import Derived.Lib.SliceRun
import Derived.Laws.Append
import Derived.Laws.AppendOwn
import Derived.Lib.Walk
import Derived.Deep.AppendLies
import Derived.Lib.SmallJoins
import Derived.Laws.Rows
/- Grow at terms. -/
namespace Go.Proofs.YtajadhkpadkikaaGreatDoor
open Go.RowKit Go.Deep
attribute [local go_sem] store_float f64bits f64frombits
attribute [local go_sem ↓] Go.wp_at_zero Go.wp_at_succ

theorem infoTg : (Tryz.prog.info? 25).map (fun i => (i.zero, i.size, i.bytes)) = some (some (.agg #[.int .i64 (0), .int .i64 (0), .float .f64 (0), .string ⟨#[]⟩, .slice none 0 0]), 5, 64) := by kernel_rfl

def zT : Array Value := #[.int .i64 0, .int .i64 0, .float .f64 0, .string ⟨#[]⟩, .slice none 0 0]

set_option maxHeartbeats 2000000 in
set_option maxRecDepth 100000 in
theorem tgrow_room (base : Option Addr) (l c n : Nat) (w : World) (hlc : l ≤ c) (hc63 : c ≤ 9223372036854775807) (hn : n ≤ 65536) (hroom : l + n ≤ c) :
    Calls Tryz.prog 133 #[.slice base l c, .int .i64 n] w fun e w' => e = .returned (.slice base l c) ∧ w' = w := by
  have h1 : ¬ ((n : Int) < 0) := by omega
  have h4 : ¬ ((n : Int) - ((c : Int) - (l : Int)) > 0) := by omega
  go_enter Tryz.func133, Tryz.ntmps133
  go_wp2
  go_ret
  exact ⟨rfl, rfl⟩

set_option maxHeartbeats 4000000 in
set_option maxRecDepth 100000 in
theorem tgrow_grow (base : Option Addr) (l c n : Nat) (cs : List Value) (w : World) (hlc : l ≤ c) (hn : n ≤ 65536) (hl : l ≤ 16777216) (hroom : c < l + n) (hcl : cs.length = c * 5) (hnil : base = none → c = 0) (hcs : ∀ a, base = some a → ∀ j v, cs[j]? = some v → w.cell? (a.add j) = some v) :
    Calls Tryz.prog 133 #[.slice base l c, .int .i64 n] w fun e w' => ∃ G, l + n ≤ G ∧ G ≤ maxLen ∧ e = .returned (.slice (some ⟨w.heap.size, 0, none⟩) l G) ∧
      w' = w.drew.alloc (.cells (cs.toArray ++ Builtin.zeroCells zT (l + n - c) ++ Builtin.zeroCells zT (G - (l + n))) 25) := by
  obtain ⟨i0, hi0, hz0, hs0, hb0⟩ : ∃ i0, Tryz.prog.info? 25 = some i0 ∧ i0.zero = some (.agg #[.int .i64 (0), .int .i64 (0), .float .f64 (0), .string ⟨#[]⟩, .slice none 0 0]) ∧ i0.size = 5 ∧ i0.bytes = 64 := by
    cases h : Tryz.prog.info? 25 with
    | none => have := infoTg; rw [h] at this; simp at this
    | some i => have := infoTg; rw [h] at this; simp at this; exact ⟨i, rfl, this⟩
  have hck : c + (l + n - c) = l + n := by omega
  have hold : (Builtin.firstCells i0.size c (.slice base c c)).run Tryz.prog w.drew = .ok cs.toArray w.drew := by
    cases base with
    | none =>
      have h0 := hnil rfl
      subst h0
      have hc0 : cs = [] := List.length_eq_zero_iff.1 (by simpa using hcl)
      rw [hc0]
      exact run_firstCells_none w.drew i0.size 0 0 0
    | some a => exact run_firstCells_some w.drew i0.size c a c c cs (by rw [hs0]; exact hcl) (fun j v hj => hcs a rfl j v hj)
  have hrz : ∀ ty, (Builtin.append_ #[23, 3] ty #[.slice base c c, .int .i64 ((n : Int) - ((c : Int) - (l : Int)))]).run Tryz.prog w =
      .ok (.slice (some ⟨w.heap.size, 0, none⟩) (l + n) (grownCap w (l + n) c 25)) (w.drew.alloc (.cells (cs.toArray ++ Builtin.zeroCells zT (l + n - c) ++ Builtin.zeroCells zT (grownCap w (l + n) c 25 - (l + n))) 25)) := fun ty => by
    have h := Lib.run_append_grow_zeros w 23 3 ty 25 i0 (.agg #[.int .i64 (0), .int .i64 (0), .float .f64 (0), .string ⟨#[]⟩, .slice none 0 0]) .i64 .i64 Tryz.underlying23 Tryz.underlying3 hi0 hz0 base c c cs hold (l + n - c) (by omega) (by omega) (by omega) (by omega)
      (by rw [hb0]; omega) (by rw [hck, hb0]; exact growslice_fits hroom (by omega))
    rw [hck] at h
    rw [show (n : Int) - ((c : Int) - (l : Int)) = ((l + n - c : Nat) : Int) by omega]
    exact h
  have hGn : l + n ≤ grownCap w (l + n) c 25 := grownCap_ge w _ _ _
  have hG63 : grownCap w (l + n) c 25 ≤ maxLen := grownCap_le_maxLen w (l + n) c 25 (by unfold maxLen; omega)
  generalize grownCap w (l + n) c 25 = G at hrz hGn hG63
  have h1 : ¬ ((n : Int) < 0) := by omega
  have h4 : (n : Int) - ((c : Int) - (l : Int)) > 0 := by omega
  have hG2 : G ≤ 9223372036854775807 := by unfold maxLen at hG63; omega
  have HG3 := hidb hG63
  generalize zT = zz at *
  clear hold hck hcs hcl hi0 hz0 hs0 hb0 hG63
  go_enter Tryz.func133, Tryz.ntmps133
  cases base with
  | none =>
    have h0 := hnil rfl
    subst h0
    obtain rfl : l = 0 := by omega
    go_wp2_with (at_builtin; refine Lib.wpList_append_run _ rfl _ _ _ _ rfl _ _ rfl rfl _ _ (hrz _) ?_)
    all_goals (go_ret; exact ⟨G, by omega, HG3.out, rfl, by simp⟩)
  | some a =>
    obtain ⟨ab, ao, asp⟩ := a
    go_wp2_with (at_builtin; refine Lib.wpList_append_run _ rfl _ _ _ _ rfl _ _ rfl rfl _ _ (hrz _) ?_)
    all_goals (go_ret; exact ⟨G, hGn, HG3.out, rfl, rfl⟩)
end Go.Proofs.YtajadhkpadkikaaGreatDoor


/- Grow at terms: the row stays what it was. -/
namespace Go.Proofs.YtajadhkpadkikaaGreatDoor
open Go.RowKit Go.Deep

theorem zeroCells_size (z : Array Value) (k : Nat) : (Builtin.zeroCells z k).size = k * z.size := by
  unfold Builtin.zeroCells
  simp

theorem grow_terms (base : Nat) (v : Value) (n m : Nat) (xs : List Value) (w : World) (hown : w.ownsRow base 25 5 v n xs) (hm : m ≤ 65536) (hn : n ≤ 16777216) (hbase : base ≤ w.heap.size) :
    Calls Tryz.prog 133 #[v, .int .i64 m] w fun e w' => ∃ v', e = .returned v' ∧ w'.ownsRow base 25 5 v' n xs ∧ (v'.ownBlock = v.ownBlock ∨ v'.ownBlock = some w.heap.size) ∧ Below w.heap.size w w' := by
  have hmax : maxLen = 9223372036854775807 := rfl
  obtain ⟨hlen, ⟨rfl, rfl⟩ | ⟨g, cap, cur, rfl, hbg, hobj, hnc, hcm, hcs, htk⟩⟩ := hown
  · by_cases h0 : m = 0
    · subst h0
      refine (tgrow_room none 0 0 0 w (by omega) (by omega) (by omega) (by omega)).mono ?_
      rintro e w' ⟨rfl, rfl⟩
      exact ⟨_, rfl, ⟨hlen, Or.inl ⟨rfl, rfl⟩⟩, Or.inl rfl, Below.refl _ _⟩
    · refine (tgrow_grow none 0 0 m [] w (by omega) hm (by omega) (by omega) rfl (fun _ => rfl) (fun a h => by simp at h)).mono ?_
      rintro e w' ⟨G, hG1, hG2, rfl, rfl⟩
      have hx : xs = [] := List.length_eq_zero_iff.1 (by simpa using hlen)
      subst hx
      refine ⟨_, rfl, ⟨rfl, Or.inr ⟨w.heap.size, G, _, rfl, hbase, heap_alloc_new w.drew _, by omega, hG2, ?_, by simp⟩⟩, Or.inr rfl, (Below.refl _ _).drew.alloc (Nat.le_refl _) _⟩
      simp only [Array.size_append, zeroCells_size, zT]
      simp
      omega
  · have hcell : ∀ j v, cur.toList[j]? = some v → w.cell? ((⟨g, 0, none⟩ : Addr).add j) = some v := by
      intro j v hj
      have e : (⟨g, 0, none⟩ : Addr).add j = ⟨g, j, none⟩ := by unfold Addr.add; split <;> simp_all
      rw [e]
      rw [Joins.cell_of_block hobj]
      simpa using hj
    by_cases hr : n + m ≤ cap
    · refine (tgrow_room (some ⟨g, 0, none⟩) n cap m w hnc (by omega) hm hr).mono ?_
      rintro e w' ⟨rfl, rfl⟩
      exact ⟨_, rfl, ⟨hlen, Or.inr ⟨g, cap, cur, rfl, hbg, hobj, hnc, hcm, hcs, htk⟩⟩, Or.inl rfl, Below.refl _ _⟩
    · refine (tgrow_grow (some ⟨g, 0, none⟩) n cap m cur.toList w hnc hm hn (by omega) (by simpa using hcs) (fun h => by simp at h) (fun a ha => (Option.some.inj ha) ▸ hcell)).mono ?_
      rintro e w' ⟨G, hG1, hG2, rfl, rfl⟩
      refine ⟨_, rfl, ⟨hlen, Or.inr ⟨w.heap.size, G, _, rfl, hbase, heap_alloc_new w.drew _, by omega, hG2, ?_, ?_⟩⟩, Or.inr rfl, (Below.refl _ _).drew.alloc (Nat.le_refl _) _⟩
      · simp only [Array.size_append, zeroCells_size, zT]
        simp [hcs]
        omega
      · rw [← htk]
        simp only [Array.toList_append, List.append_assoc]
        rw [List.take_append_of_le_length (by simp [hcs]; omega)]
end Go.Proofs.YtajadhkpadkikaaGreatDoor


