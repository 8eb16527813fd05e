/- Rows of whole numbers, compared. -/
import Derived.Test.YtapjnnbcphpokaaGreatEpI
namespace Go.Proofs.YtapjnnbcphpokaaGreat
open Go.RowKit Go.Lib
attribute [local go_sem] store_float f64bits
attribute [local go_sem ↓] Go.wp_at_zero Go.wp_at_succ

/-- A row of whole numbers, wherever it lies. -/
def IR (w : World) (v : Value) (l : List Int) : Prop :=
  ∃ q c, v = .slice q l.length c ∧ ∀ (j : Nat) (x : Int), l[j]? = some x → ∃ b o, q = some ⟨b, o, none⟩ ∧ w.cell? ⟨b, o + j, none⟩ = some (.int .i64 x)

theorem IR.keep {w w' : World} {v : Value} {l : List Int} (h : IR w v l) (hb : Below w.heap.size w w') : IR w' v l := by
  obtain ⟨q, c, rfl, h⟩ := h
  refine ⟨q, c, rfl, fun j x hj => ?_⟩
  obtain ⟨b, o, rfl, hc⟩ := h j x hj
  exact ⟨b, o, rfl, (hb.cell (World.block_lt_of_cell? w _ hc)).trans hc⟩

def ivs (l : List Int) : List Value := l.map (fun x => .int .i64 x)
theorem ivs_length (l : List Int) : (ivs l).length = l.length := by simp [ivs]
theorem ivs_get {l : List Int} {j : Nat} {x : Int} (h : l[j]? = some x) : (ivs l)[j]? = some (.int .i64 x) := by simp [ivs, h]
theorem ivs_one (l : List Int) : ∀ u ∈ ivs l, u.oneCell' = true := by intro u hu; obtain ⟨x, _, rfl⟩ := List.mem_map.1 hu; rfl
theorem ivs_append (a b : List Int) : ivs (a ++ b) = ivs a ++ ivs b := by simp [ivs]

theorem IR.of_own {w : World} {B n : Nat} {v : Value} {l : List Int} (h : w.ownsRow B IT 1 v n (ivs l)) : IR w v l := by
  have hl : n = l.length := by have := h.1; rw [ivs_length] at this; omega
  subst hl
  rcases h.2 with ⟨rfl, h0⟩ | ⟨g, cap, cur, rfl, _⟩
  · refine ⟨none, 0, by rw [h0], fun j x hj => ?_⟩
    rw [List.length_eq_zero_iff.1 h0] at hj
    simp at hj
  · refine ⟨_, _, rfl, fun j x hj => ⟨g, 0, rfl, ?_⟩⟩
    have := h.cellAt j (by have := (List.getElem?_eq_some_iff.1 hj).1; omega)
    rw [Nat.zero_add, this]
    exact ivs_get hj

/-- A row cut at its front. -/
theorem IR.cut {w : World} {B n c out : Nat} {q : Option Addr} {l : List Int} (h : w.ownsRow B IT 1 (.slice q n c) n (ivs l)) (ho : out ≤ n) (qs : Option Addr) (hqs : (if c = out then q else Option.map (fun x => x.add out) q) = qs) (d : Nat) : IR w (.slice qs (n - out) d) (l.drop out) := by
  have hl : n = l.length := by have := h.1; rw [ivs_length] at this; omega
  refine ⟨qs, d, by rw [List.length_drop, hl], fun j x hj => ?_⟩
  rw [List.getElem?_drop] at hj
  have hjl : out + j < l.length := (List.getElem?_eq_some_iff.1 hj).1
  rcases h.2 with ⟨h0, h1⟩ | ⟨g, cap, cur, hv, _, _, hnc, _⟩
  · omega
  · have hv' : q = some ⟨g, 0, none⟩ ∧ c = cap := by simpa using hv
    obtain ⟨rfl, rfl⟩ := hv'
    rw [if_neg (by omega)] at hqs
    have e1 : (⟨g, 0, none⟩ : Addr).add out = ⟨g, out, none⟩ := by unfold Addr.add; split <;> simp_all
    simp only [Option.map_some, e1] at hqs
    refine ⟨g, out, hqs.symm, ?_⟩
    exact (h.cellAt (out + j) (by omega)).trans (ivs_get hj)

set_option maxHeartbeats 1000000 in
theorem ints_same {w : World} {va vb : Value} {l : List Int} (ha : IR w va l) (hb : IR w vb l) (hN : l.length ≤ 1000000) : Calls Tryz.prog 10 #[va, vb] w fun e w' => e = .returned (.bool true) ∧ Below w.heap.size w w' := by
  obtain ⟨q, c, rfl, ha⟩ := ha
  obtain ⟨q', c', rfl, hb⟩ := hb
  have HA := hidb ha
  have HB := hidb hb
  clear ha hb
  go_enter Tryz.func10, Tryz.ntmps10
  go_wp2_with fail
  go_loopw [5] (fun iv wr => ∃ m : Nat, m ≤ l.length ∧ iv = .int .i64 m ∧ Below w.heap.size w wr) (fun iv _ => l.length - (intOf iv).toNat)
  case atStart => exact ⟨0, by omega, rfl, Below.refl _ _⟩
  case round =>
  obtain ⟨m, hm, rfl, hbel⟩ := hrel
  have HW := hidb hbel
  clear hbel
  by_cases hml : m < l.length
  · have hmb : (m : Int) < (l.length : Int) := by omega
    have hmz : (0 : Int) ≤ (m : Int) := by omega
    have hmw : IntKind.i64.wrap ((m : Int) + 1) = (m : Int) + 1 := by rw [IntKind.wrap_i64]; omega
    have hx : l[m]? = some l[m] := List.getElem?_eq_getElem hml
    obtain ⟨b, o, rfl, hc⟩ := HA.out m _ hx
    obtain ⟨b', o', rfl, hc'⟩ := HB.out m _ hx
    have k0 := (HW.out.cell (World.block_lt_of_cell? w _ hc)).trans hc
    have k1 := (HW.out.cell (World.block_lt_of_cell? w _ hc')).trans hc'
    generalize l[m] = x at *
    clear hx hc hc'
    go_wp2_with fail
    go_quiet (fail)
    go_wp2_with fail
    go_roundw
    case rel => exact ⟨m + 1, by omega, by go_num, below_drewN HW.out _⟩
    case measure => simp [intOf]; omega
  have hmn : ¬ (m : Int) < (l.length : Int) := by omega
  go_wp2_with fail
  go_ret
  exact ⟨rfl, HW.out⟩
end Go.Proofs.YtapjnnbcphpokaaGreat
