import Derived.Test.YtpcpdehnppfbfaaGreatG39
import Derived.Test.YtpcpdehnppfbfaaGreatG04
import Derived.Test.YtpcpdehnppfbfaaGreatG09
/- Rows of whole numbers, compared. -/
namespace Go.Proofs.YtpcpdehnppfbfaaGreat
open Go.RowKit Go.Lib
attribute [local go_sem] store_float f64bits
attribute [local go_sem ↓] Go.wp_at_zero Go.wp_at_succ

/-- A row of whole numbers, wherever it lies. -/
def IR (w : World) (v : Value) (l : List Int) : Prop :=
  ∃ q c, v = .slice q l.length c ∧ ∀ (j : Nat) (x : Int), l[j]? = some x → ∃ b o, q = some ⟨b, o, none⟩ ∧ w.cell? ⟨b, o + j, none⟩ = some (.int .i64 x)

theorem IR.keep {w w' : World} {v : Value} {l : List Int} (h : IR w v l) (hb : Below w.heap.size w w') : IR w' v l := by
  obtain ⟨q, c, rfl, h⟩ := h
  refine ⟨q, c, rfl, fun j x hj => ?_⟩
  obtain ⟨b, o, rfl, hc⟩ := h j x hj
  exact ⟨b, o, rfl, (hb.cell (World.block_lt_of_cell? w _ hc)).trans hc⟩

def ivs (l : List Int) : List Value := l.map (fun x => .int .i64 x)
theorem ivs_length (l : List Int) : (ivs l).length = l.length := by simp [ivs]
theorem ivs_get {l : List Int} {j : Nat} {x : Int} (h : l[j]? = some x) : (ivs l)[j]? = some (.int .i64 x) := by simp [ivs, h]
theorem ivs_one (l : List Int) : ∀ u ∈ ivs l, u.oneCell' = true := by intro u hu; obtain ⟨x, _, rfl⟩ := List.mem_map.1 hu; rfl
theorem ivs_append (a b : List Int) : ivs (a ++ b) = ivs a ++ ivs b := by simp [ivs]

theorem IR.of_own {w : World} {B n : Nat} {v : Value} {l : List Int} (h : w.ownsRow B IT 1 v n (ivs l)) : IR w v l := by
  have hl : n = l.length := by have := h.1; rw [ivs_length] at this; omega
  subst hl
  rcases h.2 with ⟨rfl, h0⟩ | ⟨g, cap, cur, rfl, _⟩
  · refine ⟨none, 0, by rw [h0], fun j x hj => ?_⟩
    rw [List.length_eq_zero_iff.1 h0] at hj
    simp at hj
  · refine ⟨_, _, rfl, fun j x hj => ⟨g, 0, rfl, ?_⟩⟩
    have := h.cellAt j (by have := (List.getElem?_eq_some_iff.1 hj).1; omega)
    rw [Nat.zero_add, this]
    exact ivs_get hj

/-- A row cut at its front. -/
theorem IR.cut {w : World} {B n c out : Nat} {q : Option Addr} {l : List Int} (h : w.ownsRow B IT 1 (.slice q n c) n (ivs l)) (ho : out ≤ n) (qs : Option Addr) (hqs : (if c = out then q else Option.map (fun x => x.add out) q) = qs) (d : Nat) : IR w (.slice qs (n - out) d) (l.drop out) := by
  have hl : n = l.length := by have := h.1; rw [ivs_length] at this; omega
  refine ⟨qs, d, by rw [List.length_drop, hl], fun j x hj => ?_⟩
  rw [List.getElem?_drop] at hj
  have hjl : out + j < l.length := (List.getElem?_eq_some_iff.1 hj).1
  rcases h.2 with ⟨h0, h1⟩ | ⟨g, cap, cur, hv, _, _, hnc, _⟩
  · omega
  · have hv' : q = some ⟨g, 0, none⟩ ∧ c = cap := by simpa using hv
    obtain ⟨rfl, rfl⟩ := hv'
    rw [if_neg (by omega)] at hqs
    have e1 : (⟨g, 0, none⟩ : Addr).add out = ⟨g, out, none⟩ := by unfold Addr.add; split <;> simp_all
    simp only [Option.map_some, e1] at hqs
    refine ⟨g, out, hqs.symm, ?_⟩
    exact (h.cellAt (out + j) (by omega)).trans (ivs_get hj)

end Go.Proofs.YtpcpdehnppfbfaaGreat


/- Ready: who has signals for one, of two lanes. -/
namespace Go.Proofs.YtpcpdehnppfbfaaGreat
open Go.RowKit Go.Lib Go.Maps
attribute [local go_sem] store_float f64bits
attribute [local go_sem ↓] Go.wp_at_zero Go.wp_at_succ

theorem less_any (x y : Int) (w : World) : Calls Tryz.prog 60 #[.int .i64 x, .int .i64 y] w fun e w' => e = .returned (.bool (decide (x < y))) ∧ w' = w := by
  have NN := hidb isNaN_any
  go_enter Tryz.func60, Tryz.ntmps60
  go_wp2_with (go_at_call 52; refine (NN.out _ _).mono ?_; rintro e w1 ⟨rfl, rfl⟩)
  go_ret
  exact ⟨rfl, rfl⟩

set_option maxHeartbeats 1000000 in
theorem insertion2 (g cap : Nat) (a b : Int) (w : World) (h : w.ownsRow 0 IT 1 (.slice (some ⟨g, 0, none⟩) 2 cap) 2 [.int .i64 a, .int .i64 b]) : Calls Tryz.prog 54 #[.slice (some ⟨g, 0, none⟩) 2 cap, .int .i64 0, .int .i64 2] w fun e w' => e = .returned (.tuple #[]) ∧ w'.ownsRow 0 IT 1 (.slice (some ⟨g, 0, none⟩) 2 cap) 2 [.int .i64 (min a b), .int .i64 (max a b)] ∧ But (fun k => k = g) w w' := by
  have LE := hidb less_any
  have c0 := h.cellAt 0 (by omega)
  have c1 := h.cellAt 1 (by omega)
  have f0 := h.frozenAt 0
  have f1 := h.frozenAt 1
  simp at c0 c1
  have HO := hidb h
  clear h
  go_enter Tryz.func54, Tryz.ntmps54
  go_wp2_with fail
  go_loopw [6] (fun iv wr => (iv = .int .i64 1 ∧ wr = w) ∨ (iv = .int .i64 2 ∧ wr.ownsRow 0 IT 1 (.slice (some ⟨g, 0, none⟩) 2 cap) 2 [.int .i64 (min a b), .int .i64 (max a b)] ∧ But (fun k => k = g) w wr)) (fun iv _ => 2 - (intOf iv).toNat)
  case atStart => exact .inl ⟨rfl, rfl⟩
  case round =>
  rcases hrel with ⟨rfl, hw⟩ | ⟨rfl, ho, hb⟩
  · obtain rfl := hw.symm
    clear hw
    go_wp2_with fail
    go_loopw [7] (fun jv wr => (jv = .int .i64 1 ∧ wr = w) ∨ (b < a ∧ jv = .int .i64 0 ∧ wr.ownsRow 0 IT 1 (.slice (some ⟨g, 0, none⟩) 2 cap) 2 [.int .i64 b, .int .i64 a] ∧ But (fun k => k = g) w wr)) (fun jv _ => (intOf jv).toNat)
    case atStart => exact .inl ⟨rfl, rfl⟩
    case round =>
    rcases hrel with ⟨rfl, hw⟩ | ⟨hlt, rfl, ho, hb⟩
    · obtain rfl := hw.symm
      clear hw
      by_cases hba : b < a
      · have hd : decide (b < a) = true := by simp [hba]
        go_wp2_with fail
        go_quiet ((go_at_call 60; exact Calls.quiet_of_same (LE.out _ _ _)))
        go_wp2_with fail
        have hN := below_drewN (Below.refl w.heap.size w) nq
        have hgl : g < w.heap.size := World.block_lt_of_cell? w _ c0
        have k0 := (hN.cell (p := ⟨g, 0, none⟩) hgl).trans c0
        have k1 := (hN.cell (p := ⟨g, 1, none⟩) hgl).trans c1
        have j0 := (hN.frozen (p := ⟨g, 0, none⟩) hgl).trans f0
        have j1 := (hN.frozen (p := ⟨g, 1, none⟩) hgl).trans f1
        have HO2 := hidb (row_but HO.out (But.of_below (S := fun _ => False) hN) (fun _ _ h => h))
        have HB2 := hidb (But.of_below (S := fun k => k = g) hN)
        generalize w.drewN nq = W at *
        clear hN
        go_region
        all_goals go_wp2_with fail
        go_roundw
        case rel =>
          have s1 := (HO2.out.stored 1 (.int .i64 a)).1
          have s2 := (s1.stored 0 (.int .i64 b)).1
          exact .inr ⟨hba, rfl, s2.drew, ((HB2.out.setCell (p := ⟨g, 1, none⟩) (fun _ => rfl) _).setCell (p := ⟨g, 0, none⟩) (fun _ => rfl) _).drew⟩
        case measure => simp [intOf]
      · have hd : decide (b < a) = false := by simp [hba]
        go_wp2_with fail
        go_quiet ((go_at_call 60; exact Calls.quiet_of_same (LE.out _ _ _)))
        go_wp2_with fail
        have hN := below_drewN (Below.refl w.heap.size w) nq
        refine ⟨.inr ⟨rfl, ?_, But.of_below hN⟩, by simp [intOf]⟩
        rw [show min a b = a by omega, show max a b = b by omega]
        exact row_but HO.out (But.of_below (S := fun _ => False) hN) (fun _ _ h => h)
    · have HOO := hidb ho
      have HBB := hidb hb
      have HLT := hidb hlt
      clear ho hb hlt
      go_wp2_with fail
      go_quiet (fail)
      go_wp2_with fail
      have hN := below_drewN (Below.refl wr.heap.size wr) nq
      have hlt := HLT.out
      refine ⟨.inr ⟨rfl, ?_, HBB.out.trans (But.of_below hN)⟩, by simp [intOf]⟩
      rw [show min a b = b by omega, show max a b = a by omega]
      exact row_but HOO.out (But.of_below (S := fun _ => False) hN) (fun _ _ h => h)
  · have HOO := hidb ho
    have HBB := hidb hb
    clear ho hb
    go_wp2_with fail
    exact bodyPost_end (by simp [results, Tryz.results54]) rfl ⟨rfl, HOO.out, HBB.out⟩
end Go.Proofs.YtpcpdehnppfbfaaGreat


