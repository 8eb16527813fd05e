import Derived.Test.YtpcpdehnppfbfaaGreatG04
import Derived.Test.YtpcpdehnppfbfaaGreatG08
/- No whole number is not a number. -/
namespace Go.Proofs.YtpcpdehnppfbfaaGreat
open Go.RowKit Go.Lib Go.Maps
attribute [local go_sem] store_float f64bits
attribute [local go_sem ↓] Go.wp_at_zero Go.wp_at_succ

theorem isNaN_any (x : Int) (w : World) : Calls Tryz.prog 52 #[.int .i64 x] w fun e w' => e = .returned (.bool false) ∧ w' = w := by
  go_enter Tryz.func52, Tryz.ntmps52
  go_wp2
  go_ret
  exact ⟨rfl, rfl⟩

end Go.Proofs.YtpcpdehnppfbfaaGreat


/- compareEnds tells a number. -/
namespace Go.Proofs.YtpcpdehnppfbfaaGreat
open Go.RowKit Go.Lib Go.Maps
attribute [local go_sem] store_float f64bits
attribute [local go_sem ↓] Go.wp_at_zero Go.wp_at_succ

theorem cell_drew (w : World) (p : Addr) : w.drew.cell? p = w.cell? p := rfl
def cmpI (x y : Int) : Int := if x < y then -1 else if y < x then 1 else 0
theorem compare_any (x y : Int) (w : World) : Calls Tryz.prog 41 #[.int .i64 x, .int .i64 y] w fun e w' => e = .returned (.int .i64 (cmpI x y)) ∧ w' = w := by
  have NN := hidb isNaN_any
  by_cases h1 : x < y
  · have e : cmpI x y = -1 := by simp [cmpI, h1]
    rw [e]
    clear e
    go_enter Tryz.func41, Tryz.ntmps41
    go_wp2_with (go_at_call 52; refine (NN.out _ _).mono ?_; rintro e w1 ⟨rfl, rfl⟩)
    all_goals go_ret
    all_goals exact ⟨rfl, rfl⟩
  by_cases h2 : y < x
  · have e : cmpI x y = 1 := by simp [cmpI, h1, h2]
    rw [e]
    clear e
    go_enter Tryz.func41, Tryz.ntmps41
    go_wp2_with (go_at_call 52; refine (NN.out _ _).mono ?_; rintro e w1 ⟨rfl, rfl⟩)
    all_goals go_ret
    all_goals exact ⟨rfl, rfl⟩
  have e : cmpI x y = 0 := by simp [cmpI, h1, h2]
  rw [e]
  clear e
  go_enter Tryz.func41, Tryz.ntmps41
  go_wp2_with (go_at_call 52; refine (NN.out _ _).mono ?_; rintro e w1 ⟨rfl, rfl⟩)
  all_goals go_ret
  all_goals exact ⟨rfl, rfl⟩

set_option maxHeartbeats 1000000 in
theorem or_two (g c : Nat) (x y : Int) (w : World) (h0 : w.cell? ⟨g, 0, none⟩ = some (.int .i64 x)) (h1 : w.cell? ⟨g, 1, none⟩ = some (.int .i64 y)) : Calls Tryz.prog 40 #[.slice (some ⟨g, 0, none⟩) 2 c] w fun e w' => (∃ c : Int, e = .returned (.int .i64 c)) ∧ Below w.heap.size w w' := by
  go_enter Tryz.func40, Tryz.ntmps40
  go_wp2_with fail
  go_loopw [8] (fun iv wr => ∃ m : Nat, m ≤ 2 ∧ iv = .int .i64 m ∧ Below w.heap.size w wr) (fun iv _ => 2 - (RowKit.intOf iv).toNat)
  case atStart => exact ⟨0, by omega, rfl, Below.refl _ _⟩
  case round =>
  obtain ⟨m, hm, rfl, hb⟩ := hrel
  have k0 := (hb.cell (World.block_lt_of_cell? w _ h0)).trans h0
  have k1 := (hb.cell (World.block_lt_of_cell? w _ h1)).trans h1
  have HB := hidb hb
  clear hb h0 h1
  obtain rfl | rfl | rfl : m = 0 ∨ m = 1 ∨ m = 2 := by omega
  · by_cases hz : x = 0
    · have hz1 : (x == 0) = true := by simp [hz]
      subst hz
      go_wp2_with fail
      go_roundw
      case rel => exact ⟨1, by omega, by go_num, HB.out⟩
      case measure => simp [RowKit.intOf]
    · have hz1 : (x == 0) = false := by simp [hz]
      go_wp2_with fail
      go_ret
      exact ⟨⟨_, rfl⟩, HB.out⟩
  · by_cases hz : y = 0
    · subst hz
      go_wp2_with fail
      go_roundw
      case rel => exact ⟨2, by omega, by go_num, HB.out⟩
      case measure => simp [RowKit.intOf]
    · have hz1 : (y == 0) = false := by simp [hz]
      go_wp2_with fail
      go_ret
      exact ⟨⟨_, rfl⟩, HB.out⟩
  · go_wp2_with fail
    go_ret
    exact ⟨⟨_, rfl⟩, HB.out⟩

set_option maxHeartbeats 1000000 in
theorem compareEnds_any (a b c d : Int) (w : World) : Calls Tryz.prog 25 #[kv a b, kv c d] w fun e w' => (∃ c : Int, e = .returned (.int .i64 c)) ∧ Below w.heap.size w w' := by
  have CC := hidb compare_any
  have OO := hidb or_two
  unfold kv
  go_enter Tryz.func25, Tryz.ntmps25
  go_wp2_with fail
  have HB0 : Hid (Below w.heap.size w ((w.alloc (.cells #[.int .i64 a, .int .i64 b] 59)).alloc (.cells #[.int .i64 c, .int .i64 d] 59))) := hidb ((below_new w _).alloc (by simp) _)
  have p0 : (((w.alloc (.cells #[.int .i64 a, .int .i64 b] 59)).alloc (.cells #[.int .i64 c, .int .i64 d] 59)).alloc (.cells #[.int .i64 (cmpI a c), .int .i64 (cmpI b d)] 3)).drew.cell? ⟨w.heap.size + 1 + 1, 0, none⟩ = some (.int .i64 (cmpI a c)) := by rw [cell_drew]; simp [go_sem]
  have p1 : (((w.alloc (.cells #[.int .i64 a, .int .i64 b] 59)).alloc (.cells #[.int .i64 c, .int .i64 d] 59)).alloc (.cells #[.int .i64 (cmpI a c), .int .i64 (cmpI b d)] 3)).drew.cell? ⟨w.heap.size + 1 + 1, 1, none⟩ = some (.int .i64 (cmpI b d)) := by rw [cell_drew]; simp [go_sem]
  have p2 : (((w.alloc (.cells #[.int .i64 a, .int .i64 b] 59)).alloc (.cells #[.int .i64 c, .int .i64 d] 59)).alloc (.cells #[.int .i64 (cmpI a c), .int .i64 (cmpI b d)] 3)).drew.cell? ⟨w.heap.size, 0, none⟩ = some (.int .i64 (a)) := by rw [cell_drew]; simp [go_sem]
  have p3 : (((w.alloc (.cells #[.int .i64 a, .int .i64 b] 59)).alloc (.cells #[.int .i64 c, .int .i64 d] 59)).alloc (.cells #[.int .i64 (cmpI a c), .int .i64 (cmpI b d)] 3)).drew.cell? ⟨w.heap.size, 1, none⟩ = some (.int .i64 (b)) := by rw [cell_drew]; simp [go_sem]
  have p4 : (((w.alloc (.cells #[.int .i64 a, .int .i64 b] 59)).alloc (.cells #[.int .i64 c, .int .i64 d] 59)).alloc (.cells #[.int .i64 (cmpI a c), .int .i64 (cmpI b d)] 3)).drew.cell? ⟨w.heap.size + 1, 0, none⟩ = some (.int .i64 (c)) := by rw [cell_drew]; simp [go_sem]
  have p5 : (((w.alloc (.cells #[.int .i64 a, .int .i64 b] 59)).alloc (.cells #[.int .i64 c, .int .i64 d] 59)).alloc (.cells #[.int .i64 (cmpI a c), .int .i64 (cmpI b d)] 3)).drew.cell? ⟨w.heap.size + 1, 1, none⟩ = some (.int .i64 (d)) := by rw [cell_drew]; simp [go_sem]
  have HBW : Hid (Below w.heap.size w (((w.alloc (.cells #[.int .i64 a, .int .i64 b] 59)).alloc (.cells #[.int .i64 c, .int .i64 d] 59)).alloc (.cells #[.int .i64 (cmpI a c), .int .i64 (cmpI b d)] 3)).drew) := hidb ((((below_new w _).alloc (by simp) _).alloc (by simp; omega) _).drew)
  go_region_held3 (fun w' => w'.cell? ⟨w.heap.size, 0, none⟩ = some (.int .i64 a) ∧ w'.cell? ⟨w.heap.size, 1, none⟩ = some (.int .i64 b) ∧ w'.cell? ⟨w.heap.size + 1, 0, none⟩ = some (.int .i64 c) ∧ w'.cell? ⟨w.heap.size + 1, 1, none⟩ = some (.int .i64 d)) (first | with_reducible exact ⟨m2, m3, m4, m5⟩ | go_keep) (first
    | (go_at_call 41; refine (CC.out _ _ _).mono ?_; rintro e w1 ⟨rfl, rfl⟩)
    | (go_at_call 40; refine (OO.out _ _ _ _ _ p0 p1).mono ?_; rintro e w3 ⟨⟨q, rfl⟩, hb3⟩; have m2 := (hb3.cell (World.block_lt_of_cell? _ _ p2)).trans p2; have m3 := (hb3.cell (World.block_lt_of_cell? _ _ p3)).trans p3; have m4 := (hb3.cell (World.block_lt_of_cell? _ _ p4)).trans p4; have m5 := (hb3.cell (World.block_lt_of_cell? _ _ p5)).trans p5; have HB3 := hidb (HBW.out.trans (hb3.mono HBW.out.size)); clear hb3))
  all_goals go_wp2_with fail
  all_goals go_ret
  all_goals exact ⟨⟨_, rfl⟩, HB3.out⟩
end Go.Proofs.YtpcpdehnppfbfaaGreat


