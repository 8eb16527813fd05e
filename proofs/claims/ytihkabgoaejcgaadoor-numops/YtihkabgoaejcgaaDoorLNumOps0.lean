/- The walk of NumOps over what its calls tell. -/
import Derived.Test.YtihkabgoaejcgaaDoorK1
import Derived.Test.YtihkabgoaejcgaaDoorX3
import Derived.Deep.DrawnRows
namespace Go.Proofs.YtihkabgoaejcgaaDoor
open Go.RowKit
attribute [local go_sem] store_float
attribute [local go_sem ↓] Go.wp_at_zero Go.wp_at_succ

theorem two_boxes {w w1 : World} {t1 t2 : TypeId} {a0 a1 a2 a3 a4 b0 b1 b2 b3 b4 : Value}
    (hb : Below ((w.alloc (.cells #[a0, a1, a2, a3, a4] t1)).alloc (.cells #[b0, b1, b2, b3, b4] t2)).heap.size ((w.alloc (.cells #[a0, a1, a2, a3, a4] t1)).alloc (.cells #[b0, b1, b2, b3, b4] t2)) w1) :
    Box w1 w.heap.size a0 a1 a2 a3 a4 ∧ Box w1 (w.heap.size + 1) b0 b1 b2 b3 b4 ∧ Below w.heap.size w w1 := by
  have e1 : (w.alloc (.cells #[a0, a1, a2, a3, a4] t1)).heap.size = w.heap.size + 1 := by simp
  refine ⟨((Box.new w t1 a0 a1 a2 a3 a4).alloc _).keep hb, ?_, ((below_new w _).alloc (by simp) _).trans (hb.mono (by simp; omega))⟩
  rw [← e1]; exact (Box.new _ _ _ _ _ _ _).keep hb

theorem cell_two {w : World} {S j : Nat} {v : Value} (h : w.cell? ⟨S, j, none⟩ = some v) : ∀ o1 o2, ((w.alloc o1).alloc o2).cell? ⟨S, j, none⟩ = some v := by
  have k : ∀ (w : World) (o : Obj), w.cell? ⟨S, j, none⟩ = some v → (w.alloc o).cell? ⟨S, j, none⟩ = some v := fun w o h => by rw [(below_new w o).cell (block_lt_of_cell h)]; exact h
  exact fun o1 o2 => k _ _ (k _ _ h)

set_option maxHeartbeats 4000000 in
theorem ops_long (g : ByteArray) (ka na : Int) (fa : Nat) (sa : ByteArray) (aa : Option Addr) (la ca : Nat) (kb nb : Int) (fb : Nat) (sb : ByteArray) (ab : Option Addr) (lb cb : Nat) (hg : 1000 < g.size) (w : World) (ht : w.cell? ⟨4, 15, none⟩ = some (.int .u8 4)) :
    Calls Tryd.prog 4 #[.string g, .agg #[.int .i64 ka, .int .i64 na, .float .f64 fa, .string sa, .slice aa la ca], .agg #[.int .i64 kb, .int .i64 nb, .float .f64 fb, .string sb, .slice ab lb cb]] w fun e w' => e = .returned (.bool true) ∧ Below w.heap.size w w' := by
  have htl := cell_two ht
  clear ht
  go_enter Tryd.func4, Tryd.ntmps4
  go_wp2_with fail
  refine (known_any _ (htl _ _)).mono ?_
  rintro e w1 ⟨rfl, hb⟩
  obtain ⟨_, _, hW1⟩ := two_boxes hb
  clear hb htl
  go_wp2
  go_ret
  exact ⟨rfl, hW1⟩

set_option maxHeartbeats 4000000 in
theorem ops_walk (g : ByteArray) (ka na : Int) (fa : Nat) (sa : ByteArray) (aa : Option Addr) (la ca : Nat) (kb nb : Int) (fb : Nat) (sb : ByteArray) (ab : Option Addr) (lb cb : Nat) (hg : g.size ≤ 1000) (r : R)
    (N : ∀ w, Calls Tryd.prog 17 #[.string g, .agg #[.int .i64 ka, .int .i64 na, .float .f64 fa, .string sa, .slice aa la ca], .agg #[.int .i64 kb, .int .i64 nb, .float .f64 fb, .string sb, .slice ab lb cb]] w fun e w' => e = .returned (.tuple #[.agg #[.int .i64 (r.k), .int .i64 (r.n), .float .f64 (r.f), .string ⟨#[]⟩, .slice none 0 0], .int .i64 r.e]) ∧ Below w.heap.size w w')
    (M : ∀ w, Calls Tryd.prog 18 #[.string g, .agg #[.int .i64 ka, .int .i64 na, .float .f64 fa, .string sa, .slice aa la ca], .agg #[.int .i64 kb, .int .i64 nb, .float .f64 fb, .string sb, .slice ab lb cb]] w fun e w' => e = .returned (.tuple #[.agg #[.int .i64 (r.k), .int .i64 (r.n), .float .f64 (r.f), .string ⟨#[]⟩, .slice none 0 0], .int .i64 r.e]) ∧ Below w.heap.size w w')
    (w : World) (ht : w.cell? ⟨4, 15, none⟩ = some (.int .u8 4)) :
    Calls Tryd.prog 4 #[.string g, .agg #[.int .i64 ka, .int .i64 na, .float .f64 fa, .string sa, .slice aa la ca], .agg #[.int .i64 kb, .int .i64 nb, .float .f64 fb, .string sb, .slice ab lb cb]] w fun e w' => e = .returned (.bool true) ∧ Below w.heap.size w w' := by
  have HN := hid N
  have HM := hid M
  clear N M
  have htl := cell_two ht
  clear ht
  go_enter Tryd.func4, Tryd.ntmps4
  go_wp2_with fail
  refine (known_any _ (htl _ _)).mono ?_
  rintro e w1 ⟨rfl, hb⟩
  obtain ⟨BA, BB, hW1⟩ := two_boxes hb
  have HA := hid BA
  have HB := hid BB
  clear hb htl BA BB
  obtain ⟨A0, A1, A2, A3, A4, _, _, _, _, _, Al⟩ := HA.out
  obtain ⟨B0, B1, B2, B3, B4, _, _, _, _, _, Bl⟩ := HB.out
  go_wp2_with fail
  refine (HN.out _).mono ?_
  rintro e w2 ⟨rfl, hb⟩
  clear A0 A1 A2 A3 A4 Al B0 B1 B2 B3 B4 Bl
  have hW2 := bthen hW1 hb
  obtain ⟨A0, A1, A2, A3, A4, _, _, _, _, _, Al⟩ := HA.out.keep hb
  obtain ⟨B0, B1, B2, B3, B4, _, _, _, _, _, Bl⟩ := HB.out.keep hb
  clear hb hW1 HA HB
  go_wp2_with fail
  refine (HM.out _).mono ?_
  rintro e w3 ⟨rfl, hb⟩
  clear A0 A1 A2 A3 A4 Al B0 B1 B2 B3 B4 Bl
  obtain ⟨BX, hk, hW3⟩ := boxStep hW2 hb
  clear hb hk hW2
  obtain ⟨X0, X1, X2, X3, X4, _, _, _, _, _, Xl⟩ := BX
  go_wp2_with fail
  refine (same_true _ _ _ _).mono ?_
  rintro e w4 ⟨rfl, hb⟩
  obtain ⟨_, _, hW4⟩ := boxStep hW3 hb
  clear X0 X1 X2 X3 X4 Xl hb hW3
  go_wp2
  go_ret
  exact ⟨rfl, hW4⟩
end Go.Proofs.YtihkabgoaejcgaaDoor
