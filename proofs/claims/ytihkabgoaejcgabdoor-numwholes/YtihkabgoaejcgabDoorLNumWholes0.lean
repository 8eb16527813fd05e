/- The walk of NumWholes over what its calls tell. -/
import Derived.Test.YtihkabgoaejcgabDoorX6
import Derived.Test.YtihkabgoaejcgabDoorY2
import Derived.Deep.DrawnRows
namespace Go.Proofs.YtihkabgoaejcgabDoor
open Go.RowKit
attribute [local go_sem] store_float
attribute [local go_sem ↓] Go.wp_at_zero Go.wp_at_succ

set_option maxRecDepth 100000 in
set_option maxHeartbeats 4000000 in
theorem wholes_none (u : Nat) (hu : u < 18446744073709551616) (h : Flt.fin u = false) (w : World) (ht : w.cell? ⟨4, 15, none⟩ = some (.int .u8 4)) :
    Calls Tryd.prog 5 #[.int .u64 u] w fun e w' => e = .returned (.bool true) ∧ Below w.heap.size w w' := by
  have nb : numBits u = ⟨0, 0, 0, 11⟩ := by simp [numBits, h]
  have HU := hid hu
  clear h hu
  go_enter Tryd.func5, Tryd.ntmps5
  go_wp2_with fail
  refine (known_any _ ht).mono ?_
  rintro e w1 ⟨rfl, hb1⟩
  go_wp2_with fail
  refine (numBits_any u HU.out _).mono ?_
  rintro e w2 ⟨rfl, hb2⟩
  rw [nb]
  have hW2 := bthen hb1 hb2
  clear hb1 hb2
  go_wp2
  go_ret
  exact ⟨rfl, below_a1 hW2 _⟩

/-- a box laid, draws made, a call -/
theorem boxDrew {w w3 w4 : World} {o : Obj} {n : Nat} (hW : Below w.heap.size w w3) (hb : Below ((w3.alloc o).drewN n).heap.size ((w3.alloc o).drewN n) w4) : Below w3.heap.size w3 w4 ∧ Below w.heap.size w w4 := by
  have e : Below w3.heap.size w3 ((w3.alloc o).drewN n) := below_drewN (below_new w3 o) n
  exact ⟨e.trans (hb.mono e.size), (hW.trans (e.mono hW.size)).trans (hb.mono (Nat.le_trans hW.size e.size))⟩

-- END OF HEAD
set_option maxRecDepth 100000 in
set_option maxHeartbeats 4000000 in
theorem wholes_e1 (u : Nat) (hu : u < 18446744073709551616) (h : Flt.fin u = true) (hi : Int) (WF : ∀ w, Calls Tryd.prog 17 #[.string ⟨#[102, 108, 111, 111, 114]⟩, .agg #[.int .i64 (2), .int .i64 (0), .float .f64 (u), .string ⟨#[]⟩, .slice none 0 0]] w fun e w' => e = .returned (.tuple #[.agg #[.int .i64 (0), .int .i64 (0), .float .f64 (0), .string ⟨#[]⟩, .slice none 0 0], .int .i64 12]) ∧ Below w.heap.size w w') (WC : ∀ w, Calls Tryd.prog 17 #[.string ⟨#[99, 101, 105, 108]⟩, .agg #[.int .i64 (2), .int .i64 (0), .float .f64 (u), .string ⟨#[]⟩, .slice none 0 0]] w fun e w' => e = .returned (.tuple #[.agg #[.int .i64 ((numInt hi).k), .int .i64 ((numInt hi).n), .float .f64 ((numInt hi).f), .string ⟨#[]⟩, .slice none 0 0], .int .i64 (numInt hi).e]) ∧ Below w.heap.size w w') (z : Nat) (S1 : ∀ w, Calls Tryd.prog 18 #[.float .f64 u] w fun e w' => e = .returned (.float .f64 z) ∧ w' = w) (o : FloatKind.f64.format.order z 4872894796814876672 = some .gt ∨ FloatKind.f64.format.order z 4872894796814876672 = some .eq) (w : World) (ht : w.cell? ⟨4, 15, none⟩ = some (.int .u8 4)) :
    Calls Tryd.prog 5 #[.int .u64 u] w fun e w' => e = .returned (.bool true) ∧ Below w.heap.size w w' := by
  have HWF := hid WF
  clear WF
  have HWC := hid WC
  clear WC
  have HS1 := hid S1
  clear S1
  rcases o with o | o
  all_goals
    have nb : numBits u = ⟨2, 0, u, 0⟩ := by simp [numBits, h]
    have HU := hid hu
    clear h hu
    go_enter Tryd.func5, Tryd.ntmps5
    go_wp2_with fail
    refine (known_any _ ht).mono ?_
    rintro e w1 ⟨rfl, hb1⟩
    go_wp2_with fail
    refine (numBits_any u HU.out _).mono ?_
    rintro e w2 ⟨rfl, hb2⟩
    rw [nb]
    have hW2 := bthen hb1 hb2
    clear hb1 hb2 nb
    go_wp2_with fail
    refine (HWF.out _).mono ?_
    rintro e w3 ⟨rfl, hb⟩
    obtain ⟨BA, hk, hW3⟩ := boxStep hW2 hb
    have HA := hid BA
    clear BA hb hW2
    clear hk
    obtain ⟨A0, A1, A2, A3, A4, _, _, _, _, _, Al⟩ := HA.out
    go_wp2_with fail
    refine (HWC.out _).mono ?_
    rintro e w4 ⟨rfl, hb⟩
    have KA := hid (HA.out.keep (boxStep hW3 hb).2.1)
    clear A0 A1 A2 A3 A4 Al HA
    have HA := KA
    clear KA
    obtain ⟨BL, hk, hW4⟩ := boxStep hW3 hb
    have HL := hid BL
    clear BL hb hW3
    clear hk
    obtain ⟨A0, A1, A2, A3, A4, _, _, _, _, _, Al⟩ := HA.out
    go_wp2_with fail
    refine (HS1.out _).mono ?_
    rintro e w' ⟨rfl, rfl⟩
    go_wp2
    go_ret
    exact ⟨rfl, by (first | exact hW4 | exact below_a1 hW4 _)⟩

set_option maxRecDepth 100000 in
set_option maxHeartbeats 4000000 in
theorem wholes_e2 (u : Nat) (hu : u < 18446744073709551616) (h : Flt.fin u = true) (lo : Int) (WF : ∀ w, Calls Tryd.prog 17 #[.string ⟨#[102, 108, 111, 111, 114]⟩, .agg #[.int .i64 (2), .int .i64 (0), .float .f64 (u), .string ⟨#[]⟩, .slice none 0 0]] w fun e w' => e = .returned (.tuple #[.agg #[.int .i64 (1), .int .i64 (lo), .float .f64 (0), .string ⟨#[]⟩, .slice none 0 0], .int .i64 0]) ∧ Below w.heap.size w w') (WC : ∀ w, Calls Tryd.prog 17 #[.string ⟨#[99, 101, 105, 108]⟩, .agg #[.int .i64 (2), .int .i64 (0), .float .f64 (u), .string ⟨#[]⟩, .slice none 0 0]] w fun e w' => e = .returned (.tuple #[.agg #[.int .i64 (0), .int .i64 (0), .float .f64 (0), .string ⟨#[]⟩, .slice none 0 0], .int .i64 12]) ∧ Below w.heap.size w w') (z : Nat) (S1 : ∀ w, Calls Tryd.prog 18 #[.float .f64 u] w fun e w' => e = .returned (.float .f64 z) ∧ w' = w) (o : FloatKind.f64.format.order z 4872894796814876672 = some .gt ∨ FloatKind.f64.format.order z 4872894796814876672 = some .eq) (w : World) (ht : w.cell? ⟨4, 15, none⟩ = some (.int .u8 4)) :
    Calls Tryd.prog 5 #[.int .u64 u] w fun e w' => e = .returned (.bool true) ∧ Below w.heap.size w w' := by
  have HWF := hid WF
  clear WF
  have HWC := hid WC
  clear WC
  have HS1 := hid S1
  clear S1
  rcases o with o | o
  all_goals
    have nb : numBits u = ⟨2, 0, u, 0⟩ := by simp [numBits, h]
    have HU := hid hu
    clear h hu
    go_enter Tryd.func5, Tryd.ntmps5
    go_wp2_with fail
    refine (known_any _ ht).mono ?_
    rintro e w1 ⟨rfl, hb1⟩
    go_wp2_with fail
    refine (numBits_any u HU.out _).mono ?_
    rintro e w2 ⟨rfl, hb2⟩
    rw [nb]
    have hW2 := bthen hb1 hb2
    clear hb1 hb2 nb
    go_wp2_with fail
    refine (HWF.out _).mono ?_
    rintro e w3 ⟨rfl, hb⟩
    obtain ⟨BA, hk, hW3⟩ := boxStep hW2 hb
    have HA := hid BA
    clear BA hb hW2
    clear hk
    obtain ⟨A0, A1, A2, A3, A4, _, _, _, _, _, Al⟩ := HA.out
    go_wp2_with fail
    refine (HWC.out _).mono ?_
    rintro e w4 ⟨rfl, hb⟩
    have KA := hid (HA.out.keep (boxStep hW3 hb).2.1)
    clear A0 A1 A2 A3 A4 Al HA
    have HA := KA
    clear KA
    obtain ⟨BL, hk, hW4⟩ := boxStep hW3 hb
    have HL := hid BL
    clear BL hb hW3
    clear hk
    obtain ⟨A0, A1, A2, A3, A4, _, _, _, _, _, Al⟩ := HA.out
    go_wp2_with fail
    refine (HS1.out _).mono ?_
    rintro e w' ⟨rfl, rfl⟩
    go_wp2
    go_ret
    exact ⟨rfl, by (first | exact hW4 | exact below_a1 hW4 _)⟩

end Go.Proofs.YtihkabgoaejcgabDoor
