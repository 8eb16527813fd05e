/- The walk of NumOne: it returns true, and nothing that was there has turned. -/
import Derived.Test.YtmmldghlellehacDoorN3
import Derived.Deep.DeepCutAuto
import Derived.Deep.DrawnRows
namespace Go.Proofs.YtmmldghlellehacDoor
open Go.RowKit
attribute [local go_sem] store_float
attribute [local go_sem ↓] Go.wp_at_zero Go.wp_at_succ

theorem cells_up {wr : World} {S j : Nat} {v : Value} (h : wr.cell? ⟨S, j, none⟩ = some v) : (∀ o1, (wr.alloc o1).cell? ⟨S, j, none⟩ = some v) ∧ (∀ o1 o2, ((wr.alloc o1).alloc o2).cell? ⟨S, j, none⟩ = some v) ∧ (∀ o1 o2 o3, (((wr.alloc o1).alloc o2).alloc o3).cell? ⟨S, j, none⟩ = some v) := by
  have k : ∀ (w : World) (o : Obj), w.cell? ⟨S, j, none⟩ = some v → (w.alloc o).cell? ⟨S, j, none⟩ = some v := fun w o h => by rw [(below_new w o).cell (block_lt_of_cell h)]; exact h
  exact ⟨fun o1 => k _ _ h, fun o1 o2 => k _ _ (k _ _ h), fun o1 o2 o3 => k _ _ (k _ _ (k _ _ h))⟩

theorem box_then {wr w3 : World} {o : Obj} (h : Below wr.heap.size wr w3) : Below wr.heap.size wr (w3.alloc o) := h.alloc h.size o

theorem from1 {wr w3 : World} {o1 : Obj} (hb : Below (wr.alloc o1).drew.heap.size (wr.alloc o1).drew w3) : Below wr.heap.size wr w3 :=
  ((below_new wr o1).drew).trans (hb.mono (by simp))
theorem from2 {wr w3 : World} {o1 o2 : Obj} (hb : Below ((wr.alloc o1).alloc o2).drew.heap.size ((wr.alloc o1).alloc o2).drew w3) : Below wr.heap.size wr w3 :=
  (((below_new wr o1).alloc (by simp) o2).drew).trans (hb.mono (by simp; omega))

theorem za {wr w3 : World} {o2 : Obj} {t : TypeId} {v0 v1 v2 v3 v4 : Value} (hb : Below ((wr.alloc (.cells #[v0, v1, v2, v3, v4] t)).alloc o2).drew.heap.size ((wr.alloc (.cells #[v0, v1, v2, v3, v4] t)).alloc o2).drew w3) (u0 u1 u2 u3 u4 : Value) :
    Box (((((w3.setCell ⟨wr.heap.size, 0, none⟩ u0).setCell ⟨wr.heap.size, 1, none⟩ u1).setCell ⟨wr.heap.size, 2, none⟩ u2).setCell ⟨wr.heap.size, 3, none⟩ u3).setCell ⟨wr.heap.size, 4, none⟩ u4) wr.heap.size u0 u1 u2 u3 u4 ∧ Below wr.heap.size wr (((((w3.setCell ⟨wr.heap.size, 0, none⟩ u0).setCell ⟨wr.heap.size, 1, none⟩ u1).setCell ⟨wr.heap.size, 2, none⟩ u2).setCell ⟨wr.heap.size, 3, none⟩ u3).setCell ⟨wr.heap.size, 4, none⟩ u4) :=
  ⟨((((Box.new wr t v0 v1 v2 v3 v4).alloc o2).drew).keep hb).set _ _ _ _ _, below_set5 (from2 hb) (Nat.le_refl _) _ _ _ _ _⟩

theorem zb {wr w3 : World} {o1 : Obj} {t : TypeId} {v0 v1 v2 v3 v4 : Value} (hb : Below ((wr.alloc o1).alloc (.cells #[v0, v1, v2, v3, v4] t)).drew.heap.size ((wr.alloc o1).alloc (.cells #[v0, v1, v2, v3, v4] t)).drew w3) (u0 u1 u2 u3 u4 : Value) :
    Box (((((w3.setCell ⟨wr.heap.size + 1, 0, none⟩ u0).setCell ⟨wr.heap.size + 1, 1, none⟩ u1).setCell ⟨wr.heap.size + 1, 2, none⟩ u2).setCell ⟨wr.heap.size + 1, 3, none⟩ u3).setCell ⟨wr.heap.size + 1, 4, none⟩ u4) (wr.heap.size + 1) u0 u1 u2 u3 u4 ∧ Below wr.heap.size wr (((((w3.setCell ⟨wr.heap.size + 1, 0, none⟩ u0).setCell ⟨wr.heap.size + 1, 1, none⟩ u1).setCell ⟨wr.heap.size + 1, 2, none⟩ u2).setCell ⟨wr.heap.size + 1, 3, none⟩ u3).setCell ⟨wr.heap.size + 1, 4, none⟩ u4) := by
  have k := ((Box.new (wr.alloc o1) t v0 v1 v2 v3 v4).drew).keep hb
  rw [show (wr.alloc o1).heap.size = wr.heap.size + 1 by simp] at k
  exact ⟨k.set _ _ _ _ _, below_set5 (from2 hb) (by omega) _ _ _ _ _⟩

set_option maxHeartbeats 1000000 in
theorem numOne_no (k n : Int) (f : Nat) (s : ByteArray) (a : Option Addr) (l c : Nat) (hr : rightB k n f s l = false) (w : World) (ht : w.cell? ⟨4, 15, none⟩ = some (.int .u8 4)) :
    Calls Tryd.prog 3 #[.agg #[.int .i64 k, .int .i64 n, .float .f64 f, .string s, .slice a l c]] w fun e w' => e = .returned (.bool true) ∧ Below w.heap.size w w' := by
  have HR := hid hr
  clear hr
  have htl : ∀ o, (w.alloc o).cell? ⟨4, 15, none⟩ = some (.int .u8 4) := fun o => by rw [(below_new w o).cell (block_lt_of_cell ht)]; exact ht
  clear ht
  go_enter Tryd.func3, Tryd.ntmps3
  go_wp2_with fail
  refine (known_any _ (htl _)).mono ?_
  rintro e w1 ⟨rfl, hb⟩
  have BA := (Box.new _ _ _ _ _ _ _).keep hb
  have hW : Below w.heap.size w w1 := (below_new w _).trans (hb.mono (by simp))
  obtain ⟨A0, A1, A2, A3, A4, _, _, _, _, _, Al⟩ := BA
  clear hb htl
  go_wp2_with fail
  refine (clean_no k n f s a l c HR.out _).mono ?_
  rintro e w2 ⟨rfl, hb2⟩
  clear A0 A1 A2 A3 A4 Al
  go_wp2
  go_ret
  exact ⟨rfl, bthen hW hb2⟩

set_option maxRecDepth 100000 in
set_option maxHeartbeats 16000000 in
theorem numOne_yes (k n : Int) (f : Nat) (s : ByteArray) (a : Option Addr) (c : Nat) (hf : f < 18446744073709551616) (hs : s.toList.isEmpty = true) (hr : rightB k n f s 0 = true) (hm : ¬ (k = 1 ∧ n = -576460752303423488)) (w : World) (ht : w.cell? ⟨4, 15, none⟩ = some (.int .u8 4)) :
    Calls Tryd.prog 3 #[.agg #[.int .i64 k, .int .i64 n, .float .f64 f, .string s, .slice a 0 c]] w fun e w' => e = .returned (.bool true) ∧ Below w.heap.size w w' := by
  obtain ⟨n', f', hn1, hn2⟩ := neg_pair hf hr hm
  have HN1 := hid hn1
  have HN2 := hid hn2
  clear hn1 hn2 hm
  have HRT := hid hr
  have HS := hid hs
  clear hr hs
  have htl : ∀ o, (w.alloc o).cell? ⟨4, 15, none⟩ = some (.int .u8 4) := fun o => by rw [(below_new w o).cell (block_lt_of_cell ht)]; exact ht
  clear ht
  go_enter Tryd.func3, Tryd.ntmps3
  go_wp2_with fail
  refine (known_any _ (htl _)).mono ?_
  rintro e w1 ⟨rfl, hb⟩
  have BA := (Box.new _ _ _ _ _ _ _).keep hb
  have hWw1 : Below w.heap.size w w1 := (below_new w _).trans (hb.mono (by simp))
  have HA := hid BA
  clear BA hb htl
  obtain ⟨A0, A1, A2, A3, A4, _, _, _, _, _, Al⟩ := HA.out
  go_wp2_with fail
  refine (clean_yes k n f s a 0 c HRT.out _).mono ?_
  rintro e w2 ⟨rfl, hb⟩
  clear A0 A1 A2 A3 A4 Al
  have hWw2 : Below w.heap.size w w2 := bthen hWw1 hb
  have KA := HA.out.keep hb
  clear HA
  have HA := hid KA
  clear KA
  clear hb hWw1
  obtain ⟨A0, A1, A2, A3, A4, _, _, _, _, _, Al⟩ := HA.out
  obtain ⟨Ab0, Ac0, _⟩ := cells_up A0
  obtain ⟨Ab1, Ac1, _⟩ := cells_up A1
  obtain ⟨Ab2, Ac2, _⟩ := cells_up A2
  obtain ⟨Ab3, Ac3, _⟩ := cells_up A3
  obtain ⟨Ab4, Ac4, _⟩ := cells_up A4
  go_wp2
  go_cut [3, 4] (fun z e wc => ∃ b, z = .pointer (some ⟨b, 0, none⟩) ∧ e = .int .i64 0 ∧ Box wc b (.int .i64 k) (.int .i64 n) (.float .f64 f) (.string ⟨#[]⟩) (.slice none 0 0) ∧ Below w2.heap.size w2 wc)
  case first =>
    go_region_with (first
      | (go_at_call 8; refine (i_at _ _).mono ?_; rintro e w' ⟨rfl, rfl⟩)
      | (go_at_call 7; refine (one_mul k n f s a 0 c hf HRT.out _).mono ?_; rintro e wz ⟨rfl, hbz⟩; obtain ⟨hcz, hfrz⟩ := bcell hbz))
    all_goals
      go_wp2_with fail
      go_meet
      case rel =>
        first
          | with_reducible exact ⟨_, rfl, rfl, Box.new _ _ _ _ _ _ _, box_then (from1 hbz)⟩
          | with_reducible exact ⟨_, rfl, rfl, (za hbz _ _ _ _ _).1, (za hbz _ _ _ _ _).2⟩
          | with_reducible exact ⟨_, rfl, rfl, (zb hbz _ _ _ _ _).1, (zb hbz _ _ _ _ _).2⟩
  case rest =>
  obtain ⟨bB, rfl, rfl, BB, hk⟩ := hcut
  clear A0 A1 A2 A3 A4 Al
  clear Ab0 Ac0 Ab1 Ac1 Ab2 Ac2 Ab3 Ac3 Ab4 Ac4
  have hWc : Below w.heap.size w wc := bthen hWw2 hk
  have KA := HA.out.keep hk
  clear HA
  have HA := hid KA
  clear KA
  have HB := hid BB
  clear BB hk hWw2
  generalize wc = w3 at *
  have hWw3 := hWc
  clear hWc
  obtain ⟨A0, A1, A2, A3, A4, _, _, _, _, _, Al⟩ := HA.out
  obtain ⟨Ab0, Ac0, _⟩ := cells_up A0
  obtain ⟨Ab1, Ac1, _⟩ := cells_up A1
  obtain ⟨Ab2, Ac2, _⟩ := cells_up A2
  obtain ⟨Ab3, Ac3, _⟩ := cells_up A3
  obtain ⟨Ab4, Ac4, _⟩ := cells_up A4
  go_wp2
  go_cut [5, 6] (fun z e wc => ∃ b, z = .pointer (some ⟨b, 0, none⟩) ∧ e = .int .i64 0 ∧ Box wc b (.int .i64 2) (.int .i64 0) (.float .f64 (realV k n f)) (.string ⟨#[]⟩) (.slice none 0 0) ∧ Below w3.heap.size w3 wc)
  case first =>
    go_region_with (first
      | (go_at_call 8; refine (i_at _ _).mono ?_; rintro e w' ⟨rfl, rfl⟩)
      | (go_at_call 7; refine (one_quo k n f s a 0 c hf HRT.out _).mono ?_; rintro e wz ⟨rfl, hbz⟩; obtain ⟨hcz, hfrz⟩ := bcell hbz))
    all_goals
      go_wp2_with fail
      go_meet
      case rel =>
        first
          | with_reducible exact ⟨_, rfl, rfl, Box.new _ _ _ _ _ _ _, box_then (from1 hbz)⟩
          | with_reducible exact ⟨_, rfl, rfl, (za hbz _ _ _ _ _).1, (za hbz _ _ _ _ _).2⟩
          | with_reducible exact ⟨_, rfl, rfl, (zb hbz _ _ _ _ _).1, (zb hbz _ _ _ _ _).2⟩
  case rest =>
  obtain ⟨bC, rfl, rfl, BC, hk⟩ := hcut
  clear A0 A1 A2 A3 A4 Al
  clear Ab0 Ac0 Ab1 Ac1 Ab2 Ac2 Ab3 Ac3 Ab4 Ac4
  have hWc : Below w.heap.size w wc := bthen hWw3 hk
  have KA := HA.out.keep hk
  have KB := HB.out.keep hk
  clear HA HB
  have HA := hid KA
  have HB := hid KB
  clear KA KB
  have HC := hid BC
  clear BC hk hWw3
  generalize wc = w4 at *
  have hWw4 := hWc
  clear hWc
  obtain ⟨A0, A1, A2, A3, A4, _, _, _, _, _, Al⟩ := HA.out
  obtain ⟨Ab0, Ac0, _⟩ := cells_up A0
  obtain ⟨Ab1, Ac1, _⟩ := cells_up A1
  obtain ⟨Ab2, Ac2, _⟩ := cells_up A2
  obtain ⟨Ab3, Ac3, _⟩ := cells_up A3
  obtain ⟨Ab4, Ac4, _⟩ := cells_up A4
  go_wp2
  go_cut [7, 8] (fun z e wc => ∃ b, z = .pointer (some ⟨b, 0, none⟩) ∧ e = .int .i64 0 ∧ Box wc b (.int .i64 k) (.int .i64 n) (.float .f64 f) (.string ⟨#[]⟩) (.slice none 0 0) ∧ Below w4.heap.size w4 wc)
  case first =>
    go_region_with (first
      | (go_at_call 8; refine (i_at _ _).mono ?_; rintro e w' ⟨rfl, rfl⟩)
      | (go_at_call 7; refine (one_sub k n f s a 0 c hf HRT.out _).mono ?_; rintro e wz ⟨rfl, hbz⟩; obtain ⟨hcz, hfrz⟩ := bcell hbz))
    all_goals
      go_wp2_with fail
      go_meet
      case rel =>
        first
          | with_reducible exact ⟨_, rfl, rfl, Box.new _ _ _ _ _ _ _, box_then (from1 hbz)⟩
          | with_reducible exact ⟨_, rfl, rfl, (za hbz _ _ _ _ _).1, (za hbz _ _ _ _ _).2⟩
          | with_reducible exact ⟨_, rfl, rfl, (zb hbz _ _ _ _ _).1, (zb hbz _ _ _ _ _).2⟩
  case rest =>
  obtain ⟨bD, rfl, rfl, BD, hk⟩ := hcut
  clear A0 A1 A2 A3 A4 Al
  clear Ab0 Ac0 Ab1 Ac1 Ab2 Ac2 Ab3 Ac3 Ab4 Ac4
  have hWc : Below w.heap.size w wc := bthen hWw4 hk
  have KA := HA.out.keep hk
  have KB := HB.out.keep hk
  have KC := HC.out.keep hk
  clear HA HB HC
  have HA := hid KA
  have HB := hid KB
  have HC := hid KC
  clear KA KB KC
  have HD := hid BD
  clear BD hk hWw4
  generalize wc = w5 at *
  have hWw5 := hWc
  clear hWc
  obtain ⟨A0, A1, A2, A3, A4, _, _, _, _, _, Al⟩ := HA.out
  go_wp2_with fail
  refine (one_real k n f s a 0 c hf HRT.out _).mono ?_
  rintro e w6 ⟨rfl, hb⟩
  clear A0 A1 A2 A3 A4 Al
  have hWw6 : Below w.heap.size w w6 := bthen hWw5 hb
  have KA := HA.out.keep hb
  have KB := HB.out.keep hb
  have KC := HC.out.keep hb
  have KD := HD.out.keep hb
  clear HA HB HC HD
  have HA := hid KA
  have HB := hid KB
  have HC := hid KC
  have HD := hid KD
  clear KA KB KC KD
  clear hb hWw5
  obtain ⟨B0, B1, B2, B3, B4, _, _, _, _, _, Bl⟩ := HB.out
  obtain ⟨A0, A1, A2, A3, A4, _, _, _, _, _, Al⟩ := HA.out
  go_wp2_with fail
  refine (same_ba k n f s a c HS.out _).mono ?_
  rintro e w7 ⟨rfl, hb⟩
  clear B0 B1 B2 B3 B4 Bl A0 A1 A2 A3 A4 Al
  obtain ⟨BR, hk, hWw7⟩ := boxStep hWw6 hb
  have KA := HA.out.keep hk
  have KB := HB.out.keep hk
  have KC := HC.out.keep hk
  have KD := HD.out.keep hk
  clear HA HB HC HD
  have HA := hid KA
  have HB := hid KB
  have HC := hid KC
  have HD := hid KD
  clear KA KB KC KD
  have HR := hid BR
  clear BR hk hb hWw6
  obtain ⟨C0, C1, C2, C3, C4, _, _, _, _, _, Cl⟩ := HC.out
  obtain ⟨R0, R1, R2, R3, R4, _, _, _, _, _, Rl⟩ := HR.out
  go_wp2_with fail
  refine (same_true _ _ _ _).mono ?_
  rintro e w8 ⟨rfl, hb⟩
  clear C0 C1 C2 C3 C4 Cl R0 R1 R2 R3 R4 Rl
  have hWw8 : Below w.heap.size w w8 := bthen hWw7 hb
  have KA := HA.out.keep hb
  have KB := HB.out.keep hb
  have KC := HC.out.keep hb
  have KD := HD.out.keep hb
  have KR := HR.out.keep hb
  clear HA HB HC HD HR
  have HA := hid KA
  have HB := hid KB
  have HC := hid KC
  have HD := hid KD
  have HR := hid KR
  clear KA KB KC KD KR
  clear hb hWw7
  obtain ⟨D0, D1, D2, D3, D4, _, _, _, _, _, Dl⟩ := HD.out
  obtain ⟨A0, A1, A2, A3, A4, _, _, _, _, _, Al⟩ := HA.out
  go_wp2_with fail
  refine (same_ba k n f s a c HS.out _).mono ?_
  rintro e w9 ⟨rfl, hb⟩
  clear D0 D1 D2 D3 D4 Dl A0 A1 A2 A3 A4 Al
  have hWw9 : Below w.heap.size w w9 := bthen hWw8 hb
  have KA := HA.out.keep hb
  have KB := HB.out.keep hb
  have KC := HC.out.keep hb
  have KD := HD.out.keep hb
  have KR := HR.out.keep hb
  clear HA HB HC HD HR
  have HA := hid KA
  have HB := hid KB
  have HC := hid KC
  have HD := hid KD
  have HR := hid KR
  clear KA KB KC KD KR
  clear hb hWw8
  clear HB HC HD
  obtain ⟨A0, A1, A2, A3, A4, _, _, _, _, _, Al⟩ := HA.out
  go_wp2_with fail
  refine (HN1.out a c _).mono ?_
  rintro e w10 ⟨rfl, hb⟩
  clear A0 A1 A2 A3 A4 Al
  have hWw10 : Below w.heap.size w w10 := bthen hWw9 hb
  have KA := HA.out.keep hb
  have KR := HR.out.keep hb
  clear HA HR
  have HA := hid KA
  have HR := hid KR
  clear KA KR
  clear hb hWw9
  go_wp2_with fail
  refine (HN2.out _).mono ?_
  rintro e w11 ⟨rfl, hb⟩
  obtain ⟨BN, hk, hWw11⟩ := boxStep hWw10 hb
  have KA := HA.out.keep hk
  have KR := HR.out.keep hk
  clear HA HR
  have HA := hid KA
  have HR := hid KR
  clear KA KR
  have HN := hid BN
  clear BN hk hb hWw10
  obtain ⟨A0, A1, A2, A3, A4, _, _, _, _, _, Al⟩ := HA.out
  go_wp2_with fail
  refine (same_ba k n f s a c HS.out _).mono ?_
  rintro e w12 ⟨rfl, hb⟩
  clear A0 A1 A2 A3 A4 Al
  obtain ⟨BM, hk, hWw12⟩ := boxStep hWw11 hb
  have KA := HA.out.keep hk
  have KR := HR.out.keep hk
  have KN := HN.out.keep hk
  clear HA HR HN
  have HA := hid KA
  have HR := hid KR
  have HN := hid KN
  clear KA KR KN
  have HM := hid BM
  clear BM hk hb hWw11
  go_wp2
  go_ret
  exact ⟨rfl, hWw12⟩

set_option maxRecDepth 100000 in
set_option maxHeartbeats 16000000 in
theorem numOne_min (f : Nat) (s : ByteArray) (a : Option Addr) (c : Nat) (hf : f < 18446744073709551616) (hs : s.toList.isEmpty = true) (hr : rightB 1 (-576460752303423488) f s 0 = true) (w : World) (ht : w.cell? ⟨4, 15, none⟩ = some (.int .u8 4)) :
    Calls Tryd.prog 3 #[.agg #[.int .i64 1, .int .i64 (-576460752303423488), .float .f64 f, .string s, .slice a 0 c]] w fun e w' => e = .returned (.bool true) ∧ Below w.heap.size w w' := by
  have HRT := hid hr
  have HS := hid hs
  clear hr hs
  have htl : ∀ o, (w.alloc o).cell? ⟨4, 15, none⟩ = some (.int .u8 4) := fun o => by rw [(below_new w o).cell (block_lt_of_cell ht)]; exact ht
  clear ht
  go_enter Tryd.func3, Tryd.ntmps3
  go_wp2_with fail
  refine (known_any _ (htl _)).mono ?_
  rintro e w1 ⟨rfl, hb⟩
  have BA := (Box.new _ _ _ _ _ _ _).keep hb
  have hWw1 : Below w.heap.size w w1 := (below_new w _).trans (hb.mono (by simp))
  have HA := hid BA
  clear BA hb htl
  obtain ⟨A0, A1, A2, A3, A4, _, _, _, _, _, Al⟩ := HA.out
  go_wp2_with fail
  refine (clean_yes 1 (-576460752303423488) f s a 0 c HRT.out _).mono ?_
  rintro e w2 ⟨rfl, hb⟩
  clear A0 A1 A2 A3 A4 Al
  have hWw2 : Below w.heap.size w w2 := bthen hWw1 hb
  have KA := HA.out.keep hb
  clear HA
  have HA := hid KA
  clear KA
  clear hb hWw1
  obtain ⟨A0, A1, A2, A3, A4, _, _, _, _, _, Al⟩ := HA.out
  obtain ⟨Ab0, Ac0, _⟩ := cells_up A0
  obtain ⟨Ab1, Ac1, _⟩ := cells_up A1
  obtain ⟨Ab2, Ac2, _⟩ := cells_up A2
  obtain ⟨Ab3, Ac3, _⟩ := cells_up A3
  obtain ⟨Ab4, Ac4, _⟩ := cells_up A4
  go_wp2
  go_cut [3, 4] (fun z e wc => ∃ b, z = .pointer (some ⟨b, 0, none⟩) ∧ e = .int .i64 0 ∧ Box wc b (.int .i64 1) (.int .i64 (-576460752303423488)) (.float .f64 f) (.string ⟨#[]⟩) (.slice none 0 0) ∧ Below w2.heap.size w2 wc)
  case first =>
    go_region_with (first
      | (go_at_call 8; refine (i_at _ _).mono ?_; rintro e w' ⟨rfl, rfl⟩)
      | (go_at_call 7; refine (one_mul 1 (-576460752303423488) f s a 0 c hf HRT.out _).mono ?_; rintro e wz ⟨rfl, hbz⟩; obtain ⟨hcz, hfrz⟩ := bcell hbz))
    all_goals
      go_wp2_with fail
      go_meet
      case rel =>
        first
          | with_reducible exact ⟨_, rfl, rfl, Box.new _ _ _ _ _ _ _, box_then (from1 hbz)⟩
          | with_reducible exact ⟨_, rfl, rfl, (za hbz _ _ _ _ _).1, (za hbz _ _ _ _ _).2⟩
          | with_reducible exact ⟨_, rfl, rfl, (zb hbz _ _ _ _ _).1, (zb hbz _ _ _ _ _).2⟩
  case rest =>
  obtain ⟨bB, rfl, rfl, BB, hk⟩ := hcut
  clear A0 A1 A2 A3 A4 Al
  clear Ab0 Ac0 Ab1 Ac1 Ab2 Ac2 Ab3 Ac3 Ab4 Ac4
  have hWc : Below w.heap.size w wc := bthen hWw2 hk
  have KA := HA.out.keep hk
  clear HA
  have HA := hid KA
  clear KA
  have HB := hid BB
  clear BB hk hWw2
  generalize wc = w3 at *
  have hWw3 := hWc
  clear hWc
  obtain ⟨A0, A1, A2, A3, A4, _, _, _, _, _, Al⟩ := HA.out
  obtain ⟨Ab0, Ac0, _⟩ := cells_up A0
  obtain ⟨Ab1, Ac1, _⟩ := cells_up A1
  obtain ⟨Ab2, Ac2, _⟩ := cells_up A2
  obtain ⟨Ab3, Ac3, _⟩ := cells_up A3
  obtain ⟨Ab4, Ac4, _⟩ := cells_up A4
  go_wp2
  go_cut [5, 6] (fun z e wc => ∃ b, z = .pointer (some ⟨b, 0, none⟩) ∧ e = .int .i64 0 ∧ Box wc b (.int .i64 2) (.int .i64 0) (.float .f64 (realV 1 (-576460752303423488) f)) (.string ⟨#[]⟩) (.slice none 0 0) ∧ Below w3.heap.size w3 wc)
  case first =>
    go_region_with (first
      | (go_at_call 8; refine (i_at _ _).mono ?_; rintro e w' ⟨rfl, rfl⟩)
      | (go_at_call 7; refine (one_quo 1 (-576460752303423488) f s a 0 c hf HRT.out _).mono ?_; rintro e wz ⟨rfl, hbz⟩; obtain ⟨hcz, hfrz⟩ := bcell hbz))
    all_goals
      go_wp2_with fail
      go_meet
      case rel =>
        first
          | with_reducible exact ⟨_, rfl, rfl, Box.new _ _ _ _ _ _ _, box_then (from1 hbz)⟩
          | with_reducible exact ⟨_, rfl, rfl, (za hbz _ _ _ _ _).1, (za hbz _ _ _ _ _).2⟩
          | with_reducible exact ⟨_, rfl, rfl, (zb hbz _ _ _ _ _).1, (zb hbz _ _ _ _ _).2⟩
  case rest =>
  obtain ⟨bC, rfl, rfl, BC, hk⟩ := hcut
  clear A0 A1 A2 A3 A4 Al
  clear Ab0 Ac0 Ab1 Ac1 Ab2 Ac2 Ab3 Ac3 Ab4 Ac4
  have hWc : Below w.heap.size w wc := bthen hWw3 hk
  have KA := HA.out.keep hk
  have KB := HB.out.keep hk
  clear HA HB
  have HA := hid KA
  have HB := hid KB
  clear KA KB
  have HC := hid BC
  clear BC hk hWw3
  generalize wc = w4 at *
  have hWw4 := hWc
  clear hWc
  obtain ⟨A0, A1, A2, A3, A4, _, _, _, _, _, Al⟩ := HA.out
  obtain ⟨Ab0, Ac0, _⟩ := cells_up A0
  obtain ⟨Ab1, Ac1, _⟩ := cells_up A1
  obtain ⟨Ab2, Ac2, _⟩ := cells_up A2
  obtain ⟨Ab3, Ac3, _⟩ := cells_up A3
  obtain ⟨Ab4, Ac4, _⟩ := cells_up A4
  go_wp2
  go_cut [7, 8] (fun z e wc => ∃ b, z = .pointer (some ⟨b, 0, none⟩) ∧ e = .int .i64 0 ∧ Box wc b (.int .i64 1) (.int .i64 (-576460752303423488)) (.float .f64 f) (.string ⟨#[]⟩) (.slice none 0 0) ∧ Below w4.heap.size w4 wc)
  case first =>
    go_region_with (first
      | (go_at_call 8; refine (i_at _ _).mono ?_; rintro e w' ⟨rfl, rfl⟩)
      | (go_at_call 7; refine (one_sub 1 (-576460752303423488) f s a 0 c hf HRT.out _).mono ?_; rintro e wz ⟨rfl, hbz⟩; obtain ⟨hcz, hfrz⟩ := bcell hbz))
    all_goals
      go_wp2_with fail
      go_meet
      case rel =>
        first
          | with_reducible exact ⟨_, rfl, rfl, Box.new _ _ _ _ _ _ _, box_then (from1 hbz)⟩
          | with_reducible exact ⟨_, rfl, rfl, (za hbz _ _ _ _ _).1, (za hbz _ _ _ _ _).2⟩
          | with_reducible exact ⟨_, rfl, rfl, (zb hbz _ _ _ _ _).1, (zb hbz _ _ _ _ _).2⟩
  case rest =>
  obtain ⟨bD, rfl, rfl, BD, hk⟩ := hcut
  clear A0 A1 A2 A3 A4 Al
  clear Ab0 Ac0 Ab1 Ac1 Ab2 Ac2 Ab3 Ac3 Ab4 Ac4
  have hWc : Below w.heap.size w wc := bthen hWw4 hk
  have KA := HA.out.keep hk
  have KB := HB.out.keep hk
  have KC := HC.out.keep hk
  clear HA HB HC
  have HA := hid KA
  have HB := hid KB
  have HC := hid KC
  clear KA KB KC
  have HD := hid BD
  clear BD hk hWw4
  generalize wc = w5 at *
  have hWw5 := hWc
  clear hWc
  obtain ⟨A0, A1, A2, A3, A4, _, _, _, _, _, Al⟩ := HA.out
  go_wp2_with fail
  refine (one_real 1 (-576460752303423488) f s a 0 c hf HRT.out _).mono ?_
  rintro e w6 ⟨rfl, hb⟩
  clear A0 A1 A2 A3 A4 Al
  have hWw6 : Below w.heap.size w w6 := bthen hWw5 hb
  have KA := HA.out.keep hb
  have KB := HB.out.keep hb
  have KC := HC.out.keep hb
  have KD := HD.out.keep hb
  clear HA HB HC HD
  have HA := hid KA
  have HB := hid KB
  have HC := hid KC
  have HD := hid KD
  clear KA KB KC KD
  clear hb hWw5
  obtain ⟨B0, B1, B2, B3, B4, _, _, _, _, _, Bl⟩ := HB.out
  obtain ⟨A0, A1, A2, A3, A4, _, _, _, _, _, Al⟩ := HA.out
  go_wp2_with fail
  refine (same_ba 1 (-576460752303423488) f s a c HS.out _).mono ?_
  rintro e w7 ⟨rfl, hb⟩
  clear B0 B1 B2 B3 B4 Bl A0 A1 A2 A3 A4 Al
  obtain ⟨BR, hk, hWw7⟩ := boxStep hWw6 hb
  have KA := HA.out.keep hk
  have KB := HB.out.keep hk
  have KC := HC.out.keep hk
  have KD := HD.out.keep hk
  clear HA HB HC HD
  have HA := hid KA
  have HB := hid KB
  have HC := hid KC
  have HD := hid KD
  clear KA KB KC KD
  have HR := hid BR
  clear BR hk hb hWw6
  obtain ⟨C0, C1, C2, C3, C4, _, _, _, _, _, Cl⟩ := HC.out
  obtain ⟨R0, R1, R2, R3, R4, _, _, _, _, _, Rl⟩ := HR.out
  go_wp2_with fail
  refine (same_true _ _ _ _).mono ?_
  rintro e w8 ⟨rfl, hb⟩
  clear C0 C1 C2 C3 C4 Cl R0 R1 R2 R3 R4 Rl
  have hWw8 : Below w.heap.size w w8 := bthen hWw7 hb
  have KA := HA.out.keep hb
  have KB := HB.out.keep hb
  have KC := HC.out.keep hb
  have KD := HD.out.keep hb
  have KR := HR.out.keep hb
  clear HA HB HC HD HR
  have HA := hid KA
  have HB := hid KB
  have HC := hid KC
  have HD := hid KD
  have HR := hid KR
  clear KA KB KC KD KR
  clear hb hWw7
  obtain ⟨D0, D1, D2, D3, D4, _, _, _, _, _, Dl⟩ := HD.out
  obtain ⟨A0, A1, A2, A3, A4, _, _, _, _, _, Al⟩ := HA.out
  go_wp2_with fail
  refine (same_ba 1 (-576460752303423488) f s a c HS.out _).mono ?_
  rintro e w9 ⟨rfl, hb⟩
  clear D0 D1 D2 D3 D4 Dl A0 A1 A2 A3 A4 Al
  have hWw9 : Below w.heap.size w w9 := bthen hWw8 hb
  have KA := HA.out.keep hb
  have KB := HB.out.keep hb
  have KC := HC.out.keep hb
  have KD := HD.out.keep hb
  have KR := HR.out.keep hb
  clear HA HB HC HD HR
  have HA := hid KA
  have HB := hid KB
  have HC := hid KC
  have HD := hid KD
  have HR := hid KR
  clear KA KB KC KD KR
  clear hb hWw8
  clear HB HC HD
  obtain ⟨A0, A1, A2, A3, A4, _, _, _, _, _, Al⟩ := HA.out
  go_wp2_with fail
  refine (neg_min s f a 0 c hf HRT.out _).mono ?_
  rintro e w10 ⟨rfl, hb⟩
  clear A0 A1 A2 A3 A4 Al
  have hWw10 : Below w.heap.size w w10 := bthen hWw9 hb
  have KA := HA.out.keep hb
  have KR := HR.out.keep hb
  clear HA HR
  have HA := hid KA
  have HR := hid KR
  clear KA KR
  clear hb hWw9
  obtain ⟨A0, A1, A2, A3, A4, _, _, _, _, _, Al⟩ := HA.out
  go_wp2
  go_ret
  exact ⟨rfl, hWw10.alloc hWw10.size _⟩

theorem numOne_any (k n : Int) (f : Nat) (s : ByteArray) (a : Option Addr) (l c : Nat) (hf : f < 18446744073709551616) (w : World) (ht : w.cell? ⟨4, 15, none⟩ = some (.int .u8 4)) :
    Calls Tryd.prog 3 #[.agg #[.int .i64 k, .int .i64 n, .float .f64 f, .string s, .slice a l c]] w fun e w' => e = .returned (.bool true) ∧ Below w.heap.size w w' := by
  cases hr : rightB k n f s l
  · exact numOne_no k n f s a l c hr w ht
  · obtain ⟨hs, rfl, _⟩ := rightB_cases hr
    by_cases hm : k = 1 ∧ n = -576460752303423488
    · obtain ⟨rfl, rfl⟩ := hm
      exact numOne_min f s a c hf hs hr w ht
    · exact numOne_yes k n f s a c hf hs hr hm w ht
end Go.Proofs.YtmmldghlellehacDoor
