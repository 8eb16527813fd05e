/- The walk of NumOrder: it returns true, and nothing that was there has turned. -/
import Derived.Test.YtihkabgoaejcgabDoorX3
import Derived.Deep.DrawnRows
namespace Go.Proofs.YtihkabgoaejcgabDoor
open Go.RowKit
open Flt (ordI exactV)
attribute [local go_sem] store_float
attribute [local go_sem ↓] Go.wp_at_zero Go.wp_at_succ

/-- three boxed arguments, behind the first call -/
theorem after_three {w w1 : World} {t : TypeId} {a0 a1 a2 a3 a4 b0 b1 b2 b3 b4 c0 c1 c2 c3 c4 : Value}
    (hb : Below (((w.alloc (.cells #[a0, a1, a2, a3, a4] t)).alloc (.cells #[b0, b1, b2, b3, b4] t)).alloc (.cells #[c0, c1, c2, c3, c4] t)).heap.size (((w.alloc (.cells #[a0, a1, a2, a3, a4] t)).alloc (.cells #[b0, b1, b2, b3, b4] t)).alloc (.cells #[c0, c1, c2, c3, c4] t)) w1) :
    Box w1 w.heap.size a0 a1 a2 a3 a4 ∧ Box w1 (w.heap.size + 1) b0 b1 b2 b3 b4 ∧ Box w1 (w.heap.size + 1 + 1) c0 c1 c2 c3 c4 ∧ Below w.heap.size w w1 := by
  have e1 : (w.alloc (.cells #[a0, a1, a2, a3, a4] t)).heap.size = w.heap.size + 1 := by simp
  have e2 : ((w.alloc (.cells #[a0, a1, a2, a3, a4] t)).alloc (.cells #[b0, b1, b2, b3, b4] t)).heap.size = w.heap.size + 1 + 1 := by simp
  refine ⟨(((Box.new w t a0 a1 a2 a3 a4).alloc _).alloc _).keep hb, ?_, ?_, (((below_new w _).alloc (by simp) _).alloc (by simp; omega) _).trans (hb.mono (by simp; omega))⟩
  · rw [← e1]; exact ((Box.new _ _ _ _ _ _ _).alloc _).keep hb
  · rw [← e2]; exact (Box.new _ _ _ _ _ _ _).keep hb

theorem cell_three {w : World} {S j : Nat} {v : Value} (h : w.cell? ⟨S, j, none⟩ = some v) : ∀ o1 o2 o3, (((w.alloc o1).alloc o2).alloc o3).cell? ⟨S, j, none⟩ = some v := by
  have k : ∀ (w : World) (o : Obj), w.cell? ⟨S, j, none⟩ = some v → (w.alloc o).cell? ⟨S, j, none⟩ = some v := fun w o h => by rw [(below_new w o).cell (block_lt_of_cell h)]; exact h
  exact fun o1 o2 o3 => k _ _ (k _ _ (k _ _ h))

set_option maxHeartbeats 4000000 in
theorem order_no_a (ka na : Int) (fa : Nat) (sa : ByteArray) (aa : Option Addr) (la ca : Nat) (kb nb : Int) (fb : Nat) (sb : ByteArray) (ab : Option Addr) (lb cb : Nat) (kc nc : Int) (fc : Nat) (sc : ByteArray) (ac : Option Addr) (lc cc : Nat) (hra : rightB ka na fa sa la = false)  (w : World) (ht : w.cell? ⟨4, 15, none⟩ = some (.int .u8 4)) :
    Calls Tryd.prog 4 #[.agg #[.int .i64 ka, .int .i64 na, .float .f64 fa, .string sa, .slice aa la ca], .agg #[.int .i64 kb, .int .i64 nb, .float .f64 fb, .string sb, .slice ab lb cb], .agg #[.int .i64 kc, .int .i64 nc, .float .f64 fc, .string sc, .slice ac lc cc]] w fun e w' => e = .returned (.bool true) ∧ Below w.heap.size w w' := by
  have HRA := hid hra
  clear hra
  have htl := cell_three ht
  clear ht
  go_enter Tryd.func4, Tryd.ntmps4
  go_wp2_with fail
  refine (known_any _ (htl _ _ _)).mono ?_
  rintro e w1 ⟨rfl, hb⟩
  obtain ⟨BA, BB, BC, hW1⟩ := after_three hb
  have HA := hid BA
  have HB := hid BB
  have HC := hid BC
  clear hb htl BA BB BC
  obtain ⟨A0, A1, A2, A3, A4, _, _, _, _, _, Al⟩ := HA.out
  go_wp2_with fail
  refine (clean_no ka na fa sa aa la ca HRA.out _).mono ?_
  rintro e w2 ⟨rfl, hb⟩
  clear A0 A1 A2 A3 A4 Al
  have hW2 : Below w.heap.size w w2 := bthen hW1 hb
  have KA := hid (HA.out.keep hb)
  clear HA
  have HA := KA
  clear KA
  have KB := hid (HB.out.keep hb)
  clear HB
  have HB := KB
  clear KB
  have KC := hid (HC.out.keep hb)
  clear HC
  have HC := KC
  clear KC
  clear hb hW1
  go_wp2
  go_ret
  exact ⟨rfl, hW2⟩

set_option maxHeartbeats 4000000 in
theorem order_no_b (ka na : Int) (fa : Nat) (sa : ByteArray) (aa : Option Addr) (la ca : Nat) (kb nb : Int) (fb : Nat) (sb : ByteArray) (ab : Option Addr) (lb cb : Nat) (kc nc : Int) (fc : Nat) (sc : ByteArray) (ac : Option Addr) (lc cc : Nat) (hra : rightB ka na fa sa la = true) (hrb : rightB kb nb fb sb lb = false)  (w : World) (ht : w.cell? ⟨4, 15, none⟩ = some (.int .u8 4)) :
    Calls Tryd.prog 4 #[.agg #[.int .i64 ka, .int .i64 na, .float .f64 fa, .string sa, .slice aa la ca], .agg #[.int .i64 kb, .int .i64 nb, .float .f64 fb, .string sb, .slice ab lb cb], .agg #[.int .i64 kc, .int .i64 nc, .float .f64 fc, .string sc, .slice ac lc cc]] w fun e w' => e = .returned (.bool true) ∧ Below w.heap.size w w' := by
  have HRA := hid hra
  clear hra
  have HRB := hid hrb
  clear hrb
  have htl := cell_three ht
  clear ht
  go_enter Tryd.func4, Tryd.ntmps4
  go_wp2_with fail
  refine (known_any _ (htl _ _ _)).mono ?_
  rintro e w1 ⟨rfl, hb⟩
  obtain ⟨BA, BB, BC, hW1⟩ := after_three hb
  have HA := hid BA
  have HB := hid BB
  have HC := hid BC
  clear hb htl BA BB BC
  obtain ⟨A0, A1, A2, A3, A4, _, _, _, _, _, Al⟩ := HA.out
  go_wp2_with fail
  refine (clean_yes ka na fa sa aa la ca HRA.out _).mono ?_
  rintro e w2 ⟨rfl, hb⟩
  clear A0 A1 A2 A3 A4 Al
  have hW2 : Below w.heap.size w w2 := bthen hW1 hb
  have KA := hid (HA.out.keep hb)
  clear HA
  have HA := KA
  clear KA
  have KB := hid (HB.out.keep hb)
  clear HB
  have HB := KB
  clear KB
  have KC := hid (HC.out.keep hb)
  clear HC
  have HC := KC
  clear KC
  clear hb hW1
  obtain ⟨B0, B1, B2, B3, B4, _, _, _, _, _, Bl⟩ := HB.out
  go_wp2_with fail
  refine (clean_no kb nb fb sb ab lb cb HRB.out _).mono ?_
  rintro e w3 ⟨rfl, hb⟩
  clear B0 B1 B2 B3 B4 Bl
  have hW3 : Below w.heap.size w w3 := bthen hW2 hb
  have KA := hid (HA.out.keep hb)
  clear HA
  have HA := KA
  clear KA
  have KB := hid (HB.out.keep hb)
  clear HB
  have HB := KB
  clear KB
  have KC := hid (HC.out.keep hb)
  clear HC
  have HC := KC
  clear KC
  clear hb hW2
  go_wp2
  go_ret
  exact ⟨rfl, hW3⟩

set_option maxHeartbeats 4000000 in
theorem order_no_c (ka na : Int) (fa : Nat) (sa : ByteArray) (aa : Option Addr) (la ca : Nat) (kb nb : Int) (fb : Nat) (sb : ByteArray) (ab : Option Addr) (lb cb : Nat) (kc nc : Int) (fc : Nat) (sc : ByteArray) (ac : Option Addr) (lc cc : Nat) (hra : rightB ka na fa sa la = true) (hrb : rightB kb nb fb sb lb = true) (hrc : rightB kc nc fc sc lc = false)  (w : World) (ht : w.cell? ⟨4, 15, none⟩ = some (.int .u8 4)) :
    Calls Tryd.prog 4 #[.agg #[.int .i64 ka, .int .i64 na, .float .f64 fa, .string sa, .slice aa la ca], .agg #[.int .i64 kb, .int .i64 nb, .float .f64 fb, .string sb, .slice ab lb cb], .agg #[.int .i64 kc, .int .i64 nc, .float .f64 fc, .string sc, .slice ac lc cc]] w fun e w' => e = .returned (.bool true) ∧ Below w.heap.size w w' := by
  have HRA := hid hra
  clear hra
  have HRB := hid hrb
  clear hrb
  have HRC := hid hrc
  clear hrc
  have htl := cell_three ht
  clear ht
  go_enter Tryd.func4, Tryd.ntmps4
  go_wp2_with fail
  refine (known_any _ (htl _ _ _)).mono ?_
  rintro e w1 ⟨rfl, hb⟩
  obtain ⟨BA, BB, BC, hW1⟩ := after_three hb
  have HA := hid BA
  have HB := hid BB
  have HC := hid BC
  clear hb htl BA BB BC
  obtain ⟨A0, A1, A2, A3, A4, _, _, _, _, _, Al⟩ := HA.out
  go_wp2_with fail
  refine (clean_yes ka na fa sa aa la ca HRA.out _).mono ?_
  rintro e w2 ⟨rfl, hb⟩
  clear A0 A1 A2 A3 A4 Al
  have hW2 : Below w.heap.size w w2 := bthen hW1 hb
  have KA := hid (HA.out.keep hb)
  clear HA
  have HA := KA
  clear KA
  have KB := hid (HB.out.keep hb)
  clear HB
  have HB := KB
  clear KB
  have KC := hid (HC.out.keep hb)
  clear HC
  have HC := KC
  clear KC
  clear hb hW1
  obtain ⟨B0, B1, B2, B3, B4, _, _, _, _, _, Bl⟩ := HB.out
  go_wp2_with fail
  refine (clean_yes kb nb fb sb ab lb cb HRB.out _).mono ?_
  rintro e w3 ⟨rfl, hb⟩
  clear B0 B1 B2 B3 B4 Bl
  have hW3 : Below w.heap.size w w3 := bthen hW2 hb
  have KA := hid (HA.out.keep hb)
  clear HA
  have HA := KA
  clear KA
  have KB := hid (HB.out.keep hb)
  clear HB
  have HB := KB
  clear KB
  have KC := hid (HC.out.keep hb)
  clear HC
  have HC := KC
  clear KC
  clear hb hW2
  obtain ⟨C0, C1, C2, C3, C4, _, _, _, _, _, Cl⟩ := HC.out
  go_wp2_with fail
  refine (clean_no kc nc fc sc ac lc cc HRC.out _).mono ?_
  rintro e w4 ⟨rfl, hb⟩
  clear C0 C1 C2 C3 C4 Cl
  have hW4 : Below w.heap.size w w4 := bthen hW3 hb
  have KA := hid (HA.out.keep hb)
  clear HA
  have HA := KA
  clear KA
  have KB := hid (HB.out.keep hb)
  clear HB
  have HB := KB
  clear KB
  have KC := hid (HC.out.keep hb)
  clear HC
  have HC := KC
  clear KC
  clear hb hW3
  go_wp2
  go_ret
  exact ⟨rfl, hW4⟩

set_option maxHeartbeats 4000000 in
theorem order_gt (ka na : Int) (fa : Nat) (sa : ByteArray) (aa : Option Addr) (la ca : Nat) (kb nb : Int) (fb : Nat) (sb : ByteArray) (ab : Option Addr) (lb cb : Nat) (kc nc : Int) (fc : Nat) (sc : ByteArray) (ac : Option Addr) (lc cc : Nat) (hra : rightB ka na fa sa la = true) (hrb : rightB kb nb fb sb lb = true) (hrc : rightB kc nc fc sc lc = true) (Cab : ∀ w, Calls Tryd.prog 14 #[.agg #[.int .i64 ka, .int .i64 na, .float .f64 fa, .string sa, .slice aa la ca], .agg #[.int .i64 kb, .int .i64 nb, .float .f64 fb, .string sb, .slice ab lb cb]] w fun e w' => e = .returned (.int .i64 1) ∧ Below w.heap.size w w') (Cba : ∀ w, Calls Tryd.prog 14 #[.agg #[.int .i64 kb, .int .i64 nb, .float .f64 fb, .string sb, .slice ab lb cb], .agg #[.int .i64 ka, .int .i64 na, .float .f64 fa, .string sa, .slice aa la ca]] w fun e w' => e = .returned (.int .i64 (-1)) ∧ Below w.heap.size w w') (Caa : ∀ w, Calls Tryd.prog 14 #[.agg #[.int .i64 ka, .int .i64 na, .float .f64 fa, .string sa, .slice aa la ca], .agg #[.int .i64 ka, .int .i64 na, .float .f64 fa, .string sa, .slice aa la ca]] w fun e w' => e = .returned (.int .i64 0) ∧ Below w.heap.size w w') (Saa : ∀ w, Calls Tryd.prog 15 #[.agg #[.int .i64 ka, .int .i64 na, .float .f64 fa, .string sa, .slice aa la ca], .agg #[.int .i64 ka, .int .i64 na, .float .f64 fa, .string sa, .slice aa la ca]] w fun e w' => e = .returned (.bool true) ∧ Below w.heap.size w w') (Sab : ∀ w, Calls Tryd.prog 15 #[.agg #[.int .i64 ka, .int .i64 na, .float .f64 fa, .string sa, .slice aa la ca], .agg #[.int .i64 kb, .int .i64 nb, .float .f64 fb, .string sb, .slice ab lb cb]] w fun e w' => e = .returned (.bool false) ∧ Below w.heap.size w w')  (w : World) (ht : w.cell? ⟨4, 15, none⟩ = some (.int .u8 4)) :
    Calls Tryd.prog 4 #[.agg #[.int .i64 ka, .int .i64 na, .float .f64 fa, .string sa, .slice aa la ca], .agg #[.int .i64 kb, .int .i64 nb, .float .f64 fb, .string sb, .slice ab lb cb], .agg #[.int .i64 kc, .int .i64 nc, .float .f64 fc, .string sc, .slice ac lc cc]] w fun e w' => e = .returned (.bool true) ∧ Below w.heap.size w w' := by
  have HRA := hid hra
  clear hra
  have HRB := hid hrb
  clear hrb
  have HRC := hid hrc
  clear hrc
  have HCab := hid Cab
  clear Cab
  have HCba := hid Cba
  clear Cba
  have HCaa := hid Caa
  clear Caa
  have HSaa := hid Saa
  clear Saa
  have HSab := hid Sab
  clear Sab
  have htl := cell_three ht
  clear ht
  go_enter Tryd.func4, Tryd.ntmps4
  go_wp2_with fail
  refine (known_any _ (htl _ _ _)).mono ?_
  rintro e w1 ⟨rfl, hb⟩
  obtain ⟨BA, BB, BC, hW1⟩ := after_three hb
  have HA := hid BA
  have HB := hid BB
  have HC := hid BC
  clear hb htl BA BB BC
  obtain ⟨A0, A1, A2, A3, A4, _, _, _, _, _, Al⟩ := HA.out
  go_wp2_with fail
  refine (clean_yes ka na fa sa aa la ca HRA.out _).mono ?_
  rintro e w2 ⟨rfl, hb⟩
  clear A0 A1 A2 A3 A4 Al
  have hW2 : Below w.heap.size w w2 := bthen hW1 hb
  have KA := hid (HA.out.keep hb)
  clear HA
  have HA := KA
  clear KA
  have KB := hid (HB.out.keep hb)
  clear HB
  have HB := KB
  clear KB
  have KC := hid (HC.out.keep hb)
  clear HC
  have HC := KC
  clear KC
  clear hb hW1
  obtain ⟨B0, B1, B2, B3, B4, _, _, _, _, _, Bl⟩ := HB.out
  go_wp2_with fail
  refine (clean_yes kb nb fb sb ab lb cb HRB.out _).mono ?_
  rintro e w3 ⟨rfl, hb⟩
  clear B0 B1 B2 B3 B4 Bl
  have hW3 : Below w.heap.size w w3 := bthen hW2 hb
  have KA := hid (HA.out.keep hb)
  clear HA
  have HA := KA
  clear KA
  have KB := hid (HB.out.keep hb)
  clear HB
  have HB := KB
  clear KB
  have KC := hid (HC.out.keep hb)
  clear HC
  have HC := KC
  clear KC
  clear hb hW2
  obtain ⟨C0, C1, C2, C3, C4, _, _, _, _, _, Cl⟩ := HC.out
  go_wp2_with fail
  refine (clean_yes kc nc fc sc ac lc cc HRC.out _).mono ?_
  rintro e w4 ⟨rfl, hb⟩
  clear C0 C1 C2 C3 C4 Cl
  have hW4 : Below w.heap.size w w4 := bthen hW3 hb
  have KA := hid (HA.out.keep hb)
  clear HA
  have HA := KA
  clear KA
  have KB := hid (HB.out.keep hb)
  clear HB
  have HB := KB
  clear KB
  have KC := hid (HC.out.keep hb)
  clear HC
  have HC := KC
  clear KC
  clear hb hW3
  obtain ⟨A0, A1, A2, A3, A4, _, _, _, _, _, Al⟩ := HA.out
  obtain ⟨B0, B1, B2, B3, B4, _, _, _, _, _, Bl⟩ := HB.out
  go_wp2_with fail
  refine (HCab.out _).mono ?_
  rintro e w5 ⟨rfl, hb⟩
  clear A0 A1 A2 A3 A4 Al
  clear B0 B1 B2 B3 B4 Bl
  have hW5 : Below w.heap.size w w5 := bthen hW4 hb
  have KA := hid (HA.out.keep hb)
  clear HA
  have HA := KA
  clear KA
  have KB := hid (HB.out.keep hb)
  clear HB
  have HB := KB
  clear KB
  have KC := hid (HC.out.keep hb)
  clear HC
  have HC := KC
  clear KC
  clear hb hW4
  obtain ⟨A0, A1, A2, A3, A4, _, _, _, _, _, Al⟩ := HA.out
  obtain ⟨B0, B1, B2, B3, B4, _, _, _, _, _, Bl⟩ := HB.out
  go_wp2_with fail
  refine (HCba.out _).mono ?_
  rintro e w6 ⟨rfl, hb⟩
  clear A0 A1 A2 A3 A4 Al
  clear B0 B1 B2 B3 B4 Bl
  have hW6 : Below w.heap.size w w6 := bthen hW5 hb
  have KA := hid (HA.out.keep hb)
  clear HA
  have HA := KA
  clear KA
  have KB := hid (HB.out.keep hb)
  clear HB
  have HB := KB
  clear KB
  have KC := hid (HC.out.keep hb)
  clear HC
  have HC := KC
  clear KC
  clear hb hW5
  obtain ⟨A0, A1, A2, A3, A4, _, _, _, _, _, Al⟩ := HA.out
  go_wp2_with fail
  refine (HCaa.out _).mono ?_
  rintro e w7 ⟨rfl, hb⟩
  clear A0 A1 A2 A3 A4 Al
  have hW7 : Below w.heap.size w w7 := bthen hW6 hb
  have KA := hid (HA.out.keep hb)
  clear HA
  have HA := KA
  clear KA
  have KB := hid (HB.out.keep hb)
  clear HB
  have HB := KB
  clear KB
  have KC := hid (HC.out.keep hb)
  clear HC
  have HC := KC
  clear KC
  clear hb hW6
  obtain ⟨A0, A1, A2, A3, A4, _, _, _, _, _, Al⟩ := HA.out
  go_wp2_with fail
  refine (HSaa.out _).mono ?_
  rintro e w8 ⟨rfl, hb⟩
  clear A0 A1 A2 A3 A4 Al
  have hW8 : Below w.heap.size w w8 := bthen hW7 hb
  have KA := hid (HA.out.keep hb)
  clear HA
  have HA := KA
  clear KA
  have KB := hid (HB.out.keep hb)
  clear HB
  have HB := KB
  clear KB
  have KC := hid (HC.out.keep hb)
  clear HC
  have HC := KC
  clear KC
  clear hb hW7
  obtain ⟨A0, A1, A2, A3, A4, _, _, _, _, _, Al⟩ := HA.out
  obtain ⟨B0, B1, B2, B3, B4, _, _, _, _, _, Bl⟩ := HB.out
  go_wp2_with fail
  refine (HSab.out _).mono ?_
  rintro e w9 ⟨rfl, hb⟩
  clear A0 A1 A2 A3 A4 Al
  clear B0 B1 B2 B3 B4 Bl
  have hW9 : Below w.heap.size w w9 := bthen hW8 hb
  have KA := hid (HA.out.keep hb)
  clear HA
  have HA := KA
  clear KA
  have KB := hid (HB.out.keep hb)
  clear HB
  have HB := KB
  clear KB
  have KC := hid (HC.out.keep hb)
  clear HC
  have HC := KC
  clear KC
  clear hb hW8
  go_wp2
  go_ret
  exact ⟨rfl, hW9⟩

set_option maxHeartbeats 4000000 in
theorem order_lt_le (ka na : Int) (fa : Nat) (sa : ByteArray) (aa : Option Addr) (la ca : Nat) (kb nb : Int) (fb : Nat) (sb : ByteArray) (ab : Option Addr) (lb cb : Nat) (kc nc : Int) (fc : Nat) (sc : ByteArray) (ac : Option Addr) (lc cc : Nat) (hra : rightB ka na fa sa la = true) (hrb : rightB kb nb fb sb lb = true) (hrc : rightB kc nc fc sc lc = true) (Cab : ∀ w, Calls Tryd.prog 14 #[.agg #[.int .i64 ka, .int .i64 na, .float .f64 fa, .string sa, .slice aa la ca], .agg #[.int .i64 kb, .int .i64 nb, .float .f64 fb, .string sb, .slice ab lb cb]] w fun e w' => e = .returned (.int .i64 (-1)) ∧ Below w.heap.size w w') (Cba : ∀ w, Calls Tryd.prog 14 #[.agg #[.int .i64 kb, .int .i64 nb, .float .f64 fb, .string sb, .slice ab lb cb], .agg #[.int .i64 ka, .int .i64 na, .float .f64 fa, .string sa, .slice aa la ca]] w fun e w' => e = .returned (.int .i64 1) ∧ Below w.heap.size w w') (Caa : ∀ w, Calls Tryd.prog 14 #[.agg #[.int .i64 ka, .int .i64 na, .float .f64 fa, .string sa, .slice aa la ca], .agg #[.int .i64 ka, .int .i64 na, .float .f64 fa, .string sa, .slice aa la ca]] w fun e w' => e = .returned (.int .i64 0) ∧ Below w.heap.size w w') (Saa : ∀ w, Calls Tryd.prog 15 #[.agg #[.int .i64 ka, .int .i64 na, .float .f64 fa, .string sa, .slice aa la ca], .agg #[.int .i64 ka, .int .i64 na, .float .f64 fa, .string sa, .slice aa la ca]] w fun e w' => e = .returned (.bool true) ∧ Below w.heap.size w w') (bc : Int) (Cbc : ∀ w, Calls Tryd.prog 14 #[.agg #[.int .i64 kb, .int .i64 nb, .float .f64 fb, .string sb, .slice ab lb cb], .agg #[.int .i64 kc, .int .i64 nc, .float .f64 fc, .string sc, .slice ac lc cc]] w fun e w' => e = .returned (.int .i64 bc) ∧ Below w.heap.size w w') (hbc : decide (bc ≤ 0) = true) (xac : Int) (Cac : ∀ w, Calls Tryd.prog 14 #[.agg #[.int .i64 ka, .int .i64 na, .float .f64 fa, .string sa, .slice aa la ca], .agg #[.int .i64 kc, .int .i64 nc, .float .f64 fc, .string sc, .slice ac lc cc]] w fun e w' => e = .returned (.int .i64 xac) ∧ Below w.heap.size w w') (hac : decide (0 < xac) = false) (Sab : ∀ w, Calls Tryd.prog 15 #[.agg #[.int .i64 ka, .int .i64 na, .float .f64 fa, .string sa, .slice aa la ca], .agg #[.int .i64 kb, .int .i64 nb, .float .f64 fb, .string sb, .slice ab lb cb]] w fun e w' => e = .returned (.bool false) ∧ Below w.heap.size w w')  (w : World) (ht : w.cell? ⟨4, 15, none⟩ = some (.int .u8 4)) :
    Calls Tryd.prog 4 #[.agg #[.int .i64 ka, .int .i64 na, .float .f64 fa, .string sa, .slice aa la ca], .agg #[.int .i64 kb, .int .i64 nb, .float .f64 fb, .string sb, .slice ab lb cb], .agg #[.int .i64 kc, .int .i64 nc, .float .f64 fc, .string sc, .slice ac lc cc]] w fun e w' => e = .returned (.bool true) ∧ Below w.heap.size w w' := by
  have HRA := hid hra
  clear hra
  have HRB := hid hrb
  clear hrb
  have HRC := hid hrc
  clear hrc
  have HCab := hid Cab
  clear Cab
  have HCba := hid Cba
  clear Cba
  have HCaa := hid Caa
  clear Caa
  have HSaa := hid Saa
  clear Saa
  have HCbc := hid Cbc
  clear Cbc
  have HCac := hid Cac
  clear Cac
  have HSab := hid Sab
  clear Sab
  have htl := cell_three ht
  clear ht
  go_enter Tryd.func4, Tryd.ntmps4
  go_wp2_with fail
  refine (known_any _ (htl _ _ _)).mono ?_
  rintro e w1 ⟨rfl, hb⟩
  obtain ⟨BA, BB, BC, hW1⟩ := after_three hb
  have HA := hid BA
  have HB := hid BB
  have HC := hid BC
  clear hb htl BA BB BC
  obtain ⟨A0, A1, A2, A3, A4, _, _, _, _, _, Al⟩ := HA.out
  go_wp2_with fail
  refine (clean_yes ka na fa sa aa la ca HRA.out _).mono ?_
  rintro e w2 ⟨rfl, hb⟩
  clear A0 A1 A2 A3 A4 Al
  have hW2 : Below w.heap.size w w2 := bthen hW1 hb
  have KA := hid (HA.out.keep hb)
  clear HA
  have HA := KA
  clear KA
  have KB := hid (HB.out.keep hb)
  clear HB
  have HB := KB
  clear KB
  have KC := hid (HC.out.keep hb)
  clear HC
  have HC := KC
  clear KC
  clear hb hW1
  obtain ⟨B0, B1, B2, B3, B4, _, _, _, _, _, Bl⟩ := HB.out
  go_wp2_with fail
  refine (clean_yes kb nb fb sb ab lb cb HRB.out _).mono ?_
  rintro e w3 ⟨rfl, hb⟩
  clear B0 B1 B2 B3 B4 Bl
  have hW3 : Below w.heap.size w w3 := bthen hW2 hb
  have KA := hid (HA.out.keep hb)
  clear HA
  have HA := KA
  clear KA
  have KB := hid (HB.out.keep hb)
  clear HB
  have HB := KB
  clear KB
  have KC := hid (HC.out.keep hb)
  clear HC
  have HC := KC
  clear KC
  clear hb hW2
  obtain ⟨C0, C1, C2, C3, C4, _, _, _, _, _, Cl⟩ := HC.out
  go_wp2_with fail
  refine (clean_yes kc nc fc sc ac lc cc HRC.out _).mono ?_
  rintro e w4 ⟨rfl, hb⟩
  clear C0 C1 C2 C3 C4 Cl
  have hW4 : Below w.heap.size w w4 := bthen hW3 hb
  have KA := hid (HA.out.keep hb)
  clear HA
  have HA := KA
  clear KA
  have KB := hid (HB.out.keep hb)
  clear HB
  have HB := KB
  clear KB
  have KC := hid (HC.out.keep hb)
  clear HC
  have HC := KC
  clear KC
  clear hb hW3
  obtain ⟨A0, A1, A2, A3, A4, _, _, _, _, _, Al⟩ := HA.out
  obtain ⟨B0, B1, B2, B3, B4, _, _, _, _, _, Bl⟩ := HB.out
  go_wp2_with fail
  refine (HCab.out _).mono ?_
  rintro e w5 ⟨rfl, hb⟩
  clear A0 A1 A2 A3 A4 Al
  clear B0 B1 B2 B3 B4 Bl
  have hW5 : Below w.heap.size w w5 := bthen hW4 hb
  have KA := hid (HA.out.keep hb)
  clear HA
  have HA := KA
  clear KA
  have KB := hid (HB.out.keep hb)
  clear HB
  have HB := KB
  clear KB
  have KC := hid (HC.out.keep hb)
  clear HC
  have HC := KC
  clear KC
  clear hb hW4
  obtain ⟨A0, A1, A2, A3, A4, _, _, _, _, _, Al⟩ := HA.out
  obtain ⟨B0, B1, B2, B3, B4, _, _, _, _, _, Bl⟩ := HB.out
  go_wp2_with fail
  refine (HCba.out _).mono ?_
  rintro e w6 ⟨rfl, hb⟩
  clear A0 A1 A2 A3 A4 Al
  clear B0 B1 B2 B3 B4 Bl
  have hW6 : Below w.heap.size w w6 := bthen hW5 hb
  have KA := hid (HA.out.keep hb)
  clear HA
  have HA := KA
  clear KA
  have KB := hid (HB.out.keep hb)
  clear HB
  have HB := KB
  clear KB
  have KC := hid (HC.out.keep hb)
  clear HC
  have HC := KC
  clear KC
  clear hb hW5
  obtain ⟨A0, A1, A2, A3, A4, _, _, _, _, _, Al⟩ := HA.out
  go_wp2_with fail
  refine (HCaa.out _).mono ?_
  rintro e w7 ⟨rfl, hb⟩
  clear A0 A1 A2 A3 A4 Al
  have hW7 : Below w.heap.size w w7 := bthen hW6 hb
  have KA := hid (HA.out.keep hb)
  clear HA
  have HA := KA
  clear KA
  have KB := hid (HB.out.keep hb)
  clear HB
  have HB := KB
  clear KB
  have KC := hid (HC.out.keep hb)
  clear HC
  have HC := KC
  clear KC
  clear hb hW6
  obtain ⟨A0, A1, A2, A3, A4, _, _, _, _, _, Al⟩ := HA.out
  go_wp2_with fail
  refine (HSaa.out _).mono ?_
  rintro e w8 ⟨rfl, hb⟩
  clear A0 A1 A2 A3 A4 Al
  have hW8 : Below w.heap.size w w8 := bthen hW7 hb
  have KA := hid (HA.out.keep hb)
  clear HA
  have HA := KA
  clear KA
  have KB := hid (HB.out.keep hb)
  clear HB
  have HB := KB
  clear KB
  have KC := hid (HC.out.keep hb)
  clear HC
  have HC := KC
  clear KC
  clear hb hW7
  obtain ⟨B0, B1, B2, B3, B4, _, _, _, _, _, Bl⟩ := HB.out
  obtain ⟨C0, C1, C2, C3, C4, _, _, _, _, _, Cl⟩ := HC.out
  go_wp2_with fail
  refine (HCbc.out _).mono ?_
  rintro e w9 ⟨rfl, hb⟩
  clear B0 B1 B2 B3 B4 Bl
  clear C0 C1 C2 C3 C4 Cl
  have hW9 : Below w.heap.size w w9 := bthen hW8 hb
  have KA := hid (HA.out.keep hb)
  clear HA
  have HA := KA
  clear KA
  have KB := hid (HB.out.keep hb)
  clear HB
  have HB := KB
  clear KB
  have KC := hid (HC.out.keep hb)
  clear HC
  have HC := KC
  clear KC
  clear hb hW8
  obtain ⟨A0, A1, A2, A3, A4, _, _, _, _, _, Al⟩ := HA.out
  obtain ⟨C0, C1, C2, C3, C4, _, _, _, _, _, Cl⟩ := HC.out
  go_wp2_with fail
  refine (HCac.out _).mono ?_
  rintro e w10 ⟨rfl, hb⟩
  clear A0 A1 A2 A3 A4 Al
  clear C0 C1 C2 C3 C4 Cl
  have hW10 : Below w.heap.size w w10 := bthen hW9 hb
  have KA := hid (HA.out.keep hb)
  clear HA
  have HA := KA
  clear KA
  have KB := hid (HB.out.keep hb)
  clear HB
  have HB := KB
  clear KB
  have KC := hid (HC.out.keep hb)
  clear HC
  have HC := KC
  clear KC
  clear hb hW9
  obtain ⟨A0, A1, A2, A3, A4, _, _, _, _, _, Al⟩ := HA.out
  obtain ⟨B0, B1, B2, B3, B4, _, _, _, _, _, Bl⟩ := HB.out
  go_wp2_with fail
  refine (HSab.out _).mono ?_
  rintro e w11 ⟨rfl, hb⟩
  clear A0 A1 A2 A3 A4 Al
  clear B0 B1 B2 B3 B4 Bl
  have hW11 : Below w.heap.size w w11 := bthen hW10 hb
  have KA := hid (HA.out.keep hb)
  clear HA
  have HA := KA
  clear KA
  have KB := hid (HB.out.keep hb)
  clear HB
  have HB := KB
  clear KB
  have KC := hid (HC.out.keep hb)
  clear HC
  have HC := KC
  clear KC
  clear hb hW10
  go_wp2
  go_ret
  exact ⟨rfl, hW11⟩

set_option maxHeartbeats 4000000 in
theorem order_lt_gt (ka na : Int) (fa : Nat) (sa : ByteArray) (aa : Option Addr) (la ca : Nat) (kb nb : Int) (fb : Nat) (sb : ByteArray) (ab : Option Addr) (lb cb : Nat) (kc nc : Int) (fc : Nat) (sc : ByteArray) (ac : Option Addr) (lc cc : Nat) (hra : rightB ka na fa sa la = true) (hrb : rightB kb nb fb sb lb = true) (hrc : rightB kc nc fc sc lc = true) (Cab : ∀ w, Calls Tryd.prog 14 #[.agg #[.int .i64 ka, .int .i64 na, .float .f64 fa, .string sa, .slice aa la ca], .agg #[.int .i64 kb, .int .i64 nb, .float .f64 fb, .string sb, .slice ab lb cb]] w fun e w' => e = .returned (.int .i64 (-1)) ∧ Below w.heap.size w w') (Cba : ∀ w, Calls Tryd.prog 14 #[.agg #[.int .i64 kb, .int .i64 nb, .float .f64 fb, .string sb, .slice ab lb cb], .agg #[.int .i64 ka, .int .i64 na, .float .f64 fa, .string sa, .slice aa la ca]] w fun e w' => e = .returned (.int .i64 1) ∧ Below w.heap.size w w') (Caa : ∀ w, Calls Tryd.prog 14 #[.agg #[.int .i64 ka, .int .i64 na, .float .f64 fa, .string sa, .slice aa la ca], .agg #[.int .i64 ka, .int .i64 na, .float .f64 fa, .string sa, .slice aa la ca]] w fun e w' => e = .returned (.int .i64 0) ∧ Below w.heap.size w w') (Saa : ∀ w, Calls Tryd.prog 15 #[.agg #[.int .i64 ka, .int .i64 na, .float .f64 fa, .string sa, .slice aa la ca], .agg #[.int .i64 ka, .int .i64 na, .float .f64 fa, .string sa, .slice aa la ca]] w fun e w' => e = .returned (.bool true) ∧ Below w.heap.size w w') (bc : Int) (Cbc : ∀ w, Calls Tryd.prog 14 #[.agg #[.int .i64 kb, .int .i64 nb, .float .f64 fb, .string sb, .slice ab lb cb], .agg #[.int .i64 kc, .int .i64 nc, .float .f64 fc, .string sc, .slice ac lc cc]] w fun e w' => e = .returned (.int .i64 bc) ∧ Below w.heap.size w w') (hbc : decide (bc ≤ 0) = false) (Sab : ∀ w, Calls Tryd.prog 15 #[.agg #[.int .i64 ka, .int .i64 na, .float .f64 fa, .string sa, .slice aa la ca], .agg #[.int .i64 kb, .int .i64 nb, .float .f64 fb, .string sb, .slice ab lb cb]] w fun e w' => e = .returned (.bool false) ∧ Below w.heap.size w w')  (w : World) (ht : w.cell? ⟨4, 15, none⟩ = some (.int .u8 4)) :
    Calls Tryd.prog 4 #[.agg #[.int .i64 ka, .int .i64 na, .float .f64 fa, .string sa, .slice aa la ca], .agg #[.int .i64 kb, .int .i64 nb, .float .f64 fb, .string sb, .slice ab lb cb], .agg #[.int .i64 kc, .int .i64 nc, .float .f64 fc, .string sc, .slice ac lc cc]] w fun e w' => e = .returned (.bool true) ∧ Below w.heap.size w w' := by
  have HRA := hid hra
  clear hra
  have HRB := hid hrb
  clear hrb
  have HRC := hid hrc
  clear hrc
  have HCab := hid Cab
  clear Cab
  have HCba := hid Cba
  clear Cba
  have HCaa := hid Caa
  clear Caa
  have HSaa := hid Saa
  clear Saa
  have HCbc := hid Cbc
  clear Cbc
  have HSab := hid Sab
  clear Sab
  have htl := cell_three ht
  clear ht
  go_enter Tryd.func4, Tryd.ntmps4
  go_wp2_with fail
  refine (known_any _ (htl _ _ _)).mono ?_
  rintro e w1 ⟨rfl, hb⟩
  obtain ⟨BA, BB, BC, hW1⟩ := after_three hb
  have HA := hid BA
  have HB := hid BB
  have HC := hid BC
  clear hb htl BA BB BC
  obtain ⟨A0, A1, A2, A3, A4, _, _, _, _, _, Al⟩ := HA.out
  go_wp2_with fail
  refine (clean_yes ka na fa sa aa la ca HRA.out _).mono ?_
  rintro e w2 ⟨rfl, hb⟩
  clear A0 A1 A2 A3 A4 Al
  have hW2 : Below w.heap.size w w2 := bthen hW1 hb
  have KA := hid (HA.out.keep hb)
  clear HA
  have HA := KA
  clear KA
  have KB := hid (HB.out.keep hb)
  clear HB
  have HB := KB
  clear KB
  have KC := hid (HC.out.keep hb)
  clear HC
  have HC := KC
  clear KC
  clear hb hW1
  obtain ⟨B0, B1, B2, B3, B4, _, _, _, _, _, Bl⟩ := HB.out
  go_wp2_with fail
  refine (clean_yes kb nb fb sb ab lb cb HRB.out _).mono ?_
  rintro e w3 ⟨rfl, hb⟩
  clear B0 B1 B2 B3 B4 Bl
  have hW3 : Below w.heap.size w w3 := bthen hW2 hb
  have KA := hid (HA.out.keep hb)
  clear HA
  have HA := KA
  clear KA
  have KB := hid (HB.out.keep hb)
  clear HB
  have HB := KB
  clear KB
  have KC := hid (HC.out.keep hb)
  clear HC
  have HC := KC
  clear KC
  clear hb hW2
  obtain ⟨C0, C1, C2, C3, C4, _, _, _, _, _, Cl⟩ := HC.out
  go_wp2_with fail
  refine (clean_yes kc nc fc sc ac lc cc HRC.out _).mono ?_
  rintro e w4 ⟨rfl, hb⟩
  clear C0 C1 C2 C3 C4 Cl
  have hW4 : Below w.heap.size w w4 := bthen hW3 hb
  have KA := hid (HA.out.keep hb)
  clear HA
  have HA := KA
  clear KA
  have KB := hid (HB.out.keep hb)
  clear HB
  have HB := KB
  clear KB
  have KC := hid (HC.out.keep hb)
  clear HC
  have HC := KC
  clear KC
  clear hb hW3
  obtain ⟨A0, A1, A2, A3, A4, _, _, _, _, _, Al⟩ := HA.out
  obtain ⟨B0, B1, B2, B3, B4, _, _, _, _, _, Bl⟩ := HB.out
  go_wp2_with fail
  refine (HCab.out _).mono ?_
  rintro e w5 ⟨rfl, hb⟩
  clear A0 A1 A2 A3 A4 Al
  clear B0 B1 B2 B3 B4 Bl
  have hW5 : Below w.heap.size w w5 := bthen hW4 hb
  have KA := hid (HA.out.keep hb)
  clear HA
  have HA := KA
  clear KA
  have KB := hid (HB.out.keep hb)
  clear HB
  have HB := KB
  clear KB
  have KC := hid (HC.out.keep hb)
  clear HC
  have HC := KC
  clear KC
  clear hb hW4
  obtain ⟨A0, A1, A2, A3, A4, _, _, _, _, _, Al⟩ := HA.out
  obtain ⟨B0, B1, B2, B3, B4, _, _, _, _, _, Bl⟩ := HB.out
  go_wp2_with fail
  refine (HCba.out _).mono ?_
  rintro e w6 ⟨rfl, hb⟩
  clear A0 A1 A2 A3 A4 Al
  clear B0 B1 B2 B3 B4 Bl
  have hW6 : Below w.heap.size w w6 := bthen hW5 hb
  have KA := hid (HA.out.keep hb)
  clear HA
  have HA := KA
  clear KA
  have KB := hid (HB.out.keep hb)
  clear HB
  have HB := KB
  clear KB
  have KC := hid (HC.out.keep hb)
  clear HC
  have HC := KC
  clear KC
  clear hb hW5
  obtain ⟨A0, A1, A2, A3, A4, _, _, _, _, _, Al⟩ := HA.out
  go_wp2_with fail
  refine (HCaa.out _).mono ?_
  rintro e w7 ⟨rfl, hb⟩
  clear A0 A1 A2 A3 A4 Al
  have hW7 : Below w.heap.size w w7 := bthen hW6 hb
  have KA := hid (HA.out.keep hb)
  clear HA
  have HA := KA
  clear KA
  have KB := hid (HB.out.keep hb)
  clear HB
  have HB := KB
  clear KB
  have KC := hid (HC.out.keep hb)
  clear HC
  have HC := KC
  clear KC
  clear hb hW6
  obtain ⟨A0, A1, A2, A3, A4, _, _, _, _, _, Al⟩ := HA.out
  go_wp2_with fail
  refine (HSaa.out _).mono ?_
  rintro e w8 ⟨rfl, hb⟩
  clear A0 A1 A2 A3 A4 Al
  have hW8 : Below w.heap.size w w8 := bthen hW7 hb
  have KA := hid (HA.out.keep hb)
  clear HA
  have HA := KA
  clear KA
  have KB := hid (HB.out.keep hb)
  clear HB
  have HB := KB
  clear KB
  have KC := hid (HC.out.keep hb)
  clear HC
  have HC := KC
  clear KC
  clear hb hW7
  obtain ⟨B0, B1, B2, B3, B4, _, _, _, _, _, Bl⟩ := HB.out
  obtain ⟨C0, C1, C2, C3, C4, _, _, _, _, _, Cl⟩ := HC.out
  go_wp2_with fail
  refine (HCbc.out _).mono ?_
  rintro e w9 ⟨rfl, hb⟩
  clear B0 B1 B2 B3 B4 Bl
  clear C0 C1 C2 C3 C4 Cl
  have hW9 : Below w.heap.size w w9 := bthen hW8 hb
  have KA := hid (HA.out.keep hb)
  clear HA
  have HA := KA
  clear KA
  have KB := hid (HB.out.keep hb)
  clear HB
  have HB := KB
  clear KB
  have KC := hid (HC.out.keep hb)
  clear HC
  have HC := KC
  clear KC
  clear hb hW8
  obtain ⟨A0, A1, A2, A3, A4, _, _, _, _, _, Al⟩ := HA.out
  obtain ⟨B0, B1, B2, B3, B4, _, _, _, _, _, Bl⟩ := HB.out
  go_wp2_with fail
  refine (HSab.out _).mono ?_
  rintro e w10 ⟨rfl, hb⟩
  clear A0 A1 A2 A3 A4 Al
  clear B0 B1 B2 B3 B4 Bl
  have hW10 : Below w.heap.size w w10 := bthen hW9 hb
  have KA := hid (HA.out.keep hb)
  clear HA
  have HA := KA
  clear KA
  have KB := hid (HB.out.keep hb)
  clear HB
  have HB := KB
  clear KB
  have KC := hid (HC.out.keep hb)
  clear HC
  have HC := KC
  clear KC
  clear hb hW9
  go_wp2
  go_ret
  exact ⟨rfl, hW10⟩

set_option maxHeartbeats 4000000 in
theorem order_eq_le_same (ka na : Int) (fa : Nat) (sa : ByteArray) (aa : Option Addr) (la ca : Nat) (kb nb : Int) (fb : Nat) (sb : ByteArray) (ab : Option Addr) (lb cb : Nat) (kc nc : Int) (fc : Nat) (sc : ByteArray) (ac : Option Addr) (lc cc : Nat) (hra : rightB ka na fa sa la = true) (hrb : rightB kb nb fb sb lb = true) (hrc : rightB kc nc fc sc lc = true) (Cab : ∀ w, Calls Tryd.prog 14 #[.agg #[.int .i64 ka, .int .i64 na, .float .f64 fa, .string sa, .slice aa la ca], .agg #[.int .i64 kb, .int .i64 nb, .float .f64 fb, .string sb, .slice ab lb cb]] w fun e w' => e = .returned (.int .i64 0) ∧ Below w.heap.size w w') (Cba : ∀ w, Calls Tryd.prog 14 #[.agg #[.int .i64 kb, .int .i64 nb, .float .f64 fb, .string sb, .slice ab lb cb], .agg #[.int .i64 ka, .int .i64 na, .float .f64 fa, .string sa, .slice aa la ca]] w fun e w' => e = .returned (.int .i64 0) ∧ Below w.heap.size w w') (Caa : ∀ w, Calls Tryd.prog 14 #[.agg #[.int .i64 ka, .int .i64 na, .float .f64 fa, .string sa, .slice aa la ca], .agg #[.int .i64 ka, .int .i64 na, .float .f64 fa, .string sa, .slice aa la ca]] w fun e w' => e = .returned (.int .i64 0) ∧ Below w.heap.size w w') (Saa : ∀ w, Calls Tryd.prog 15 #[.agg #[.int .i64 ka, .int .i64 na, .float .f64 fa, .string sa, .slice aa la ca], .agg #[.int .i64 ka, .int .i64 na, .float .f64 fa, .string sa, .slice aa la ca]] w fun e w' => e = .returned (.bool true) ∧ Below w.heap.size w w') (bc : Int) (Cbc : ∀ w, Calls Tryd.prog 14 #[.agg #[.int .i64 kb, .int .i64 nb, .float .f64 fb, .string sb, .slice ab lb cb], .agg #[.int .i64 kc, .int .i64 nc, .float .f64 fc, .string sc, .slice ac lc cc]] w fun e w' => e = .returned (.int .i64 bc) ∧ Below w.heap.size w w') (hbc : decide (bc ≤ 0) = true) (xac : Int) (Cac : ∀ w, Calls Tryd.prog 14 #[.agg #[.int .i64 ka, .int .i64 na, .float .f64 fa, .string sa, .slice aa la ca], .agg #[.int .i64 kc, .int .i64 nc, .float .f64 fc, .string sc, .slice ac lc cc]] w fun e w' => e = .returned (.int .i64 xac) ∧ Below w.heap.size w w') (hac : decide (0 < xac) = false) (Sab : ∀ w, Calls Tryd.prog 15 #[.agg #[.int .i64 ka, .int .i64 na, .float .f64 fa, .string sa, .slice aa la ca], .agg #[.int .i64 kb, .int .i64 nb, .float .f64 fb, .string sb, .slice ab lb cb]] w fun e w' => e = .returned (.bool true) ∧ Below w.heap.size w w') (hk : (ka == kb) = true)  (w : World) (ht : w.cell? ⟨4, 15, none⟩ = some (.int .u8 4)) :
    Calls Tryd.prog 4 #[.agg #[.int .i64 ka, .int .i64 na, .float .f64 fa, .string sa, .slice aa la ca], .agg #[.int .i64 kb, .int .i64 nb, .float .f64 fb, .string sb, .slice ab lb cb], .agg #[.int .i64 kc, .int .i64 nc, .float .f64 fc, .string sc, .slice ac lc cc]] w fun e w' => e = .returned (.bool true) ∧ Below w.heap.size w w' := by
  have HRA := hid hra
  clear hra
  have HRB := hid hrb
  clear hrb
  have HRC := hid hrc
  clear hrc
  have HCab := hid Cab
  clear Cab
  have HCba := hid Cba
  clear Cba
  have HCaa := hid Caa
  clear Caa
  have HSaa := hid Saa
  clear Saa
  have HCbc := hid Cbc
  clear Cbc
  have HCac := hid Cac
  clear Cac
  have HSab := hid Sab
  clear Sab
  have htl := cell_three ht
  clear ht
  go_enter Tryd.func4, Tryd.ntmps4
  go_wp2_with fail
  refine (known_any _ (htl _ _ _)).mono ?_
  rintro e w1 ⟨rfl, hb⟩
  obtain ⟨BA, BB, BC, hW1⟩ := after_three hb
  have HA := hid BA
  have HB := hid BB
  have HC := hid BC
  clear hb htl BA BB BC
  obtain ⟨A0, A1, A2, A3, A4, _, _, _, _, _, Al⟩ := HA.out
  go_wp2_with fail
  refine (clean_yes ka na fa sa aa la ca HRA.out _).mono ?_
  rintro e w2 ⟨rfl, hb⟩
  clear A0 A1 A2 A3 A4 Al
  have hW2 : Below w.heap.size w w2 := bthen hW1 hb
  have KA := hid (HA.out.keep hb)
  clear HA
  have HA := KA
  clear KA
  have KB := hid (HB.out.keep hb)
  clear HB
  have HB := KB
  clear KB
  have KC := hid (HC.out.keep hb)
  clear HC
  have HC := KC
  clear KC
  clear hb hW1
  obtain ⟨B0, B1, B2, B3, B4, _, _, _, _, _, Bl⟩ := HB.out
  go_wp2_with fail
  refine (clean_yes kb nb fb sb ab lb cb HRB.out _).mono ?_
  rintro e w3 ⟨rfl, hb⟩
  clear B0 B1 B2 B3 B4 Bl
  have hW3 : Below w.heap.size w w3 := bthen hW2 hb
  have KA := hid (HA.out.keep hb)
  clear HA
  have HA := KA
  clear KA
  have KB := hid (HB.out.keep hb)
  clear HB
  have HB := KB
  clear KB
  have KC := hid (HC.out.keep hb)
  clear HC
  have HC := KC
  clear KC
  clear hb hW2
  obtain ⟨C0, C1, C2, C3, C4, _, _, _, _, _, Cl⟩ := HC.out
  go_wp2_with fail
  refine (clean_yes kc nc fc sc ac lc cc HRC.out _).mono ?_
  rintro e w4 ⟨rfl, hb⟩
  clear C0 C1 C2 C3 C4 Cl
  have hW4 : Below w.heap.size w w4 := bthen hW3 hb
  have KA := hid (HA.out.keep hb)
  clear HA
  have HA := KA
  clear KA
  have KB := hid (HB.out.keep hb)
  clear HB
  have HB := KB
  clear KB
  have KC := hid (HC.out.keep hb)
  clear HC
  have HC := KC
  clear KC
  clear hb hW3
  obtain ⟨A0, A1, A2, A3, A4, _, _, _, _, _, Al⟩ := HA.out
  obtain ⟨B0, B1, B2, B3, B4, _, _, _, _, _, Bl⟩ := HB.out
  go_wp2_with fail
  refine (HCab.out _).mono ?_
  rintro e w5 ⟨rfl, hb⟩
  clear A0 A1 A2 A3 A4 Al
  clear B0 B1 B2 B3 B4 Bl
  have hW5 : Below w.heap.size w w5 := bthen hW4 hb
  have KA := hid (HA.out.keep hb)
  clear HA
  have HA := KA
  clear KA
  have KB := hid (HB.out.keep hb)
  clear HB
  have HB := KB
  clear KB
  have KC := hid (HC.out.keep hb)
  clear HC
  have HC := KC
  clear KC
  clear hb hW4
  obtain ⟨A0, A1, A2, A3, A4, _, _, _, _, _, Al⟩ := HA.out
  obtain ⟨B0, B1, B2, B3, B4, _, _, _, _, _, Bl⟩ := HB.out
  go_wp2_with fail
  refine (HCba.out _).mono ?_
  rintro e w6 ⟨rfl, hb⟩
  clear A0 A1 A2 A3 A4 Al
  clear B0 B1 B2 B3 B4 Bl
  have hW6 : Below w.heap.size w w6 := bthen hW5 hb
  have KA := hid (HA.out.keep hb)
  clear HA
  have HA := KA
  clear KA
  have KB := hid (HB.out.keep hb)
  clear HB
  have HB := KB
  clear KB
  have KC := hid (HC.out.keep hb)
  clear HC
  have HC := KC
  clear KC
  clear hb hW5
  obtain ⟨A0, A1, A2, A3, A4, _, _, _, _, _, Al⟩ := HA.out
  go_wp2_with fail
  refine (HCaa.out _).mono ?_
  rintro e w7 ⟨rfl, hb⟩
  clear A0 A1 A2 A3 A4 Al
  have hW7 : Below w.heap.size w w7 := bthen hW6 hb
  have KA := hid (HA.out.keep hb)
  clear HA
  have HA := KA
  clear KA
  have KB := hid (HB.out.keep hb)
  clear HB
  have HB := KB
  clear KB
  have KC := hid (HC.out.keep hb)
  clear HC
  have HC := KC
  clear KC
  clear hb hW6
  obtain ⟨A0, A1, A2, A3, A4, _, _, _, _, _, Al⟩ := HA.out
  go_wp2_with fail
  refine (HSaa.out _).mono ?_
  rintro e w8 ⟨rfl, hb⟩
  clear A0 A1 A2 A3 A4 Al
  have hW8 : Below w.heap.size w w8 := bthen hW7 hb
  have KA := hid (HA.out.keep hb)
  clear HA
  have HA := KA
  clear KA
  have KB := hid (HB.out.keep hb)
  clear HB
  have HB := KB
  clear KB
  have KC := hid (HC.out.keep hb)
  clear HC
  have HC := KC
  clear KC
  clear hb hW7
  obtain ⟨B0, B1, B2, B3, B4, _, _, _, _, _, Bl⟩ := HB.out
  obtain ⟨C0, C1, C2, C3, C4, _, _, _, _, _, Cl⟩ := HC.out
  go_wp2_with fail
  refine (HCbc.out _).mono ?_
  rintro e w9 ⟨rfl, hb⟩
  clear B0 B1 B2 B3 B4 Bl
  clear C0 C1 C2 C3 C4 Cl
  have hW9 : Below w.heap.size w w9 := bthen hW8 hb
  have KA := hid (HA.out.keep hb)
  clear HA
  have HA := KA
  clear KA
  have KB := hid (HB.out.keep hb)
  clear HB
  have HB := KB
  clear KB
  have KC := hid (HC.out.keep hb)
  clear HC
  have HC := KC
  clear KC
  clear hb hW8
  obtain ⟨A0, A1, A2, A3, A4, _, _, _, _, _, Al⟩ := HA.out
  obtain ⟨C0, C1, C2, C3, C4, _, _, _, _, _, Cl⟩ := HC.out
  go_wp2_with fail
  refine (HCac.out _).mono ?_
  rintro e w10 ⟨rfl, hb⟩
  clear A0 A1 A2 A3 A4 Al
  clear C0 C1 C2 C3 C4 Cl
  have hW10 : Below w.heap.size w w10 := bthen hW9 hb
  have KA := hid (HA.out.keep hb)
  clear HA
  have HA := KA
  clear KA
  have KB := hid (HB.out.keep hb)
  clear HB
  have HB := KB
  clear KB
  have KC := hid (HC.out.keep hb)
  clear HC
  have HC := KC
  clear KC
  clear hb hW9
  obtain ⟨A0, A1, A2, A3, A4, _, _, _, _, _, Al⟩ := HA.out
  obtain ⟨B0, B1, B2, B3, B4, _, _, _, _, _, Bl⟩ := HB.out
  go_wp2_with fail
  refine (HSab.out _).mono ?_
  rintro e w11 ⟨rfl, hb⟩
  clear A0 A1 A2 A3 A4 Al
  clear B0 B1 B2 B3 B4 Bl
  have hW11 : Below w.heap.size w w11 := bthen hW10 hb
  have KA := hid (HA.out.keep hb)
  clear HA
  have HA := KA
  clear KA
  have KB := hid (HB.out.keep hb)
  clear HB
  have HB := KB
  clear KB
  have KC := hid (HC.out.keep hb)
  clear HC
  have HC := KC
  clear KC
  clear hb hW10
  obtain ⟨A0, A1, A2, A3, A4, _, _, _, _, _, Al⟩ := HA.out
  obtain ⟨B0, B1, B2, B3, B4, _, _, _, _, _, Bl⟩ := HB.out
  go_wp2_with fail
  refine (HSab.out _).mono ?_
  rintro e w12 ⟨rfl, hb⟩
  clear A0 A1 A2 A3 A4 Al
  clear B0 B1 B2 B3 B4 Bl
  have hW12 : Below w.heap.size w w12 := bthen hW11 hb
  have KA := hid (HA.out.keep hb)
  clear HA
  have HA := KA
  clear KA
  have KB := hid (HB.out.keep hb)
  clear HB
  have HB := KB
  clear KB
  have KC := hid (HC.out.keep hb)
  clear HC
  have HC := KC
  clear KC
  clear hb hW11
  obtain ⟨A0, A1, A2, A3, A4, _, _, _, _, _, Al⟩ := HA.out
  obtain ⟨B0, B1, B2, B3, B4, _, _, _, _, _, Bl⟩ := HB.out
  go_wp2
  go_ret
  exact ⟨rfl, hW12⟩

set_option maxHeartbeats 4000000 in
theorem order_eq_le_kinds (ka na : Int) (fa : Nat) (sa : ByteArray) (aa : Option Addr) (la ca : Nat) (kb nb : Int) (fb : Nat) (sb : ByteArray) (ab : Option Addr) (lb cb : Nat) (kc nc : Int) (fc : Nat) (sc : ByteArray) (ac : Option Addr) (lc cc : Nat) (hra : rightB ka na fa sa la = true) (hrb : rightB kb nb fb sb lb = true) (hrc : rightB kc nc fc sc lc = true) (Cab : ∀ w, Calls Tryd.prog 14 #[.agg #[.int .i64 ka, .int .i64 na, .float .f64 fa, .string sa, .slice aa la ca], .agg #[.int .i64 kb, .int .i64 nb, .float .f64 fb, .string sb, .slice ab lb cb]] w fun e w' => e = .returned (.int .i64 0) ∧ Below w.heap.size w w') (Cba : ∀ w, Calls Tryd.prog 14 #[.agg #[.int .i64 kb, .int .i64 nb, .float .f64 fb, .string sb, .slice ab lb cb], .agg #[.int .i64 ka, .int .i64 na, .float .f64 fa, .string sa, .slice aa la ca]] w fun e w' => e = .returned (.int .i64 0) ∧ Below w.heap.size w w') (Caa : ∀ w, Calls Tryd.prog 14 #[.agg #[.int .i64 ka, .int .i64 na, .float .f64 fa, .string sa, .slice aa la ca], .agg #[.int .i64 ka, .int .i64 na, .float .f64 fa, .string sa, .slice aa la ca]] w fun e w' => e = .returned (.int .i64 0) ∧ Below w.heap.size w w') (Saa : ∀ w, Calls Tryd.prog 15 #[.agg #[.int .i64 ka, .int .i64 na, .float .f64 fa, .string sa, .slice aa la ca], .agg #[.int .i64 ka, .int .i64 na, .float .f64 fa, .string sa, .slice aa la ca]] w fun e w' => e = .returned (.bool true) ∧ Below w.heap.size w w') (bc : Int) (Cbc : ∀ w, Calls Tryd.prog 14 #[.agg #[.int .i64 kb, .int .i64 nb, .float .f64 fb, .string sb, .slice ab lb cb], .agg #[.int .i64 kc, .int .i64 nc, .float .f64 fc, .string sc, .slice ac lc cc]] w fun e w' => e = .returned (.int .i64 bc) ∧ Below w.heap.size w w') (hbc : decide (bc ≤ 0) = true) (xac : Int) (Cac : ∀ w, Calls Tryd.prog 14 #[.agg #[.int .i64 ka, .int .i64 na, .float .f64 fa, .string sa, .slice aa la ca], .agg #[.int .i64 kc, .int .i64 nc, .float .f64 fc, .string sc, .slice ac lc cc]] w fun e w' => e = .returned (.int .i64 xac) ∧ Below w.heap.size w w') (hac : decide (0 < xac) = false) (Sab : ∀ w, Calls Tryd.prog 15 #[.agg #[.int .i64 ka, .int .i64 na, .float .f64 fa, .string sa, .slice aa la ca], .agg #[.int .i64 kb, .int .i64 nb, .float .f64 fb, .string sb, .slice ab lb cb]] w fun e w' => e = .returned (.bool false) ∧ Below w.heap.size w w') (hk : (ka == kb) = false)  (w : World) (ht : w.cell? ⟨4, 15, none⟩ = some (.int .u8 4)) :
    Calls Tryd.prog 4 #[.agg #[.int .i64 ka, .int .i64 na, .float .f64 fa, .string sa, .slice aa la ca], .agg #[.int .i64 kb, .int .i64 nb, .float .f64 fb, .string sb, .slice ab lb cb], .agg #[.int .i64 kc, .int .i64 nc, .float .f64 fc, .string sc, .slice ac lc cc]] w fun e w' => e = .returned (.bool true) ∧ Below w.heap.size w w' := by
  have HRA := hid hra
  clear hra
  have HRB := hid hrb
  clear hrb
  have HRC := hid hrc
  clear hrc
  have HCab := hid Cab
  clear Cab
  have HCba := hid Cba
  clear Cba
  have HCaa := hid Caa
  clear Caa
  have HSaa := hid Saa
  clear Saa
  have HCbc := hid Cbc
  clear Cbc
  have HCac := hid Cac
  clear Cac
  have HSab := hid Sab
  clear Sab
  have htl := cell_three ht
  clear ht
  go_enter Tryd.func4, Tryd.ntmps4
  go_wp2_with fail
  refine (known_any _ (htl _ _ _)).mono ?_
  rintro e w1 ⟨rfl, hb⟩
  obtain ⟨BA, BB, BC, hW1⟩ := after_three hb
  have HA := hid BA
  have HB := hid BB
  have HC := hid BC
  clear hb htl BA BB BC
  obtain ⟨A0, A1, A2, A3, A4, _, _, _, _, _, Al⟩ := HA.out
  go_wp2_with fail
  refine (clean_yes ka na fa sa aa la ca HRA.out _).mono ?_
  rintro e w2 ⟨rfl, hb⟩
  clear A0 A1 A2 A3 A4 Al
  have hW2 : Below w.heap.size w w2 := bthen hW1 hb
  have KA := hid (HA.out.keep hb)
  clear HA
  have HA := KA
  clear KA
  have KB := hid (HB.out.keep hb)
  clear HB
  have HB := KB
  clear KB
  have KC := hid (HC.out.keep hb)
  clear HC
  have HC := KC
  clear KC
  clear hb hW1
  obtain ⟨B0, B1, B2, B3, B4, _, _, _, _, _, Bl⟩ := HB.out
  go_wp2_with fail
  refine (clean_yes kb nb fb sb ab lb cb HRB.out _).mono ?_
  rintro e w3 ⟨rfl, hb⟩
  clear B0 B1 B2 B3 B4 Bl
  have hW3 : Below w.heap.size w w3 := bthen hW2 hb
  have KA := hid (HA.out.keep hb)
  clear HA
  have HA := KA
  clear KA
  have KB := hid (HB.out.keep hb)
  clear HB
  have HB := KB
  clear KB
  have KC := hid (HC.out.keep hb)
  clear HC
  have HC := KC
  clear KC
  clear hb hW2
  obtain ⟨C0, C1, C2, C3, C4, _, _, _, _, _, Cl⟩ := HC.out
  go_wp2_with fail
  refine (clean_yes kc nc fc sc ac lc cc HRC.out _).mono ?_
  rintro e w4 ⟨rfl, hb⟩
  clear C0 C1 C2 C3 C4 Cl
  have hW4 : Below w.heap.size w w4 := bthen hW3 hb
  have KA := hid (HA.out.keep hb)
  clear HA
  have HA := KA
  clear KA
  have KB := hid (HB.out.keep hb)
  clear HB
  have HB := KB
  clear KB
  have KC := hid (HC.out.keep hb)
  clear HC
  have HC := KC
  clear KC
  clear hb hW3
  obtain ⟨A0, A1, A2, A3, A4, _, _, _, _, _, Al⟩ := HA.out
  obtain ⟨B0, B1, B2, B3, B4, _, _, _, _, _, Bl⟩ := HB.out
  go_wp2_with fail
  refine (HCab.out _).mono ?_
  rintro e w5 ⟨rfl, hb⟩
  clear A0 A1 A2 A3 A4 Al
  clear B0 B1 B2 B3 B4 Bl
  have hW5 : Below w.heap.size w w5 := bthen hW4 hb
  have KA := hid (HA.out.keep hb)
  clear HA
  have HA := KA
  clear KA
  have KB := hid (HB.out.keep hb)
  clear HB
  have HB := KB
  clear KB
  have KC := hid (HC.out.keep hb)
  clear HC
  have HC := KC
  clear KC
  clear hb hW4
  obtain ⟨A0, A1, A2, A3, A4, _, _, _, _, _, Al⟩ := HA.out
  obtain ⟨B0, B1, B2, B3, B4, _, _, _, _, _, Bl⟩ := HB.out
  go_wp2_with fail
  refine (HCba.out _).mono ?_
  rintro e w6 ⟨rfl, hb⟩
  clear A0 A1 A2 A3 A4 Al
  clear B0 B1 B2 B3 B4 Bl
  have hW6 : Below w.heap.size w w6 := bthen hW5 hb
  have KA := hid (HA.out.keep hb)
  clear HA
  have HA := KA
  clear KA
  have KB := hid (HB.out.keep hb)
  clear HB
  have HB := KB
  clear KB
  have KC := hid (HC.out.keep hb)
  clear HC
  have HC := KC
  clear KC
  clear hb hW5
  obtain ⟨A0, A1, A2, A3, A4, _, _, _, _, _, Al⟩ := HA.out
  go_wp2_with fail
  refine (HCaa.out _).mono ?_
  rintro e w7 ⟨rfl, hb⟩
  clear A0 A1 A2 A3 A4 Al
  have hW7 : Below w.heap.size w w7 := bthen hW6 hb
  have KA := hid (HA.out.keep hb)
  clear HA
  have HA := KA
  clear KA
  have KB := hid (HB.out.keep hb)
  clear HB
  have HB := KB
  clear KB
  have KC := hid (HC.out.keep hb)
  clear HC
  have HC := KC
  clear KC
  clear hb hW6
  obtain ⟨A0, A1, A2, A3, A4, _, _, _, _, _, Al⟩ := HA.out
  go_wp2_with fail
  refine (HSaa.out _).mono ?_
  rintro e w8 ⟨rfl, hb⟩
  clear A0 A1 A2 A3 A4 Al
  have hW8 : Below w.heap.size w w8 := bthen hW7 hb
  have KA := hid (HA.out.keep hb)
  clear HA
  have HA := KA
  clear KA
  have KB := hid (HB.out.keep hb)
  clear HB
  have HB := KB
  clear KB
  have KC := hid (HC.out.keep hb)
  clear HC
  have HC := KC
  clear KC
  clear hb hW7
  obtain ⟨B0, B1, B2, B3, B4, _, _, _, _, _, Bl⟩ := HB.out
  obtain ⟨C0, C1, C2, C3, C4, _, _, _, _, _, Cl⟩ := HC.out
  go_wp2_with fail
  refine (HCbc.out _).mono ?_
  rintro e w9 ⟨rfl, hb⟩
  clear B0 B1 B2 B3 B4 Bl
  clear C0 C1 C2 C3 C4 Cl
  have hW9 : Below w.heap.size w w9 := bthen hW8 hb
  have KA := hid (HA.out.keep hb)
  clear HA
  have HA := KA
  clear KA
  have KB := hid (HB.out.keep hb)
  clear HB
  have HB := KB
  clear KB
  have KC := hid (HC.out.keep hb)
  clear HC
  have HC := KC
  clear KC
  clear hb hW8
  obtain ⟨A0, A1, A2, A3, A4, _, _, _, _, _, Al⟩ := HA.out
  obtain ⟨C0, C1, C2, C3, C4, _, _, _, _, _, Cl⟩ := HC.out
  go_wp2_with fail
  refine (HCac.out _).mono ?_
  rintro e w10 ⟨rfl, hb⟩
  clear A0 A1 A2 A3 A4 Al
  clear C0 C1 C2 C3 C4 Cl
  have hW10 : Below w.heap.size w w10 := bthen hW9 hb
  have KA := hid (HA.out.keep hb)
  clear HA
  have HA := KA
  clear KA
  have KB := hid (HB.out.keep hb)
  clear HB
  have HB := KB
  clear KB
  have KC := hid (HC.out.keep hb)
  clear HC
  have HC := KC
  clear KC
  clear hb hW9
  obtain ⟨A0, A1, A2, A3, A4, _, _, _, _, _, Al⟩ := HA.out
  obtain ⟨B0, B1, B2, B3, B4, _, _, _, _, _, Bl⟩ := HB.out
  go_wp2_with fail
  refine (HSab.out _).mono ?_
  rintro e w11 ⟨rfl, hb⟩
  clear A0 A1 A2 A3 A4 Al
  clear B0 B1 B2 B3 B4 Bl
  have hW11 : Below w.heap.size w w11 := bthen hW10 hb
  have KA := hid (HA.out.keep hb)
  clear HA
  have HA := KA
  clear KA
  have KB := hid (HB.out.keep hb)
  clear HB
  have HB := KB
  clear KB
  have KC := hid (HC.out.keep hb)
  clear HC
  have HC := KC
  clear KC
  clear hb hW10
  obtain ⟨A0, A1, A2, A3, A4, _, _, _, _, _, Al⟩ := HA.out
  obtain ⟨B0, B1, B2, B3, B4, _, _, _, _, _, Bl⟩ := HB.out
  go_wp2
  go_ret
  exact ⟨rfl, hW11⟩

set_option maxHeartbeats 4000000 in
theorem order_eq_le_zeros (ka na : Int) (fa : Nat) (sa : ByteArray) (aa : Option Addr) (la ca : Nat) (kb nb : Int) (fb : Nat) (sb : ByteArray) (ab : Option Addr) (lb cb : Nat) (kc nc : Int) (fc : Nat) (sc : ByteArray) (ac : Option Addr) (lc cc : Nat) (hra : rightB ka na fa sa la = true) (hrb : rightB kb nb fb sb lb = true) (hrc : rightB kc nc fc sc lc = true) (Cab : ∀ w, Calls Tryd.prog 14 #[.agg #[.int .i64 ka, .int .i64 na, .float .f64 fa, .string sa, .slice aa la ca], .agg #[.int .i64 kb, .int .i64 nb, .float .f64 fb, .string sb, .slice ab lb cb]] w fun e w' => e = .returned (.int .i64 0) ∧ Below w.heap.size w w') (Cba : ∀ w, Calls Tryd.prog 14 #[.agg #[.int .i64 kb, .int .i64 nb, .float .f64 fb, .string sb, .slice ab lb cb], .agg #[.int .i64 ka, .int .i64 na, .float .f64 fa, .string sa, .slice aa la ca]] w fun e w' => e = .returned (.int .i64 0) ∧ Below w.heap.size w w') (Caa : ∀ w, Calls Tryd.prog 14 #[.agg #[.int .i64 ka, .int .i64 na, .float .f64 fa, .string sa, .slice aa la ca], .agg #[.int .i64 ka, .int .i64 na, .float .f64 fa, .string sa, .slice aa la ca]] w fun e w' => e = .returned (.int .i64 0) ∧ Below w.heap.size w w') (Saa : ∀ w, Calls Tryd.prog 15 #[.agg #[.int .i64 ka, .int .i64 na, .float .f64 fa, .string sa, .slice aa la ca], .agg #[.int .i64 ka, .int .i64 na, .float .f64 fa, .string sa, .slice aa la ca]] w fun e w' => e = .returned (.bool true) ∧ Below w.heap.size w w') (bc : Int) (Cbc : ∀ w, Calls Tryd.prog 14 #[.agg #[.int .i64 kb, .int .i64 nb, .float .f64 fb, .string sb, .slice ab lb cb], .agg #[.int .i64 kc, .int .i64 nc, .float .f64 fc, .string sc, .slice ac lc cc]] w fun e w' => e = .returned (.int .i64 bc) ∧ Below w.heap.size w w') (hbc : decide (bc ≤ 0) = true) (xac : Int) (Cac : ∀ w, Calls Tryd.prog 14 #[.agg #[.int .i64 ka, .int .i64 na, .float .f64 fa, .string sa, .slice aa la ca], .agg #[.int .i64 kc, .int .i64 nc, .float .f64 fc, .string sc, .slice ac lc cc]] w fun e w' => e = .returned (.int .i64 xac) ∧ Below w.heap.size w w') (hac : decide (0 < xac) = false) (Sab : ∀ w, Calls Tryd.prog 15 #[.agg #[.int .i64 ka, .int .i64 na, .float .f64 fa, .string sa, .slice aa la ca], .agg #[.int .i64 kb, .int .i64 nb, .float .f64 fb, .string sb, .slice ab lb cb]] w fun e w' => e = .returned (.bool false) ∧ Below w.heap.size w w') (hk : ka = 2) (hk2 : kb = 2) (z1 : FloatKind.f64.format.order fa 0 = some .eq) (z2 : FloatKind.f64.format.order fb 0 = some .eq)  (w : World) (ht : w.cell? ⟨4, 15, none⟩ = some (.int .u8 4)) :
    Calls Tryd.prog 4 #[.agg #[.int .i64 ka, .int .i64 na, .float .f64 fa, .string sa, .slice aa la ca], .agg #[.int .i64 kb, .int .i64 nb, .float .f64 fb, .string sb, .slice ab lb cb], .agg #[.int .i64 kc, .int .i64 nc, .float .f64 fc, .string sc, .slice ac lc cc]] w fun e w' => e = .returned (.bool true) ∧ Below w.heap.size w w' := by
  subst hk hk2
  have HRA := hid hra
  clear hra
  have HRB := hid hrb
  clear hrb
  have HRC := hid hrc
  clear hrc
  have HCab := hid Cab
  clear Cab
  have HCba := hid Cba
  clear Cba
  have HCaa := hid Caa
  clear Caa
  have HSaa := hid Saa
  clear Saa
  have HCbc := hid Cbc
  clear Cbc
  have HCac := hid Cac
  clear Cac
  have HSab := hid Sab
  clear Sab
  have htl := cell_three ht
  clear ht
  go_enter Tryd.func4, Tryd.ntmps4
  go_wp2_with fail
  refine (known_any _ (htl _ _ _)).mono ?_
  rintro e w1 ⟨rfl, hb⟩
  obtain ⟨BA, BB, BC, hW1⟩ := after_three hb
  have HA := hid BA
  have HB := hid BB
  have HC := hid BC
  clear hb htl BA BB BC
  obtain ⟨A0, A1, A2, A3, A4, _, _, _, _, _, Al⟩ := HA.out
  go_wp2_with fail
  refine (clean_yes 2 na fa sa aa la ca HRA.out _).mono ?_
  rintro e w2 ⟨rfl, hb⟩
  clear A0 A1 A2 A3 A4 Al
  have hW2 : Below w.heap.size w w2 := bthen hW1 hb
  have KA := hid (HA.out.keep hb)
  clear HA
  have HA := KA
  clear KA
  have KB := hid (HB.out.keep hb)
  clear HB
  have HB := KB
  clear KB
  have KC := hid (HC.out.keep hb)
  clear HC
  have HC := KC
  clear KC
  clear hb hW1
  obtain ⟨B0, B1, B2, B3, B4, _, _, _, _, _, Bl⟩ := HB.out
  go_wp2_with fail
  refine (clean_yes 2 nb fb sb ab lb cb HRB.out _).mono ?_
  rintro e w3 ⟨rfl, hb⟩
  clear B0 B1 B2 B3 B4 Bl
  have hW3 : Below w.heap.size w w3 := bthen hW2 hb
  have KA := hid (HA.out.keep hb)
  clear HA
  have HA := KA
  clear KA
  have KB := hid (HB.out.keep hb)
  clear HB
  have HB := KB
  clear KB
  have KC := hid (HC.out.keep hb)
  clear HC
  have HC := KC
  clear KC
  clear hb hW2
  obtain ⟨C0, C1, C2, C3, C4, _, _, _, _, _, Cl⟩ := HC.out
  go_wp2_with fail
  refine (clean_yes kc nc fc sc ac lc cc HRC.out _).mono ?_
  rintro e w4 ⟨rfl, hb⟩
  clear C0 C1 C2 C3 C4 Cl
  have hW4 : Below w.heap.size w w4 := bthen hW3 hb
  have KA := hid (HA.out.keep hb)
  clear HA
  have HA := KA
  clear KA
  have KB := hid (HB.out.keep hb)
  clear HB
  have HB := KB
  clear KB
  have KC := hid (HC.out.keep hb)
  clear HC
  have HC := KC
  clear KC
  clear hb hW3
  obtain ⟨A0, A1, A2, A3, A4, _, _, _, _, _, Al⟩ := HA.out
  obtain ⟨B0, B1, B2, B3, B4, _, _, _, _, _, Bl⟩ := HB.out
  go_wp2_with fail
  refine (HCab.out _).mono ?_
  rintro e w5 ⟨rfl, hb⟩
  clear A0 A1 A2 A3 A4 Al
  clear B0 B1 B2 B3 B4 Bl
  have hW5 : Below w.heap.size w w5 := bthen hW4 hb
  have KA := hid (HA.out.keep hb)
  clear HA
  have HA := KA
  clear KA
  have KB := hid (HB.out.keep hb)
  clear HB
  have HB := KB
  clear KB
  have KC := hid (HC.out.keep hb)
  clear HC
  have HC := KC
  clear KC
  clear hb hW4
  obtain ⟨A0, A1, A2, A3, A4, _, _, _, _, _, Al⟩ := HA.out
  obtain ⟨B0, B1, B2, B3, B4, _, _, _, _, _, Bl⟩ := HB.out
  go_wp2_with fail
  refine (HCba.out _).mono ?_
  rintro e w6 ⟨rfl, hb⟩
  clear A0 A1 A2 A3 A4 Al
  clear B0 B1 B2 B3 B4 Bl
  have hW6 : Below w.heap.size w w6 := bthen hW5 hb
  have KA := hid (HA.out.keep hb)
  clear HA
  have HA := KA
  clear KA
  have KB := hid (HB.out.keep hb)
  clear HB
  have HB := KB
  clear KB
  have KC := hid (HC.out.keep hb)
  clear HC
  have HC := KC
  clear KC
  clear hb hW5
  obtain ⟨A0, A1, A2, A3, A4, _, _, _, _, _, Al⟩ := HA.out
  go_wp2_with fail
  refine (HCaa.out _).mono ?_
  rintro e w7 ⟨rfl, hb⟩
  clear A0 A1 A2 A3 A4 Al
  have hW7 : Below w.heap.size w w7 := bthen hW6 hb
  have KA := hid (HA.out.keep hb)
  clear HA
  have HA := KA
  clear KA
  have KB := hid (HB.out.keep hb)
  clear HB
  have HB := KB
  clear KB
  have KC := hid (HC.out.keep hb)
  clear HC
  have HC := KC
  clear KC
  clear hb hW6
  obtain ⟨A0, A1, A2, A3, A4, _, _, _, _, _, Al⟩ := HA.out
  go_wp2_with fail
  refine (HSaa.out _).mono ?_
  rintro e w8 ⟨rfl, hb⟩
  clear A0 A1 A2 A3 A4 Al
  have hW8 : Below w.heap.size w w8 := bthen hW7 hb
  have KA := hid (HA.out.keep hb)
  clear HA
  have HA := KA
  clear KA
  have KB := hid (HB.out.keep hb)
  clear HB
  have HB := KB
  clear KB
  have KC := hid (HC.out.keep hb)
  clear HC
  have HC := KC
  clear KC
  clear hb hW7
  obtain ⟨B0, B1, B2, B3, B4, _, _, _, _, _, Bl⟩ := HB.out
  obtain ⟨C0, C1, C2, C3, C4, _, _, _, _, _, Cl⟩ := HC.out
  go_wp2_with fail
  refine (HCbc.out _).mono ?_
  rintro e w9 ⟨rfl, hb⟩
  clear B0 B1 B2 B3 B4 Bl
  clear C0 C1 C2 C3 C4 Cl
  have hW9 : Below w.heap.size w w9 := bthen hW8 hb
  have KA := hid (HA.out.keep hb)
  clear HA
  have HA := KA
  clear KA
  have KB := hid (HB.out.keep hb)
  clear HB
  have HB := KB
  clear KB
  have KC := hid (HC.out.keep hb)
  clear HC
  have HC := KC
  clear KC
  clear hb hW8
  obtain ⟨A0, A1, A2, A3, A4, _, _, _, _, _, Al⟩ := HA.out
  obtain ⟨C0, C1, C2, C3, C4, _, _, _, _, _, Cl⟩ := HC.out
  go_wp2_with fail
  refine (HCac.out _).mono ?_
  rintro e w10 ⟨rfl, hb⟩
  clear A0 A1 A2 A3 A4 Al
  clear C0 C1 C2 C3 C4 Cl
  have hW10 : Below w.heap.size w w10 := bthen hW9 hb
  have KA := hid (HA.out.keep hb)
  clear HA
  have HA := KA
  clear KA
  have KB := hid (HB.out.keep hb)
  clear HB
  have HB := KB
  clear KB
  have KC := hid (HC.out.keep hb)
  clear HC
  have HC := KC
  clear KC
  clear hb hW9
  obtain ⟨A0, A1, A2, A3, A4, _, _, _, _, _, Al⟩ := HA.out
  obtain ⟨B0, B1, B2, B3, B4, _, _, _, _, _, Bl⟩ := HB.out
  go_wp2_with fail
  refine (HSab.out _).mono ?_
  rintro e w11 ⟨rfl, hb⟩
  clear A0 A1 A2 A3 A4 Al
  clear B0 B1 B2 B3 B4 Bl
  have hW11 : Below w.heap.size w w11 := bthen hW10 hb
  have KA := hid (HA.out.keep hb)
  clear HA
  have HA := KA
  clear KA
  have KB := hid (HB.out.keep hb)
  clear HB
  have HB := KB
  clear KB
  have KC := hid (HC.out.keep hb)
  clear HC
  have HC := KC
  clear KC
  clear hb hW10
  obtain ⟨A0, A1, A2, A3, A4, _, _, _, _, _, Al⟩ := HA.out
  obtain ⟨B0, B1, B2, B3, B4, _, _, _, _, _, Bl⟩ := HB.out
  go_wp2_with fail
  refine (HSab.out _).mono ?_
  rintro e w12 ⟨rfl, hb⟩
  clear A0 A1 A2 A3 A4 Al
  clear B0 B1 B2 B3 B4 Bl
  have hW12 : Below w.heap.size w w12 := bthen hW11 hb
  have KA := hid (HA.out.keep hb)
  clear HA
  have HA := KA
  clear KA
  have KB := hid (HB.out.keep hb)
  clear HB
  have HB := KB
  clear KB
  have KC := hid (HC.out.keep hb)
  clear HC
  have HC := KC
  clear KC
  clear hb hW11
  obtain ⟨A0, A1, A2, A3, A4, _, _, _, _, _, Al⟩ := HA.out
  obtain ⟨B0, B1, B2, B3, B4, _, _, _, _, _, Bl⟩ := HB.out
  go_wp2
  go_ret
  exact ⟨rfl, hW12⟩

set_option maxHeartbeats 4000000 in
theorem order_eq_gt_same (ka na : Int) (fa : Nat) (sa : ByteArray) (aa : Option Addr) (la ca : Nat) (kb nb : Int) (fb : Nat) (sb : ByteArray) (ab : Option Addr) (lb cb : Nat) (kc nc : Int) (fc : Nat) (sc : ByteArray) (ac : Option Addr) (lc cc : Nat) (hra : rightB ka na fa sa la = true) (hrb : rightB kb nb fb sb lb = true) (hrc : rightB kc nc fc sc lc = true) (Cab : ∀ w, Calls Tryd.prog 14 #[.agg #[.int .i64 ka, .int .i64 na, .float .f64 fa, .string sa, .slice aa la ca], .agg #[.int .i64 kb, .int .i64 nb, .float .f64 fb, .string sb, .slice ab lb cb]] w fun e w' => e = .returned (.int .i64 0) ∧ Below w.heap.size w w') (Cba : ∀ w, Calls Tryd.prog 14 #[.agg #[.int .i64 kb, .int .i64 nb, .float .f64 fb, .string sb, .slice ab lb cb], .agg #[.int .i64 ka, .int .i64 na, .float .f64 fa, .string sa, .slice aa la ca]] w fun e w' => e = .returned (.int .i64 0) ∧ Below w.heap.size w w') (Caa : ∀ w, Calls Tryd.prog 14 #[.agg #[.int .i64 ka, .int .i64 na, .float .f64 fa, .string sa, .slice aa la ca], .agg #[.int .i64 ka, .int .i64 na, .float .f64 fa, .string sa, .slice aa la ca]] w fun e w' => e = .returned (.int .i64 0) ∧ Below w.heap.size w w') (Saa : ∀ w, Calls Tryd.prog 15 #[.agg #[.int .i64 ka, .int .i64 na, .float .f64 fa, .string sa, .slice aa la ca], .agg #[.int .i64 ka, .int .i64 na, .float .f64 fa, .string sa, .slice aa la ca]] w fun e w' => e = .returned (.bool true) ∧ Below w.heap.size w w') (bc : Int) (Cbc : ∀ w, Calls Tryd.prog 14 #[.agg #[.int .i64 kb, .int .i64 nb, .float .f64 fb, .string sb, .slice ab lb cb], .agg #[.int .i64 kc, .int .i64 nc, .float .f64 fc, .string sc, .slice ac lc cc]] w fun e w' => e = .returned (.int .i64 bc) ∧ Below w.heap.size w w') (hbc : decide (bc ≤ 0) = false) (Sab : ∀ w, Calls Tryd.prog 15 #[.agg #[.int .i64 ka, .int .i64 na, .float .f64 fa, .string sa, .slice aa la ca], .agg #[.int .i64 kb, .int .i64 nb, .float .f64 fb, .string sb, .slice ab lb cb]] w fun e w' => e = .returned (.bool true) ∧ Below w.heap.size w w') (hk : (ka == kb) = true)  (w : World) (ht : w.cell? ⟨4, 15, none⟩ = some (.int .u8 4)) :
    Calls Tryd.prog 4 #[.agg #[.int .i64 ka, .int .i64 na, .float .f64 fa, .string sa, .slice aa la ca], .agg #[.int .i64 kb, .int .i64 nb, .float .f64 fb, .string sb, .slice ab lb cb], .agg #[.int .i64 kc, .int .i64 nc, .float .f64 fc, .string sc, .slice ac lc cc]] w fun e w' => e = .returned (.bool true) ∧ Below w.heap.size w w' := by
  have HRA := hid hra
  clear hra
  have HRB := hid hrb
  clear hrb
  have HRC := hid hrc
  clear hrc
  have HCab := hid Cab
  clear Cab
  have HCba := hid Cba
  clear Cba
  have HCaa := hid Caa
  clear Caa
  have HSaa := hid Saa
  clear Saa
  have HCbc := hid Cbc
  clear Cbc
  have HSab := hid Sab
  clear Sab
  have htl := cell_three ht
  clear ht
  go_enter Tryd.func4, Tryd.ntmps4
  go_wp2_with fail
  refine (known_any _ (htl _ _ _)).mono ?_
  rintro e w1 ⟨rfl, hb⟩
  obtain ⟨BA, BB, BC, hW1⟩ := after_three hb
  have HA := hid BA
  have HB := hid BB
  have HC := hid BC
  clear hb htl BA BB BC
  obtain ⟨A0, A1, A2, A3, A4, _, _, _, _, _, Al⟩ := HA.out
  go_wp2_with fail
  refine (clean_yes ka na fa sa aa la ca HRA.out _).mono ?_
  rintro e w2 ⟨rfl, hb⟩
  clear A0 A1 A2 A3 A4 Al
  have hW2 : Below w.heap.size w w2 := bthen hW1 hb
  have KA := hid (HA.out.keep hb)
  clear HA
  have HA := KA
  clear KA
  have KB := hid (HB.out.keep hb)
  clear HB
  have HB := KB
  clear KB
  have KC := hid (HC.out.keep hb)
  clear HC
  have HC := KC
  clear KC
  clear hb hW1
  obtain ⟨B0, B1, B2, B3, B4, _, _, _, _, _, Bl⟩ := HB.out
  go_wp2_with fail
  refine (clean_yes kb nb fb sb ab lb cb HRB.out _).mono ?_
  rintro e w3 ⟨rfl, hb⟩
  clear B0 B1 B2 B3 B4 Bl
  have hW3 : Below w.heap.size w w3 := bthen hW2 hb
  have KA := hid (HA.out.keep hb)
  clear HA
  have HA := KA
  clear KA
  have KB := hid (HB.out.keep hb)
  clear HB
  have HB := KB
  clear KB
  have KC := hid (HC.out.keep hb)
  clear HC
  have HC := KC
  clear KC
  clear hb hW2
  obtain ⟨C0, C1, C2, C3, C4, _, _, _, _, _, Cl⟩ := HC.out
  go_wp2_with fail
  refine (clean_yes kc nc fc sc ac lc cc HRC.out _).mono ?_
  rintro e w4 ⟨rfl, hb⟩
  clear C0 C1 C2 C3 C4 Cl
  have hW4 : Below w.heap.size w w4 := bthen hW3 hb
  have KA := hid (HA.out.keep hb)
  clear HA
  have HA := KA
  clear KA
  have KB := hid (HB.out.keep hb)
  clear HB
  have HB := KB
  clear KB
  have KC := hid (HC.out.keep hb)
  clear HC
  have HC := KC
  clear KC
  clear hb hW3
  obtain ⟨A0, A1, A2, A3, A4, _, _, _, _, _, Al⟩ := HA.out
  obtain ⟨B0, B1, B2, B3, B4, _, _, _, _, _, Bl⟩ := HB.out
  go_wp2_with fail
  refine (HCab.out _).mono ?_
  rintro e w5 ⟨rfl, hb⟩
  clear A0 A1 A2 A3 A4 Al
  clear B0 B1 B2 B3 B4 Bl
  have hW5 : Below w.heap.size w w5 := bthen hW4 hb
  have KA := hid (HA.out.keep hb)
  clear HA
  have HA := KA
  clear KA
  have KB := hid (HB.out.keep hb)
  clear HB
  have HB := KB
  clear KB
  have KC := hid (HC.out.keep hb)
  clear HC
  have HC := KC
  clear KC
  clear hb hW4
  obtain ⟨A0, A1, A2, A3, A4, _, _, _, _, _, Al⟩ := HA.out
  obtain ⟨B0, B1, B2, B3, B4, _, _, _, _, _, Bl⟩ := HB.out
  go_wp2_with fail
  refine (HCba.out _).mono ?_
  rintro e w6 ⟨rfl, hb⟩
  clear A0 A1 A2 A3 A4 Al
  clear B0 B1 B2 B3 B4 Bl
  have hW6 : Below w.heap.size w w6 := bthen hW5 hb
  have KA := hid (HA.out.keep hb)
  clear HA
  have HA := KA
  clear KA
  have KB := hid (HB.out.keep hb)
  clear HB
  have HB := KB
  clear KB
  have KC := hid (HC.out.keep hb)
  clear HC
  have HC := KC
  clear KC
  clear hb hW5
  obtain ⟨A0, A1, A2, A3, A4, _, _, _, _, _, Al⟩ := HA.out
  go_wp2_with fail
  refine (HCaa.out _).mono ?_
  rintro e w7 ⟨rfl, hb⟩
  clear A0 A1 A2 A3 A4 Al
  have hW7 : Below w.heap.size w w7 := bthen hW6 hb
  have KA := hid (HA.out.keep hb)
  clear HA
  have HA := KA
  clear KA
  have KB := hid (HB.out.keep hb)
  clear HB
  have HB := KB
  clear KB
  have KC := hid (HC.out.keep hb)
  clear HC
  have HC := KC
  clear KC
  clear hb hW6
  obtain ⟨A0, A1, A2, A3, A4, _, _, _, _, _, Al⟩ := HA.out
  go_wp2_with fail
  refine (HSaa.out _).mono ?_
  rintro e w8 ⟨rfl, hb⟩
  clear A0 A1 A2 A3 A4 Al
  have hW8 : Below w.heap.size w w8 := bthen hW7 hb
  have KA := hid (HA.out.keep hb)
  clear HA
  have HA := KA
  clear KA
  have KB := hid (HB.out.keep hb)
  clear HB
  have HB := KB
  clear KB
  have KC := hid (HC.out.keep hb)
  clear HC
  have HC := KC
  clear KC
  clear hb hW7
  obtain ⟨B0, B1, B2, B3, B4, _, _, _, _, _, Bl⟩ := HB.out
  obtain ⟨C0, C1, C2, C3, C4, _, _, _, _, _, Cl⟩ := HC.out
  go_wp2_with fail
  refine (HCbc.out _).mono ?_
  rintro e w9 ⟨rfl, hb⟩
  clear B0 B1 B2 B3 B4 Bl
  clear C0 C1 C2 C3 C4 Cl
  have hW9 : Below w.heap.size w w9 := bthen hW8 hb
  have KA := hid (HA.out.keep hb)
  clear HA
  have HA := KA
  clear KA
  have KB := hid (HB.out.keep hb)
  clear HB
  have HB := KB
  clear KB
  have KC := hid (HC.out.keep hb)
  clear HC
  have HC := KC
  clear KC
  clear hb hW8
  obtain ⟨A0, A1, A2, A3, A4, _, _, _, _, _, Al⟩ := HA.out
  obtain ⟨B0, B1, B2, B3, B4, _, _, _, _, _, Bl⟩ := HB.out
  go_wp2_with fail
  refine (HSab.out _).mono ?_
  rintro e w10 ⟨rfl, hb⟩
  clear A0 A1 A2 A3 A4 Al
  clear B0 B1 B2 B3 B4 Bl
  have hW10 : Below w.heap.size w w10 := bthen hW9 hb
  have KA := hid (HA.out.keep hb)
  clear HA
  have HA := KA
  clear KA
  have KB := hid (HB.out.keep hb)
  clear HB
  have HB := KB
  clear KB
  have KC := hid (HC.out.keep hb)
  clear HC
  have HC := KC
  clear KC
  clear hb hW9
  obtain ⟨A0, A1, A2, A3, A4, _, _, _, _, _, Al⟩ := HA.out
  obtain ⟨B0, B1, B2, B3, B4, _, _, _, _, _, Bl⟩ := HB.out
  go_wp2_with fail
  refine (HSab.out _).mono ?_
  rintro e w11 ⟨rfl, hb⟩
  clear A0 A1 A2 A3 A4 Al
  clear B0 B1 B2 B3 B4 Bl
  have hW11 : Below w.heap.size w w11 := bthen hW10 hb
  have KA := hid (HA.out.keep hb)
  clear HA
  have HA := KA
  clear KA
  have KB := hid (HB.out.keep hb)
  clear HB
  have HB := KB
  clear KB
  have KC := hid (HC.out.keep hb)
  clear HC
  have HC := KC
  clear KC
  clear hb hW10
  obtain ⟨A0, A1, A2, A3, A4, _, _, _, _, _, Al⟩ := HA.out
  obtain ⟨B0, B1, B2, B3, B4, _, _, _, _, _, Bl⟩ := HB.out
  go_wp2
  go_ret
  exact ⟨rfl, hW11⟩

set_option maxHeartbeats 4000000 in
theorem order_eq_gt_kinds (ka na : Int) (fa : Nat) (sa : ByteArray) (aa : Option Addr) (la ca : Nat) (kb nb : Int) (fb : Nat) (sb : ByteArray) (ab : Option Addr) (lb cb : Nat) (kc nc : Int) (fc : Nat) (sc : ByteArray) (ac : Option Addr) (lc cc : Nat) (hra : rightB ka na fa sa la = true) (hrb : rightB kb nb fb sb lb = true) (hrc : rightB kc nc fc sc lc = true) (Cab : ∀ w, Calls Tryd.prog 14 #[.agg #[.int .i64 ka, .int .i64 na, .float .f64 fa, .string sa, .slice aa la ca], .agg #[.int .i64 kb, .int .i64 nb, .float .f64 fb, .string sb, .slice ab lb cb]] w fun e w' => e = .returned (.int .i64 0) ∧ Below w.heap.size w w') (Cba : ∀ w, Calls Tryd.prog 14 #[.agg #[.int .i64 kb, .int .i64 nb, .float .f64 fb, .string sb, .slice ab lb cb], .agg #[.int .i64 ka, .int .i64 na, .float .f64 fa, .string sa, .slice aa la ca]] w fun e w' => e = .returned (.int .i64 0) ∧ Below w.heap.size w w') (Caa : ∀ w, Calls Tryd.prog 14 #[.agg #[.int .i64 ka, .int .i64 na, .float .f64 fa, .string sa, .slice aa la ca], .agg #[.int .i64 ka, .int .i64 na, .float .f64 fa, .string sa, .slice aa la ca]] w fun e w' => e = .returned (.int .i64 0) ∧ Below w.heap.size w w') (Saa : ∀ w, Calls Tryd.prog 15 #[.agg #[.int .i64 ka, .int .i64 na, .float .f64 fa, .string sa, .slice aa la ca], .agg #[.int .i64 ka, .int .i64 na, .float .f64 fa, .string sa, .slice aa la ca]] w fun e w' => e = .returned (.bool true) ∧ Below w.heap.size w w') (bc : Int) (Cbc : ∀ w, Calls Tryd.prog 14 #[.agg #[.int .i64 kb, .int .i64 nb, .float .f64 fb, .string sb, .slice ab lb cb], .agg #[.int .i64 kc, .int .i64 nc, .float .f64 fc, .string sc, .slice ac lc cc]] w fun e w' => e = .returned (.int .i64 bc) ∧ Below w.heap.size w w') (hbc : decide (bc ≤ 0) = false) (Sab : ∀ w, Calls Tryd.prog 15 #[.agg #[.int .i64 ka, .int .i64 na, .float .f64 fa, .string sa, .slice aa la ca], .agg #[.int .i64 kb, .int .i64 nb, .float .f64 fb, .string sb, .slice ab lb cb]] w fun e w' => e = .returned (.bool false) ∧ Below w.heap.size w w') (hk : (ka == kb) = false)  (w : World) (ht : w.cell? ⟨4, 15, none⟩ = some (.int .u8 4)) :
    Calls Tryd.prog 4 #[.agg #[.int .i64 ka, .int .i64 na, .float .f64 fa, .string sa, .slice aa la ca], .agg #[.int .i64 kb, .int .i64 nb, .float .f64 fb, .string sb, .slice ab lb cb], .agg #[.int .i64 kc, .int .i64 nc, .float .f64 fc, .string sc, .slice ac lc cc]] w fun e w' => e = .returned (.bool true) ∧ Below w.heap.size w w' := by
  have HRA := hid hra
  clear hra
  have HRB := hid hrb
  clear hrb
  have HRC := hid hrc
  clear hrc
  have HCab := hid Cab
  clear Cab
  have HCba := hid Cba
  clear Cba
  have HCaa := hid Caa
  clear Caa
  have HSaa := hid Saa
  clear Saa
  have HCbc := hid Cbc
  clear Cbc
  have HSab := hid Sab
  clear Sab
  have htl := cell_three ht
  clear ht
  go_enter Tryd.func4, Tryd.ntmps4
  go_wp2_with fail
  refine (known_any _ (htl _ _ _)).mono ?_
  rintro e w1 ⟨rfl, hb⟩
  obtain ⟨BA, BB, BC, hW1⟩ := after_three hb
  have HA := hid BA
  have HB := hid BB
  have HC := hid BC
  clear hb htl BA BB BC
  obtain ⟨A0, A1, A2, A3, A4, _, _, _, _, _, Al⟩ := HA.out
  go_wp2_with fail
  refine (clean_yes ka na fa sa aa la ca HRA.out _).mono ?_
  rintro e w2 ⟨rfl, hb⟩
  clear A0 A1 A2 A3 A4 Al
  have hW2 : Below w.heap.size w w2 := bthen hW1 hb
  have KA := hid (HA.out.keep hb)
  clear HA
  have HA := KA
  clear KA
  have KB := hid (HB.out.keep hb)
  clear HB
  have HB := KB
  clear KB
  have KC := hid (HC.out.keep hb)
  clear HC
  have HC := KC
  clear KC
  clear hb hW1
  obtain ⟨B0, B1, B2, B3, B4, _, _, _, _, _, Bl⟩ := HB.out
  go_wp2_with fail
  refine (clean_yes kb nb fb sb ab lb cb HRB.out _).mono ?_
  rintro e w3 ⟨rfl, hb⟩
  clear B0 B1 B2 B3 B4 Bl
  have hW3 : Below w.heap.size w w3 := bthen hW2 hb
  have KA := hid (HA.out.keep hb)
  clear HA
  have HA := KA
  clear KA
  have KB := hid (HB.out.keep hb)
  clear HB
  have HB := KB
  clear KB
  have KC := hid (HC.out.keep hb)
  clear HC
  have HC := KC
  clear KC
  clear hb hW2
  obtain ⟨C0, C1, C2, C3, C4, _, _, _, _, _, Cl⟩ := HC.out
  go_wp2_with fail
  refine (clean_yes kc nc fc sc ac lc cc HRC.out _).mono ?_
  rintro e w4 ⟨rfl, hb⟩
  clear C0 C1 C2 C3 C4 Cl
  have hW4 : Below w.heap.size w w4 := bthen hW3 hb
  have KA := hid (HA.out.keep hb)
  clear HA
  have HA := KA
  clear KA
  have KB := hid (HB.out.keep hb)
  clear HB
  have HB := KB
  clear KB
  have KC := hid (HC.out.keep hb)
  clear HC
  have HC := KC
  clear KC
  clear hb hW3
  obtain ⟨A0, A1, A2, A3, A4, _, _, _, _, _, Al⟩ := HA.out
  obtain ⟨B0, B1, B2, B3, B4, _, _, _, _, _, Bl⟩ := HB.out
  go_wp2_with fail
  refine (HCab.out _).mono ?_
  rintro e w5 ⟨rfl, hb⟩
  clear A0 A1 A2 A3 A4 Al
  clear B0 B1 B2 B3 B4 Bl
  have hW5 : Below w.heap.size w w5 := bthen hW4 hb
  have KA := hid (HA.out.keep hb)
  clear HA
  have HA := KA
  clear KA
  have KB := hid (HB.out.keep hb)
  clear HB
  have HB := KB
  clear KB
  have KC := hid (HC.out.keep hb)
  clear HC
  have HC := KC
  clear KC
  clear hb hW4
  obtain ⟨A0, A1, A2, A3, A4, _, _, _, _, _, Al⟩ := HA.out
  obtain ⟨B0, B1, B2, B3, B4, _, _, _, _, _, Bl⟩ := HB.out
  go_wp2_with fail
  refine (HCba.out _).mono ?_
  rintro e w6 ⟨rfl, hb⟩
  clear A0 A1 A2 A3 A4 Al
  clear B0 B1 B2 B3 B4 Bl
  have hW6 : Below w.heap.size w w6 := bthen hW5 hb
  have KA := hid (HA.out.keep hb)
  clear HA
  have HA := KA
  clear KA
  have KB := hid (HB.out.keep hb)
  clear HB
  have HB := KB
  clear KB
  have KC := hid (HC.out.keep hb)
  clear HC
  have HC := KC
  clear KC
  clear hb hW5
  obtain ⟨A0, A1, A2, A3, A4, _, _, _, _, _, Al⟩ := HA.out
  go_wp2_with fail
  refine (HCaa.out _).mono ?_
  rintro e w7 ⟨rfl, hb⟩
  clear A0 A1 A2 A3 A4 Al
  have hW7 : Below w.heap.size w w7 := bthen hW6 hb
  have KA := hid (HA.out.keep hb)
  clear HA
  have HA := KA
  clear KA
  have KB := hid (HB.out.keep hb)
  clear HB
  have HB := KB
  clear KB
  have KC := hid (HC.out.keep hb)
  clear HC
  have HC := KC
  clear KC
  clear hb hW6
  obtain ⟨A0, A1, A2, A3, A4, _, _, _, _, _, Al⟩ := HA.out
  go_wp2_with fail
  refine (HSaa.out _).mono ?_
  rintro e w8 ⟨rfl, hb⟩
  clear A0 A1 A2 A3 A4 Al
  have hW8 : Below w.heap.size w w8 := bthen hW7 hb
  have KA := hid (HA.out.keep hb)
  clear HA
  have HA := KA
  clear KA
  have KB := hid (HB.out.keep hb)
  clear HB
  have HB := KB
  clear KB
  have KC := hid (HC.out.keep hb)
  clear HC
  have HC := KC
  clear KC
  clear hb hW7
  obtain ⟨B0, B1, B2, B3, B4, _, _, _, _, _, Bl⟩ := HB.out
  obtain ⟨C0, C1, C2, C3, C4, _, _, _, _, _, Cl⟩ := HC.out
  go_wp2_with fail
  refine (HCbc.out _).mono ?_
  rintro e w9 ⟨rfl, hb⟩
  clear B0 B1 B2 B3 B4 Bl
  clear C0 C1 C2 C3 C4 Cl
  have hW9 : Below w.heap.size w w9 := bthen hW8 hb
  have KA := hid (HA.out.keep hb)
  clear HA
  have HA := KA
  clear KA
  have KB := hid (HB.out.keep hb)
  clear HB
  have HB := KB
  clear KB
  have KC := hid (HC.out.keep hb)
  clear HC
  have HC := KC
  clear KC
  clear hb hW8
  obtain ⟨A0, A1, A2, A3, A4, _, _, _, _, _, Al⟩ := HA.out
  obtain ⟨B0, B1, B2, B3, B4, _, _, _, _, _, Bl⟩ := HB.out
  go_wp2_with fail
  refine (HSab.out _).mono ?_
  rintro e w10 ⟨rfl, hb⟩
  clear A0 A1 A2 A3 A4 Al
  clear B0 B1 B2 B3 B4 Bl
  have hW10 : Below w.heap.size w w10 := bthen hW9 hb
  have KA := hid (HA.out.keep hb)
  clear HA
  have HA := KA
  clear KA
  have KB := hid (HB.out.keep hb)
  clear HB
  have HB := KB
  clear KB
  have KC := hid (HC.out.keep hb)
  clear HC
  have HC := KC
  clear KC
  clear hb hW9
  obtain ⟨A0, A1, A2, A3, A4, _, _, _, _, _, Al⟩ := HA.out
  obtain ⟨B0, B1, B2, B3, B4, _, _, _, _, _, Bl⟩ := HB.out
  go_wp2
  go_ret
  exact ⟨rfl, hW10⟩

set_option maxHeartbeats 4000000 in
theorem order_eq_gt_zeros (ka na : Int) (fa : Nat) (sa : ByteArray) (aa : Option Addr) (la ca : Nat) (kb nb : Int) (fb : Nat) (sb : ByteArray) (ab : Option Addr) (lb cb : Nat) (kc nc : Int) (fc : Nat) (sc : ByteArray) (ac : Option Addr) (lc cc : Nat) (hra : rightB ka na fa sa la = true) (hrb : rightB kb nb fb sb lb = true) (hrc : rightB kc nc fc sc lc = true) (Cab : ∀ w, Calls Tryd.prog 14 #[.agg #[.int .i64 ka, .int .i64 na, .float .f64 fa, .string sa, .slice aa la ca], .agg #[.int .i64 kb, .int .i64 nb, .float .f64 fb, .string sb, .slice ab lb cb]] w fun e w' => e = .returned (.int .i64 0) ∧ Below w.heap.size w w') (Cba : ∀ w, Calls Tryd.prog 14 #[.agg #[.int .i64 kb, .int .i64 nb, .float .f64 fb, .string sb, .slice ab lb cb], .agg #[.int .i64 ka, .int .i64 na, .float .f64 fa, .string sa, .slice aa la ca]] w fun e w' => e = .returned (.int .i64 0) ∧ Below w.heap.size w w') (Caa : ∀ w, Calls Tryd.prog 14 #[.agg #[.int .i64 ka, .int .i64 na, .float .f64 fa, .string sa, .slice aa la ca], .agg #[.int .i64 ka, .int .i64 na, .float .f64 fa, .string sa, .slice aa la ca]] w fun e w' => e = .returned (.int .i64 0) ∧ Below w.heap.size w w') (Saa : ∀ w, Calls Tryd.prog 15 #[.agg #[.int .i64 ka, .int .i64 na, .float .f64 fa, .string sa, .slice aa la ca], .agg #[.int .i64 ka, .int .i64 na, .float .f64 fa, .string sa, .slice aa la ca]] w fun e w' => e = .returned (.bool true) ∧ Below w.heap.size w w') (bc : Int) (Cbc : ∀ w, Calls Tryd.prog 14 #[.agg #[.int .i64 kb, .int .i64 nb, .float .f64 fb, .string sb, .slice ab lb cb], .agg #[.int .i64 kc, .int .i64 nc, .float .f64 fc, .string sc, .slice ac lc cc]] w fun e w' => e = .returned (.int .i64 bc) ∧ Below w.heap.size w w') (hbc : decide (bc ≤ 0) = false) (Sab : ∀ w, Calls Tryd.prog 15 #[.agg #[.int .i64 ka, .int .i64 na, .float .f64 fa, .string sa, .slice aa la ca], .agg #[.int .i64 kb, .int .i64 nb, .float .f64 fb, .string sb, .slice ab lb cb]] w fun e w' => e = .returned (.bool false) ∧ Below w.heap.size w w') (hk : ka = 2) (hk2 : kb = 2) (z1 : FloatKind.f64.format.order fa 0 = some .eq) (z2 : FloatKind.f64.format.order fb 0 = some .eq)  (w : World) (ht : w.cell? ⟨4, 15, none⟩ = some (.int .u8 4)) :
    Calls Tryd.prog 4 #[.agg #[.int .i64 ka, .int .i64 na, .float .f64 fa, .string sa, .slice aa la ca], .agg #[.int .i64 kb, .int .i64 nb, .float .f64 fb, .string sb, .slice ab lb cb], .agg #[.int .i64 kc, .int .i64 nc, .float .f64 fc, .string sc, .slice ac lc cc]] w fun e w' => e = .returned (.bool true) ∧ Below w.heap.size w w' := by
  subst hk hk2
  have HRA := hid hra
  clear hra
  have HRB := hid hrb
  clear hrb
  have HRC := hid hrc
  clear hrc
  have HCab := hid Cab
  clear Cab
  have HCba := hid Cba
  clear Cba
  have HCaa := hid Caa
  clear Caa
  have HSaa := hid Saa
  clear Saa
  have HCbc := hid Cbc
  clear Cbc
  have HSab := hid Sab
  clear Sab
  have htl := cell_three ht
  clear ht
  go_enter Tryd.func4, Tryd.ntmps4
  go_wp2_with fail
  refine (known_any _ (htl _ _ _)).mono ?_
  rintro e w1 ⟨rfl, hb⟩
  obtain ⟨BA, BB, BC, hW1⟩ := after_three hb
  have HA := hid BA
  have HB := hid BB
  have HC := hid BC
  clear hb htl BA BB BC
  obtain ⟨A0, A1, A2, A3, A4, _, _, _, _, _, Al⟩ := HA.out
  go_wp2_with fail
  refine (clean_yes 2 na fa sa aa la ca HRA.out _).mono ?_
  rintro e w2 ⟨rfl, hb⟩
  clear A0 A1 A2 A3 A4 Al
  have hW2 : Below w.heap.size w w2 := bthen hW1 hb
  have KA := hid (HA.out.keep hb)
  clear HA
  have HA := KA
  clear KA
  have KB := hid (HB.out.keep hb)
  clear HB
  have HB := KB
  clear KB
  have KC := hid (HC.out.keep hb)
  clear HC
  have HC := KC
  clear KC
  clear hb hW1
  obtain ⟨B0, B1, B2, B3, B4, _, _, _, _, _, Bl⟩ := HB.out
  go_wp2_with fail
  refine (clean_yes 2 nb fb sb ab lb cb HRB.out _).mono ?_
  rintro e w3 ⟨rfl, hb⟩
  clear B0 B1 B2 B3 B4 Bl
  have hW3 : Below w.heap.size w w3 := bthen hW2 hb
  have KA := hid (HA.out.keep hb)
  clear HA
  have HA := KA
  clear KA
  have KB := hid (HB.out.keep hb)
  clear HB
  have HB := KB
  clear KB
  have KC := hid (HC.out.keep hb)
  clear HC
  have HC := KC
  clear KC
  clear hb hW2
  obtain ⟨C0, C1, C2, C3, C4, _, _, _, _, _, Cl⟩ := HC.out
  go_wp2_with fail
  refine (clean_yes kc nc fc sc ac lc cc HRC.out _).mono ?_
  rintro e w4 ⟨rfl, hb⟩
  clear C0 C1 C2 C3 C4 Cl
  have hW4 : Below w.heap.size w w4 := bthen hW3 hb
  have KA := hid (HA.out.keep hb)
  clear HA
  have HA := KA
  clear KA
  have KB := hid (HB.out.keep hb)
  clear HB
  have HB := KB
  clear KB
  have KC := hid (HC.out.keep hb)
  clear HC
  have HC := KC
  clear KC
  clear hb hW3
  obtain ⟨A0, A1, A2, A3, A4, _, _, _, _, _, Al⟩ := HA.out
  obtain ⟨B0, B1, B2, B3, B4, _, _, _, _, _, Bl⟩ := HB.out
  go_wp2_with fail
  refine (HCab.out _).mono ?_
  rintro e w5 ⟨rfl, hb⟩
  clear A0 A1 A2 A3 A4 Al
  clear B0 B1 B2 B3 B4 Bl
  have hW5 : Below w.heap.size w w5 := bthen hW4 hb
  have KA := hid (HA.out.keep hb)
  clear HA
  have HA := KA
  clear KA
  have KB := hid (HB.out.keep hb)
  clear HB
  have HB := KB
  clear KB
  have KC := hid (HC.out.keep hb)
  clear HC
  have HC := KC
  clear KC
  clear hb hW4
  obtain ⟨A0, A1, A2, A3, A4, _, _, _, _, _, Al⟩ := HA.out
  obtain ⟨B0, B1, B2, B3, B4, _, _, _, _, _, Bl⟩ := HB.out
  go_wp2_with fail
  refine (HCba.out _).mono ?_
  rintro e w6 ⟨rfl, hb⟩
  clear A0 A1 A2 A3 A4 Al
  clear B0 B1 B2 B3 B4 Bl
  have hW6 : Below w.heap.size w w6 := bthen hW5 hb
  have KA := hid (HA.out.keep hb)
  clear HA
  have HA := KA
  clear KA
  have KB := hid (HB.out.keep hb)
  clear HB
  have HB := KB
  clear KB
  have KC := hid (HC.out.keep hb)
  clear HC
  have HC := KC
  clear KC
  clear hb hW5
  obtain ⟨A0, A1, A2, A3, A4, _, _, _, _, _, Al⟩ := HA.out
  go_wp2_with fail
  refine (HCaa.out _).mono ?_
  rintro e w7 ⟨rfl, hb⟩
  clear A0 A1 A2 A3 A4 Al
  have hW7 : Below w.heap.size w w7 := bthen hW6 hb
  have KA := hid (HA.out.keep hb)
  clear HA
  have HA := KA
  clear KA
  have KB := hid (HB.out.keep hb)
  clear HB
  have HB := KB
  clear KB
  have KC := hid (HC.out.keep hb)
  clear HC
  have HC := KC
  clear KC
  clear hb hW6
  obtain ⟨A0, A1, A2, A3, A4, _, _, _, _, _, Al⟩ := HA.out
  go_wp2_with fail
  refine (HSaa.out _).mono ?_
  rintro e w8 ⟨rfl, hb⟩
  clear A0 A1 A2 A3 A4 Al
  have hW8 : Below w.heap.size w w8 := bthen hW7 hb
  have KA := hid (HA.out.keep hb)
  clear HA
  have HA := KA
  clear KA
  have KB := hid (HB.out.keep hb)
  clear HB
  have HB := KB
  clear KB
  have KC := hid (HC.out.keep hb)
  clear HC
  have HC := KC
  clear KC
  clear hb hW7
  obtain ⟨B0, B1, B2, B3, B4, _, _, _, _, _, Bl⟩ := HB.out
  obtain ⟨C0, C1, C2, C3, C4, _, _, _, _, _, Cl⟩ := HC.out
  go_wp2_with fail
  refine (HCbc.out _).mono ?_
  rintro e w9 ⟨rfl, hb⟩
  clear B0 B1 B2 B3 B4 Bl
  clear C0 C1 C2 C3 C4 Cl
  have hW9 : Below w.heap.size w w9 := bthen hW8 hb
  have KA := hid (HA.out.keep hb)
  clear HA
  have HA := KA
  clear KA
  have KB := hid (HB.out.keep hb)
  clear HB
  have HB := KB
  clear KB
  have KC := hid (HC.out.keep hb)
  clear HC
  have HC := KC
  clear KC
  clear hb hW8
  obtain ⟨A0, A1, A2, A3, A4, _, _, _, _, _, Al⟩ := HA.out
  obtain ⟨B0, B1, B2, B3, B4, _, _, _, _, _, Bl⟩ := HB.out
  go_wp2_with fail
  refine (HSab.out _).mono ?_
  rintro e w10 ⟨rfl, hb⟩
  clear A0 A1 A2 A3 A4 Al
  clear B0 B1 B2 B3 B4 Bl
  have hW10 : Below w.heap.size w w10 := bthen hW9 hb
  have KA := hid (HA.out.keep hb)
  clear HA
  have HA := KA
  clear KA
  have KB := hid (HB.out.keep hb)
  clear HB
  have HB := KB
  clear KB
  have KC := hid (HC.out.keep hb)
  clear HC
  have HC := KC
  clear KC
  clear hb hW9
  obtain ⟨A0, A1, A2, A3, A4, _, _, _, _, _, Al⟩ := HA.out
  obtain ⟨B0, B1, B2, B3, B4, _, _, _, _, _, Bl⟩ := HB.out
  go_wp2_with fail
  refine (HSab.out _).mono ?_
  rintro e w11 ⟨rfl, hb⟩
  clear A0 A1 A2 A3 A4 Al
  clear B0 B1 B2 B3 B4 Bl
  have hW11 : Below w.heap.size w w11 := bthen hW10 hb
  have KA := hid (HA.out.keep hb)
  clear HA
  have HA := KA
  clear KA
  have KB := hid (HB.out.keep hb)
  clear HB
  have HB := KB
  clear KB
  have KC := hid (HC.out.keep hb)
  clear HC
  have HC := KC
  clear KC
  clear hb hW10
  obtain ⟨A0, A1, A2, A3, A4, _, _, _, _, _, Al⟩ := HA.out
  obtain ⟨B0, B1, B2, B3, B4, _, _, _, _, _, Bl⟩ := HB.out
  go_wp2
  go_ret
  exact ⟨rfl, hW11⟩

end Go.Proofs.YtihkabgoaejcgabDoor
