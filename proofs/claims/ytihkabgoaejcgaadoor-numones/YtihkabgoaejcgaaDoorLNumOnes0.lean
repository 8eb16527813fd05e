/- The walk of NumOnes over what its calls tell. -/
import Derived.Test.YtihkabgoaejcgaaDoorK1
import Derived.Test.YtihkabgoaejcgaaDoorX3
import Derived.Deep.DrawnRows
namespace Go.Proofs.YtihkabgoaejcgaaDoor
open Go.RowKit
attribute [local go_sem] store_float
attribute [local go_sem ↓] Go.wp_at_zero Go.wp_at_succ

theorem same_like (k n : Int) (f : Nat) (s : ByteArray) (a : Option Addr) (c : Nat) (hs : s.toList.isEmpty = true) (w : World) :
    Calls Tryd.prog 12 #[.agg #[.int .i64 (k), .int .i64 (n), .float .f64 (f), .string ⟨#[]⟩, .slice none 0 0], .agg #[.int .i64 k, .int .i64 n, .float .f64 f, .string s, .slice a 0 c]] w fun e w' => e = .returned (.bool true) ∧ Below w.heap.size w w' := by
  have := same_any k n f ⟨#[]⟩ none 0 0 k n f s a 0 c w
  have e : sameB k n f ⟨#[]⟩ 0 k n f s 0 = true := by
    have h : s.toList = [] := by simpa using hs
    simp [sameB, h]
  rw [e] at this
  exact this

set_option maxRecDepth 100000 in
set_option maxHeartbeats 16000000 in
theorem ones_walk (k n : Int) (f : Nat) (s : ByteArray) (a : Option Addr) (l c : Nat) (how : ByteArray) (R1 : R) (s1 : ByteArray) (a1 : Option Addr) (c1 : Nat) (e1 : s1.toList.isEmpty = true)
    (N1 : ∀ w, Calls Tryd.prog 19 #[.agg #[.int .i64 k, .int .i64 n, .float .f64 f, .string s, .slice a l c]] w fun e w' => e = .returned (.tuple #[.agg #[.int .i64 (R1.k), .int .i64 (R1.n), .float .f64 (R1.f), .string ⟨#[]⟩, .slice none 0 0], .int .i64 R1.e]) ∧ Below w.heap.size w w')
    (M1 : ∀ w, Calls Tryd.prog 20 #[.agg #[.int .i64 k, .int .i64 n, .float .f64 f, .string s, .slice a l c]] w fun e w' => e = .returned (.tuple #[.agg #[.int .i64 R1.k, .int .i64 R1.n, .float .f64 R1.f, .string s1, .slice a1 0 c1], .int .i64 R1.e]) ∧ Below w.heap.size w w')
    (R2 : R) (s2 : ByteArray) (a2 : Option Addr) (c2 : Nat) (e2 : s2.toList.isEmpty = true)
    (N2 : ∀ w, Calls Tryd.prog 21 #[.agg #[.int .i64 k, .int .i64 n, .float .f64 f, .string s, .slice a l c]] w fun e w' => e = .returned (.tuple #[.agg #[.int .i64 (R2.k), .int .i64 (R2.n), .float .f64 (R2.f), .string ⟨#[]⟩, .slice none 0 0], .int .i64 R2.e]) ∧ Below w.heap.size w w')
    (M2 : ∀ w, Calls Tryd.prog 22 #[.agg #[.int .i64 k, .int .i64 n, .float .f64 f, .string s, .slice a l c]] w fun e w' => e = .returned (.tuple #[.agg #[.int .i64 R2.k, .int .i64 R2.n, .float .f64 R2.f, .string s2, .slice a2 0 c2], .int .i64 R2.e]) ∧ Below w.heap.size w w')
    (R3 : R) (s3 : ByteArray) (a3 : Option Addr) (c3 : Nat) (e3 : s3.toList.isEmpty = true)
    (N3 : ∀ w, Calls Tryd.prog 23 #[.agg #[.int .i64 k, .int .i64 n, .float .f64 f, .string s, .slice a l c]] w fun e w' => e = .returned (.tuple #[.agg #[.int .i64 (R3.k), .int .i64 (R3.n), .float .f64 (R3.f), .string ⟨#[]⟩, .slice none 0 0], .int .i64 R3.e]) ∧ Below w.heap.size w w')
    (M3 : ∀ w, Calls Tryd.prog 24 #[.agg #[.int .i64 k, .int .i64 n, .float .f64 f, .string s, .slice a l c]] w fun e w' => e = .returned (.tuple #[.agg #[.int .i64 R3.k, .int .i64 R3.n, .float .f64 R3.f, .string s3, .slice a3 0 c3], .int .i64 R3.e]) ∧ Below w.heap.size w w')
    (R4 : R) (s4 : ByteArray) (a4 : Option Addr) (c4 : Nat) (e4 : s4.toList.isEmpty = true)
    (N4 : ∀ w, Calls Tryd.prog 25 #[.string how, .agg #[.int .i64 k, .int .i64 n, .float .f64 f, .string s, .slice a l c]] w fun e w' => e = .returned (.tuple #[.agg #[.int .i64 (R4.k), .int .i64 (R4.n), .float .f64 (R4.f), .string ⟨#[]⟩, .slice none 0 0], .int .i64 R4.e]) ∧ Below w.heap.size w w')
    (M4 : ∀ w, Calls Tryd.prog 26 #[.string how, .agg #[.int .i64 k, .int .i64 n, .float .f64 f, .string s, .slice a l c]] w fun e w' => e = .returned (.tuple #[.agg #[.int .i64 R4.k, .int .i64 R4.n, .float .f64 R4.f, .string s4, .slice a4 0 c4], .int .i64 R4.e]) ∧ Below w.heap.size w w')
    (w : World) (ht : w.cell? ⟨4, 15, none⟩ = some (.int .u8 4)) :
    Calls Tryd.prog 5 #[.agg #[.int .i64 k, .int .i64 n, .float .f64 f, .string s, .slice a l c], .string how] w fun e w' => e = .returned (.bool true) ∧ Below w.heap.size w w' := by
  have HN1 := hid N1
  have HM1 := hid M1
  have HE1 := hid e1
  clear N1 M1 e1
  have HN2 := hid N2
  have HM2 := hid M2
  have HE2 := hid e2
  clear N2 M2 e2
  have HN3 := hid N3
  have HM3 := hid M3
  have HE3 := hid e3
  clear N3 M3 e3
  have HN4 := hid N4
  have HM4 := hid M4
  have HE4 := hid e4
  clear N4 M4 e4
  have htl : ∀ o, (w.alloc o).cell? ⟨4, 15, none⟩ = some (.int .u8 4) := fun o => by rw [(below_new w o).cell (block_lt_of_cell ht)]; exact ht
  clear ht
  go_enter Tryd.func5, Tryd.ntmps5
  go_wp2_with fail
  refine (known_any _ (htl _)).mono ?_
  rintro e w1 ⟨rfl, hb⟩
  have HA := hid ((Box.new _ _ _ _ _ _ _).keep hb)
  have hW1 : Below w.heap.size w w1 := (below_new w _).trans (hb.mono (by simp))
  clear hb htl
  obtain ⟨A0, A1, A2, A3, A4, _, _, _, _, _, Al⟩ := HA.out
  go_wp2_with fail
  refine (HN1.out _).mono ?_
  rintro e w2 ⟨rfl, hb⟩
  clear A0 A1 A2 A3 A4  Al
  have K := hid ((HA.out).keep hb)
  clear HA
  have HA := K
  clear K
  have hW2 := bthen hW1 hb
  clear hb hW1
  obtain ⟨A0, A1, A2, A3, A4, _, _, _, _, _, Al⟩ := HA.out
  go_wp2_with fail
  refine (HM1.out _).mono ?_
  rintro e w3 ⟨rfl, hb⟩
  clear A0 A1 A2 A3 A4  Al
  obtain ⟨BX, hk, hW3⟩ := boxStep hW2 hb
  have HX := hid BX
  have hlX := hW2.size
  have hAX : w.heap.size ≠ w2.heap.size := Nat.ne_of_lt HA.out.lt
  clear BX hb hW2
  have K := hid ((HA.out).keep hk)
  clear HA
  have HA := K
  clear K
  clear hk
  generalize w2.heap.size = X at *
  have HAX := hid hAX
  clear hAX
  obtain ⟨X0, X1, X2, X3, X4, _, _, _, _, _, Xl⟩ := HX.out
  go_wp2_with fail
  refine (same_like _ _ _ _ _ _ HE1.out _).mono ?_
  rintro e w4 ⟨rfl, hb⟩
  clear X0 X1 X2 X3 X4  Xl
  obtain ⟨BY, hk, hW4⟩ := boxStep hW3 hb
  have HY := hid BY
  have hlY := hW3.size
  have hAY : w.heap.size ≠ w3.heap.size := Nat.ne_of_lt HA.out.lt
  have hXY : X ≠ w3.heap.size := Nat.ne_of_lt HX.out.lt
  clear BY hb hW3
  have K := hid ((HA.out).keep hk)
  clear HA
  have HA := K
  clear K
  have K := hid ((HX.out).keep hk)
  clear HX
  have HX := K
  clear K
  clear hk
  generalize w3.heap.size = Y at *
  have HAY := hid hAY
  have HXY := hid hXY
  clear hAY hXY
  obtain ⟨A0, A1, A2, A3, A4, _, _, _, _, _, Al⟩ := HA.out
  go_wp2_with fail
  refine (HN2.out _).mono ?_
  rintro e w5 ⟨rfl, hb⟩
  clear A0 A1 A2 A3 A4  Al
  have K := hid ((HA.out).keep hb)
  clear HA
  have HA := K
  clear K
  have K := hid ((HX.out).keep hb)
  clear HX
  have HX := K
  clear K
  have K := hid ((HY.out).keep hb)
  clear HY
  have HY := K
  clear K
  have hW5 := bthen hW4 hb
  clear hb hW4
  obtain ⟨A0, A1, A2, A3, A4, _, _, _, _, _, Al⟩ := HA.out
  obtain ⟨X0, X1, X2, X3, X4, Xf0, Xf1, Xf2, Xf3, Xf4, Xl⟩ := HX.out
  have n1 : ¬ w.heap.size = X := HAX.out
  have n2 : ¬ X = w.heap.size := fun h => HAX.out h.symm
  go_wp2_with fail
  refine (HM2.out _).mono ?_
  rintro e w6 ⟨rfl, hb⟩
  clear A0 A1 A2 A3 A4  Al
  clear X0 X1 X2 X3 X4 Xf0 Xf1 Xf2 Xf3 Xf4 Xl
  clear n1 n2
  have K := hid ((HA.out.other (Ne.symm HAX.out) _ _ _ _ _).keep hb)
  clear HA
  have HA := K
  clear K
  have K := hid ((HX.out.set _ _ _ _ _).keep hb)
  clear HX
  have HX := K
  clear K
  have K := hid ((HY.out.other HXY.out _ _ _ _ _).keep hb)
  clear HY
  have HY := K
  clear K
  have hW6 : Below w.heap.size w w6 := bthen (below_set5 hW5 hlX _ _ _ _ _) hb
  clear hb hW5
  obtain ⟨X0, X1, X2, X3, X4, _, _, _, _, _, Xl⟩ := HX.out
  obtain ⟨Y0, Y1, Y2, Y3, Y4, Yf0, Yf1, Yf2, Yf3, Yf4, Yl⟩ := HY.out
  have n1 : ¬ X = Y := HXY.out
  have n2 : ¬ Y = X := fun h => HXY.out h.symm
  go_wp2_with fail
  refine (same_like _ _ _ _ _ _ HE2.out _).mono ?_
  rintro e w7 ⟨rfl, hb⟩
  clear X0 X1 X2 X3 X4  Xl
  clear Y0 Y1 Y2 Y3 Y4 Yf0 Yf1 Yf2 Yf3 Yf4 Yl
  clear n1 n2
  have K := hid ((HA.out.other (Ne.symm HAY.out) _ _ _ _ _).keep hb)
  clear HA
  have HA := K
  clear K
  have K := hid ((HX.out.other (Ne.symm HXY.out) _ _ _ _ _).keep hb)
  clear HX
  have HX := K
  clear K
  have K := hid ((HY.out.set _ _ _ _ _).keep hb)
  clear HY
  have HY := K
  clear K
  have hW7 : Below w.heap.size w w7 := bthen (below_set5 hW6 hlY _ _ _ _ _) hb
  clear hb hW6
  obtain ⟨A0, A1, A2, A3, A4, _, _, _, _, _, Al⟩ := HA.out
  go_wp2_with fail
  refine (HN3.out _).mono ?_
  rintro e w8 ⟨rfl, hb⟩
  clear A0 A1 A2 A3 A4  Al
  have K := hid ((HA.out).keep hb)
  clear HA
  have HA := K
  clear K
  have K := hid ((HX.out).keep hb)
  clear HX
  have HX := K
  clear K
  have K := hid ((HY.out).keep hb)
  clear HY
  have HY := K
  clear K
  have hW8 := bthen hW7 hb
  clear hb hW7
  obtain ⟨A0, A1, A2, A3, A4, _, _, _, _, _, Al⟩ := HA.out
  obtain ⟨X0, X1, X2, X3, X4, Xf0, Xf1, Xf2, Xf3, Xf4, Xl⟩ := HX.out
  have n1 : ¬ w.heap.size = X := HAX.out
  have n2 : ¬ X = w.heap.size := fun h => HAX.out h.symm
  go_wp2_with fail
  refine (HM3.out _).mono ?_
  rintro e w9 ⟨rfl, hb⟩
  clear A0 A1 A2 A3 A4  Al
  clear X0 X1 X2 X3 X4 Xf0 Xf1 Xf2 Xf3 Xf4 Xl
  clear n1 n2
  have K := hid ((HA.out.other (Ne.symm HAX.out) _ _ _ _ _).keep hb)
  clear HA
  have HA := K
  clear K
  have K := hid ((HX.out.set _ _ _ _ _).keep hb)
  clear HX
  have HX := K
  clear K
  have K := hid ((HY.out.other HXY.out _ _ _ _ _).keep hb)
  clear HY
  have HY := K
  clear K
  have hW9 : Below w.heap.size w w9 := bthen (below_set5 hW8 hlX _ _ _ _ _) hb
  clear hb hW8
  obtain ⟨X0, X1, X2, X3, X4, _, _, _, _, _, Xl⟩ := HX.out
  obtain ⟨Y0, Y1, Y2, Y3, Y4, Yf0, Yf1, Yf2, Yf3, Yf4, Yl⟩ := HY.out
  have n1 : ¬ X = Y := HXY.out
  have n2 : ¬ Y = X := fun h => HXY.out h.symm
  go_wp2_with fail
  refine (same_like _ _ _ _ _ _ HE3.out _).mono ?_
  rintro e w10 ⟨rfl, hb⟩
  clear X0 X1 X2 X3 X4  Xl
  clear Y0 Y1 Y2 Y3 Y4 Yf0 Yf1 Yf2 Yf3 Yf4 Yl
  clear n1 n2
  have K := hid ((HA.out.other (Ne.symm HAY.out) _ _ _ _ _).keep hb)
  clear HA
  have HA := K
  clear K
  have K := hid ((HX.out.other (Ne.symm HXY.out) _ _ _ _ _).keep hb)
  clear HX
  have HX := K
  clear K
  have K := hid ((HY.out.set _ _ _ _ _).keep hb)
  clear HY
  have HY := K
  clear K
  have hW10 : Below w.heap.size w w10 := bthen (below_set5 hW9 hlY _ _ _ _ _) hb
  clear hb hW9
  obtain ⟨A0, A1, A2, A3, A4, _, _, _, _, _, Al⟩ := HA.out
  go_wp2_with fail
  refine (HN4.out _).mono ?_
  rintro e w11 ⟨rfl, hb⟩
  clear A0 A1 A2 A3 A4  Al
  have K := hid ((HA.out).keep hb)
  clear HA
  have HA := K
  clear K
  have K := hid ((HX.out).keep hb)
  clear HX
  have HX := K
  clear K
  have K := hid ((HY.out).keep hb)
  clear HY
  have HY := K
  clear K
  have hW11 := bthen hW10 hb
  clear hb hW10
  obtain ⟨A0, A1, A2, A3, A4, _, _, _, _, _, Al⟩ := HA.out
  obtain ⟨X0, X1, X2, X3, X4, Xf0, Xf1, Xf2, Xf3, Xf4, Xl⟩ := HX.out
  have n1 : ¬ w.heap.size = X := HAX.out
  have n2 : ¬ X = w.heap.size := fun h => HAX.out h.symm
  go_wp2_with fail
  refine (HM4.out _).mono ?_
  rintro e w12 ⟨rfl, hb⟩
  clear A0 A1 A2 A3 A4  Al
  clear X0 X1 X2 X3 X4 Xf0 Xf1 Xf2 Xf3 Xf4 Xl
  clear n1 n2
  have K := hid ((HA.out.other (Ne.symm HAX.out) _ _ _ _ _).keep hb)
  clear HA
  have HA := K
  clear K
  have K := hid ((HX.out.set _ _ _ _ _).keep hb)
  clear HX
  have HX := K
  clear K
  have K := hid ((HY.out.other HXY.out _ _ _ _ _).keep hb)
  clear HY
  have HY := K
  clear K
  have hW12 : Below w.heap.size w w12 := bthen (below_set5 hW11 hlX _ _ _ _ _) hb
  clear hb hW11
  obtain ⟨X0, X1, X2, X3, X4, _, _, _, _, _, Xl⟩ := HX.out
  obtain ⟨Y0, Y1, Y2, Y3, Y4, Yf0, Yf1, Yf2, Yf3, Yf4, Yl⟩ := HY.out
  have n1 : ¬ X = Y := HXY.out
  have n2 : ¬ Y = X := fun h => HXY.out h.symm
  go_wp2_with fail
  refine (same_like _ _ _ _ _ _ HE4.out _).mono ?_
  rintro e w13 ⟨rfl, hb⟩
  clear X0 X1 X2 X3 X4  Xl
  clear Y0 Y1 Y2 Y3 Y4 Yf0 Yf1 Yf2 Yf3 Yf4 Yl
  clear n1 n2
  have K := hid ((HA.out.other (Ne.symm HAY.out) _ _ _ _ _).keep hb)
  clear HA
  have HA := K
  clear K
  have K := hid ((HX.out.other (Ne.symm HXY.out) _ _ _ _ _).keep hb)
  clear HX
  have HX := K
  clear K
  have K := hid ((HY.out.set _ _ _ _ _).keep hb)
  clear HY
  have HY := K
  clear K
  have hW13 : Below w.heap.size w w13 := bthen (below_set5 hW12 hlY _ _ _ _ _) hb
  clear hb hW12
  go_wp2
  go_ret
  exact ⟨rfl, hW13⟩
end Go.Proofs.YtihkabgoaejcgaaDoor
