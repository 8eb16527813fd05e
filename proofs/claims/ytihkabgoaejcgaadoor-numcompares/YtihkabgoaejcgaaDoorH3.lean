/- Texts of right numbers, the program's and the document's. -/
import Derived.Test.YtihkabgoaejcgaaDoorH2
import Derived.Test.YtihkabgoaejcgaaDoorLaidP
import Derived.Test.YtihkabgoaejcgaaDoorX3
import Derived.Test.YtihkabgoaejcgaaDoorRX
import Derived.Test.YtihkabgoaejcgaaDoorN2
import Derived.Deep.DrawnRows
namespace Go.Proofs.YtihkabgoaejcgaaDoor
open Go.RowKit Go.Sort
attribute [local go_sem] store_float
attribute [local go_sem ↓] Go.wp_at_zero Go.wp_at_succ

theorem below_grow (w : World) (k : Nat) (os : Array Obj) : Below w.heap.size w (grow (w.drewN k) os) := by
  have h := below_regrown w (w.drawn + k) os
  exact h

theorem itoa_len (n : Int) (h1 : -9223372036854775808 ≤ n) (h2 : n ≤ 9223372036854775807) : (Lib.itoa n).length ≤ 100 := by
  unfold Lib.itoa
  split
  · have := dec_len 19 n.natAbs (by omega)
    simp only [List.length_cons]; omega
  · have := dec_len 19 n.toNat (by omega)
    omega

set_option maxHeartbeats 1000000 in
theorem text_int (n : Int) (f : Nat) (s : ByteArray) (a : Option Addr) (l c : Nat) (hf : f < 18446744073709551616) (h : rightB 1 n f s l = true) (b1 : -9223372036854775808 ≤ n) (b2 : n ≤ 9223372036854775807) (w : World) (ht : Lib.TabIs Tryd.prog w "internal/strconv.uint64pow10" .u64 Lib.pow10Tab) :
    Calls Tryd.prog 37 #[.agg #[.int .i64 1, .int .i64 n, .float .f64 f, .string s, .slice a l c]] w fun e w' => e = .returned (.string ⟨(Lib.itoa n).toArray⟩) ∧ Below w.heap.size w w' := by
  have HR : Hid (rightB 1 n f s l = true) := h
  have HT : Hid (Lib.TabIs Tryd.prog w "internal/strconv.uint64pow10" .u64 Lib.pow10Tab) := ht
  have HB : Hid (-9223372036854775808 ≤ n ∧ n ≤ 9223372036854775807) := ⟨b1, b2⟩
  clear h ht b1 b2
  go_enter Tryd.func37, Tryd.ntmps37
  go_wp2_with fail
  refine (valueOf_yes 1 n f s a l c hf HR.out _).mono ?_
  rintro e w1 ⟨rfl, hb1⟩
  have hW : Below w.heap.size w w1 := (below_new w _).trans (hb1.mono (by simp))
  clear hb1
  have hT1 : ∀ o, Lib.TabIs Tryd.prog (w1.alloc o) "internal/strconv.uint64pow10" .u64 Lib.pow10Tab := fun o => tab_keep (tab_keep HT.out hW) (below_new w1 o)
  have HT1 : Hid (∀ o, Lib.TabIs Tryd.prog (w1.alloc o) "internal/strconv.uint64pow10" .u64 Lib.pow10Tab) := hT1
  clear hT1
  go_wp2_with fail
  refine (Tryd.strconv_FormatInt_10 n HB.out.1 HB.out.2 _ (HT1.out _)).mono ?_
  rintro e w2 ⟨rfl, k, os, rfl⟩
  have hW2 : Below w.heap.size w _ := bthen (below_a1 hW (.cells #[.int .i64 1, .int .i64 n, .int .u64 f] 62)) (below_grow _ k os)
  have HW2 := hidE hW2
  clear hW2 hW
  go_wp2
  go_ret
  exact ⟨rfl, HW2.out⟩

theorem rtext_int (n : Int) (f : Nat) (s : ByteArray) (a : Option Addr) (l c : Nat) (b1 : -9223372036854775808 ≤ n) (b2 : n ≤ 9223372036854775807) (w : World) :
    Calls Tryd.prog 38 #[.agg #[.int .i64 1, .int .i64 n, .float .f64 f, .string s, .slice a l c]] w fun e w' => e = .returned (.string ⟨(Lib.itoa n).toArray⟩) ∧ Below w.heap.size w w' := by
  have D : ∀ w, Calls Tryd.prog 66 #[.int .i64 n] w fun e w' => e = .returned (.string ⟨(Lib.itoa n).toArray⟩) ∧ Below w.heap.size w w' := by
    unfold Lib.itoa
    rcases Int.lt_or_le n 0 with h | h
    · rw [if_pos h]
      have hl := dec_len 19 n.natAbs (by omega)
      have hd := digits_any n.natAbs (by omega)
      rw [show ((n.natAbs : Nat) : Int) = -n by omega] at hd
      have := decimal_neg n (18446744073709551616 + n) (-n) _ (by simpa using h) (by show (Lib.decDigits n.natAbs).toArray.size ≤ 1000; simp; omega) (by rw [IntKind.wrap_u64]; omega) (by rw [IntKind.wrap_u64]; omega) hd
      have e : (⟨#[45]⟩ : ByteArray) ++ ⟨(Lib.decDigits n.natAbs).toArray⟩ = ⟨(45 :: Lib.decDigits n.natAbs).toArray⟩ := by
        apply ByteArray.ext
        rw [ByteArray.data_append]
        simp
      rw [e] at this
      exact this
    · rw [if_neg (by omega)]
      have hd := digits_any n.toNat (by omega)
      rw [show ((n.toNat : Nat) : Int) = n by omega] at hd
      exact decimal_pos n _ (by simp; omega) (by rw [IntKind.wrap_u64]; omega) hd
  have HD := hidE D
  clear D b1 b2
  go_enter Tryd.func38, Tryd.ntmps38
  go_wp2_with fail
  refine (HD.out _).mono ?_
  rintro e w1 ⟨rfl, hb⟩
  have hW : Below w.heap.size w w1 := (below_new w _).trans (hb.mono (by simp))
  clear hb
  go_wp2
  go_ret
  exact ⟨rfl, hW⟩

theorem rtext_flt (n : Int) (u : Nat) (s : ByteArray) (a : Option Addr) (l c : Nat) (hu : u < 18446744073709551616) (w : World) :
    Calls Tryd.prog 38 #[.agg #[.int .i64 2, .int .i64 n, .float .f64 u, .string s, .slice a l c]] w fun e w' => e = .returned (.string ⟨(35 :: hexN u 16).toArray⟩) ∧ Below w.heap.size w w' := by
  have hb := f64bits
  have D := hex_any u hu
  have e : (⟨#[35]⟩ : ByteArray) ++ ⟨(hexN u 16).toArray⟩ = ⟨(35 :: hexN u 16).toArray⟩ := by
    apply ByteArray.ext
    rw [ByteArray.data_append]
    simp
  have hs : (⟨(hexN u 16).toArray⟩ : ByteArray).size = 16 := by show (hexN u 16).toArray.size = _; simp [hexN_length]
  obtain ⟨B, hB⟩ : ∃ B : ByteArray, (⟨(hexN u 16).toArray⟩ : ByteArray) = B := ⟨_, rfl⟩
  rw [hB] at D e hs
  rw [← e]
  have HD := hidE D
  clear D e hB hu
  go_enter Tryd.func38, Tryd.ntmps38
  go_wp2_with fail
  refine (HD.out _).mono ?_
  rintro e w1 ⟨rfl, hb1⟩
  have hW : Below w.heap.size w w1 := (below_new w _).trans (hb1.mono (by simp))
  clear hb1
  go_wp2
  go_ret
  exact ⟨rfl, hW⟩
end Go.Proofs.YtihkabgoaejcgaaDoor
