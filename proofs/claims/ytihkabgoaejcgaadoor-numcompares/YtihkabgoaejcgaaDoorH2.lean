/- The document's digits: the decimal numeral. -/
import Derived.Test.YtihkabgoaejcgaaDoorH1
import Derived.Deep.DrawnRows
namespace Go.Proofs.YtihkabgoaejcgaaDoor
open Go.RowKit
attribute [local go_sem ↓] Go.wp_at_zero Go.wp_at_succ

theorem one_byte (w : World) (x : UInt8) (X : Int) (hX : ((x.toNat : Nat) : Int) = X) : (convert 87 9 (.slice (some ⟨w.heap.size, 0, none⟩) 1 1)).run Tryd.prog (w.alloc (.cells #[.int .u8 X] 5)) = .ok (.string ⟨#[x]⟩) (w.alloc (.cells #[.int .u8 X] 5)) := by
  have r := run_convert_bytes_back (P := Tryd.prog) (w.alloc (.cells #[.int .u8 X] 5)) 87 9 5 ⟨w.heap.size, 0, none⟩ 1 [x] Tryd.underlying87 Tryd.underlying5 Tryd.underlying9 (fun j hj => by
    have hj0 : j = 0 := by simpa using hj
    subst hj0
    have ea : (⟨w.heap.size, 0, none⟩ : Addr).add 0 = ⟨w.heap.size, 0, none⟩ := by unfold Addr.add; simp
    rw [ea, World.cell?_alloc_new, ← hX]
    rfl)
  exact r

theorem one_kept {W wz : World} (x : UInt8) {X : Int} (hX : ((x.toNat : Nat) : Int) = X) (hb : Below (W.alloc (.cells #[.int .u8 X] 5)).heap.size (W.alloc (.cells #[.int .u8 X] 5)) wz) :
    (convert 87 9 (.slice (some ⟨W.heap.size, 0, none⟩) 1 1)).run Tryd.prog wz = .ok (.string ⟨#[x]⟩) wz := by
  have r := run_convert_bytes_back (P := Tryd.prog) wz 87 9 5 ⟨W.heap.size, 0, none⟩ 1 [x] Tryd.underlying87 Tryd.underlying5 Tryd.underlying9 (fun j hj => by
    have hj0 : j = 0 := by simpa using hj
    subst hj0
    have ea : (⟨W.heap.size, 0, none⟩ : Addr).add 0 = ⟨W.heap.size, 0, none⟩ := by unfold Addr.add; simp
    rw [ea, hb.cell (by simp), World.cell?_alloc_new, ← hX]
    rfl)
  exact r

theorem drewH {w1 w2 : World} (hb : Below w1.drew.heap.size w1.drew w2) : Below w1.heap.size w1 w2 := ⟨hb.os, hb.tape, hb.output, hb.size, hb.block⟩

theorem digit_u8 (d : Nat) (h : d < 10) : (((UInt8.ofNat (48 + d)).toNat : Nat) : Int) = 48 + (d : Int) := by
  rw [UInt8.toNat_ofNat', Nat.mod_eq_of_lt (by omega)]
  omega

set_option maxRecDepth 100000 in
theorem digits_s (U : Int) (X : UInt8) (h0 : 0 ≤ U) (h : U < 10) (ob : ∀ w : World, (convert 87 9 (.slice (some ⟨w.heap.size, 0, none⟩) 1 1)).run Tryd.prog (w.alloc (.cells #[.int .u8 (48 + U)] 5)) = .ok (.string ⟨#[X]⟩) (w.alloc (.cells #[.int .u8 (48 + U)] 5))) (w : World) :
    Calls Tryd.prog 86 #[.int .u64 U] w fun e w' => e = .returned (.string ⟨#[X]⟩) ∧ Below w.heap.size w w' := by
  go_enter Tryd.func86, Tryd.ntmps86
  go_wp2
  go_ret
  exact ⟨rfl, below_new _ _⟩

set_option maxRecDepth 100000 in
set_option maxHeartbeats 800000 in
theorem digits_m (U Q R : Int) (X : UInt8) (B : ByteArray) (h : decide (U < 10) = false) (e1 : U.tdiv 10 = Q) (e2 : U.tmod 10 = R) (w1 : IntKind.u64.wrap Q = Q) (w3 : IntKind.u64.wrap (48 + R) = 48 + R) (w4 : IntKind.u8.wrap (48 + R) = 48 + R) (hB : B.size ≤ 1000)
    (hX : ((X.toNat : Nat) : Int) = 48 + R)
    (ih : ∀ w, Calls Tryd.prog 86 #[.int .u64 Q] w fun e w' => e = .returned (.string B) ∧ Below w.heap.size w w') (w : World) :
    Calls Tryd.prog 86 #[.int .u64 U] w fun e w' => e = .returned (.string (B ++ ⟨#[X]⟩)) ∧ Below w.heap.size w w' := by
  have IH : Hid (∀ w, Calls Tryd.prog 86 #[.int .u64 Q] w fun e w' => e = .returned (.string B) ∧ Below w.heap.size w w') := ih
  clear ih
  have ob := fun w => one_byte w X _ hX
  have ob2 := fun W : World => one_kept (W := W) (wz := (W.alloc (.cells #[.int .u8 (48 + R)] 5)).drew) X hX (Below.refl _ _).drew
  go_enter Tryd.func86, Tryd.ntmps86
  go_wp2_with fail
  go_region_with (go_at_call 86; refine (IH.out _).mono ?_; rintro e wz ⟨rfl, hbz⟩; (first | (have obz := one_kept X hX (drewH hbz)) | (have obz := one_kept X hX hbz) | skip))
  all_goals
    go_wp2
    go_ret
    refine ⟨rfl, ?_⟩
    first
      | exact (below_new w _).drew.trans (hbz.mono (by simp))
      | exact (drewH hbz).alloc (drewH hbz).size _

theorem dec_len : ∀ (k u : Nat), u < 10 ^ (k + 1) → (Lib.decDigits u).length ≤ k + 1
  | 0, u, h => by rw [Lib.decDigits, dif_pos (by simpa using h)]; simp
  | k + 1, u, h => by
    by_cases h10 : u < 10
    · rw [Lib.decDigits, dif_pos h10]; simp
    · rw [Lib.decDigits, dif_neg h10, List.length_append]
      have : u / 10 < 10 ^ (k + 1) := by
        rw [Nat.div_lt_iff_lt_mul (by decide)]
        rw [Nat.pow_succ] at h
        exact h
      have := dec_len k (u / 10) this
      simp only [List.length_cons, List.length_nil]
      omega

theorem digits_any (u : Nat) (hu : u < 18446744073709551616) : ∀ w, Calls Tryd.prog 86 #[.int .u64 (u : Int)] w fun e w' => e = .returned (.string ⟨(Lib.decDigits u).toArray⟩) ∧ Below w.heap.size w w' := by
  induction u using Nat.strongRecOn with
  | ind u ih =>
    by_cases h : u < 10
    · rw [show Lib.decDigits u = [UInt8.ofNat (48 + u)] by rw [Lib.decDigits, dif_pos h]]
      exact digits_s (u : Int) (UInt8.ofNat (48 + u)) (by omega) (by omega) (fun w => one_byte w _ _ (digit_u8 u h))
    · have ih' := ih (u / 10) (by omega) (by omega)
      rw [show Lib.decDigits u = Lib.decDigits (u / 10) ++ [UInt8.ofNat (48 + u % 10)] by rw [Lib.decDigits, dif_neg h]]
      have hl := dec_len 19 (u / 10) (by omega)
      have := digits_m (u : Int) ((u / 10 : Nat) : Int) ((u % 10 : Nat) : Int) (UInt8.ofNat (48 + u % 10)) ⟨(Lib.decDigits (u / 10)).toArray⟩ (by simp; omega) rfl rfl (by rw [IntKind.wrap_u64]; omega) (by rw [IntKind.wrap_u64]; omega) (by rw [IntKind.wrap_u8]; omega) (by show (Lib.decDigits (u / 10)).toArray.size ≤ 1000; simp; omega) (digit_u8 (u % 10) (Nat.mod_lt _ (by decide))) ih'
      have e : (⟨(Lib.decDigits (u / 10)).toArray⟩ : ByteArray) ++ ⟨#[UInt8.ofNat (48 + u % 10)]⟩ = ⟨(Lib.decDigits (u / 10) ++ [UInt8.ofNat (48 + u % 10)]).toArray⟩ := by
        apply ByteArray.ext
        rw [ByteArray.data_append]
        simp
      rw [e] at this
      exact this

set_option maxRecDepth 100000 in
theorem decimal_neg (n U V : Int) (B : ByteArray) (h : decide (n < 0) = true) (hB : B.size ≤ 1000) (e1 : IntKind.u64.wrap n = U) (e2 : IntKind.u64.wrap (-U) = V) (ih : ∀ w, Calls Tryd.prog 86 #[.int .u64 V] w fun e w' => e = .returned (.string B) ∧ Below w.heap.size w w') (w : World) :
    Calls Tryd.prog 66 #[.int .i64 n] w fun e w' => e = .returned (.string (⟨#[45]⟩ ++ B)) ∧ Below w.heap.size w w' := by
  have IH : Hid (∀ w, Calls Tryd.prog 86 #[.int .u64 V] w fun e w' => e = .returned (.string B) ∧ Below w.heap.size w w') := ih
  clear ih
  go_enter Tryd.func66, Tryd.ntmps66
  go_wp2_with fail
  refine (IH.out _).mono ?_
  rintro e w1 ⟨rfl, hb⟩
  go_wp2
  go_ret
  exact ⟨rfl, hb⟩

theorem decimal_pos (n : Int) (B : ByteArray) (h : decide (n < 0) = false) (e1 : IntKind.u64.wrap n = n) (ih : ∀ w, Calls Tryd.prog 86 #[.int .u64 n] w fun e w' => e = .returned (.string B) ∧ Below w.heap.size w w') (w : World) :
    Calls Tryd.prog 66 #[.int .i64 n] w fun e w' => e = .returned (.string B) ∧ Below w.heap.size w w' := by
  have IH : Hid (∀ w, Calls Tryd.prog 86 #[.int .u64 n] w fun e w' => e = .returned (.string B) ∧ Below w.heap.size w w') := ih
  clear ih
  go_enter Tryd.func66, Tryd.ntmps66
  go_wp2_with fail
  refine (IH.out _).mono ?_
  rintro e w1 ⟨rfl, hb⟩
  go_wp2
  go_ret
  exact ⟨rfl, hb⟩
end Go.Proofs.YtihkabgoaejcgaaDoor
