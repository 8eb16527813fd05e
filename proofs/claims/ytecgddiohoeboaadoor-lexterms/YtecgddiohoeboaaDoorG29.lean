import Derived.Test.YtecgddiohoeboaaDoorLwB
import Derived.Test.YtecgddiohoeboaaDoorLzC
import Derived.Deep.DrawnRows
import Derived.Deep.RegionWith
import Derived.Lib.ItoaNum
import Derived.Test.YtecgddiohoeboaaDoorG26
/- Numbers as text, by the document's own reckoning. -/
namespace Go.Proofs.YtecgddiohoeboaaDoor
open Go.RowKit
attribute [local go_sem] store_float f64bits
attribute [local go_sem ↓] Go.wp_at_zero Go.wp_at_succ

theorem one_byte (w : World) (x : UInt8) (X : Int) (hX : ((x.toNat : Nat) : Int) = X) : (convert 31 9 (.slice (some ⟨w.heap.size, 0, none⟩) 1 1)).run Tryd.prog (w.alloc (.cells #[.int .u8 X] 5)) = .ok (.string ⟨#[x]⟩) (w.alloc (.cells #[.int .u8 X] 5)) := by
  have r := run_convert_bytes_back (P := Tryd.prog) (w.alloc (.cells #[.int .u8 X] 5)) 31 9 5 ⟨w.heap.size, 0, none⟩ 1 [x] Tryd.underlying31 Tryd.underlying5 Tryd.underlying9 (fun j hj => by
    have hj0 : j = 0 := by simpa using hj
    subst hj0
    have ea : (⟨w.heap.size, 0, none⟩ : Addr).add 0 = ⟨w.heap.size, 0, none⟩ := by unfold Addr.add; simp
    rw [ea, World.cell?_alloc_new, ← hX]
    rfl)
  exact r

theorem one_kept {W wz : World} (x : UInt8) {X : Int} (hX : ((x.toNat : Nat) : Int) = X) (hb : Below (W.alloc (.cells #[.int .u8 X] 5)).heap.size (W.alloc (.cells #[.int .u8 X] 5)) wz) :
    (convert 31 9 (.slice (some ⟨W.heap.size, 0, none⟩) 1 1)).run Tryd.prog wz = .ok (.string ⟨#[x]⟩) wz := by
  have r := run_convert_bytes_back (P := Tryd.prog) wz 31 9 5 ⟨W.heap.size, 0, none⟩ 1 [x] Tryd.underlying31 Tryd.underlying5 Tryd.underlying9 (fun j hj => by
    have hj0 : j = 0 := by simpa using hj
    subst hj0
    have ea : (⟨W.heap.size, 0, none⟩ : Addr).add 0 = ⟨W.heap.size, 0, none⟩ := by unfold Addr.add; simp
    rw [ea, hb.cell (by simp), World.cell?_alloc_new, ← hX]
    rfl)
  exact r

theorem drewH {w1 w2 : World} (hb : Below w1.drew.heap.size w1.drew w2) : Below w1.heap.size w1 w2 := ⟨hb.os, hb.tape, hb.output, hb.size, hb.block⟩

theorem digit_u8 (d : Nat) (h : d < 10) : (((UInt8.ofNat (48 + d)).toNat : Nat) : Int) = 48 + (d : Int) := by
  rw [UInt8.toNat_ofNat', Nat.mod_eq_of_lt (by omega)]
  omega

set_option maxRecDepth 100000 in
theorem digits_s (U : Int) (X : UInt8) (h0 : 0 ≤ U) (h : U < 10) (ob : ∀ w : World, (convert 31 9 (.slice (some ⟨w.heap.size, 0, none⟩) 1 1)).run Tryd.prog (w.alloc (.cells #[.int .u8 (48 + U)] 5)) = .ok (.string ⟨#[X]⟩) (w.alloc (.cells #[.int .u8 (48 + U)] 5))) (w : World) :
    Calls Tryd.prog 54 #[.int .u64 U] w fun e w' => e = .returned (.string ⟨#[X]⟩) ∧ Below w.heap.size w w' := by
  go_enter Tryd.func54, Tryd.ntmps54
  go_wp2
  go_ret
  exact ⟨rfl, below_new _ _⟩

set_option maxRecDepth 100000 in
set_option maxHeartbeats 800000 in
theorem digits_m (U Q R : Int) (X : UInt8) (B : ByteArray) (h : decide (U < 10) = false) (e1 : U.tdiv 10 = Q) (e2 : U.tmod 10 = R) (w1 : IntKind.u64.wrap Q = Q) (w3 : IntKind.u64.wrap (48 + R) = 48 + R) (w4 : IntKind.u8.wrap (48 + R) = 48 + R) (hB : B.size ≤ 1000)
    (hX : ((X.toNat : Nat) : Int) = 48 + R)
    (ih : ∀ w, Calls Tryd.prog 54 #[.int .u64 Q] w fun e w' => e = .returned (.string B) ∧ Below w.heap.size w w') (w : World) :
    Calls Tryd.prog 54 #[.int .u64 U] w fun e w' => e = .returned (.string (B ++ ⟨#[X]⟩)) ∧ Below w.heap.size w w' := by
  have IH : Hid (∀ w, Calls Tryd.prog 54 #[.int .u64 Q] w fun e w' => e = .returned (.string B) ∧ Below w.heap.size w w') := ih
  clear ih
  have ob := fun w => one_byte w X _ hX
  have ob2 := fun W : World => one_kept (W := W) (wz := (W.alloc (.cells #[.int .u8 (48 + R)] 5)).drew) X hX (Below.refl _ _).drew
  go_enter Tryd.func54, Tryd.ntmps54
  go_wp2_with fail
  go_region_with (go_at_call 54; refine (IH.out _).mono ?_; rintro e wz ⟨rfl, hbz⟩; (first | (have obz := one_kept X hX (drewH hbz)) | (have obz := one_kept X hX hbz) | skip))
  all_goals
    go_wp2
    go_ret
    refine ⟨rfl, ?_⟩
    first
      | exact (below_new w _).drew.trans (hbz.mono (by simp))
      | exact (drewH hbz).alloc (drewH hbz).size _

theorem dec_len : ∀ (k u : Nat), u < 10 ^ (k + 1) → (Lib.decDigits u).length ≤ k + 1
  | 0, u, h => by rw [Lib.decDigits, dif_pos (by simpa using h)]; simp
  | k + 1, u, h => by
    by_cases h10 : u < 10
    · rw [Lib.decDigits, dif_pos h10]; simp
    · rw [Lib.decDigits, dif_neg h10, List.length_append]
      have : u / 10 < 10 ^ (k + 1) := by
        rw [Nat.div_lt_iff_lt_mul (by decide)]
        rw [Nat.pow_succ] at h
        exact h
      have := dec_len k (u / 10) this
      simp only [List.length_cons, List.length_nil]
      omega

theorem digits_any (u : Nat) (hu : u < 18446744073709551616) : ∀ w, Calls Tryd.prog 54 #[.int .u64 (u : Int)] w fun e w' => e = .returned (.string ⟨(Lib.decDigits u).toArray⟩) ∧ Below w.heap.size w w' := by
  induction u using Nat.strongRecOn with
  | ind u ih =>
    by_cases h : u < 10
    · rw [show Lib.decDigits u = [UInt8.ofNat (48 + u)] by rw [Lib.decDigits, dif_pos h]]
      exact digits_s (u : Int) (UInt8.ofNat (48 + u)) (by omega) (by omega) (fun w => one_byte w _ _ (digit_u8 u h))
    · have ih' := ih (u / 10) (by omega) (by omega)
      rw [show Lib.decDigits u = Lib.decDigits (u / 10) ++ [UInt8.ofNat (48 + u % 10)] by rw [Lib.decDigits, dif_neg h]]
      have hl := dec_len 19 (u / 10) (by omega)
      have := digits_m (u : Int) ((u / 10 : Nat) : Int) ((u % 10 : Nat) : Int) (UInt8.ofNat (48 + u % 10)) ⟨(Lib.decDigits (u / 10)).toArray⟩ (by simp; omega) rfl rfl (by rw [IntKind.wrap_u64]; omega) (by rw [IntKind.wrap_u64]; omega) (by rw [IntKind.wrap_u8]; omega) (by show (Lib.decDigits (u / 10)).toArray.size ≤ 1000; simp; omega) (digit_u8 (u % 10) (Nat.mod_lt _ (by decide))) ih'
      have e : (⟨(Lib.decDigits (u / 10)).toArray⟩ : ByteArray) ++ ⟨#[UInt8.ofNat (48 + u % 10)]⟩ = ⟨(Lib.decDigits (u / 10) ++ [UInt8.ofNat (48 + u % 10)]).toArray⟩ := by
        apply ByteArray.ext
        rw [ByteArray.data_append]
        simp
      rw [e] at this
      exact this

set_option maxRecDepth 100000 in
theorem decimal_neg (n U V : Int) (B : ByteArray) (h : decide (n < 0) = true) (hB : B.size ≤ 1000) (e1 : IntKind.u64.wrap n = U) (e2 : IntKind.u64.wrap (-U) = V) (ih : ∀ w, Calls Tryd.prog 54 #[.int .u64 V] w fun e w' => e = .returned (.string B) ∧ Below w.heap.size w w') (w : World) :
    Calls Tryd.prog 28 #[.int .i64 n] w fun e w' => e = .returned (.string (⟨#[45]⟩ ++ B)) ∧ Below w.heap.size w w' := by
  have IH : Hid (∀ w, Calls Tryd.prog 54 #[.int .u64 V] w fun e w' => e = .returned (.string B) ∧ Below w.heap.size w w') := ih
  clear ih
  go_enter Tryd.func28, Tryd.ntmps28
  go_wp2_with fail
  refine (IH.out _).mono ?_
  rintro e w1 ⟨rfl, hb⟩
  go_wp2
  go_ret
  exact ⟨rfl, hb⟩

theorem decimal_pos (n : Int) (B : ByteArray) (h : decide (n < 0) = false) (e1 : IntKind.u64.wrap n = n) (ih : ∀ w, Calls Tryd.prog 54 #[.int .u64 n] w fun e w' => e = .returned (.string B) ∧ Below w.heap.size w w') (w : World) :
    Calls Tryd.prog 28 #[.int .i64 n] w fun e w' => e = .returned (.string B) ∧ Below w.heap.size w w' := by
  have IH : Hid (∀ w, Calls Tryd.prog 54 #[.int .u64 n] w fun e w' => e = .returned (.string B) ∧ Below w.heap.size w w') := ih
  clear ih
  go_enter Tryd.func28, Tryd.ntmps28
  go_wp2_with fail
  refine (IH.out _).mono ?_
  rintro e w1 ⟨rfl, hb⟩
  go_wp2
  go_ret
  exact ⟨rfl, hb⟩

theorem rtext_int (n : Int) (f : Nat) (s : ByteArray) (a : Option Addr) (l c : Nat) (b1 : -9223372036854775808 ≤ n) (b2 : n ≤ 9223372036854775807) (w : World) :
    Calls Tryd.prog 26 #[.agg #[.int .i64 1, .int .i64 n, .float .f64 f, .string s, .slice a l c]] w fun e w' => e = .returned (.string ⟨(Lib.itoa n).toArray⟩) ∧ Below w.heap.size w w' := by
  have D : ∀ w, Calls Tryd.prog 28 #[.int .i64 n] w fun e w' => e = .returned (.string ⟨(Lib.itoa n).toArray⟩) ∧ Below w.heap.size w w' := by
    unfold Lib.itoa
    rcases Int.lt_or_le n 0 with h | h
    · rw [if_pos h]
      have hl := dec_len 19 n.natAbs (by omega)
      have hd := digits_any n.natAbs (by omega)
      rw [show ((n.natAbs : Nat) : Int) = -n by omega] at hd
      have := decimal_neg n (18446744073709551616 + n) (-n) _ (by simpa using h) (by show (Lib.decDigits n.natAbs).toArray.size ≤ 1000; simp; omega) (by rw [IntKind.wrap_u64]; omega) (by rw [IntKind.wrap_u64]; omega) hd
      have e : (⟨#[45]⟩ : ByteArray) ++ ⟨(Lib.decDigits n.natAbs).toArray⟩ = ⟨(45 :: Lib.decDigits n.natAbs).toArray⟩ := by
        apply ByteArray.ext
        rw [ByteArray.data_append]
        simp
      rw [e] at this
      exact this
    · rw [if_neg (by omega)]
      have hd := digits_any n.toNat (by omega)
      rw [show ((n.toNat : Nat) : Int) = n by omega] at hd
      exact decimal_pos n _ (by simp; omega) (by rw [IntKind.wrap_u64]; omega) hd
  have HD := hidb D
  clear D b1 b2
  go_enter Tryd.func26, Tryd.ntmps26
  go_wp2_with fail
  refine (HD.out _).mono ?_
  rintro e w1 ⟨rfl, hb⟩
  have hW : Below w.heap.size w w1 := (below_new w _).trans (hb.mono (by simp))
  clear hb
  go_wp2
  go_ret
  exact ⟨rfl, hW⟩


set_option maxHeartbeats 2000000 in
set_option maxRecDepth 100000 in
theorem rhex_any (u : Int) (U : Nat) (hU : Hid (u = (U : Int))) (hU2 : U < 18446744073709551616) (w : World) : Calls Tryd.prog 51 #[.int .u64 u] w fun e w' => e = .returned (.string ⟨(hxL U 16).toArray⟩) ∧ Below w.heap.size w w' := by
  obtain ⟨i00, hi0, hz0, hz1, hz2⟩ := info_parts Tryd.Builder_Extra_169.infoByte
  go_enter Tryd.func51, Tryd.ntmps51
  go_wp2_with fail
  go_loopg [3, 4] 16 (fun gf s7 s8 wx => ∃ (j : Nat) (ao : Option Addr) (cap : Nat), s8 = .int .i64 (j : Int) ∧ s7 = .slice ao j cap ∧ j ≤ 16 ∧ 16 - j ≤ gf ∧ Below w.heap.size w wx ∧ wx.ownsRow w.heap.size 5 1 (.slice ao j cap) j (Lib.byteCells (hxL U j)))
  case atStart => exact ⟨0, none, 0, by simp, rfl, by omega, by omega, Below.refl _ _, ⟨rfl, .inl ⟨rfl, rfl⟩⟩⟩
  case round =>
    obtain ⟨j, ao, cap, rfl, rfl, hj16, hgf, hbw, how⟩ := hrel
    by_cases hlt : j < 16
    · have j1 : (j : Int) < 16 := by omega
      obtain ⟨g', rfl⟩ : ∃ g', gk = g' + 1 := ⟨gk - 1, by omega⟩
      obtain ⟨d, hd⟩ : ∃ d, U / 2 ^ (60 - 4 * j) % 16 = d := ⟨_, rfl⟩
      have hd16 : d < 16 := by omega
      have eb : bits BinOp.and IntKind.u64 (u / 2 ^ (60 - 4 * j)) 15 = (d : Int) := by
        rw [hU.out, ← hd, ← and15 _ (Nat.lt_of_le_of_lt (Nat.div_le_self _ _) hU2)]
        push_cast
        rfl
      have HSU : Hid (hxL U (j + 1) = hxL U j ++ [hxc d]) := hidb (by rw [hxL_succ, hd])
      clear hd
      have hjl : (hxL U j).length = j := hxL_len U j
      have HJL := hidb hjl
      clear hjl
      by_cases h10 : d < 10
      · have k1 : (d : Int) < 10 := by omega
        have hsn : Lib.byteCells (hxL U j) ++ [Value.int .u8 (48 + (d : Int))] = Lib.byteCells (hxL U (j + 1)) := by
          rw [HSU.out, show hxc d = UInt8.ofNat (48 + d) by unfold hxc; rw [if_pos h10], ← cell_snoc _ (48 + d) (by omega)]
          congr 3
        have HSN := hidb hsn
        clear hsn
        go_wp2_with (at_builtin; refine wpList_append_own _ rfl _ _ 31 rfl w.heap.size 5 i00 (.int .u8 0) 1 1 Tryd.underlying31 hi0 hz0 hz1 hz2 rfl (by decide) _ _ _ rfl (how.alloc _) ⟨wr.heap.size, 0, none⟩ 1 1 [.int .u8 (48 + (d : Int))] rfl rfl ?e1 ?e2 ?e3 ?e4 ?e5 ?_)
        try (case e1 => intro q u hq; exact app_one _ _ _ _ rfl q u hq)
        case e2 => first | rfl | (intro u hu; cases List.mem_singleton.1 hu; rfl)
        case e3 => unfold maxLen; omega
        case e4 => omega
        case e5 => first | (have := hbw.size; omega) | (have := hbw.size; simp; omega)
        intro v' w3 hown' hgrow hnil
        have hb3 := grow_below how hgrow hbw.size
        rw [HSN.out] at hown'
        have HO := hidb hown'
        have HB := hidb (hbw.trans hb3)
        obtain ⟨g9, cap9, rfl, _⟩ := hown'.form (by omega)
        clear hown' hgrow hnil hb3
        go_wp2_with fail
        go_roundg g'
        case measure => omega
        case rel => exact ⟨j + 1, _, _, by simp, rfl, by omega, by omega, HB.out, HO.out⟩
      · have k1 : ¬ (d : Int) < 10 := by omega
        have hsn : Lib.byteCells (hxL U j) ++ [Value.int .u8 (97 + (d : Int) - 10)] = Lib.byteCells (hxL U (j + 1)) := by
          rw [HSU.out, show hxc d = UInt8.ofNat (87 + d) by unfold hxc; rw [if_neg h10], ← cell_snoc _ (87 + d) (by omega)]
          congr 3
          omega
        have HSN := hidb hsn
        clear hsn
        go_wp2_with (at_builtin; refine wpList_append_own _ rfl _ _ 31 rfl w.heap.size 5 i00 (.int .u8 0) 1 1 Tryd.underlying31 hi0 hz0 hz1 hz2 rfl (by decide) _ _ _ rfl (how.alloc _) ⟨wr.heap.size, 0, none⟩ 1 1 [.int .u8 (97 + (d : Int) - 10)] rfl rfl ?f1 ?f2 ?f3 ?f4 ?f5 ?_)
        try (case f1 => intro q u hq; exact app_one _ _ _ _ rfl q u hq)
        case f2 => first | rfl | (intro u hu; cases List.mem_singleton.1 hu; rfl)
        case f3 => unfold maxLen; omega
        case f4 => omega
        case f5 => first | (have := hbw.size; omega) | (have := hbw.size; simp; omega)
        intro v' w3 hown' hgrow hnil
        have hb3 := grow_below how hgrow hbw.size
        rw [HSN.out] at hown'
        have HO := hidb hown'
        have HB := hidb (hbw.trans hb3)
        obtain ⟨g9, cap9, rfl, _⟩ := hown'.form (by omega)
        clear hown' hgrow hnil hb3
        go_wp2_with fail
        go_roundg g'
        case measure => omega
        case rel => exact ⟨j + 1, _, _, by simp, rfl, by omega, by omega, HB.out, HO.out⟩
    · have j1 : ¬ (j : Int) < 16 := by omega
      obtain rfl : j = 16 := by omega
      have hl : (hxL U 16).length = 16 := hxL_len U 16
      have hcv := text_all (hxL U 16) (by rw [hl]; exact how)
      obtain ⟨X, hX⟩ : ∃ X, (⟨(hxL U 16).toArray⟩ : ByteArray) = X := ⟨_, rfl⟩
      rw [hX] at hcv
      have HB := hidb hbw
      have HX := hidb hX
      clear hX how hbw hl
      go_wp2_with fail
      go_ret
      exact ⟨by rw [HX.out]; rfl, HB.out⟩

theorem rtext_flt (n : Int) (u : Nat) (s : ByteArray) (a : Option Addr) (l c : Nat) (hu : u < 18446744073709551616) (w : World) :
    Calls Tryd.prog 26 #[.agg #[.int .i64 2, .int .i64 n, .float .f64 u, .string s, .slice a l c]] w fun e w' => e = .returned (.string ⟨(35 :: hxL u 16).toArray⟩) ∧ Below w.heap.size w w' := by
  have D := rhex_any (u : Int) u (hidb rfl) hu
  have e : (⟨#[35]⟩ : ByteArray) ++ ⟨(hxL u 16).toArray⟩ = ⟨(35 :: hxL u 16).toArray⟩ := by
    apply ByteArray.ext
    rw [ByteArray.data_append]
    simp
  have hs : (⟨(hxL u 16).toArray⟩ : ByteArray).size = 16 := by show (hxL u 16).toArray.size = _; simp [hxL_len]
  obtain ⟨B, hB⟩ : ∃ B : ByteArray, (⟨(hxL u 16).toArray⟩ : ByteArray) = B := ⟨_, rfl⟩
  rw [hB] at D e hs
  rw [← e]
  have HD := hidb D
  clear D e hB hu
  go_enter Tryd.func26, Tryd.ntmps26
  go_wp2_with fail
  refine (HD.out _).mono ?_
  rintro e w1 ⟨rfl, hb1⟩
  have hW : Below w.heap.size w w1 := (below_new w _).trans (hb1.mono (by simp))
  clear hb1
  go_wp2
  go_ret
  exact ⟨rfl, hW⟩
end Go.Proofs.YtecgddiohoeboaaDoor


/- Atoms as text. -/
namespace Go.Proofs.YtecgddiohoeboaaDoor
open Go.RowKit
attribute [local go_sem] store_float f64bits
attribute [local go_sem ↓] Go.wp_at_zero Go.wp_at_succ

set_option maxHeartbeats 2000000 in
set_option maxRecDepth 100000 in
theorem rhexc_any (d : Nat) (hd : d < 16) (w : World) : Calls Tryd.prog 53 #[.int .u8 (d : Int)] w fun e w' => e = .returned (.string ⟨#[hxc d]⟩) ∧ Below w.heap.size w w' := by
  by_cases h10 : d < 10
  · have k1 : (d : Int) < 10 := by omega
    have ob := fun w => one_byte w (hxc d) (48 + (d : Int)) (by unfold hxc; rw [if_pos h10]; simp; omega)
    go_enter Tryd.func53, Tryd.ntmps53
    go_wp2_with fail
    go_ret
    exact ⟨rfl, below_new _ _⟩
  · have k1 : ¬ (d : Int) < 10 := by omega
    have ob := fun w => one_byte w (hxc d) (97 + (d : Int) - 10) (by unfold hxc; rw [if_neg h10]; simp; omega)
    go_enter Tryd.func53, Tryd.ntmps53
    go_wp2_with fail
    go_ret
    exact ⟨rfl, below_new _ _⟩

theorem plain_iff (s : ByteArray) : plainL (dl s) = true ↔ 0 < s.size ∧ pSmall (bt s 0) = true ∧ kept s = false ∧ ∀ j, j < s.size → pName (bt s j) = true := by
  have hss : (⟨(dl s).toArray⟩ : ByteArray) = s := by apply ByteArray.ext; exact Array.toList_inj.1 rfl
  have hl := dl_len s
  have hall : (∀ c ∈ dl s, pName c.toNat = true) ↔ ∀ j, j < s.size → pName (bt s j) = true := by
    constructor
    · intro h j hj
      rw [bt_dl s j (by rw [dl_len]; exact hj)]
      exact h _ (List.getElem_mem _)
    · intro h c hc
      obtain ⟨j, hj, rfl⟩ := List.getElem_of_mem hc
      rw [← bt_dl s j hj]
      exact h j (by rw [dl_len] at hj; exact hj)
  rw [← hall]
  cases hd : dl s with
  | nil =>
    rw [hd] at hl
    simp [plainL]
    intro h0
    simp at hl
    omega
  | cons c r =>
    have hb : bt s 0 = c.toNat := by
      rw [bt_dl s 0 (by rw [hd]; simp)]
      simp only [hd, List.getElem_cons_zero]
    rw [hd] at hss hl
    simp only [plainL, Bool.and_eq_true, Bool.not_eq_true', List.all_eq_true, hss, hb]
    simp at hl
    constructor
    · intro ⟨⟨a, b⟩, d⟩; exact ⟨by omega, a, b, d⟩
    · intro ⟨_, a, b, d⟩; exact ⟨⟨a, b⟩, d⟩

set_option maxHeartbeats 2000000 in
set_option maxRecDepth 100000 in
theorem rplain_any (s : ByteArray) (hs : s.size ≤ 64) (w : World) : Calls Tryd.prog 52 #[.string s] w fun e w' => e = .returned (.bool (plainL (dl s))) ∧ w' = w := by
  have cK := refKept_any s
  have hpl := plain_iff s
  obtain ⟨B, hB⟩ : ∃ B, plainL (dl s) = B := ⟨_, rfl⟩
  rw [hB] at hpl ⊢
  clear hB
  have hXn := str_nil s
  by_cases h0 : s.size = 0
  · obtain rfl : B = false := by cases B; rfl; exact absurd (hpl.1 rfl).1 (by omega)
    rw [decide_eq_true h0] at hXn
    go_enter Tryd.func52, Tryd.ntmps52
    go_wp2_with fail
    go_ret
    exact ⟨rfl, rfl⟩
  rw [decide_eq_false h0] at hXn
  have i1 : (0 : Int) < (s.size : Int) := by omega
  have hb := fun h => at_byte s 0 h
  obtain ⟨c, hc⟩ : ∃ c, bt s 0 = c := ⟨_, rfl⟩
  rw [hc] at hpl
  simp only [hc] at hb
  have HC := hidb hc
  clear hc
  by_cases h1 : c < 97
  · obtain rfl : B = false := by
      cases B
      · rfl
      · have := (hpl.1 rfl).2.1; simp [pSmall] at this; omega
    have j1 : (c : Int) < 97 := by omega
    go_enter Tryd.func52, Tryd.ntmps52
    go_wp2_with fail
    go_ret
    exact ⟨rfl, rfl⟩
  have j1 : ¬ (c : Int) < 97 := by omega
  by_cases h2 : 122 < c
  · obtain rfl : B = false := by
      cases B
      · rfl
      · have := (hpl.1 rfl).2.1; simp [pSmall] at this; omega
    have j2 : (122 : Int) < (c : Int) := by omega
    go_enter Tryd.func52, Tryd.ntmps52
    go_wp2_with fail
    go_ret
    exact ⟨rfl, rfl⟩
  have j2 : ¬ (122 : Int) < (c : Int) := by omega
  cases hk : kept s
  case true =>
    rw [hk] at cK
    obtain rfl : B = false := by
      cases B
      · rfl
      · have := (hpl.1 rfl).2.2.1; rw [hk] at this; cases this
    go_enter Tryd.func52, Tryd.ntmps52
    go_wp2_with (first | (go_at_call 24; refine (cK _).mono ?_; rintro e w' ⟨rfl, hw'⟩; obtain rfl := hw'.symm))
    go_ret
    exact ⟨rfl, rfl⟩
  case false =>
    rw [hk] at cK
    have hp2 : B = true ↔ ∀ j, j < s.size → pName (bt s j) = true := by
      rw [hpl]
      constructor
      · intro h; exact h.2.2.2
      · intro h; exact ⟨by omega, by simp [pSmall]; omega, hk, h⟩
    have HP := hidb hp2
    clear hpl hp2 hk
    go_enter Tryd.func52, Tryd.ntmps52
    go_wp2_with (first | (go_at_call 24; refine (cK _).mono ?_; rintro e w' ⟨rfl, hw'⟩; obtain rfl := hw'.symm))
    go_loopg [3] s.size (fun gf s3 wx => ∃ j : Nat, s3 = .int .i64 (j : Int) ∧ j ≤ s.size ∧ s.size - j ≤ gf ∧ (∀ i, i < j → pName (bt s i) = true) ∧ wx = w)
    case atStart => exact ⟨0, by simp, Nat.zero_le _, by omega, fun i hi => by omega, rfl⟩
    case round =>
      obtain ⟨j, rfl, hj, hgf, hall, hwx⟩ := hrel
      obtain rfl := hwx.symm
      have HA := hidb hall
      clear hall
      by_cases hlt : j < s.size
      · obtain ⟨g', rfl⟩ : ∃ g', gk = g' + 1 := ⟨gk - 1, by omega⟩
        have k0 : (0 : Int) ≤ (j : Int) := by omega
        have k1 : (j : Int) < (s.size : Int) := by omega
        have hbj := fun h => at_byte s j h
        have cL := rletter_any (bt s j)
        obtain ⟨d, hd⟩ : ∃ d, bt s j = d := ⟨_, rfl⟩
        rw [hd] at cL
        simp only [hd] at hbj
        have HD := hidb hd
        clear hd
        cases hn : pName d
        · rw [hn] at cL
          obtain rfl : B = false := by
            cases hBB : B
            · rfl
            · have := HP.out.1 hBB j hlt; rw [HD.out, hn] at this; cases this
          go_wp2_with (first | (go_at_call 65; refine (cL _).mono ?_; rintro e w' ⟨rfl, hw'⟩; obtain rfl := hw'.symm))
          go_ret
          exact ⟨rfl, rfl⟩
        · rw [hn] at cL
          have HN : Hid (∀ i, i < j + 1 → pName (bt s i) = true) := hidb (fun i hi => by
            by_cases h : i < j
            · exact HA.out i h
            · obtain rfl : i = j := by omega
              rw [HD.out]; exact hn)
          go_wp2_with (first | (go_at_call 65; refine (cL _).mono ?_; rintro e w' ⟨rfl, hw'⟩; obtain rfl := hw'.symm))
          go_roundg g'
          case measure => omega
          case rel => exact ⟨j + 1, by simp, by omega, by omega, HN.out, rfl⟩
      · have k1 : ¬ (j : Int) < (s.size : Int) := by omega
        obtain rfl : B = true := HP.out.2 (fun i hi => HA.out i (by omega))
        go_wp2_with fail
        go_ret
        exact ⟨rfl, rfl⟩
end Go.Proofs.YtecgddiohoeboaaDoor


