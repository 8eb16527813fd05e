/- The walk of NumOver: it returns true, and nothing that was there has turned. -/
import Derived.Test.YtmmldghlellehacDoorFA
import Derived.Deep.DeepCutAuto
import Derived.Test.YtmmldghlellehacDoorO4add
import Derived.Test.YtmmldghlellehacDoorO4sub
import Derived.Test.YtmmldghlellehacDoorO4mul
import Derived.Test.YtmmldghlellehacDoorO3z
namespace Go.Proofs.YtmmldghlellehacDoor
open Go.RowKit
attribute [local go_sem] store_float
attribute [local go_sem ↓] Go.wp_at_zero Go.wp_at_succ

theorem order_nan (t y : Nat) : FloatKind.f64.format.order (Flt.nanOf t) y = none := Flt.nanOf_order t y

set_option maxHeartbeats 1000000 in
theorem numOver_not (u v : Nat) (h : Flt.fin u = false ∨ Flt.fin u = true ∧ Flt.fin v = false) (w : World) (ht : w.cell? ⟨4, 15, none⟩ = some (.int .u8 4)) :
    Calls Tryd.prog 4 #[.int .u64 u, .int .u64 v] w fun e w' => e = .returned (.bool true) ∧ Below w.heap.size w w' := by
  have hfb := f64frombits
  have ho := order_nan
  have hoz : FloatKind.f64.format.order 0 0 = some .eq := Flt.order_zero_zero
  rcases h with hu | ⟨hu, hv⟩
  · have s1 := fun t w => sub_nan t u hu w
    go_enter Tryd.func4, Tryd.ntmps4
    go_wp2_with fail
    refine (known_any _ ht).mono ?_
    rintro e w1 ⟨rfl, hb1⟩
    clear ht
    go_wp2
    go_ret
    exact ⟨rfl, hb1.drew⟩
  · have s1 := fun t w => sub_fin t u hu w
    have s2 := fun t w => sub_nan t v hv w
    go_enter Tryd.func4, Tryd.ntmps4
    go_wp2_with fail
    refine (known_any _ ht).mono ?_
    rintro e w1 ⟨rfl, hb1⟩
    clear ht
    go_wp2
    go_ret
    exact ⟨rfl, hb1.drew⟩

/-- the four signs lie in a block of their own, and stay there -/
structure StrInv (w wr : World) (S : Nat) : Prop where
  below : Below w.heap.size w wr
  lt : S < wr.heap.size
  c0 : wr.cell? ⟨S, 0, none⟩ = some (.string ⟨#[43]⟩)
  c1 : wr.cell? ⟨S, 1, none⟩ = some (.string ⟨#[45]⟩)
  c2 : wr.cell? ⟨S, 2, none⟩ = some (.string ⟨#[42]⟩)
  c3 : wr.cell? ⟨S, 3, none⟩ = some (.string ⟨#[47]⟩)

theorem StrInv.step {w wr W : World} {S : Nat} (h : StrInv w wr S) (hb : Below wr.heap.size wr W) : StrInv w W S :=
  ⟨bthen h.below hb, Nat.lt_of_lt_of_le h.lt hb.size, (hb.cell h.lt).trans h.c0, (hb.cell h.lt).trans h.c1, (hb.cell h.lt).trans h.c2, (hb.cell h.lt).trans h.c3⟩

theorem from2 {wr w3 : World} {o1 o2 : Obj} (hb : Below ((wr.alloc o1).alloc o2).drew.heap.size ((wr.alloc o1).alloc o2).drew w3) : Below wr.heap.size wr w3 :=
  (((below_new wr o1).alloc (by simp) o2).drew).trans (hb.mono (by simp; omega))

theorem from3 {wr w3 : World} {o1 o2 o3 : Obj} (hb : Below (((wr.alloc o1).alloc o2).alloc o3).drew.heap.size (((wr.alloc o1).alloc o2).alloc o3).drew w3) : Below wr.heap.size wr w3 :=
  ((((below_new wr o1).alloc (by simp) o2).alloc (by simp; omega) o3).drew).trans (hb.mono (by simp; omega))

theorem z1 {wr w3 : World} {o2 o3 : Obj} {t : TypeId} {v0 v1 v2 v3 v4 : Value} (hb : Below (((wr.alloc (.cells #[v0, v1, v2, v3, v4] t)).alloc o2).alloc o3).drew.heap.size (((wr.alloc (.cells #[v0, v1, v2, v3, v4] t)).alloc o2).alloc o3).drew w3) : Box w3 wr.heap.size v0 v1 v2 v3 v4 :=
  ((((Box.new wr t v0 v1 v2 v3 v4).alloc o2).alloc o3).drew).keep hb

theorem z2 {wr w3 : World} {o1 o3 : Obj} {t : TypeId} {v0 v1 v2 v3 v4 : Value} (hb : Below (((wr.alloc o1).alloc (.cells #[v0, v1, v2, v3, v4] t)).alloc o3).drew.heap.size (((wr.alloc o1).alloc (.cells #[v0, v1, v2, v3, v4] t)).alloc o3).drew w3) : Box w3 (wr.heap.size + 1) v0 v1 v2 v3 v4 := by
  have := (((Box.new (wr.alloc o1) t v0 v1 v2 v3 v4).alloc o3).drew).keep hb
  rwa [show (wr.alloc o1).heap.size = wr.heap.size + 1 by simp] at this

theorem z3 {wr w3 : World} {o1 o2 : Obj} {t : TypeId} {v0 v1 v2 v3 v4 : Value} (hb : Below (((wr.alloc o1).alloc o2).alloc (.cells #[v0, v1, v2, v3, v4] t)).drew.heap.size (((wr.alloc o1).alloc o2).alloc (.cells #[v0, v1, v2, v3, v4] t)).drew w3) : Box w3 (wr.heap.size + 1 + 1) v0 v1 v2 v3 v4 := by
  have := ((Box.new ((wr.alloc o1).alloc o2) t v0 v1 v2 v3 v4).drew).keep hb
  rwa [show ((wr.alloc o1).alloc o2).heap.size = wr.heap.size + 1 + 1 by simp] at this

theorem zs1 {wr w3 : World} {o2 o3 : Obj} {t : TypeId} {v0 v1 v2 v3 v4 : Value} (hb : Below (((wr.alloc (.cells #[v0, v1, v2, v3, v4] t)).alloc o2).alloc o3).drew.heap.size (((wr.alloc (.cells #[v0, v1, v2, v3, v4] t)).alloc o2).alloc o3).drew w3) (u0 u1 u2 u3 u4 : Value) :
    Box (((((w3.setCell ⟨wr.heap.size, 0, none⟩ u0).setCell ⟨wr.heap.size, 1, none⟩ u1).setCell ⟨wr.heap.size, 2, none⟩ u2).setCell ⟨wr.heap.size, 3, none⟩ u3).setCell ⟨wr.heap.size, 4, none⟩ u4) wr.heap.size u0 u1 u2 u3 u4 ∧ Below wr.heap.size wr (((((w3.setCell ⟨wr.heap.size, 0, none⟩ u0).setCell ⟨wr.heap.size, 1, none⟩ u1).setCell ⟨wr.heap.size, 2, none⟩ u2).setCell ⟨wr.heap.size, 3, none⟩ u3).setCell ⟨wr.heap.size, 4, none⟩ u4) :=
  ⟨(z1 hb).set _ _ _ _ _, below_set5 (from3 hb) (Nat.le_refl _) _ _ _ _ _⟩

theorem zs2 {wr w3 : World} {o1 o3 : Obj} {t : TypeId} {v0 v1 v2 v3 v4 : Value} (hb : Below (((wr.alloc o1).alloc (.cells #[v0, v1, v2, v3, v4] t)).alloc o3).drew.heap.size (((wr.alloc o1).alloc (.cells #[v0, v1, v2, v3, v4] t)).alloc o3).drew w3) (u0 u1 u2 u3 u4 : Value) :
    Box (((((w3.setCell ⟨wr.heap.size + 1, 0, none⟩ u0).setCell ⟨wr.heap.size + 1, 1, none⟩ u1).setCell ⟨wr.heap.size + 1, 2, none⟩ u2).setCell ⟨wr.heap.size + 1, 3, none⟩ u3).setCell ⟨wr.heap.size + 1, 4, none⟩ u4) (wr.heap.size + 1) u0 u1 u2 u3 u4 ∧ Below wr.heap.size wr (((((w3.setCell ⟨wr.heap.size + 1, 0, none⟩ u0).setCell ⟨wr.heap.size + 1, 1, none⟩ u1).setCell ⟨wr.heap.size + 1, 2, none⟩ u2).setCell ⟨wr.heap.size + 1, 3, none⟩ u3).setCell ⟨wr.heap.size + 1, 4, none⟩ u4) :=
  ⟨(z2 hb).set _ _ _ _ _, below_set5 (from3 hb) (by omega) _ _ _ _ _⟩

theorem zs3 {wr w3 : World} {o1 o2 : Obj} {t : TypeId} {v0 v1 v2 v3 v4 : Value} (hb : Below (((wr.alloc o1).alloc o2).alloc (.cells #[v0, v1, v2, v3, v4] t)).drew.heap.size (((wr.alloc o1).alloc o2).alloc (.cells #[v0, v1, v2, v3, v4] t)).drew w3) (u0 u1 u2 u3 u4 : Value) :
    Box (((((w3.setCell ⟨wr.heap.size + 1 + 1, 0, none⟩ u0).setCell ⟨wr.heap.size + 1 + 1, 1, none⟩ u1).setCell ⟨wr.heap.size + 1 + 1, 2, none⟩ u2).setCell ⟨wr.heap.size + 1 + 1, 3, none⟩ u3).setCell ⟨wr.heap.size + 1 + 1, 4, none⟩ u4) (wr.heap.size + 1 + 1) u0 u1 u2 u3 u4 ∧ Below wr.heap.size wr (((((w3.setCell ⟨wr.heap.size + 1 + 1, 0, none⟩ u0).setCell ⟨wr.heap.size + 1 + 1, 1, none⟩ u1).setCell ⟨wr.heap.size + 1 + 1, 2, none⟩ u2).setCell ⟨wr.heap.size + 1 + 1, 3, none⟩ u3).setCell ⟨wr.heap.size + 1 + 1, 4, none⟩ u4) :=
  ⟨(z3 hb).set _ _ _ _ _, below_set5 (from3 hb) (by omega) _ _ _ _ _⟩

theorem trans_d1 {wr w3 w4 : World} (h : Below wr.heap.size wr w3) (hb : Below w3.drew.heap.size w3.drew w4) : Below wr.heap.size wr w4 := bthen h.drew hb
theorem trans_d2 {wr w3 w4 : World} (h : Below wr.heap.size wr w3) (hb : Below w3.drew.drew.heap.size w3.drew.drew w4) : Below wr.heap.size wr w4 := bthen h.drew.drew hb

theorem cells_up {wr : World} {S j : Nat} {v : Value} (h : wr.cell? ⟨S, j, none⟩ = some v) : (∀ o1, (wr.alloc o1).cell? ⟨S, j, none⟩ = some v) ∧ (∀ o1 o2, ((wr.alloc o1).alloc o2).cell? ⟨S, j, none⟩ = some v) ∧ (∀ o1 o2 o3, (((wr.alloc o1).alloc o2).alloc o3).cell? ⟨S, j, none⟩ = some v) := by
  have k : ∀ (w : World) (o : Obj), w.cell? ⟨S, j, none⟩ = some v → (w.alloc o).cell? ⟨S, j, none⟩ = some v := fun w o h => by rw [(below_new w o).cell (block_lt_of_cell h)]; exact h
  exact ⟨fun o1 => k _ _ h, fun o1 o2 => k _ _ (k _ _ h), fun o1 o2 o3 => k _ _ (k _ _ (k _ _ h))⟩

theorem box_then {wr w3 : World} {o : Obj} (h : Below wr.heap.size wr w3) : Below wr.heap.size wr (w3.alloc o) := h.alloc h.size o

/-- zero by its bits is zero by its value -/
theorem order_zero {v : Nat} (hl : v < 18446744073709551616) (hv : Flt.fin v = true) : (FloatKind.f64.format.order v 0 == some .eq) = zB v := by
  obtain ⟨m, p, hr, hc, hp, he⟩ := Flt.read_canon hl hv
  have h0 : Ieee.double.read 0 = .number false 0 (-1074) := by decide
  have e : FloatKind.f64.format.order v 0 = Ieee.Datum.order (Ieee.double.read v) (Ieee.double.read 0) := rfl
  rw [e, hr, h0]
  have hlo := hc.lo
  have hmin : min p (-1074) = -1074 := by omega
  simp only [Ieee.Datum.order, hmin, Ieee.signed]
  have hz : zB v = decide (m = 0) := by
    unfold zB
    rw [he, Bool.eq_iff_iff, decide_eq_true_iff, decide_eq_true_iff]
    constructor
    · intro h; omega
    · intro h; have := hc.norm; omega
  rw [hz]
  have hpw : 0 < 2 ^ (p - -1074).toNat := Nat.two_pow_pos _
  by_cases hm : m = 0
  · subst hm; cases decide (9223372036854775808 ≤ v) <;> simp
  · have hne : 0 < m <<< (p - -1074).toNat := by rw [Nat.shiftLeft_eq]; exact Nat.mul_pos (by omega) hpw
    generalize m <<< (p - -1074).toNat = q at hne
    rw [decide_eq_false hm]
    cases decide (9223372036854775808 ≤ v)
    · have : compare (q : Int) 0 = .gt := by rw [Int.compare_eq_gt]; omega
      simp [this]
    · have : compare (-(q : Int)) 0 = .lt := by rw [Int.compare_eq_lt]; omega
      simp [this]

theorem realV2 (u : Nat) : realV 2 0 u = u := by simp [realV]
theorem numBits_fin {r : Nat} (h : Flt.fin r = true) : numBits r = ⟨2, 0, r, 0⟩ := by simp [numBits, h]
theorem numBits_inf {r : Nat} (h : Flt.fin r = false) : numBits r = ⟨0, 0, 0, 11⟩ := by simp [numBits, h]

theorem nan_any (w : World) : Calls Tryd.prog 14 #[] w fun e w' => e = .returned (.float .f64 9221120237041090561) ∧ w' = w := by
  have hf := f64frombits
  go_enter Tryd.func14, Tryd.ntmps14
  go_wp2
  go_ret
  exact ⟨rfl, rfl⟩

set_option maxRecDepth 100000 in
set_option maxHeartbeats 64000000 in
theorem numOver_fin (u v : Nat) (hu : Flt.fin u = true) (hv : Flt.fin v = true) (hul : u < 18446744073709551616) (hvl : v < 18446744073709551616) (w : World) (ht : w.cell? ⟨4, 15, none⟩ = some (.int .u8 4)) :
    Calls Tryd.prog 4 #[.int .u64 u, .int .u64 v] w fun e w' => e = .returned (.bool true) ∧ Below w.heap.size w w' := by
  have hfb := f64frombits
  have hf64 := f64bits
  have ho := order_nan
  have hoz : FloatKind.f64.format.order 0 0 = some .eq := Flt.order_zero_zero
  have s1 := fun t w => sub_fin t u hu w
  have s2 := fun t w => sub_fin t v hv w
  have HU := hid (show rightB 2 0 u ⟨#[]⟩ 0 = true by simp [rightB, hu])
  have HV := hid (show rightB 2 0 v ⟨#[]⟩ 0 = true by simp [rightB, hv])
  have HOV := hid (order_zero hvl hv)
  go_enter Tryd.func4, Tryd.ntmps4
  go_wp2_with fail
  refine (known_any _ ht).mono ?_
  rintro e w1 ⟨rfl, hb1⟩
  clear ht
  go_wp2
  have start : StrInv w (w1.alloc (.cells #[.string ⟨#[43]⟩, .string ⟨#[45]⟩, .string ⟨#[42]⟩, .string ⟨#[47]⟩] 9)) w1.heap.size :=
    ⟨hb1.alloc hb1.size _, by simp, by rw [World.cell?_alloc_new]; rfl, by rw [World.cell?_alloc_new]; rfl, by rw [World.cell?_alloc_new]; rfl, by rw [World.cell?_alloc_new]; rfl⟩
  generalize w1.heap.size = S at *
  clear hb1 s1 s2 hu hv
  go_loopw [8] (fun k wr => ∃ j : Nat, j ≤ 4 ∧ k = .int .i64 j ∧ StrInv w wr S) (fun k _ => 4 - (intOf k).toNat)
  case atStart => exact ⟨0, by omega, rfl, start⟩
  case round =>
    clear start
    obtain ⟨j, hj, rfl, I⟩ := hrel
    rcases (by omega : j = 0 ∨ j = 1 ∨ j = 2 ∨ j = 3 ∨ j = 4) with rfl | rfl | rfl | rfl | rfl
    · have cj := I.c0
      obtain ⟨cj1, cj2, cj3⟩ := cells_up cj
      have HI := hid I
      clear I
      generalize hR : fltR (floatBits .add .f64 (realV 2 0 u) (realV 2 0 v)) = r
      have HRR := hid hR
      clear hR
      go_wp2
      go_cut [9, 10] (fun z e wc => ∃ b, z = .pointer (some ⟨b, 0, none⟩) ∧ e = .int .i64 r.e ∧ Box wc b (.int .i64 r.k) (.int .i64 r.n) (.float .f64 r.f) (.string ⟨#[]⟩) (.slice none 0 0) ∧ Below wr.heap.size wr wc)
      case first =>
        go_region_with (first
          | (go_at_call 13; refine (f_at _ _).mono ?_; rintro e w' ⟨rfl, rfl⟩)
          | (go_at_call 7; refine (op_fadd 2 2 0 0 u v ⟨#[]⟩ ⟨#[]⟩ none none 0 0 0 0 HU.out HV.out hul hvl (by decide) _).mono ?_; rintro e w3 ⟨rfl, hb3⟩; rw [HRR.out]; obtain ⟨hc3, hfr3⟩ := bcell hb3))
        all_goals
          go_wp2_with fail
          go_meet
          case rel =>
            first
              | with_reducible exact ⟨_, rfl, rfl, Box.new _ _ _ _ _ _ _, box_then (from2 hb3)⟩
              | with_reducible exact ⟨_, rfl, rfl, (zs1 hb3 _ _ _ _ _).1, (zs1 hb3 _ _ _ _ _).2⟩
              | with_reducible exact ⟨_, rfl, rfl, (zs2 hb3 _ _ _ _ _).1, (zs2 hb3 _ _ _ _ _).2⟩
              | with_reducible exact ⟨_, rfl, rfl, (zs3 hb3 _ _ _ _ _).1, (zs3 hb3 _ _ _ _ _).2⟩
      case rest =>
        obtain ⟨b, rfl, rfl, BZ, hkc⟩ := hcut
        have HKC := hid hkc
        clear hkc
        cases hr : floatBits .add .f64 u v with
        | none =>
          obtain rfl : r = ⟨0, 0, 0, 11⟩ := HRR.out.symm.trans (by rw [realV2, realV2, hr]; rfl)
          have a1 := fun t w => flt_nan .add t u v hr (by simp) w
          have a2 := fun t q w => sub_nan t (Flt.nanOf q) (Flt.nanOf_fin q) w
          obtain ⟨z0, z1, z2, z3, z4, _, _, _, _, _, zl⟩ := BZ
          clear hr HRR
          go_wp2_with fail
          refine (same_true _ _ _ _).mono ?_
          rintro e w4 ⟨rfl, hb4⟩
          have hk4 := trans_d2 HKC.out hb4
          clear hb4 z0 z1 z2 z3 z4
          go_wp2
          go_roundw
          case rel => first | exact ⟨1, by omega, rfl, HI.out.step hk4⟩ | ((repeat apply Exists.intro); exact ⟨⟨1, by omega, rfl, HI.out.step hk4⟩, rfl⟩)
          case measure => simp [intOf]
        | some q =>
          have a1 := fun t w => run_float_arith (P := Tryd.prog) w .add t .f64 u v q hr
          cases hf : Flt.fin q
          · obtain rfl : r = ⟨0, 0, 0, 11⟩ := HRR.out.symm.trans (by rw [realV2, realV2, hr]; exact numBits_inf hf)
            have a2 := fun t w => sub_nan t q hf w
            obtain ⟨z0, z1, z2, z3, z4, _, _, _, _, _, zl⟩ := BZ
            clear hr hf HRR
            go_wp2_with fail
            refine (same_true _ _ _ _).mono ?_
            rintro e w4 ⟨rfl, hb4⟩
            have hk4 := trans_d1 HKC.out hb4
            clear hb4 z0 z1 z2 z3 z4
            go_wp2
            go_roundw
            case rel => first | exact ⟨1, by omega, rfl, HI.out.step hk4⟩ | ((repeat apply Exists.intro); exact ⟨⟨1, by omega, rfl, HI.out.step hk4⟩, rfl⟩)
            case measure => simp [intOf]
          · obtain rfl : r = ⟨2, 0, q, 0⟩ := HRR.out.symm.trans (by rw [realV2, realV2, hr]; exact numBits_fin hf)
            have a2 := fun t w => sub_fin t q hf w
            obtain ⟨z0, z1, z2, z3, z4, _, _, _, _, _, zl⟩ := BZ
            clear hr hf HRR
            go_wp2
            go_roundw
            case rel => first | exact ⟨1, by omega, rfl, HI.out.step HKC.out⟩ | ((repeat apply Exists.intro); exact ⟨⟨1, by omega, rfl, HI.out.step HKC.out⟩, rfl⟩)
            case measure => simp [intOf]
    · have cj := I.c1
      obtain ⟨cj1, cj2, cj3⟩ := cells_up cj
      have HI := hid I
      clear I
      generalize hR : fltR (floatBits .sub .f64 (realV 2 0 u) (realV 2 0 v)) = r
      have HRR := hid hR
      clear hR
      go_wp2
      go_cut [9, 10] (fun z e wc => ∃ b, z = .pointer (some ⟨b, 0, none⟩) ∧ e = .int .i64 r.e ∧ Box wc b (.int .i64 r.k) (.int .i64 r.n) (.float .f64 r.f) (.string ⟨#[]⟩) (.slice none 0 0) ∧ Below wr.heap.size wr wc)
      case first =>
        go_region_with (first
          | (go_at_call 13; refine (f_at _ _).mono ?_; rintro e w' ⟨rfl, rfl⟩)
          | (go_at_call 7; refine (op_fsub 2 2 0 0 u v ⟨#[]⟩ ⟨#[]⟩ none none 0 0 0 0 HU.out HV.out hul hvl (by decide) _).mono ?_; rintro e w3 ⟨rfl, hb3⟩; rw [HRR.out]; obtain ⟨hc3, hfr3⟩ := bcell hb3))
        all_goals
          go_wp2_with fail
          go_meet
          case rel =>
            first
              | with_reducible exact ⟨_, rfl, rfl, Box.new _ _ _ _ _ _ _, box_then (from2 hb3)⟩
              | with_reducible exact ⟨_, rfl, rfl, (zs1 hb3 _ _ _ _ _).1, (zs1 hb3 _ _ _ _ _).2⟩
              | with_reducible exact ⟨_, rfl, rfl, (zs2 hb3 _ _ _ _ _).1, (zs2 hb3 _ _ _ _ _).2⟩
              | with_reducible exact ⟨_, rfl, rfl, (zs3 hb3 _ _ _ _ _).1, (zs3 hb3 _ _ _ _ _).2⟩
      case rest =>
        obtain ⟨b, rfl, rfl, BZ, hkc⟩ := hcut
        have HKC := hid hkc
        clear hkc
        cases hr : floatBits .sub .f64 u v with
        | none =>
          obtain rfl : r = ⟨0, 0, 0, 11⟩ := HRR.out.symm.trans (by rw [realV2, realV2, hr]; rfl)
          have a1 := fun t w => flt_nan .sub t u v hr (by simp) w
          have a2 := fun t q w => sub_nan t (Flt.nanOf q) (Flt.nanOf_fin q) w
          obtain ⟨z0, z1, z2, z3, z4, _, _, _, _, _, zl⟩ := BZ
          clear hr HRR
          go_wp2_with fail
          refine (same_true _ _ _ _).mono ?_
          rintro e w4 ⟨rfl, hb4⟩
          have hk4 := trans_d2 HKC.out hb4
          clear hb4 z0 z1 z2 z3 z4
          go_wp2
          go_roundw
          case rel => first | exact ⟨2, by omega, rfl, HI.out.step hk4⟩ | ((repeat apply Exists.intro); exact ⟨⟨2, by omega, rfl, HI.out.step hk4⟩, rfl⟩)
          case measure => simp [intOf]
        | some q =>
          have a1 := fun t w => run_float_arith (P := Tryd.prog) w .sub t .f64 u v q hr
          cases hf : Flt.fin q
          · obtain rfl : r = ⟨0, 0, 0, 11⟩ := HRR.out.symm.trans (by rw [realV2, realV2, hr]; exact numBits_inf hf)
            have a2 := fun t w => sub_nan t q hf w
            obtain ⟨z0, z1, z2, z3, z4, _, _, _, _, _, zl⟩ := BZ
            clear hr hf HRR
            go_wp2_with fail
            refine (same_true _ _ _ _).mono ?_
            rintro e w4 ⟨rfl, hb4⟩
            have hk4 := trans_d1 HKC.out hb4
            clear hb4 z0 z1 z2 z3 z4
            go_wp2
            go_roundw
            case rel => first | exact ⟨2, by omega, rfl, HI.out.step hk4⟩ | ((repeat apply Exists.intro); exact ⟨⟨2, by omega, rfl, HI.out.step hk4⟩, rfl⟩)
            case measure => simp [intOf]
          · obtain rfl : r = ⟨2, 0, q, 0⟩ := HRR.out.symm.trans (by rw [realV2, realV2, hr]; exact numBits_fin hf)
            have a2 := fun t w => sub_fin t q hf w
            obtain ⟨z0, z1, z2, z3, z4, _, _, _, _, _, zl⟩ := BZ
            clear hr hf HRR
            go_wp2
            go_roundw
            case rel => first | exact ⟨2, by omega, rfl, HI.out.step HKC.out⟩ | ((repeat apply Exists.intro); exact ⟨⟨2, by omega, rfl, HI.out.step HKC.out⟩, rfl⟩)
            case measure => simp [intOf]
    · have cj := I.c2
      obtain ⟨cj1, cj2, cj3⟩ := cells_up cj
      have HI := hid I
      clear I
      generalize hR : fltR (floatBits .mul .f64 (realV 2 0 u) (realV 2 0 v)) = r
      have HRR := hid hR
      clear hR
      go_wp2
      go_cut [9, 10] (fun z e wc => ∃ b, z = .pointer (some ⟨b, 0, none⟩) ∧ e = .int .i64 r.e ∧ Box wc b (.int .i64 r.k) (.int .i64 r.n) (.float .f64 r.f) (.string ⟨#[]⟩) (.slice none 0 0) ∧ Below wr.heap.size wr wc)
      case first =>
        go_region_with (first
          | (go_at_call 13; refine (f_at _ _).mono ?_; rintro e w' ⟨rfl, rfl⟩)
          | (go_at_call 7; refine (op_fmul 2 2 0 0 u v ⟨#[]⟩ ⟨#[]⟩ none none 0 0 0 0 HU.out HV.out hul hvl (by decide) _).mono ?_; rintro e w3 ⟨rfl, hb3⟩; rw [HRR.out]; obtain ⟨hc3, hfr3⟩ := bcell hb3))
        all_goals
          go_wp2_with fail
          go_meet
          case rel =>
            first
              | with_reducible exact ⟨_, rfl, rfl, Box.new _ _ _ _ _ _ _, box_then (from2 hb3)⟩
              | with_reducible exact ⟨_, rfl, rfl, (zs1 hb3 _ _ _ _ _).1, (zs1 hb3 _ _ _ _ _).2⟩
              | with_reducible exact ⟨_, rfl, rfl, (zs2 hb3 _ _ _ _ _).1, (zs2 hb3 _ _ _ _ _).2⟩
              | with_reducible exact ⟨_, rfl, rfl, (zs3 hb3 _ _ _ _ _).1, (zs3 hb3 _ _ _ _ _).2⟩
      case rest =>
        obtain ⟨b, rfl, rfl, BZ, hkc⟩ := hcut
        have HKC := hid hkc
        clear hkc
        cases hr : floatBits .mul .f64 u v with
        | none =>
          obtain rfl : r = ⟨0, 0, 0, 11⟩ := HRR.out.symm.trans (by rw [realV2, realV2, hr]; rfl)
          have a1 := fun t w => flt_nan .mul t u v hr (by simp) w
          have a2 := fun t q w => sub_nan t (Flt.nanOf q) (Flt.nanOf_fin q) w
          obtain ⟨z0, z1, z2, z3, z4, _, _, _, _, _, zl⟩ := BZ
          clear hr HRR
          go_wp2_with fail
          refine (same_true _ _ _ _).mono ?_
          rintro e w4 ⟨rfl, hb4⟩
          have hk4 := trans_d2 HKC.out hb4
          clear hb4 z0 z1 z2 z3 z4
          go_wp2
          go_roundw
          case rel => first | exact ⟨3, by omega, rfl, HI.out.step hk4⟩ | ((repeat apply Exists.intro); exact ⟨⟨3, by omega, rfl, HI.out.step hk4⟩, rfl⟩)
          case measure => simp [intOf]
        | some q =>
          have a1 := fun t w => run_float_arith (P := Tryd.prog) w .mul t .f64 u v q hr
          cases hf : Flt.fin q
          · obtain rfl : r = ⟨0, 0, 0, 11⟩ := HRR.out.symm.trans (by rw [realV2, realV2, hr]; exact numBits_inf hf)
            have a2 := fun t w => sub_nan t q hf w
            obtain ⟨z0, z1, z2, z3, z4, _, _, _, _, _, zl⟩ := BZ
            clear hr hf HRR
            go_wp2_with fail
            refine (same_true _ _ _ _).mono ?_
            rintro e w4 ⟨rfl, hb4⟩
            have hk4 := trans_d1 HKC.out hb4
            clear hb4 z0 z1 z2 z3 z4
            go_wp2
            go_roundw
            case rel => first | exact ⟨3, by omega, rfl, HI.out.step hk4⟩ | ((repeat apply Exists.intro); exact ⟨⟨3, by omega, rfl, HI.out.step hk4⟩, rfl⟩)
            case measure => simp [intOf]
          · obtain rfl : r = ⟨2, 0, q, 0⟩ := HRR.out.symm.trans (by rw [realV2, realV2, hr]; exact numBits_fin hf)
            have a2 := fun t w => sub_fin t q hf w
            obtain ⟨z0, z1, z2, z3, z4, _, _, _, _, _, zl⟩ := BZ
            clear hr hf HRR
            go_wp2
            go_roundw
            case rel => first | exact ⟨3, by omega, rfl, HI.out.step HKC.out⟩ | ((repeat apply Exists.intro); exact ⟨⟨3, by omega, rfl, HI.out.step HKC.out⟩, rfl⟩)
            case measure => simp [intOf]
    · cases hz : zB v
      · have HZ := hid (show zB (realV 2 0 v) = false by rw [realV2]; exact hz)
        have hov : (FloatKind.f64.format.order v 0 == some .eq) = false := HOV.out.trans hz
        clear hz
        have cj := I.c3
        obtain ⟨cj1, cj2, cj3⟩ := cells_up cj
        have HI := hid I
        clear I
        generalize hR : fltR (floatBits .quo .f64 (realV 2 0 u) (realV 2 0 v)) = r
        have HRR := hid hR
        clear hR
        go_wp2
        go_cut [9, 10] (fun z e wc => ∃ b, z = .pointer (some ⟨b, 0, none⟩) ∧ e = .int .i64 r.e ∧ Box wc b (.int .i64 r.k) (.int .i64 r.n) (.float .f64 r.f) (.string ⟨#[]⟩) (.slice none 0 0) ∧ Below wr.heap.size wr wc)
        case first =>
          go_region_with (first
            | (go_at_call 13; refine (f_at _ _).mono ?_; rintro e w' ⟨rfl, rfl⟩)
            | (go_at_call 7; refine (op_quo 2 2 0 0 u v ⟨#[]⟩ ⟨#[]⟩ none none 0 0 0 0 HU.out HV.out hul hvl HZ.out _).mono ?_; rintro e w3 ⟨rfl, hb3⟩; rw [HRR.out]; obtain ⟨hc3, hfr3⟩ := bcell hb3))
          all_goals
            go_wp2_with fail
            go_meet
            case rel =>
              first
                | with_reducible exact ⟨_, rfl, rfl, Box.new _ _ _ _ _ _ _, box_then (from2 hb3)⟩
                | with_reducible exact ⟨_, rfl, rfl, (zs1 hb3 _ _ _ _ _).1, (zs1 hb3 _ _ _ _ _).2⟩
                | with_reducible exact ⟨_, rfl, rfl, (zs2 hb3 _ _ _ _ _).1, (zs2 hb3 _ _ _ _ _).2⟩
                | with_reducible exact ⟨_, rfl, rfl, (zs3 hb3 _ _ _ _ _).1, (zs3 hb3 _ _ _ _ _).2⟩
        case rest =>
          obtain ⟨b, rfl, rfl, BZ, hkc⟩ := hcut
          have HKC := hid hkc
          clear hkc
          cases hr : floatBits .quo .f64 u v with
          | none =>
            obtain rfl : r = ⟨0, 0, 0, 11⟩ := HRR.out.symm.trans (by rw [realV2, realV2, hr]; rfl)
            have a1 := fun t w => flt_nan .quo t u v hr (by simp) w
            have a2 := fun t q w => sub_nan t (Flt.nanOf q) (Flt.nanOf_fin q) w
            obtain ⟨z0, z1, z2, z3, z4, _, _, _, _, _, zl⟩ := BZ
            clear hr HRR
            go_wp2_with fail
            refine (same_true _ _ _ _).mono ?_
            rintro e w4 ⟨rfl, hb4⟩
            have hk4 := trans_d2 HKC.out hb4
            clear hb4 z0 z1 z2 z3 z4
            go_wp2
            go_roundw
            case rel => first | exact ⟨4, by omega, rfl, HI.out.step hk4⟩ | ((repeat apply Exists.intro); exact ⟨⟨4, by omega, rfl, HI.out.step hk4⟩, rfl⟩)
            case measure => simp [intOf]
          | some q =>
            have a1 := fun t w => run_float_arith (P := Tryd.prog) w .quo t .f64 u v q hr
            cases hf : Flt.fin q
            · obtain rfl : r = ⟨0, 0, 0, 11⟩ := HRR.out.symm.trans (by rw [realV2, realV2, hr]; exact numBits_inf hf)
              have a2 := fun t w => sub_nan t q hf w
              obtain ⟨z0, z1, z2, z3, z4, _, _, _, _, _, zl⟩ := BZ
              clear hr hf HRR
              go_wp2_with fail
              refine (same_true _ _ _ _).mono ?_
              rintro e w4 ⟨rfl, hb4⟩
              have hk4 := trans_d1 HKC.out hb4
              clear hb4 z0 z1 z2 z3 z4
              go_wp2
              go_roundw
              case rel => first | exact ⟨4, by omega, rfl, HI.out.step hk4⟩ | ((repeat apply Exists.intro); exact ⟨⟨4, by omega, rfl, HI.out.step hk4⟩, rfl⟩)
              case measure => simp [intOf]
            · obtain rfl : r = ⟨2, 0, q, 0⟩ := HRR.out.symm.trans (by rw [realV2, realV2, hr]; exact numBits_fin hf)
              have a2 := fun t w => sub_fin t q hf w
              obtain ⟨z0, z1, z2, z3, z4, _, _, _, _, _, zl⟩ := BZ
              clear hr hf HRR
              go_wp2
              go_roundw
              case rel => first | exact ⟨4, by omega, rfl, HI.out.step HKC.out⟩ | ((repeat apply Exists.intro); exact ⟨⟨4, by omega, rfl, HI.out.step HKC.out⟩, rfl⟩)
              case measure => simp [intOf]
      · have HZ := hid (show zB (realV 2 0 v) = true by rw [realV2]; exact hz)
        have hov : (FloatKind.f64.format.order v 0 == some .eq) = true := HOV.out.trans hz
        clear hz
        have cj := I.c3
        obtain ⟨cj1, cj2, cj3⟩ := cells_up cj
        have HI := hid I
        clear I
        obtain ⟨r, hR⟩ : ∃ r : R, r = ⟨0, 0, 0, 11⟩ := ⟨_, rfl⟩
        have HRR := hid hR
        clear hR
        go_wp2
        go_cut [9, 10] (fun z e wc => ∃ b, z = .pointer (some ⟨b, 0, none⟩) ∧ e = .int .i64 r.e ∧ Box wc b (.int .i64 r.k) (.int .i64 r.n) (.float .f64 r.f) (.string ⟨#[]⟩) (.slice none 0 0) ∧ Below wr.heap.size wr wc)
        case first =>
          go_region_with (first
            | (go_at_call 13; refine (f_at _ _).mono ?_; rintro e w' ⟨rfl, rfl⟩)
            | (go_at_call 7; refine (op_quoz 2 2 0 0 u v ⟨#[]⟩ ⟨#[]⟩ none none 0 0 0 0 HU.out HV.out hul hvl HZ.out _).mono ?_; rintro e w3 ⟨rfl, hb3⟩; rw [← HRR.out]; obtain ⟨hc3, hfr3⟩ := bcell hb3))
          all_goals
            go_wp2_with fail
            go_meet
            case rel =>
              first
                | with_reducible exact ⟨_, rfl, rfl, Box.new _ _ _ _ _ _ _, box_then (from2 hb3)⟩
                | with_reducible exact ⟨_, rfl, rfl, (zs1 hb3 _ _ _ _ _).1, (zs1 hb3 _ _ _ _ _).2⟩
                | with_reducible exact ⟨_, rfl, rfl, (zs2 hb3 _ _ _ _ _).1, (zs2 hb3 _ _ _ _ _).2⟩
                | with_reducible exact ⟨_, rfl, rfl, (zs3 hb3 _ _ _ _ _).1, (zs3 hb3 _ _ _ _ _).2⟩
        case rest =>
          obtain ⟨b, rfl, rfl, BZ, hkc⟩ := hcut
          have HKC := hid hkc
          clear hkc
          obtain rfl := HRR.out
          have a2 := fun t w => sub_nan t 9221120237041090561 (by decide) w
          obtain ⟨z0, z1, z2, z3, z4, _, _, _, _, _, zl⟩ := BZ
          clear HRR
          go_wp2_with fail
          refine (nan_any _).mono ?_
          rintro e w' ⟨rfl, rfl⟩
          go_wp2_with fail
          refine (same_true _ _ _ _).mono ?_
          rintro e w4 ⟨rfl, hb4⟩
          have hk4 := trans_d1 HKC.out hb4
          clear hb4 z0 z1 z2 z3 z4
          go_wp2
          go_roundw
          case rel => first | exact ⟨4, by omega, rfl, HI.out.step hk4⟩ | ((repeat apply Exists.intro); exact ⟨⟨4, by omega, rfl, HI.out.step hk4⟩, rfl⟩)
          case measure => simp [intOf]
    · have HI := hid I
      clear I
      go_wp2
      go_ret
      exact ⟨rfl, HI.out.below⟩

theorem numOver_any (u v : Nat) (hul : u < 18446744073709551616) (hvl : v < 18446744073709551616) (w : World) (ht : w.cell? ⟨4, 15, none⟩ = some (.int .u8 4)) :
    Calls Tryd.prog 4 #[.int .u64 u, .int .u64 v] w fun e w' => e = .returned (.bool true) ∧ Below w.heap.size w w' := by
  cases hu : Flt.fin u
  · exact numOver_not u v (Or.inl hu) w ht
  · cases hv : Flt.fin v
    · exact numOver_not u v (Or.inr ⟨hu, hv⟩) w ht
    · exact numOver_fin u v hu hv hul hvl w ht
end Go.Proofs.YtmmldghlellehacDoor
