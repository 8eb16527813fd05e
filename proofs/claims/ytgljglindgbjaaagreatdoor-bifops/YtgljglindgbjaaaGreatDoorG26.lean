import Derived.Test.YtgljglindgbjaaaGreatDoorG22
import Derived.Test.YtgljglindgbjaaaGreatDoorG12
import Derived.Test.YtgljglindgbjaaaGreatDoorG06
import Derived.Test.YtgljglindgbjaaaGreatDoorG25
import Derived.Deep.DrawnRows
import Derived.Test.YtgljglindgbjaaaGreatDoorG01
import Derived.Test.YtgljglindgbjaaaGreatDoorG10
/- The document's Cmp and Same. -/
namespace Go.Proofs.YtgljglindgbjaaaGreatDoor
open Go.RowKit Go.Sort
open Flt (ordI exactV)
attribute [local go_sem] store_float
attribute [local go_sem ↓] Go.wp_at_zero Go.wp_at_succ

theorem two_newC {w : World} (o1 o2 : Obj) : Below w.heap.size w ((w.alloc o1).alloc o2) := (below_new w o1).alloc (by simp) o2

set_option maxHeartbeats 1000000 in
theorem rcmp_11l (na nb : Int) (fa fb : Nat) (sa sb : ByteArray) (aa ab : Option Addr) (la ca lb cb : Nat) (h : decide (na < nb) = true) (w : World) : Calls Tryz.prog 52 #[.agg #[.int .i64 1, .int .i64 na, .float .f64 fa, .string sa, .slice aa la ca], .agg #[.int .i64 1, .int .i64 nb, .float .f64 fb, .string sb, .slice ab lb cb]] w fun e w' => e = .returned (.int .i64 (-1)) ∧ Below w.heap.size w w' := by
  go_enter Tryz.func52, Tryz.ntmps52
  go_wp2
  go_ret
  exact ⟨rfl, by
    (repeat (first | refine Below.drew ?_ | refine below_drewN ?_ _))
    exact two_newC _ _⟩

set_option maxHeartbeats 1000000 in
theorem rcmp_11g (na nb : Int) (fa fb : Nat) (sa sb : ByteArray) (aa ab : Option Addr) (la ca lb cb : Nat) (h : decide (na < nb) = false) (h2 : decide (nb < na) = true) (w : World) : Calls Tryz.prog 52 #[.agg #[.int .i64 1, .int .i64 na, .float .f64 fa, .string sa, .slice aa la ca], .agg #[.int .i64 1, .int .i64 nb, .float .f64 fb, .string sb, .slice ab lb cb]] w fun e w' => e = .returned (.int .i64 1) ∧ Below w.heap.size w w' := by
  go_enter Tryz.func52, Tryz.ntmps52
  go_wp2
  go_ret
  exact ⟨rfl, by
    (repeat (first | refine Below.drew ?_ | refine below_drewN ?_ _))
    exact two_newC _ _⟩

set_option maxHeartbeats 1000000 in
theorem rcmp_11e (na nb : Int) (fa fb : Nat) (sa sb : ByteArray) (aa ab : Option Addr) (la ca lb cb : Nat) (h : decide (na < nb) = false) (h2 : decide (nb < na) = false) (w : World) : Calls Tryz.prog 52 #[.agg #[.int .i64 1, .int .i64 na, .float .f64 fa, .string sa, .slice aa la ca], .agg #[.int .i64 1, .int .i64 nb, .float .f64 fb, .string sb, .slice ab lb cb]] w fun e w' => e = .returned (.int .i64 0) ∧ Below w.heap.size w w' := by
  go_enter Tryz.func52, Tryz.ntmps52
  go_wp2
  go_ret
  exact ⟨rfl, by
    (repeat (first | refine Below.drew ?_ | refine below_drewN ?_ _))
    exact two_newC _ _⟩

set_option maxHeartbeats 1000000 in
theorem rcmp_22l (na nb : Int) (fa fb : Nat) (sa sb : ByteArray) (aa ab : Option Addr) (la ca lb cb : Nat) (h : FloatKind.f64.format.order fa fb = some .lt) (w : World) : Calls Tryz.prog 52 #[.agg #[.int .i64 2, .int .i64 na, .float .f64 fa, .string sa, .slice aa la ca], .agg #[.int .i64 2, .int .i64 nb, .float .f64 fb, .string sb, .slice ab lb cb]] w fun e w' => e = .returned (.int .i64 (-1)) ∧ Below w.heap.size w w' := by
  go_enter Tryz.func52, Tryz.ntmps52
  go_wp2
  go_ret
  exact ⟨rfl, by
    (repeat (first | refine Below.drew ?_ | refine below_drewN ?_ _))
    exact two_newC _ _⟩

set_option maxHeartbeats 1000000 in
theorem rcmp_22g (na nb : Int) (fa fb : Nat) (sa sb : ByteArray) (aa ab : Option Addr) (la ca lb cb : Nat) (h : FloatKind.f64.format.order fa fb = some .gt) (w : World) : Calls Tryz.prog 52 #[.agg #[.int .i64 2, .int .i64 na, .float .f64 fa, .string sa, .slice aa la ca], .agg #[.int .i64 2, .int .i64 nb, .float .f64 fb, .string sb, .slice ab lb cb]] w fun e w' => e = .returned (.int .i64 1) ∧ Below w.heap.size w w' := by
  go_enter Tryz.func52, Tryz.ntmps52
  go_wp2
  go_ret
  exact ⟨rfl, by
    (repeat (first | refine Below.drew ?_ | refine below_drewN ?_ _))
    exact two_newC _ _⟩

set_option maxHeartbeats 1000000 in
theorem rcmp_22e (na nb : Int) (fa fb : Nat) (sa sb : ByteArray) (aa ab : Option Addr) (la ca lb cb : Nat) (h : FloatKind.f64.format.order fa fb = some .eq) (w : World) : Calls Tryz.prog 52 #[.agg #[.int .i64 2, .int .i64 na, .float .f64 fa, .string sa, .slice aa la ca], .agg #[.int .i64 2, .int .i64 nb, .float .f64 fb, .string sb, .slice ab lb cb]] w fun e w' => e = .returned (.int .i64 0) ∧ Below w.heap.size w w' := by
  go_enter Tryz.func52, Tryz.ntmps52
  go_wp2
  go_ret
  exact ⟨rfl, by
    (repeat (first | refine Below.drew ?_ | refine below_drewN ?_ _))
    exact two_newC _ _⟩

set_option maxHeartbeats 1000000 in
theorem rcmp_21 (na nb : Int) (fa fb : Nat) (sa sb : ByteArray) (aa ab : Option Addr) (la ca lb cb : Nat) (r : Int) (ex : ∀ w, Calls Tryz.prog 114 #[.float .f64 fa, .int .i64 nb] w fun e w' => e = .returned (.int .i64 r) ∧ w' = w) (w : World) : Calls Tryz.prog 52 #[.agg #[.int .i64 2, .int .i64 na, .float .f64 fa, .string sa, .slice aa la ca], .agg #[.int .i64 1, .int .i64 nb, .float .f64 fb, .string sb, .slice ab lb cb]] w fun e w' => e = .returned (.int .i64 r) ∧ Below w.heap.size w w' := by
  have EX := hidE ex
  clear ex
  go_enter Tryz.func52, Tryz.ntmps52
  go_wp2_with (go_at_call 114; refine (EX.out _).mono ?_; rintro e w' ⟨rfl, rfl⟩)
  go_ret
  exact ⟨rfl, by
    (repeat (first | refine Below.drew ?_ | refine below_drewN ?_ _))
    exact two_newC _ _⟩

set_option maxHeartbeats 1000000 in
theorem rcmp_12 (na nb : Int) (fa fb : Nat) (sa sb : ByteArray) (aa ab : Option Addr) (la ca lb cb : Nat) (r : Int) (ex : ∀ w, Calls Tryz.prog 114 #[.float .f64 fb, .int .i64 na] w fun e w' => e = .returned (.int .i64 r) ∧ w' = w) (r1 : -1 ≤ r) (r2 : r ≤ 1) (w : World) : Calls Tryz.prog 52 #[.agg #[.int .i64 1, .int .i64 na, .float .f64 fa, .string sa, .slice aa la ca], .agg #[.int .i64 2, .int .i64 nb, .float .f64 fb, .string sb, .slice ab lb cb]] w fun e w' => e = .returned (.int .i64 (-r)) ∧ Below w.heap.size w w' := by
  have EX := hidE ex
  clear ex
  go_enter Tryz.func52, Tryz.ntmps52
  go_wp2_with (go_at_call 114; refine (EX.out _).mono ?_; rintro e w' ⟨rfl, rfl⟩)
  go_ret
  exact ⟨rfl, by
    (repeat (first | refine Below.drew ?_ | refine below_drewN ?_ _))
    exact two_newC _ _⟩

set_option maxHeartbeats 1000000 in
theorem rsame_any (ka kb : Int) (na nb : Int) (fa fb : Nat) (sa sb : ByteArray) (aa ab : Option Addr) (la ca lb cb : Nat) (w : World) : Calls Tryz.prog 54 #[.agg #[.int .i64 ka, .int .i64 na, .float .f64 fa, .string sa, .slice aa la ca], .agg #[.int .i64 kb, .int .i64 nb, .float .f64 fb, .string sb, .slice ab lb cb]] w fun e w' => e = .returned (.bool (ka == kb && (na == nb && (fa : Int) == (fb : Int)))) ∧ Below w.heap.size w w' := by
  have hb := f64bits
  go_enter Tryz.func54, Tryz.ntmps54
  go_wp2
  refine wp_region_quiet_lit (by kernel_rfl) (by kernel_rfl) ?_
  repeat (any_goals (first | go_big_quiet_step (fail) | quiet_step (fail) | (refine wpQuiet_step (fun K hK => ?_); go_simp; split <;> (refine hK _ ?_; clear hK K))))
  all_goals
    refine wpQuiet_nil ?_
    intro _ hw'
    obtain ⟨nq, hw''⟩ := hw'
    subst hw''
    go_wp2
    go_ret
    refine ⟨?_, below_drewN (((Below.refl _ _).alloc (Nat.le_refl _) _).alloc (by simp) _) nq⟩
    clear hb
    simp [*]

theorem rcmp_any (ka kb : Int) (na nb : Int) (fa fb : Nat) (sa sb : ByteArray) (aa ab : Option Addr) (la ca lb cb : Nat) (hfa : fa < 18446744073709551616) (hfb : fb < 18446744073709551616) (ha : rightB ka na fa sa la = true) (hb : rightB kb nb fb sb lb = true) (w : World) :
    Calls Tryz.prog 52 #[.agg #[.int .i64 ka, .int .i64 na, .float .f64 fa, .string sa, .slice aa la ca], .agg #[.int .i64 kb, .int .i64 nb, .float .f64 fb, .string sb, .slice ab lb cb]] w fun e w' => e = .returned (.int .i64 (ordI (compare (valU ka na fa) (valU kb nb fb)))) ∧ Below w.heap.size w w' := by
  rcases right_kind ha with rfl | rfl <;> rcases right_kind hb with rfl | rfl
  · rw [valU_1, valU_1, compare_P]
    rcases Int.lt_trichotomy na nb with h | h | h
    · rw [Int.compare_eq_lt.2 h]
      exact rcmp_11l na nb fa fb sa sb aa ab la ca lb cb (by simpa using h) w
    · rw [Int.compare_eq_eq.2 h]
      exact rcmp_11e na nb fa fb sa sb aa ab la ca lb cb (by simp; omega) (by simp; omega) w
    · rw [Int.compare_eq_gt.2 h]
      exact rcmp_11g na nb fa fb sa sb aa ab la ca lb cb (by simp; omega) (by simpa using h) w
  · have hw := int_wide ha
    rw [valU_1, valU_2, ← ord_neg]
    have hob : -1 ≤ ordI (compare (Flt.U fb) (na * Flt.P)) ∧ ordI (compare (Flt.U fb) (na * Flt.P)) ≤ 1 := by cases compare (Flt.U fb) (na * Flt.P) <;> decide
    exact rcmp_12 na nb fa fb sa sb aa ab la ca lb cb _ (refExact_val fb na hfb (flt_fin hb) (by omega) (by omega)) hob.1 hob.2 w
  · have hw := int_wide hb
    rw [valU_1, valU_2]
    exact rcmp_21 na nb fa fb sa sb aa ab la ca lb cb _ (refExact_val fa nb hfa (flt_fin ha) (by omega) (by omega)) w
  · rw [valU_2, valU_2]
    have o : FloatKind.f64.format.order fa fb = some (compare (Flt.U fa) (Flt.U fb)) := Flt.order_U hfa hfb (flt_fin ha) (flt_fin hb)
    cases hc : compare (Flt.U fa) (Flt.U fb) <;> rw [hc] at o
    · exact rcmp_22l na nb fa fb sa sb aa ab la ca lb cb o w
    · exact rcmp_22e na nb fa fb sa sb aa ab la ca lb cb o w
    · exact rcmp_22g na nb fa fb sa sb aa ab la ca lb cb o w
end Go.Proofs.YtgljglindgbjaaaGreatDoor


/- The document's measure of a term, walked: by induction on the tree. -/
namespace Go.Proofs.YtgljglindgbjaaaGreatDoor
open Go.RowKit Go.Deep
attribute [local go_sem ↓] Go.wp_at_zero Go.wp_at_succ

/-- The box of a parameter of five cells reads as it was laid. -/
theorem box_at {w wr : World} {v0 v1 v2 v3 v4 : Value} {T : TypeId} (h : Below (w.heap.size + 1) (w.alloc (.cells #[v0, v1, v2, v3, v4] T)) wr) :
    wr.cell? ⟨w.heap.size, 0, none⟩ = some v0 ∧ wr.cell? ⟨w.heap.size, 1, none⟩ = some v1 ∧ wr.cell? ⟨w.heap.size, 2, none⟩ = some v2 ∧ wr.cell? ⟨w.heap.size, 3, none⟩ = some v3 ∧ wr.cell? ⟨w.heap.size, 4, none⟩ = some v4 := by
  refine ⟨?_, ?_, ?_, ?_, ?_⟩ <;> (rw [h.cell (by simp), World.cell?_alloc_new]; rfl)

theorem box_below {w wr : World} {o : Obj} (h : Below (w.heap.size + 1) (w.alloc o) wr) : Below w.heap.size w wr := ((Below.refl _ _).alloc (Nat.le_refl _) _).trans (h.mono (Nat.le_succ _))

theorem box_then {w wr wz : World} {o : Obj} (h : Below (w.heap.size + 1) (w.alloc o) wr) (hz : Below wr.heap.size wr wz) : Below (w.heap.size + 1) (w.alloc o) wz := h.trans (hz.mono (by have := h.size; simpa using this))

theorem measAll_bounds (kids : List Tr) (hk : ∀ t, t ∈ kids → ∀ depth most, -1 ≤ meas t depth most ∧ (0 ≤ meas t depth most → meas t depth most ≤ most)) : ∀ depth most n, 0 ≤ n → n ≤ most → -1 ≤ measAll kids depth most n ∧ measAll kids depth most n ≤ most := by
  induction kids with
  | nil => intro depth most n h0 h; simp only [measAll]; omega
  | cons t r ih =>
    intro depth most n h0 h
    simp only [measAll]
    split
    · omega
    · have g := hk t (List.mem_cons_self ..) depth (most - n)
      exact ih (fun u hu => hk u (List.mem_cons_of_mem _ hu)) depth most _ (by omega) (by omega)

theorem meas_bounds : ∀ (t : Tr) (depth most : Int), -1 ≤ meas t depth most ∧ (0 ≤ meas t depth most → meas t depth most ≤ most) := by
  refine Tr.ind fun k n f s a c kids hk => ?_
  intro depth most
  simp only [meas]
  have ho := own_nonneg k kids.length
  split
  · omega
  · have := measAll_bounds kids hk (depth - 1) most (own k kids.length) ho (by omega)
    omega

set_option maxHeartbeats 1600000 in
set_option maxRecDepth 100000 in
theorem rmeasure_any : ∀ (t : Tr) (depth most : Int) (w : World), t.In w 0 → Small t → 0 ≤ depth → depth ≤ 200 → 0 ≤ most → most ≤ 65536 →
    Calls Tryz.prog 91 #[t.val, .int .i64 depth, .int .i64 most] w fun e w' => e = .returned (.int .i64 (meas t depth most)) ∧ Below w.heap.size w w' := by
  refine Tr.ind fun k n f s a c kids hk => ?_
  intro depth most w hin hsm h1 h2 h3 h4
  show Calls Tryz.prog 91 #[.agg #[.int .i64 k, .int .i64 n, .float .f64 f, .string s, .slice a kids.length c], .int .i64 depth, .int .i64 most] w _
  simp only [meas]
  have HK : Hid (∀ t, t ∈ kids → ∀ (depth most : Int) (w : World), t.In w 0 → Small t → 0 ≤ depth → depth ≤ 200 → 0 ≤ most → most ≤ 65536 →
    Calls Tryz.prog 91 #[t.val, .int .i64 depth, .int .i64 most] w fun e w' => e = .returned (.int .i64 (meas t depth most)) ∧ Below w.heap.size w w') := hk
  have HIN : Hid ((Tr.mk k n f s a c kids).In w 0) := hin
  unfold Small at hsm
  have hlen := hsm.1
  have HSM : Hid (SmallAll kids) := hsm.2
  clear hk hin hsm
  have hown := own_nonneg k kids.length
  obtain ⟨O, hO⟩ : ∃ O, own k kids.length = O := ⟨_, rfl⟩
  have OW := own_any k n f s a kids.length c hlen
  rw [hO] at OW hown ⊢
  have HOW : Hid _ := OW
  clear OW hO
  by_cases hd : depth < 1
  · rw [if_pos (Or.inl hd)]
    go_enter Tryz.func91, Tryz.ntmps91
    go_wp2
    go_ret
    exact ⟨rfl, (Below.refl _ _).alloc (Nat.le_refl _) _⟩
  have hdw : wrap64 (depth - 1) = depth - 1 := by unfold wrap64; omega
  by_cases ho : O > most
  · rw [if_pos (Or.inr ho)]
    go_enter Tryz.func91, Tryz.ntmps91
    go_wp2_with fail
    refine (HOW.out _).mono ?_
    rintro e w2 ⟨rfl, hb2⟩
    have B2 := box_then (Below.refl _ _) hb2
    have HB2 : Hid _ := B2
    obtain ⟨d0, d1, d2, d3, d4⟩ := box_at B2
    clear B2 hb2
    go_wp2
    go_ret
    exact ⟨rfl, box_below HB2.out⟩
  rw [if_neg (by omega)]
  go_enter Tryz.func91, Tryz.ntmps91
  go_wp2_with fail
  refine (HOW.out _).mono ?_
  rintro e w2 ⟨rfl, hb2⟩
  have B2 := box_then (Below.refl _ _) hb2
  have HB2 : Hid _ := B2
  obtain ⟨d0, d1, d2, d3, d4⟩ := box_at B2
  clear B2 hb2
  go_wp2_with fail
  refine (HOW.out _).mono ?_
  rintro e w3 ⟨rfl, hb3⟩
  have B3 := box_then HB2.out hb3
  have HB3 : Hid _ := B3
  clear d0 d1 d2 d3 d4
  obtain ⟨d0, d1, d2, d3, d4⟩ := box_at B3
  clear B3 hb3
  go_wp2_with fail
  go_loopw [7, 8] (fun nv iv wr => ∃ (m : Nat) (x : Int), m ≤ kids.length ∧ iv = .int .i64 m ∧ nv = .int .i64 x ∧ 0 ≤ x ∧ x ≤ most ∧ measAll (kids.drop m) (depth - 1) most x = measAll kids (depth - 1) most O ∧ Below (w.heap.size + 1) (w.alloc (.cells #[.int .i64 k, .int .i64 n, .float .f64 f, .string s, .slice a kids.length c] 27)) wr) (fun _ iv _ => kids.length - (intOf iv).toNat)
  case atStart => exact ⟨0, O, by omega, rfl, rfl, hown, by omega, by simp, HB3.out⟩
  case round =>
    clear d0 d1 d2 d3 d4
    obtain ⟨m, x, hm, rfl, rfl, hx1, hx2, hrest, hbel⟩ := hrel
    have HR : Hid (measAll (kids.drop m) (depth - 1) most x = measAll kids (depth - 1) most O) := hrest
    have HB1 : Hid _ := hbel
    have d4 := (box_at hbel).2.2.2.2
    have HB : Hid (Below w.heap.size w wr) := box_below hbel
    clear hrest hbel
    by_cases hml : m < kids.length
    · have hmb : (m : Int) < (kids.length : Int) := by omega
      obtain ⟨b, o, rfl, hat⟩ := kid_at (in_below HB.out HIN.out) (by omega)
      obtain ⟨k', n', f', s', a', c', kids', hu, hin', c0, c1, c2, c3, c4⟩ := hat m hml
      have IH := HK.out _ (List.mem_of_getElem? hu) (depth - 1) (most - x) wr hin' (smallAll_get HSM.out (List.mem_of_getElem? hu)) (by omega) (by omega) (by omega) (by omega)
      have hmz : (0 : Int) ≤ (m : Int) := by omega
      have hxw : wrap64 (most - x) = most - x := by unfold wrap64; omega
      have hstep := HR.out
      rw [drop_one hu] at hstep
      simp only [measAll] at hstep
      have hbd := meas_bounds (.mk k' n' f' s' a' c' kids') (depth - 1) (most - x)
      generalize meas (.mk k' n' f' s' a' c' kids') (depth - 1) (most - x) = q at IH hstep hbd
      have HS : Hid _ := hstep
      clear hstep hu hin' hat
      go_wp2_with fail
      refine IH.mono ?_
      rintro e wz ⟨rfl, hbz⟩
      have HZ := box_then HB1.out hbz
      have HZH : Hid _ := HZ
      clear hbz IH HZ
      by_cases hq : q < 0
      · go_wp2
        go_ret
        refine ⟨?_, box_below HZH.out⟩
        have e := HS.out
        rw [if_pos hq] at e
        rw [← e]
        rfl
      · have hqw : wrap64 (x + q) = x + q := by unfold wrap64; omega
        go_wp2
        go_roundw
        case rel =>
          have e := HS.out
          rw [if_neg (by omega)] at e
          exact ⟨m + 1, x + q, by omega, by go_num, by go_num, by omega, by omega, e, HZH.out⟩
        case measure => simp [intOf]; omega
    · have hmn : ¬ (m : Int) < (kids.length : Int) := by omega
      go_wp2
      go_ret
      refine ⟨?_, HB.out⟩
      have e := HR.out
      rw [List.drop_of_length_le (by omega)] at e
      simp only [measAll] at e
      rw [← e]
      rfl
end Go.Proofs.YtgljglindgbjaaaGreatDoor


/- Are two terms identical? The document's own look, walked. -/
namespace Go.Proofs.YtgljglindgbjaaaGreatDoor
open Go.RowKit Go.Deep
attribute [local go_sem] store_float f64bits f64frombits
attribute [local go_sem ↓] Go.wp_at_zero Go.wp_at_succ

mutual
def idT : Tr → Tr → Bool
  | .mk k n f s _ _ ks, .mk k' n' f' s' _ _ ks' => ((k == k') && (n == n') && ((f : Int) == (f' : Int))) && ((s.toList == s'.toList) && (((ks.length : Int) == (ks'.length : Int)) && idA ks ks'))
def idA : List Tr → List Tr → Bool
  | [], _ => true
  | _ :: _, [] => true
  | t :: r, t' :: r' => idT t t' && idA r r'
end

set_option maxHeartbeats 1000000 in
set_option maxRecDepth 100000 in
theorem same1_any (k n : Int) (f : Nat) (s : ByteArray) (a : Option Addr) (l c : Nat) (k' n' : Int) (f' : Nat) (s' : ByteArray) (a' : Option Addr) (l' c' : Nat) (w : World) : Calls Tryz.prog 54 #[.agg #[.int .i64 k, .int .i64 n, .float .f64 f, .string s, .slice a l c], .agg #[.int .i64 k', .int .i64 n', .float .f64 f', .string s', .slice a' l' c']] w fun e w' => e = .returned (.bool ((k == k') && (n == n') && ((f : Int) == (f' : Int)))) ∧ Below w.heap.size w w' := by
  cases h1 : (k == k')
  all_goals cases h2 : (n == n')
  all_goals
    go_enter Tryz.func54, Tryz.ntmps54
    go_wp2_with fail
    have X1 := (Box.new w 27 (.int .i64 k) (.int .i64 n) (.float .f64 f) (.string s) (.slice a l c)).keep (below_new _ (Obj.cells #[.int .i64 k', .int .i64 n', .float .f64 f', .string s', .slice a' l' c'] 27))
    have X2 := Box.new (w.alloc (Obj.cells #[.int .i64 k, .int .i64 n, .float .f64 f, .string s, .slice a l c] 27)) 27 (.int .i64 k') (.int .i64 n') (.float .f64 f') (.string s') (.slice a' l' c')
    have hs1 : (w.alloc (Obj.cells #[.int .i64 k, .int .i64 n, .float .f64 f, .string s, .slice a l c] 27)).heap.size = w.heap.size + 1 := by simp
    rw [hs1] at X2
    have HB2 : Hid (Below w.heap.size w ((w.alloc (Obj.cells #[.int .i64 k, .int .i64 n, .float .f64 f, .string s, .slice a l c] 27)).alloc (Obj.cells #[.int .i64 k', .int .i64 n', .float .f64 f', .string s', .slice a' l' c'] 27))) := hidb ((below_new w _).alloc (by simp) _)
    generalize hW2 : ((w.alloc (Obj.cells #[.int .i64 k, .int .i64 n, .float .f64 f, .string s, .slice a l c] 27)).alloc (Obj.cells #[.int .i64 k', .int .i64 n', .float .f64 f', .string s', .slice a' l' c'] 27)) = W2 at *
    clear hW2 hs1
    obtain ⟨x0, x1, x2, x3, x4, -, -, -, -, -, -⟩ := X1
    obtain ⟨y0, y1, y2, y3, y4, -, -, -, -, -, -⟩ := X2
    go_quiet (fail)
    have HB4 := hidb (below_drewN HB2.out nq)
    go_wp2
    go_ret
    exact ⟨by simp, HB4.out⟩

set_option maxHeartbeats 3000000 in
set_option maxRecDepth 100000 in
theorem idn_any : ∀ (t t' : Tr) (w : World), t.In w 0 → t'.In w 0 → Calls Tryz.prog 22 #[t.val, t'.val] w fun e w' => e = .returned (.bool (idT t t')) ∧ Below w.heap.size w w' := by
  refine Tr.ind fun k n f s a c kids hk => ?_
  rintro ⟨k', n', f', s', a', c', kids'⟩ w hin hin'
  have HK := hidb hk
  have HI := hidb hin
  have HI' := hidb hin'
  have hlen := len_small hin
  have SM := hidb (fun W => same1_any k n f s a kids.length c k' n' f' s' a' kids'.length c' W)
  obtain ⟨b1, hb1⟩ : ∃ b, ((k == k') && (n == n') && ((f : Int) == (f' : Int))) = b := ⟨_, rfl⟩
  obtain ⟨b2, hb2⟩ : ∃ b, (s.toList == s'.toList) = b := ⟨_, rfl⟩
  obtain ⟨b3, hb3⟩ : ∃ b, ((kids.length : Int) == (kids'.length : Int)) = b := ⟨_, rfl⟩
  have HQ : Hid (idT (.mk k n f s a c kids) (.mk k' n' f' s' a' c' kids') = (b1 && (b2 && (b3 && idA kids kids')))) := hidb (by simp only [idT]; rw [hb1, hb2, hb3])
  rw [hb1] at SM
  have HB3 := hidb hb3
  have hb3' : ((kids.length : Int) != (kids'.length : Int)) = !b3 := by rw [← hb3]; rfl
  simp only [Tr.val, Tr.cells]
  clear hk hin hin' hb1
  have X1 := (Box.new w 27 (.int .i64 k) (.int .i64 n) (.float .f64 f) (.string s) (.slice a kids.length c)).keep (below_new _ (Obj.cells #[.int .i64 k', .int .i64 n', .float .f64 f', .string s', .slice a' kids'.length c'] 27))
  have X2 := Box.new (w.alloc (Obj.cells #[.int .i64 k, .int .i64 n, .float .f64 f, .string s, .slice a kids.length c] 27)) 27 (.int .i64 k') (.int .i64 n') (.float .f64 f') (.string s') (.slice a' kids'.length c')
  rw [show (w.alloc (Obj.cells #[.int .i64 k, .int .i64 n, .float .f64 f, .string s, .slice a kids.length c] 27)).heap.size = w.heap.size + 1 by simp] at X2
  have HX1 := hidb X1
  have HX2 := hidb X2
  have HB2 : Hid (Below w.heap.size w ((w.alloc (Obj.cells #[.int .i64 k, .int .i64 n, .float .f64 f, .string s, .slice a kids.length c] 27)).alloc (Obj.cells #[.int .i64 k', .int .i64 n', .float .f64 f', .string s', .slice a' kids'.length c'] 27))) := hidb ((below_new w _).alloc (by simp) _)
  clear X1 X2
  by_cases hall : b1 = true ∧ b2 = true ∧ b3 = true
  · obtain ⟨rfl, rfl, rfl⟩ := hall
    go_enter Tryz.func22, Tryz.ntmps22
    go_wp2_with (first
      | (go_at_call 54; refine (SM.out _).mono ?_; rintro e w3 ⟨rfl, hb⟩; have HB3w := hidb (HB2.out.trans (hb.mono HB2.out.size)); have HY1 := hidb (HX1.out.keep hb); have HY2 := hidb (HX2.out.keep hb); obtain ⟨x0, x1, x2, x3, x4, -, -, -, -, -, -⟩ := HY1.out; obtain ⟨y0, y1, y2, y3, y4, -, -, -, -, -, -⟩ := HY2.out; clear hb))
    have hll : kids.length = kids'.length := by have := HB3.out; simp at this; omega
    have HLL := hidb hll
    have hlb : (kids.length : Int) ≤ 9223372036854775807 := by omega
    clear x0 x1 x2 x3 x4 y0 y1 y2 y3 y4 hb2 hb3 hb3' hll
    go_loopw [5] (fun iv wr => ∃ (m : Nat), m ≤ kids.length ∧ iv = .int .i64 m ∧ idA kids kids' = idA (kids.drop m) (kids'.drop m) ∧ Below w3.heap.size w3 wr) (fun iv _ => kids.length - (RowKit.intOf iv).toNat)
    case atStart => exact ⟨0, by omega, rfl, rfl, Below.refl _ _⟩
    case round =>
    obtain ⟨m, hm, rfl, hid, hbw⟩ := hrel
    have HD := hidb hid
    have HBW := hidb hbw
    have HW := hidb (HB3w.out.trans (hbw.mono HB3w.out.size))
    have e4 := (HY1.out.keep hbw).c4
    have e4' := (HY2.out.keep hbw).c4
    clear hid hbw
    by_cases hml : m < kids.length
    · have hmb : (m : Int) < (kids.length : Int) := by omega
      have hmb' : (m : Int) < (kids'.length : Int) := by have := HLL.out; omega
      have hmz : (0 : Int) ≤ (m : Int) := by omega
      have hmw : IntKind.i64.wrap ((m : Int) + 1) = (m : Int) + 1 := by rw [IntKind.wrap_i64]; omega
      obtain ⟨b, o, rfl, hat⟩ := kid_at (in_below HW.out HI.out) (by omega)
      obtain ⟨k1, n1, f1, s1, a1, c1, ks1, hu1, hin1, p0, p1, p2, p3, p4⟩ := hat m hml
      obtain ⟨b', o', rfl, hat'⟩ := kid_at (in_below HW.out HI'.out) (by have := HLL.out; omega)
      obtain ⟨k2, n2, f2, s2, a2, c2, ks2, hu2, hin2, q0, q1, q2, q3, q4⟩ := hat' m (by have := HLL.out; omega)
      have hbl := World.block_lt_of_cell? _ _ p0
      have hbl' := World.block_lt_of_cell? _ _ q0
      have hel := World.block_lt_of_cell? _ _ e4
      have hel' := World.block_lt_of_cell? _ _ e4'
      have HSX : Hid (wr.drew.cell? ⟨w.heap.size, 4, none⟩ = some (.slice (some ⟨b, o, none⟩) kids.length c) ∧ wr.drew.cell? ⟨w.heap.size + 1, 4, none⟩ = some (.slice (some ⟨b', o', none⟩) kids'.length c') ∧ wr.drew.cell? ⟨b, o + m * 5, none⟩ = some (.int .i64 k1) ∧ wr.drew.cell? ⟨b, o + m * 5 + 1, none⟩ = some (.int .i64 n1) ∧ wr.drew.cell? ⟨b, o + m * 5 + 2, none⟩ = some (.float .f64 f1) ∧ wr.drew.cell? ⟨b, o + m * 5 + 3, none⟩ = some (.string s1) ∧ wr.drew.cell? ⟨b, o + m * 5 + 4, none⟩ = some (.slice a1 ks1.length c1) ∧ wr.drew.cell? ⟨b', o' + m * 5, none⟩ = some (.int .i64 k2) ∧ wr.drew.cell? ⟨b', o' + m * 5 + 1, none⟩ = some (.int .i64 n2) ∧ wr.drew.cell? ⟨b', o' + m * 5 + 2, none⟩ = some (.float .f64 f2) ∧ wr.drew.cell? ⟨b', o' + m * 5 + 3, none⟩ = some (.string s2) ∧ wr.drew.cell? ⟨b', o' + m * 5 + 4, none⟩ = some (.slice a2 ks2.length c2)) := hidb ⟨e4, e4', p0, p1, p2, p3, p4, q0, q1, q2, q3, q4⟩
      have IH := hidb (HK.out _ (List.mem_of_getElem? hu1) (.mk k2 n2 f2 s2 a2 c2 ks2) wr.drew (in_below ((Below.refl _ _).drew) hin1) (in_below ((Below.refl _ _).drew) hin2))
      simp only [Tr.val, Tr.cells] at IH
      have HDD : Hid (idA (kids.drop m) (kids'.drop m) = (idT (.mk k1 n1 f1 s1 a1 c1 ks1) (.mk k2 n2 f2 s2 a2 c2 ks2) && idA (kids.drop (m + 1)) (kids'.drop (m + 1)))) := hidb (by rw [drop_one hu1, drop_one hu2]; simp only [idA])
      generalize idT (.mk k1 n1 f1 s1 a1 c1 ks1) (.mk k2 n2 f2 s2 a2 c2 ks2) = r at *
      clear hat hat' hu1 hu2 hin1 hin2 p0 p1 p2 p3 p4 q0 q1 q2 q3 q4
      go_wp2_with fail
      go_region_held3 (fun w' => w'.cell? ⟨w.heap.size, 4, none⟩ = some (.slice (some ⟨b, o, none⟩) kids.length c) ∧ w'.cell? ⟨w.heap.size + 1, 4, none⟩ = some (.slice (some ⟨b', o', none⟩) kids'.length c') ∧ w'.cell? ⟨b, o + m * 5, none⟩ = some (.int .i64 k1) ∧ w'.cell? ⟨b, o + m * 5 + 1, none⟩ = some (.int .i64 n1) ∧ w'.cell? ⟨b, o + m * 5 + 2, none⟩ = some (.float .f64 f1) ∧ w'.cell? ⟨b, o + m * 5 + 3, none⟩ = some (.string s1) ∧ w'.cell? ⟨b, o + m * 5 + 4, none⟩ = some (.slice a1 ks1.length c1) ∧ w'.cell? ⟨b', o' + m * 5, none⟩ = some (.int .i64 k2) ∧ w'.cell? ⟨b', o' + m * 5 + 1, none⟩ = some (.int .i64 n2) ∧ w'.cell? ⟨b', o' + m * 5 + 2, none⟩ = some (.float .f64 f2) ∧ w'.cell? ⟨b', o' + m * 5 + 3, none⟩ = some (.string s2) ∧ w'.cell? ⟨b', o' + m * 5 + 4, none⟩ = some (.slice a2 ks2.length c2))
        (first | with_reducible exact HSX.out | with_reducible exact HS6.out) (first
        | (go_at_call 22; refine IH.out.mono ?_; rintro e w6 ⟨rfl, hb6⟩; have HS6 : Hid (w6.cell? ⟨w.heap.size, 4, none⟩ = some (.slice (some ⟨b, o, none⟩) kids.length c) ∧ w6.cell? ⟨w.heap.size + 1, 4, none⟩ = some (.slice (some ⟨b', o', none⟩) kids'.length c') ∧ w6.cell? ⟨b, o + m * 5, none⟩ = some (.int .i64 k1) ∧ w6.cell? ⟨b, o + m * 5 + 1, none⟩ = some (.int .i64 n1) ∧ w6.cell? ⟨b, o + m * 5 + 2, none⟩ = some (.float .f64 f1) ∧ w6.cell? ⟨b, o + m * 5 + 3, none⟩ = some (.string s1) ∧ w6.cell? ⟨b, o + m * 5 + 4, none⟩ = some (.slice a1 ks1.length c1) ∧ w6.cell? ⟨b', o' + m * 5, none⟩ = some (.int .i64 k2) ∧ w6.cell? ⟨b', o' + m * 5 + 1, none⟩ = some (.int .i64 n2) ∧ w6.cell? ⟨b', o' + m * 5 + 2, none⟩ = some (.float .f64 f2) ∧ w6.cell? ⟨b', o' + m * 5 + 3, none⟩ = some (.string s2) ∧ w6.cell? ⟨b', o' + m * 5 + 4, none⟩ = some (.slice a2 ks2.length c2)) := hidb ⟨(hb6.cell hel).trans HSX.out.1, (hb6.cell hel').trans HSX.out.2.1, (hb6.cell hbl).trans HSX.out.2.2.1, (hb6.cell hbl).trans HSX.out.2.2.2.1, (hb6.cell hbl).trans HSX.out.2.2.2.2.1, (hb6.cell hbl).trans HSX.out.2.2.2.2.2.1, (hb6.cell hbl).trans HSX.out.2.2.2.2.2.2.1, (hb6.cell hbl').trans HSX.out.2.2.2.2.2.2.2.1, (hb6.cell hbl').trans HSX.out.2.2.2.2.2.2.2.2.1, (hb6.cell hbl').trans HSX.out.2.2.2.2.2.2.2.2.2.1, (hb6.cell hbl').trans HSX.out.2.2.2.2.2.2.2.2.2.2.1, (hb6.cell hbl').trans HSX.out.2.2.2.2.2.2.2.2.2.2.2⟩; have HB6 := hidb (HBW.out.trans ((undrew hb6).mono HBW.out.size)); clear hb6))
      cases r with
      | true =>
        go_wp2_with fail
        go_roundw
        case rel => exact ⟨m + 1, by omega, by go_num, by rw [HD.out, HDD.out]; rfl, HB6.out⟩
        case measure => simp [RowKit.intOf]; omega
      | false =>
        go_wp2_with fail
        go_ret
        exact ⟨by rw [HQ.out, HD.out, HDD.out]; rfl, HB3w.out.trans (HB6.out.mono HB3w.out.size)⟩
    · have hmn : ¬ (m : Int) < (kids.length : Int) := by omega
      go_wp2_with fail
      go_ret
      exact ⟨by rw [HQ.out, HD.out, List.drop_of_length_le (by omega)]; rfl, HW.out⟩
  · have HF : Hid ((b1 && (b2 && (b3 && idA kids kids'))) = false) := hidb (by revert hall; cases b1 <;> cases b2 <;> cases b3 <;> simp)
    cases b1
    all_goals cases b2
    all_goals cases b3
    all_goals try (exact absurd ⟨rfl, rfl, rfl⟩ hall)
    all_goals clear hall
    all_goals go_enter Tryz.func22, Tryz.ntmps22
    all_goals
      go_wp2_with (first
        | (go_at_call 54; refine (SM.out _).mono ?_; rintro e w3 ⟨rfl, hb⟩; have HB3w := hidb (HB2.out.trans (hb.mono HB2.out.size)); have HY1 := hidb (HX1.out.keep hb); have HY2 := hidb (HX2.out.keep hb); obtain ⟨x0, x1, x2, x3, x4, -, -, -, -, -, -⟩ := HY1.out; obtain ⟨y0, y1, y2, y3, y4, -, -, -, -, -, -⟩ := HY2.out; clear hb))
      go_ret
      exact ⟨by rw [HQ.out, HF.out]; rfl, HB3w.out⟩

/-- The same term, wherever it lies, is identical to the same ones. -/
theorem idT_sm : ∀ (t t' u : Tr), Sm t t' → idT t u = idT t' u := by
  refine Tr.ind fun k n f s a c kids hk => ?_
  rintro ⟨k', n', f', s', a', c', kids'⟩ ⟨k2, n2, f2, s2, a2, c2, kids2⟩ h
  unfold Sm at h
  obtain ⟨rfl, rfl, rfl, rfl, h⟩ := h
  have hl := smA_len h
  have hall : ∀ (l l' m : List Tr), (∀ t, t ∈ l → t ∈ kids) → SmA l l' → idA l m = idA l' m := by
    intro l
    induction l with
    | nil =>
      intro l' m _ h
      cases l' with
      | nil => rfl
      | cons => unfold SmA at h; exact h.elim
    | cons t r ih =>
      intro l' m hm h
      cases l' with
      | nil => unfold SmA at h; exact h.elim
      | cons t' r' =>
        unfold SmA at h
        cases m with
        | nil => simp only [idA]
        | cons u q =>
          simp only [idA]
          rw [hk t (hm t (by simp)) t' u h.1, ih r' q (fun x hx => hm x (by simp [hx])) h.2]
  simp only [idT]
  rw [hall kids kids' kids2 (fun t h => h) h, hl]
end Go.Proofs.YtgljglindgbjaaaGreatDoor


