import Derived.Test.YtliebilpddmhkaaGreatG24
import Derived.Test.YtliebilpddmhkaaGreatG02
/- The chapter's examples, as stage 16's laws ask for them. -/
namespace Go.Proofs.YtliebilpddmhkaaGreat
open Go.RowKit Go.Lib Go.Deep
attribute [local go_sem] store_float f64bits
attribute [local go_sem ↓] Go.wp_at_zero Go.wp_at_succ

theorem err_kill : errT (aTr ⟨#[107, 105, 108, 108]⟩) = 0 := by decide
theorem kill_in (w : World) (B : Nat) : (aTr ⟨#[107, 105, 108, 108]⟩).In w B := leaf0 3 0 _ (by decide) (by decide) (by decide) w B
theorem act_known1 (w : World) : Calls Tryz.prog 8 #[.agg #[.int .i64 3, .int .i64 1, .int .i64 5, .int .i64 0, .int .i64 0, .bool false, .string ⟨#[]⟩, .int .i64 3, .int .i64 0, .float .f64 0, .string ⟨#[107, 105, 108, 108]⟩, .slice none 0 0], .bool true] w fun e w' => e = .returned (.tuple #[.agg #[.int .i64 2, .int .i64 3, .int .i64 0, .float .f64 0, .string ⟨#[107, 105, 108, 108, 101, 100]⟩, .slice none 0 0], .int .i64 0]) ∧ Below w.heap.size w w' := by
  refine (Act_any 0 0 ⟨#[]⟩ 3 1 false true 3 0 0 ⟨#[107, 105, 108, 108]⟩ none 0 [] w (kill_in w 0) (leaf_small _ _ _ _ _ _) (by decide) (by decide) err_kill (by decide) (by decide)).mono ?_
  rintro e w' ⟨k0, k2, n2, f2, s2, a2, c2, kids2, rfl, ho, -, hb⟩
  unfold OcR at ho
  rw [if_pos (by decide)] at ho
  obtain ⟨rfl, e2⟩ := ho
  unfold aTr at e2
  cases e2
  exact ⟨rfl, hb⟩
theorem act_known2 (w : World) : Calls Tryz.prog 8 #[.agg #[.int .i64 3, .int .i64 1, .int .i64 5, .int .i64 0, .int .i64 0, .bool true, .string ⟨#[]⟩, .int .i64 3, .int .i64 0, .float .f64 0, .string ⟨#[107, 105, 108, 108]⟩, .slice none 0 0], .bool false] w fun e w' => ∃ (ay : Option Addr) (cy : Nat), e = .returned (.tuple #[.agg #[.int .i64 2, .int .i64 3, .int .i64 0, .float .f64 0, .string ⟨#[107, 105, 108, 108]⟩, .slice ay 0 cy], .int .i64 0]) ∧ Below w.heap.size w w' := by
  refine (Act_any 0 0 ⟨#[]⟩ 3 1 true false 3 0 0 ⟨#[107, 105, 108, 108]⟩ none 0 [] w (kill_in w 0) (leaf_small _ _ _ _ _ _) (by decide) (by decide) err_kill (by decide) (by decide)).mono ?_
  rintro e w' ⟨k0, k2, n2, f2, s2, a2, c2, kids2, rfl, ho, -, hb⟩
  unfold OcR at ho
  rw [if_neg (by decide), if_neg (by decide), if_neg (by decide)] at ho
  obtain ⟨rfl, hs⟩ := ho
  unfold Sm at hs
  obtain ⟨rfl, rfl, rfl, rfl, hk⟩ := hs
  have : kids2 = [] := by
    cases kids2 with
    | nil => rfl
    | cons a l => unfold SmA at hk; exact hk.elim
  subst this
  exact ⟨a2, c2, rfl, hb⟩
theorem latom_val (s : ByteArray) (w : World) : Calls Tryz.prog 24 #[.string s] w fun e w' => e = .returned (.agg #[.int .i64 3, .int .i64 0, .float .f64 0, .string s, .slice none 0 0]) ∧ Below w.heap.size w w' := by
  go_enter Tryz.func24, Tryz.ntmps24
  go_wp2
  exact bodyPost_ret (v := .agg #[.int .i64 3, .int .i64 0, .float .f64 0, .string s, .slice none 0 0]) (by simp [results, Tryz.results24, go_sem]) rfl ⟨rfl, by (repeat (first | exact Below.refl _ _ | assumption | refine Below.drew ?_ | refine below_drewN ?_ _ | refine Below.setCell ?_ (by simp) _ | refine Below.alloc ?_ (by (first | exact Nat.le_refl _ | (simp; done) | (simp; omega) | omega)) _ | refine Below.trans ?_ (Below.mono (by assumption) (by first | exact Nat.le_refl _ | (simp; done) | (simp; omega) | omega))))⟩

set_option maxRecDepth 100000 in
set_option maxHeartbeats 4000000 in
theorem known16_any (w : World) : Calls Tryz.prog 6 #[] w fun e w' => e = .returned (.bool true) ∧ Below w.heap.size w w' := by
  have A1 := hidb (fun w => latom_val ⟨#[107, 105, 108, 108]⟩ w)
  have A2 := hidb (fun w => latom_val ⟨#[107, 105, 108, 108]⟩ w)
  have K1 := hidb act_known1
  have K2 := hidb act_known2
  have DE : Hid (∀ w, Calls Tryz.prog 25 #[.agg #[.int .i64 1, .int .i64 7, .int .i64 2, .int .i64 0, .int .i64 0, .bool false, .string ⟨#[]⟩, .int .i64 0, .int .i64 0, .float .f64 0, .string ⟨#[]⟩, .slice none 0 0]] w fun e w' => e = .returned (.tuple #[.agg #[.int .i64 7, .int .i64 1, .int .i64 5, .int .i64 0, .int .i64 0, .bool true, .string ⟨#[]⟩, .int .i64 3, .int .i64 0, .float .f64 0, .string ⟨#[110, 111, 112, 114, 111, 99]⟩, .slice none 0 0], .bool true]) ∧ Below w.heap.size w w') := hidb (fun w => Dead_link 1 7 0 0 false ⟨#[]⟩ 0 0 0 ⟨#[]⟩ none 0 0 (by decide) w)
  go_enter Tryz.func6, Tryz.ntmps6
  go_wp2_with (first
    | (go_at_call 24; refine (A1.out _).mono ?_; clear A1; rintro e w1 ⟨rfl, hb1⟩; have HB1 := hidb hb1; clear hb1)
    | (go_at_call 8; refine (K1.out _).mono ?_; clear K1; rintro e w2 ⟨rfl, hb2⟩; have HB2 := hidb (HB1.out.trans (hb2.mono HB1.out.size)); clear hb2)
    | (go_at_call 24; refine (A2.out _).mono ?_; clear A2; rintro e w3 ⟨rfl, hb3⟩; have HB3 := hidb ((HB2.out.alloc HB2.out.size _).trans (hb3.mono (HB2.out.alloc HB2.out.size _).size)); have HX3 := hidb (at_keep (at_new w2 (.cells #[.int .i64 2, .int .i64 3, .int .i64 0, .float .f64 0, .string ⟨#[107, 105, 108, 108, 101, 100]⟩, .slice none 0 0] 31)) hb3); clear hb3)
    | (go_at_call 8; refine (K2.out _).mono ?_; clear K2; rintro e w4 ⟨ay, cy, rfl, hb4⟩; have HB4 := hidb (HB3.out.trans (hb4.mono HB3.out.size)); have HX4 := hidb (at_keep HX3.out hb4); clear hb4)
    | (go_at_call 25; refine (DE.out _).mono ?_; clear DE; rintro e w5 ⟨rfl, hb5⟩; have HB5 := hidb ((HB4.out.alloc HB4.out.size _).trans (hb5.mono (HB4.out.alloc HB4.out.size _).size)); have HX5 := hidb (at_keep (at_keep HX4.out (below_new w4 (.cells #[.int .i64 2, .int .i64 3, .int .i64 0, .float .f64 0, .string ⟨#[107, 105, 108, 108]⟩, .slice ay 0 cy] 31))) hb5); have HY5 := hidb (at_keep (at_new w4 (.cells #[.int .i64 2, .int .i64 3, .int .i64 0, .float .f64 0, .string ⟨#[107, 105, 108, 108]⟩, .slice ay 0 cy] 31)) hb5); obtain ⟨p0, p1, p2, p3, p4, p5⟩ := box6 HX5.out; obtain ⟨q0, q1, q2, q3, q4, q5⟩ := box6 HY5.out; have hx5 : w2.heap.size < w5.heap.size := (Array.getElem?_eq_some_iff.1 HX5.out).1; have hy5 : w4.heap.size < w5.heap.size := (Array.getElem?_eq_some_iff.1 HY5.out).1; have hxn : w2.heap.size ≠ w5.heap.size := Nat.ne_of_lt hx5; have hyn : w4.heap.size ≠ w5.heap.size := Nat.ne_of_lt hy5; clear hb5))
  go_ret
  exact ⟨rfl, HB5.out.alloc HB5.out.size _⟩
end Go.Proofs.YtliebilpddmhkaaGreat


/- The document's measure of a term, walked: by induction on the tree. -/
namespace Go.Proofs.YtliebilpddmhkaaGreat
open Go.RowKit Go.Deep
attribute [local go_sem ↓] Go.wp_at_zero Go.wp_at_succ

/-- The box of a parameter of five cells reads as it was laid. -/
theorem box_at {w wr : World} {v0 v1 v2 v3 v4 : Value} {T : TypeId} (h : Below (w.heap.size + 1) (w.alloc (.cells #[v0, v1, v2, v3, v4] T)) wr) :
    wr.cell? ⟨w.heap.size, 0, none⟩ = some v0 ∧ wr.cell? ⟨w.heap.size, 1, none⟩ = some v1 ∧ wr.cell? ⟨w.heap.size, 2, none⟩ = some v2 ∧ wr.cell? ⟨w.heap.size, 3, none⟩ = some v3 ∧ wr.cell? ⟨w.heap.size, 4, none⟩ = some v4 := by
  refine ⟨?_, ?_, ?_, ?_, ?_⟩ <;> (rw [h.cell (by simp), World.cell?_alloc_new]; rfl)

theorem box_below {w wr : World} {o : Obj} (h : Below (w.heap.size + 1) (w.alloc o) wr) : Below w.heap.size w wr := ((Below.refl _ _).alloc (Nat.le_refl _) _).trans (h.mono (Nat.le_succ _))

theorem box_then {w wr wz : World} {o : Obj} (h : Below (w.heap.size + 1) (w.alloc o) wr) (hz : Below wr.heap.size wr wz) : Below (w.heap.size + 1) (w.alloc o) wz := h.trans (hz.mono (by have := h.size; simpa using this))

theorem measAll_bounds (kids : List Tr) (hk : ∀ t, t ∈ kids → ∀ depth most, -1 ≤ meas t depth most ∧ (0 ≤ meas t depth most → meas t depth most ≤ most)) : ∀ depth most n, 0 ≤ n → n ≤ most → -1 ≤ measAll kids depth most n ∧ measAll kids depth most n ≤ most := by
  induction kids with
  | nil => intro depth most n h0 h; simp only [measAll]; omega
  | cons t r ih =>
    intro depth most n h0 h
    simp only [measAll]
    split
    · omega
    · have g := hk t (List.mem_cons_self ..) depth (most - n)
      exact ih (fun u hu => hk u (List.mem_cons_of_mem _ hu)) depth most _ (by omega) (by omega)

theorem meas_bounds : ∀ (t : Tr) (depth most : Int), -1 ≤ meas t depth most ∧ (0 ≤ meas t depth most → meas t depth most ≤ most) := by
  refine Tr.ind fun k n f s a c kids hk => ?_
  intro depth most
  simp only [meas]
  have ho := own_nonneg k kids.length
  split
  · omega
  · have := measAll_bounds kids hk (depth - 1) most (own k kids.length) ho (by omega)
    omega

set_option maxHeartbeats 1600000 in
set_option maxRecDepth 100000 in
theorem rmeasure_any : ∀ (t : Tr) (depth most : Int) (w : World), t.In w 0 → Small t → 0 ≤ depth → depth ≤ 200 → 0 ≤ most → most ≤ 65536 →
    Calls Tryz.prog 59 #[t.val, .int .i64 depth, .int .i64 most] w fun e w' => e = .returned (.int .i64 (meas t depth most)) ∧ Below w.heap.size w w' := by
  refine Tr.ind fun k n f s a c kids hk => ?_
  intro depth most w hin hsm h1 h2 h3 h4
  show Calls Tryz.prog 59 #[.agg #[.int .i64 k, .int .i64 n, .float .f64 f, .string s, .slice a kids.length c], .int .i64 depth, .int .i64 most] w _
  simp only [meas]
  have HK : Hid (∀ t, t ∈ kids → ∀ (depth most : Int) (w : World), t.In w 0 → Small t → 0 ≤ depth → depth ≤ 200 → 0 ≤ most → most ≤ 65536 →
    Calls Tryz.prog 59 #[t.val, .int .i64 depth, .int .i64 most] w fun e w' => e = .returned (.int .i64 (meas t depth most)) ∧ Below w.heap.size w w') := hk
  have HIN : Hid ((Tr.mk k n f s a c kids).In w 0) := hin
  unfold Small at hsm
  have hlen := hsm.1
  have HSM : Hid (SmallAll kids) := hsm.2
  clear hk hin hsm
  have hown := own_nonneg k kids.length
  obtain ⟨O, hO⟩ : ∃ O, own k kids.length = O := ⟨_, rfl⟩
  have OW := own_any k n f s a kids.length c hlen
  rw [hO] at OW hown ⊢
  have HOW : Hid _ := OW
  clear OW hO
  by_cases hd : depth < 1
  · rw [if_pos (Or.inl hd)]
    go_enter Tryz.func59, Tryz.ntmps59
    go_wp2
    go_ret
    exact ⟨rfl, (Below.refl _ _).alloc (Nat.le_refl _) _⟩
  have hdw : wrap64 (depth - 1) = depth - 1 := by unfold wrap64; omega
  by_cases ho : O > most
  · rw [if_pos (Or.inr ho)]
    go_enter Tryz.func59, Tryz.ntmps59
    go_wp2_with fail
    refine (HOW.out _).mono ?_
    rintro e w2 ⟨rfl, hb2⟩
    have B2 := box_then (Below.refl _ _) hb2
    have HB2 : Hid _ := B2
    obtain ⟨d0, d1, d2, d3, d4⟩ := box_at B2
    clear B2 hb2
    go_wp2
    go_ret
    exact ⟨rfl, box_below HB2.out⟩
  rw [if_neg (by omega)]
  go_enter Tryz.func59, Tryz.ntmps59
  go_wp2_with fail
  refine (HOW.out _).mono ?_
  rintro e w2 ⟨rfl, hb2⟩
  have B2 := box_then (Below.refl _ _) hb2
  have HB2 : Hid _ := B2
  obtain ⟨d0, d1, d2, d3, d4⟩ := box_at B2
  clear B2 hb2
  go_wp2_with fail
  refine (HOW.out _).mono ?_
  rintro e w3 ⟨rfl, hb3⟩
  have B3 := box_then HB2.out hb3
  have HB3 : Hid _ := B3
  clear d0 d1 d2 d3 d4
  obtain ⟨d0, d1, d2, d3, d4⟩ := box_at B3
  clear B3 hb3
  go_wp2_with fail
  go_loopw [7, 8] (fun nv iv wr => ∃ (m : Nat) (x : Int), m ≤ kids.length ∧ iv = .int .i64 m ∧ nv = .int .i64 x ∧ 0 ≤ x ∧ x ≤ most ∧ measAll (kids.drop m) (depth - 1) most x = measAll kids (depth - 1) most O ∧ Below (w.heap.size + 1) (w.alloc (.cells #[.int .i64 k, .int .i64 n, .float .f64 f, .string s, .slice a kids.length c] 25)) wr) (fun _ iv _ => kids.length - (intOf iv).toNat)
  case atStart => exact ⟨0, O, by omega, rfl, rfl, hown, by omega, by simp, HB3.out⟩
  case round =>
    clear d0 d1 d2 d3 d4
    obtain ⟨m, x, hm, rfl, rfl, hx1, hx2, hrest, hbel⟩ := hrel
    have HR : Hid (measAll (kids.drop m) (depth - 1) most x = measAll kids (depth - 1) most O) := hrest
    have HB1 : Hid _ := hbel
    have d4 := (box_at hbel).2.2.2.2
    have HB : Hid (Below w.heap.size w wr) := box_below hbel
    clear hrest hbel
    by_cases hml : m < kids.length
    · have hmb : (m : Int) < (kids.length : Int) := by omega
      obtain ⟨b, o, rfl, hat⟩ := kid_at (in_below HB.out HIN.out) (by omega)
      obtain ⟨k', n', f', s', a', c', kids', hu, hin', c0, c1, c2, c3, c4⟩ := hat m hml
      have IH := HK.out _ (List.mem_of_getElem? hu) (depth - 1) (most - x) wr hin' (smallAll_get HSM.out (List.mem_of_getElem? hu)) (by omega) (by omega) (by omega) (by omega)
      have hmz : (0 : Int) ≤ (m : Int) := by omega
      have hxw : wrap64 (most - x) = most - x := by unfold wrap64; omega
      have hstep := HR.out
      rw [drop_one hu] at hstep
      simp only [measAll] at hstep
      have hbd := meas_bounds (.mk k' n' f' s' a' c' kids') (depth - 1) (most - x)
      generalize meas (.mk k' n' f' s' a' c' kids') (depth - 1) (most - x) = q at IH hstep hbd
      have HS : Hid _ := hstep
      clear hstep hu hin' hat
      go_wp2_with fail
      refine IH.mono ?_
      rintro e wz ⟨rfl, hbz⟩
      have HZ := box_then HB1.out hbz
      have HZH : Hid _ := HZ
      clear hbz IH HZ
      by_cases hq : q < 0
      · go_wp2
        go_ret
        refine ⟨?_, box_below HZH.out⟩
        have e := HS.out
        rw [if_pos hq] at e
        rw [← e]
        rfl
      · have hqw : wrap64 (x + q) = x + q := by unfold wrap64; omega
        go_wp2
        go_roundw
        case rel =>
          have e := HS.out
          rw [if_neg (by omega)] at e
          exact ⟨m + 1, x + q, by omega, by go_num, by go_num, by omega, by omega, e, HZH.out⟩
        case measure => simp [intOf]; omega
    · have hmn : ¬ (m : Int) < (kids.length : Int) := by omega
      go_wp2
      go_ret
      refine ⟨?_, HB.out⟩
      have e := HR.out
      rw [List.drop_of_length_le (by omega)] at e
      simp only [measAll] at e
      rw [← e]
      rfl
end Go.Proofs.YtliebilpddmhkaaGreat


