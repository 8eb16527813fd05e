import Derived.Test.YtgljglindgbjaaaGreatDoorG07
import Derived.Test.YtgljglindgbjaaaGreatDoorG09
import Derived.Test.YtgljglindgbjaaaGreatDoorG10
import Derived.Test.YtgljglindgbjaaaGreatDoorG12
import Derived.Deep.LoopGhost
import Derived.Deep.RegionHeld
/- term.Cmp and term.Same of 1 and 1.0. -/
namespace Go.Proofs.YtgljglindgbjaaaGreatDoor
open Go.RowKit Go.Lib Go.Deep
attribute [local go_sem] store_float f64bits
attribute [local go_sem ↓] Go.wp_at_zero Go.wp_at_succ

set_option maxHeartbeats 2000000 in
theorem checkAll_ok (k n : Int) (f : Nat) (s : ByteArray) (a : Option Addr) (c : Nat) (kids : List Tr) (w : World) (hin : (Tr.mk k n f s a c kids).In w 0) (hsm : Small (.mk k n f s a c kids)) (hok : ∀ t, t ∈ kids → errT t = 0) : Calls Tryz.prog 168 #[.slice a kids.length c] w fun e w' => e = .returned (.int .i64 0) ∧ Below w.heap.size w w' := by
  have hlen := len_small hin
  have HIN := hidb hin
  have HSM := hidb hsm
  have HOK := hidb hok
  obtain ⟨M, hM⟩ : ∃ M, kids.length = M := ⟨_, rfl⟩
  have HM := hidb hM
  rw [hM] at hlen ⊢
  clear hin hsm hok hM
  go_enter Tryz.func168, Tryz.ntmps168
  go_wp2_with fail
  go_loopw [8] (fun iv wr => ∃ (m : Nat), m ≤ M ∧ iv = .int .i64 m ∧ Below w.heap.size w wr) (fun iv _ => M - (RowKit.intOf iv).toNat)
  case atStart => exact ⟨0, by omega, rfl, Below.refl _ _⟩
  case round =>
  obtain ⟨m, hm, rfl, hby⟩ := hrel
  have HBY := hidb hby
  by_cases hml : m < M
  · have hmb : (m : Int) < (M : Int) := by omega
    have hmz : (0 : Int) ≤ (m : Int) := by omega
    obtain ⟨b, o, rfl, hat⟩ := kid_at (in_below hby HIN.out) (by have := HM.out; omega)
    obtain ⟨k', n', f', s', a', c', kids', hu, hin', c0, c1, c2, c3, c4⟩ := hat m (by have := HM.out; omega)
    have hmem := List.mem_of_getElem? hu
    have CK := hidb (fun (w' : World) (hb : Below wr.heap.size wr w') => check_t (.mk k' n' f' s' a' c' kids') w' (in_below hb hin') (smallAll_get (by have := HSM.out; unfold Small at this; exact this.2) hmem))
    rw [HOK.out _ hmem] at CK
    simp only [Tr.val, Tr.cells] at CK
    generalize kids'.length = tl' at *
    clear hat hu hin' hby hmem
    go_wp2_with (go_at_call 95; refine (CK.out _ (below_new wr _)).mono ?_; rintro e w1 ⟨rfl, hb1⟩; have HB1 := hidb (HBY.out.trans (((below_new wr _).mono HBY.out.size).trans (hb1.mono (Nat.le_trans HBY.out.size (below_new wr _).size)))); clear hb1)
    go_roundw
    case rel => exact ⟨m + 1, by omega, by go_num, HB1.out⟩
    case measure => simp [RowKit.intOf]; omega
  · have hmn : ¬ (m : Int) < (M : Int) := by omega
    clear hby
    go_wp2_with fail
    go_ret
    exact ⟨rfl, HBY.out⟩


theorem method_rank1 (w : World) : (method 354 (kt 1) (.agg #[]) "exitwave/term.rank").run Tryz.prog w = .ok (283, .agg #[]) w := by kernel_rfl
theorem method_rank2 (w : World) : (method 354 (kt 2) (.agg #[]) "exitwave/term.rank").run Tryz.prog w = .ok (283, .agg #[]) w := by kernel_rfl
theorem method_cmp1 (w : World) : (method 354 (kt 1) (.agg #[]) "exitwave/term.compare").run Tryz.prog w = .ok (282, .agg #[]) w := by kernel_rfl

abbrev one : Value := .agg #[.int .i64 1, .int .i64 1, .float .f64 0, .string ⟨#[]⟩, .slice none 0 0]
abbrev oneF : Value := .agg #[.int .i64 2, .int .i64 0, .float .f64 4607182418800017408, .string ⟨#[]⟩, .slice none 0 0]

set_option maxHeartbeats 8000000 in
set_option maxRecDepth 100000 in
theorem compare_one (w : World) : Calls Tryz.prog 170 #[one, oneF] w fun e w' => e = .returned (.int .i64 0) ∧ Below w.heap.size w w' := by
  have K1 := hidb (kindOf_any 1 1 0 ⟨#[]⟩ none 0 0)
  have K2 := hidb (kindOf_any 2 0 4607182418800017408 ⟨#[]⟩ none 0 0)
  have hv : Flt.ordI (compare (valU 1 1 0) (valU 2 0 4607182418800017408)) = 0 := by kernel_rfl
  have NC := hidb (cmp_any 1 1 2 0 0 4607182418800017408 ⟨#[]⟩ ⟨#[]⟩ none none 0 0 0 0 (by decide) (by decide) (by simp [rightB, whB, ByteArray.toList_eq]) (by simp [rightB, Flt.fin, ByteArray.toList_eq]))
  rw [hv] at NC
  clear hv
  have e1 := method_rank1
  have e2 := method_rank2
  have e3 := method_cmp1
  have CI : Hid (∀ w, Calls Tryz.prog 210 #[.int .i64 0, .int .i64 0] w fun e w' => e = .returned (.int .i64 0) ∧ w' = w) := hidb (fun w => by
    have IN : ∀ w, Calls Tryz.prog 238 #[.int .i64 0] w fun e w' => e = .returned (.bool false) ∧ w' = w := fun w => by
      go_enter Tryz.func238, Tryz.ntmps238
      go_wp2_with fail
      go_ret
      exact ⟨rfl, rfl⟩
    go_enter Tryz.func210, Tryz.ntmps210
    go_wp2_with (go_at_call 238; refine (IN _).mono ?_; rintro e w3 ⟨rfl, rfl⟩)
    go_ret
    exact ⟨rfl, rfl⟩)
  have NM : Hid (∀ w, Calls Tryz.prog 282 #[.agg #[], one, oneF] w fun e w' => e = .returned (.int .i64 0) ∧ Below w.heap.size w w') := hidb (fun w => by
    have HBW : Hid (Below w.heap.size w ((w.alloc (.cells #[.int .i64 1, .int .i64 1, .float .f64 0, .string ⟨#[]⟩, .slice none 0 0] 27)).alloc (.cells #[.int .i64 2, .int .i64 0, .float .f64 4607182418800017408, .string ⟨#[]⟩, .slice none 0 0] 27))) := hidb ((below_new w _).alloc (by simp) _)
    go_enter Tryz.func282, Tryz.ntmps282
    go_wp2_with fail
    refine (NC.out _).mono ?_
    rintro e w1 ⟨rfl, hb1⟩
    have HB1 := hidb hb1
    clear hb1
    go_wp2_with fail
    go_ret
    refine ⟨rfl, ?_⟩
    exact ((((Below.refl _ w).alloc (Nat.le_refl _) _).alloc (by simp) _).alloc (by simp; omega) _).trans (HB1.out.mono (by simp; omega)))
  have RK : Hid (∀ w, Calls Tryz.prog 283 #[.agg #[]] w fun e w' => e = .returned (.int .i64 0) ∧ Below w.heap.size w w') := hidb (fun w => by
    go_enter Tryz.func283, Tryz.ntmps283
    go_wp2_with fail
    go_ret
    exact ⟨rfl, by first | exact Below.refl _ _ | exact below_new _ _⟩)
  obtain ⟨V, hV⟩ : ∃ V, (w.alloc (.cells #[.int .i64 1, .int .i64 1, .float .f64 0, .string ⟨#[]⟩, .slice none 0 0] 27)).alloc (.cells #[.int .i64 2, .int .i64 0, .float .f64 4607182418800017408, .string ⟨#[]⟩, .slice none 0 0] 27) = V := ⟨_, rfl⟩
  have HBV : Hid (Below w.heap.size w V) := hidb (by rw [← hV]; exact (below_new w _).alloc (by simp) _)
  have HB1 : Hid (Box V w.heap.size (.int .i64 1) (.int .i64 1) (.float .f64 0) (.string ⟨#[]⟩) (.slice none 0 0)) := hidb (by rw [← hV]; exact (Box.new w _ _ _ _ _ _).keep (below_new _ _))
  have HB2 : Hid (Box V (w.heap.size + 1) (.int .i64 2) (.int .i64 0) (.float .f64 4607182418800017408) (.string ⟨#[]⟩) (.slice none 0 0)) := hidb (by
    rw [← hV]
    have := Box.new (w.alloc (.cells #[.int .i64 1, .int .i64 1, .float .f64 0, .string ⟨#[]⟩, .slice none 0 0] 27)) 27 (.int .i64 2) (.int .i64 0) (.float .f64 4607182418800017408) (.string ⟨#[]⟩) (.slice none 0 0)
    simpa using this)
  have HV := hidb hV
  clear hV
  have HS : Hid (∀ W, Below V.heap.size V W → W.cell? ⟨w.heap.size, 0, none⟩ = some (.int .i64 1) ∧ W.cell? ⟨w.heap.size, 1, none⟩ = some (.int .i64 1) ∧ W.cell? ⟨w.heap.size, 2, none⟩ = some (.float .f64 0) ∧ W.cell? ⟨w.heap.size, 3, none⟩ = some (.string ⟨#[]⟩) ∧ W.cell? ⟨w.heap.size, 4, none⟩ = some (.slice none 0 0) ∧ W.cell? ⟨w.heap.size + 1, 0, none⟩ = some (.int .i64 2) ∧ W.cell? ⟨w.heap.size + 1, 1, none⟩ = some (.int .i64 0) ∧ W.cell? ⟨w.heap.size + 1, 2, none⟩ = some (.float .f64 4607182418800017408) ∧ W.cell? ⟨w.heap.size + 1, 3, none⟩ = some (.string ⟨#[]⟩) ∧ W.cell? ⟨w.heap.size + 1, 4, none⟩ = some (.slice none 0 0)) := hidb (fun W hb => ⟨(HB1.out.keep hb).c0, (HB1.out.keep hb).c1, (HB1.out.keep hb).c2, (HB1.out.keep hb).c3, (HB1.out.keep hb).c4, (HB2.out.keep hb).c0, (HB2.out.keep hb).c1, (HB2.out.keep hb).c2, (HB2.out.keep hb).c3, (HB2.out.keep hb).c4⟩)
  have HS0 := hidb (HS.out V.drew (Below.refl _ _).drew)
  have C1 : Hid (Calls Tryz.prog 209 #[one] V.drew fun e w1 => e = .returned (.iface (kt 1) (.agg #[])) ∧ Hid (w1.cell? ⟨w.heap.size, 0, none⟩ = some (.int .i64 1) ∧ w1.cell? ⟨w.heap.size, 1, none⟩ = some (.int .i64 1) ∧ w1.cell? ⟨w.heap.size, 2, none⟩ = some (.float .f64 0) ∧ w1.cell? ⟨w.heap.size, 3, none⟩ = some (.string ⟨#[]⟩) ∧ w1.cell? ⟨w.heap.size, 4, none⟩ = some (.slice none 0 0) ∧ w1.cell? ⟨w.heap.size + 1, 0, none⟩ = some (.int .i64 2) ∧ w1.cell? ⟨w.heap.size + 1, 1, none⟩ = some (.int .i64 0) ∧ w1.cell? ⟨w.heap.size + 1, 2, none⟩ = some (.float .f64 4607182418800017408) ∧ w1.cell? ⟨w.heap.size + 1, 3, none⟩ = some (.string ⟨#[]⟩) ∧ w1.cell? ⟨w.heap.size + 1, 4, none⟩ = some (.slice none 0 0)) ∧ Hid (Calls Tryz.prog 209 #[oneF] w1 fun e w2 => e = .returned (.iface (kt 2) (.agg #[])) ∧ Hid (w2.cell? ⟨w.heap.size, 0, none⟩ = some (.int .i64 1) ∧ w2.cell? ⟨w.heap.size, 1, none⟩ = some (.int .i64 1) ∧ w2.cell? ⟨w.heap.size, 2, none⟩ = some (.float .f64 0) ∧ w2.cell? ⟨w.heap.size, 3, none⟩ = some (.string ⟨#[]⟩) ∧ w2.cell? ⟨w.heap.size, 4, none⟩ = some (.slice none 0 0) ∧ w2.cell? ⟨w.heap.size + 1, 0, none⟩ = some (.int .i64 2) ∧ w2.cell? ⟨w.heap.size + 1, 1, none⟩ = some (.int .i64 0) ∧ w2.cell? ⟨w.heap.size + 1, 2, none⟩ = some (.float .f64 4607182418800017408) ∧ w2.cell? ⟨w.heap.size + 1, 3, none⟩ = some (.string ⟨#[]⟩) ∧ w2.cell? ⟨w.heap.size + 1, 4, none⟩ = some (.slice none 0 0)) ∧ Hid (Below V.heap.size V w2))) := hidb (by
    refine (K1.out _).mono ?_
    rintro e w1 ⟨rfl, hb1⟩
    have q1 := undrew hb1
    refine ⟨rfl, hidb (HS.out w1 q1), hidb ((K2.out _).mono ?_)⟩
    rintro e w2 ⟨rfl, hb2⟩
    have q2 := q1.trans (hb2.mono q1.size)
    exact ⟨rfl, hidb (HS.out w2 q2), hidb q2⟩)
  clear K1 K2
  go_enter Tryz.func170, Tryz.ntmps170
  go_wp2_with fail
  rw [HV.out]
  go_region_held3 (fun w' => w'.cell? ⟨w.heap.size, 0, none⟩ = some (.int .i64 1) ∧ w'.cell? ⟨w.heap.size, 1, none⟩ = some (.int .i64 1) ∧ w'.cell? ⟨w.heap.size, 2, none⟩ = some (.float .f64 0) ∧ w'.cell? ⟨w.heap.size, 3, none⟩ = some (.string ⟨#[]⟩) ∧ w'.cell? ⟨w.heap.size, 4, none⟩ = some (.slice none 0 0) ∧ w'.cell? ⟨w.heap.size + 1, 0, none⟩ = some (.int .i64 2) ∧ w'.cell? ⟨w.heap.size + 1, 1, none⟩ = some (.int .i64 0) ∧ w'.cell? ⟨w.heap.size + 1, 2, none⟩ = some (.float .f64 4607182418800017408) ∧ w'.cell? ⟨w.heap.size + 1, 3, none⟩ = some (.string ⟨#[]⟩) ∧ w'.cell? ⟨w.heap.size + 1, 4, none⟩ = some (.slice none 0 0)) (first | with_reducible exact HS0.out | with_reducible exact HS1.out | with_reducible exact HS2.out) (first
    | (go_at_call 209; refine C1.out.mono ?_; clear C1; rintro e w1 ⟨rfl, HS1, C2⟩)
    | (go_at_call 209; refine C2.out.mono ?_; clear C2; rintro e w2 ⟨rfl, HS2, HB⟩))
  go_wp2_with (go_at_call 283; refine (RK.out _).mono ?_; rintro e w3 ⟨rfl, hb3⟩; have HB := hidb (HB.out.trans (hb3.mono HB.out.size)); clear hb3)
  refine (CI.out _).mono ?_
  rintro e w4 ⟨rfl, rfl⟩
  obtain ⟨z0, z1, z2, z3, z4, z5, z6, z7, z8, z9⟩ := HS.out _ HB.out
  go_wp2_with fail
  refine (NM.out _).mono ?_
  rintro e w5 ⟨rfl, hb5⟩
  have HB5 := hidb (HBV.out.trans ((HB.out.trans (hb5.mono HB.out.size)).mono HBV.out.size))
  clear hb5
  go_wp2_with fail
  go_ret
  exact ⟨rfl, HB5.out⟩

theorem one_in (w : World) : (Tr.mk 1 1 0 ⟨#[]⟩ none 0 []).In w 0 ∧ (Tr.mk 2 0 4607182418800017408 ⟨#[]⟩ none 0 []).In w 0 := by
  constructor
  · unfold Tr.In
    exact ⟨⟨by decide, by decide, by decide, by show 0 ≤ maxLen; omega, by simp, by simp, fun _ => rfl⟩, fun ad h => by simp at h⟩
  · unfold Tr.In
    exact ⟨⟨by decide, by decide, by decide, by show 0 ≤ maxLen; omega, by simp, by simp, fun _ => rfl⟩, fun ad h => by simp at h⟩
end Go.Proofs.YtgljglindgbjaaaGreatDoor


/- A region that draws its order, where a condition on memory holds until its last operation, which waits for all others. -/
namespace Go.Proofs.YtgljglindgbjaaaGreatDoor

section
variable {P : Program} {ops : Array Oper} {md : Region.Mode} {Q : Exit → Act → World → Prop} {S : World → Prop} {D : List Nat}

/-- Whatever order is picked from here on, and S holds behind every operation that is carried out and is not one of D. -/
def wpAnyD (P : Program) (md : Region.Mode) (ops : Array Oper) (Q : Exit → Act → World → Prop) (S : World → Prop) (D : List Nat) : Nat → Array Bool → Act → World → Prop
  | 0, listed, a, w => Region.ready md ops listed = [] ∧ Q .normal a w
  | fuel + 1, listed, a, w =>
    (Region.ready md ops listed = [] → Q .normal a w) ∧
    ∀ i ∈ Region.ready md ops listed, wpOp P ops Q i (fun a' w' => (i ∉ D → S w') ∧ wpAnyD P md ops Q S D fuel (listed.setIfInBounds i true) a' w') a w

theorem wpAny_of_D : ∀ (fuel : Nat) (listed : Array Bool) (a : Act) (w : World), wpAnyD P md ops Q S D fuel listed a w → wpAny P md ops Q fuel listed a w
  | 0, _, _, _, h => h
  | fuel + 1, _, _, _, h => ⟨h.1, fun i hi => wpOp_mono (fun a' w' h' => wpAny_of_D fuel _ a' w' h'.2) (h.2 i hi)⟩

/-- Does operation d wait for i? -/
def waitsB (md : Region.Mode) (ops : Array Oper) (i d : Nat) : Bool := ((ops[d]?).map fun o => o.after.any fun e => Region.binds md e && e.on == i).getD false

theorem waitsB_ready {i d : Nat} {listed : Array Bool} (h : waitsB md ops i d = true) (hr : d ∈ Region.ready md ops listed) : listed.getD i false = true := by
  obtain ⟨_, o, ho, hall⟩ := mem_ready.1 hr
  unfold waitsB at h
  rw [ho] at h
  simp only [Option.map_some, Option.getD_some] at h
  obtain ⟨e, he, hb⟩ := Array.any_eq_true'.1 h
  simp only [Bool.and_eq_true, beq_iff_eq] at hb
  have := hall e he hb.1
  rwa [hb.2] at this

theorem wpAnyD_first {i : Nat} {oi : Oper} {v : Value} (hi : ops[i]? = some oi) (hsel : ∀ (j : Nat) (o : Oper) cs b, ops[j]? = some o → o.op ≠ .select cs b)
    (hQ : ∀ c a w, Q (.panic c) (a.put oi.dst v) w → Q (.panic c) a w) (hD : ∀ d, d ∈ D → waitsB md ops i d = true) :
    ∀ (fuel : Nat) (listed : Array Bool) (a : Act) (w : World),
      (∀ j oj, ops[j]? = some oj → j ≠ i → listed.getD j true = false → (∀ e ∈ oj.after, Region.binds md e = true → e.on ≠ i) → oi.apart ops oj = true) →
      i ∈ Region.ready md ops listed → YieldsIf P ops S oi v a → S w →
      wpAnyD P md ops Q S D fuel (listed.setIfInBounds i true) (a.put oi.dst v) w → wpAnyD P md ops Q S D (fuel + 1) listed a w := by
  intro fuel
  induction fuel with
  | zero =>
    intro listed a w _ hr hy hS H
    refine ⟨fun h => (by rw [h] at hr; cases hr), fun j hj => ?_⟩
    by_cases hji : j = i
    · subst hji; exact hy.wpOp hi hS ⟨fun _ => hS, H⟩
    · have := ready_mono hj hji
      rw [H.1] at this
      cases this
  | succ fuel ih =>
    intro listed a w hfree hr hy hS H
    refine ⟨fun h => (by rw [h] at hr; cases hr), fun j hj => ?_⟩
    by_cases hji : j = i
    · subst hji; exact hy.wpOp hi hS ⟨fun _ => hS, H⟩
    · have h1 := H.2 j (ready_mono hj hji)
      obtain ⟨hjun, oj, hoj, hall⟩ := mem_ready.1 hj
      have hun : ∀ (x : Bool), listed.getD i x = false := fun x => by
        have h0 := (mem_ready.1 hr).1
        rcases Nat.lt_or_ge i listed.size with h' | h'
        · simp [h'] at h0 ⊢; exact h0
        · simp [Array.getElem?_eq_none h'] at h0
      have hjD : j ∉ D := fun hd => by
        have := waitsB_ready (hD j hd) hj
        rw [hun] at this
        cases this
      have hnot : ∀ e ∈ oj.after, Region.binds md e = true → e.on ≠ i := fun e he hb heq => by
        have h1 := hall e he hb
        rw [heq, hun] at h1
        cases h1
      have h2 := wpOp_putIf hoj (hfree j oj hoj hji hjun hnot) (fun cs b => hsel i oi cs b hi) (fun cs b => hsel j oj cs b hoj) hQ hy h1
      have hfree' : ∀ k ok, ops[k]? = some ok → k ≠ i → (listed.setIfInBounds j true).getD k true = false →
          (∀ e ∈ ok.after, Region.binds md e = true → e.on ≠ i) → oi.apart ops ok = true := fun k ok hk hki hun hno => by
        refine hfree k ok hk hki ?_ hno
        by_cases hjk : j = k
        · subst hjk; exact hjun
        · rw [getD_set_ne true hjk] at hun; exact hun
      refine wpOp_mono (fun a' w' h3 => ⟨h3.2.1, ih (listed.setIfInBounds j true) a' w' hfree' (ready_mono hr (Ne.symm hji)) h3.1 (h3.2.1 hjD) ?_⟩) h2
      rw [Array.setIfInBounds_comm _ _ hji]
      exact h3.2.2

/-- Operation i is taken first: it yields v wherever S holds. -/
theorem wpAnyD_take {i : Nat} {oi : Oper} {v : Value} {fuel : Nat} {listed : Array Bool} {a : Act} {w : World} (hi : ops[i]? = some oi)
    (hs : Region.noSelect ops = true) (hf : Region.free md ops listed i = true) (hr : (Region.ready md ops listed).contains i = true) (hD : D.all (waitsB md ops i) = true)
    (hQ : ∀ c a w, Q (.panic c) (a.put oi.dst v) w → Q (.panic c) a w) (hS : S w) (hy : YieldsIf P ops S oi v a)
    (h : wpAnyD P md ops Q S D fuel (listed.setIfInBounds i true) (a.put oi.dst v) w) : wpAnyD P md ops Q S D (fuel + 1) listed a w :=
  wpAnyD_first hi (Region.noSelect_spec hs) hQ (fun d hd => List.all_eq_true.1 hD d hd) fuel listed a w (Region.free_spec hi hf) (by simpa using hr) hy hS h

/-- Operation i alone may come up. -/
theorem wpAnyD_step {i : Nat} {oi : Oper} {fuel : Nat} {listed : Array Bool} {a : Act} {w : World} (hr : Region.ready md ops listed = [i]) (hi : ops[i]? = some oi)
    (h : if Region.wanted oi (yielded ops a.tmps) = true then Oper.wp P oi a w (fun a' w' => (i ∉ D → S w') ∧ wpAnyD P md ops Q S D fuel (listed.setIfInBounds i true) a' w') Q else (i ∉ D → S w) ∧ wpAnyD P md ops Q S D fuel (listed.setIfInBounds i true) (a.put oi.dst undef) w) : wpAnyD P md ops Q S D (fuel + 1) listed a w := by
  refine ⟨fun h0 => (by rw [hr] at h0; cases h0), fun j hj => ?_⟩
  rw [hr] at hj
  obtain rfl : j = i := by simpa using hj
  unfold wpOp
  simp only [hi]
  split
  · rename_i hw; rw [if_pos hw] at h; exact .inl h
  · rename_i hw; rw [if_neg hw] at h; exact h

theorem wpAnyD_done {listed : Array Bool} {a : Act} {w : World} (hr : Region.ready md ops listed = []) (h : Q .normal a w) :
    ∀ fuel, wpAnyD P md ops Q S D fuel listed a w
  | 0 => ⟨hr, h⟩
  | _ + 1 => ⟨fun _ => h, by rw [hr]; simp⟩

/-- The same, over a list. -/
theorem wpAnyD_takeL {l : List Oper} {i : Nat} {oi : Oper} {v : Value} {fuel : Nat} {listed : Array Bool} {a : Act} {w : World} (hi : l[i]? = some oi)
    (hs : Region.noSelect l.toArray = true) (hf : Region.free md l.toArray listed i = true) (hr : (Region.ready md l.toArray listed).contains i = true) (hD : D.all (waitsB md l.toArray i) = true)
    (hQ : ∀ c a w, Q (.panic c) (a.put oi.dst v) w → Q (.panic c) a w) (hS : S w) (hg : oi.guard = none) (hy : ∀ w, S w → (execOp a.eval oi).run P w = .ok (.value v) w)
    (h : wpAnyD P md l.toArray Q S D fuel (listed.setIfInBounds i true) (a.put oi.dst v) w) : wpAnyD P md l.toArray Q S D (fuel + 1) listed a w :=
  wpAnyD_take (by simpa using hi) hs hf hr hD hQ hS (.inl ⟨by simp [Region.wanted, hg], hy⟩) h
theorem wpAnyD_stepL {l : List Oper} {i : Nat} {oi : Oper} {fuel : Nat} {listed : Array Bool} {a : Act} {w : World} (hr : Region.ready md l.toArray listed = [i]) (hi : l[i]? = some oi)
    (h : ∀ K : Act → World → Prop, (∀ a' w', (i ∉ D → S w') → wpAnyD P md l.toArray Q S D fuel (listed.setIfInBounds i true) a' w' → K a' w') → if Region.wanted oi (yielded l.toArray a.tmps) = true then Oper.wp P oi a w K Q else K (a.put oi.dst undef) w) : wpAnyD P md l.toArray Q S D (fuel + 1) listed a w := by
  refine wpAnyD_step hr (by simpa using hi) ?_
  have := h (fun a' w' => (i ∉ D → S w') ∧ wpAnyD P md l.toArray Q S D fuel (listed.setIfInBounds i true) a' w') (fun a' w' h1 h2 => ⟨h1, h2⟩)
  exact this

theorem wp_region_D {id : Nat} {a : Act} {w : World} (S : World → Prop) (D : List Nat) (hm : P.follows .mixedOrders = true)
    (h : wpAnyD P .any ops Q S D ops.size (Array.replicate ops.size false) a w.drew) : (Code.region id ops true).wp P Q a w :=
  wp_region_any hm (wpAny_of_D _ _ _ _ h)
end
end Go.Proofs.YtgljglindgbjaaaGreatDoor


/- A region that draws its order: operations with a guard. -/
namespace Go.Proofs.YtgljglindgbjaaaGreatDoor
section
variable {P : Program} {md : Region.Mode} {Q : Exit → Act → World → Prop} {S : World → Prop} {D : List Nat}
/-- A guarded operation that is wanted. -/
theorem wpAnyD_takeG {l : List Oper} {i : Nat} {oi : Oper} {v : Value} {fuel : Nat} {listed : Array Bool} {a : Act} {w : World} (hi : l[i]? = some oi)
    (hs : Region.noSelect l.toArray = true) (hf : Region.free md l.toArray listed i = true) (hr : (Region.ready md l.toArray listed).contains i = true) (hD : D.all (waitsB md l.toArray i) = true)
    (hQ : ∀ c a w, Q (.panic c) (a.put oi.dst v) w → Q (.panic c) a w) (hS : S w) (hw : Region.wanted oi (yielded l.toArray a.tmps) = true) (hy : ∀ w, S w → (execOp a.eval oi).run P w = .ok (.value v) w)
    (h : wpAnyD P md l.toArray Q S D fuel (listed.setIfInBounds i true) (a.put oi.dst v) w) : wpAnyD P md l.toArray Q S D (fuel + 1) listed a w :=
  wpAnyD_take (by simpa using hi) hs hf hr hD hQ hS (.inl ⟨hw, hy⟩) h
/-- One that is not. -/
theorem wpAnyD_skipG {l : List Oper} {i : Nat} {oi : Oper} {fuel : Nat} {listed : Array Bool} {a : Act} {w : World} (hi : l[i]? = some oi)
    (hs : Region.noSelect l.toArray = true) (hf : Region.free md l.toArray listed i = true) (hr : (Region.ready md l.toArray listed).contains i = true) (hD : D.all (waitsB md l.toArray i) = true)
    (hQ : ∀ c a w, Q (.panic c) (a.put oi.dst undef) w → Q (.panic c) a w) (hS : S w) (hw : Region.wanted oi (yielded l.toArray a.tmps) = false)
    (h : wpAnyD P md l.toArray Q S D fuel (listed.setIfInBounds i true) (a.put oi.dst undef) w) : wpAnyD P md l.toArray Q S D (fuel + 1) listed a w :=
  wpAnyD_take (by simpa using hi) hs hf hr hD hQ hS (.inr ⟨hw, rfl⟩) h
end
end Go.Proofs.YtgljglindgbjaaaGreatDoor


