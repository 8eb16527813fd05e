import Derived.Test.YtajadhkpadkikaaGreatDoorG29
import Derived.Deep.RegionHeld
/- is_boolean, not. -/
namespace Go.Proofs.YtajadhkpadkikaaGreatDoor
open Go.RowKit Go.Lib Go.Deep
attribute [local go_sem] store_float f64bits store_func store_nilFunc
attribute [local go_sem ↓] Go.wp_at_zero Go.wp_at_succ

/-- The first argument's cells. -/
theorem arg0 {w W : World} {a : Option Addr} {c : Nat} {t : Tr} {rest : List Tr} (hin : ArgsIn w a c (t :: rest)) (hW : Below w.heap.size w W) : ∃ b o k n f s a' c' ks, a = some ⟨b, o, none⟩ ∧ t = .mk k n f s a' c' ks ∧ b < w.heap.size ∧ W.cell? ⟨b, o, none⟩ = some (.int .i64 k) ∧ W.cell? ⟨b, o + 1, none⟩ = some (.int .i64 n) ∧ W.cell? ⟨b, o + 2, none⟩ = some (.float .f64 f) ∧ W.cell? ⟨b, o + 3, none⟩ = some (.string s) ∧ W.cell? ⟨b, o + 4, none⟩ = some (.slice a' ks.length c') := by
  obtain ⟨b, o, rfl, hat⟩ := kid_at hin (by simp)
  obtain ⟨k1, n1, f1, s1, a1, c1, ks1, hu1, hin3, v0, v1, v2, v3, v4⟩ := hat 0 (by simp)
  have hl : b < w.heap.size := World.block_lt_of_cell? _ _ v0
  refine ⟨b, o, k1, n1, f1, s1, a1, c1, ks1, rfl, by simpa using hu1, hl, ?_, ?_, ?_, ?_, ?_⟩
  · exact (hW.cell (p := ⟨b, o, none⟩) hl).trans (by simpa using v0)
  · exact (hW.cell (p := ⟨b, o + 1, none⟩) hl).trans (by simpa using v1)
  · exact (hW.cell (p := ⟨b, o + 2, none⟩) hl).trans (by simpa using v2)
  · exact (hW.cell (p := ⟨b, o + 3, none⟩) hl).trans (by simpa using v3)
  · exact (hW.cell (p := ⟨b, o + 4, none⟩) hl).trans (by simpa using v4)

set_option maxHeartbeats 8000000 in
set_option maxRecDepth 100000 in
theorem isBoolean_tc {w : World} {a : Option Addr} {c : Nat} {t : Tr} {rest : List Tr} {nm : ByteArray} {P : Tr → Prop} {E : Int → Prop} (hin : ArgsIn w a c (t :: rest)) (hP : P (bolT (isBol t))) :
    TC 64 P E (.agg #[.string nm, .slice a (t :: rest).length c, noneF]) w := by
  refine ⟨fun args w => by kernel_rfl, fun W hW => ?_⟩
  have HP := hidb hP
  have hlen : (0 : Int) < ((t :: rest).length : Int) := by simp
  obtain ⟨b, o, k, n, f, s, a', c', ks, rfl, rfl, hl, v0, v1, v2, v3, v4⟩ := arg0 hin hW
  generalize (Tr.mk k n f s a' c' ks :: rest).length = L at *
  have IB := hidb (isBool_any (.mk k n f s a' c' ks))
  simp only [Tr.val, Tr.cells] at IB
  generalize isBol (.mk k n f s a' c' ks) = D at *
  have hbW : b < W.heap.size := Nat.lt_of_lt_of_le hl hW.size
  obtain ⟨V1, hV1⟩ : ∃ V1, ((W.alloc (.cells #[.string nm, .slice (some ⟨b, o, none⟩) L c, noneF] CT)).alloc (.cells #[.int .i64 0, .int .i64 0, .float .f64 0, .string ⟨#[]⟩, .slice none 0 0] 25)) = V1 := ⟨_, rfl⟩
  have HX0 : Hid (Box V1 (W.heap.size + 1) (.int .i64 0) (.int .i64 0) (.float .f64 0) (.string ⟨#[]⟩) (.slice none 0 0)) := hidb (by
    rw [← hV1]
    have := Box.new (W.alloc (.cells #[.string nm, .slice (some ⟨b, o, none⟩) L c, noneF] CT)) 25 (.int .i64 0) (.int .i64 0) (.float .f64 0) (.string ⟨#[]⟩) (.slice none 0 0)
    simpa using this)
  have HC0 : Hid (Tri V1 W.heap.size (.string nm) (.slice (some ⟨b, o, none⟩) L c) noneF) := hidb (by rw [← hV1]; exact (Tri.new W _ _ _ _).keep (below_new _ _))
  have HBW : Hid (Below W.heap.size W V1) := hidb (by rw [← hV1]; exact (below_new W _).alloc (by simp) _)
  have HV1 := hidb hV1
  obtain ⟨PP, hPP⟩ : ∃ PP : Ending → World → Prop, Tld P E w.heap.size W = PP := ⟨_, rfl⟩
  have HPP := hidb hPP
  rw [hPP]
  clear hV1 hPP
  clear hin hP hW hl
  go_enter Tryz.func64, Tryz.ntmps64
  go_wp2_with fail
  rw [HV1.out]
  refine (IB.out _).mono ?_
  rintro e w2 ⟨rfl, hb2⟩
  have HB2 := hidb (HBW.out.trans (hb2.mono HBW.out.size))
  have HX2 := hidb (HX0.out.keep hb2)
  clear hb2
  go_wp2_with fail
  refine (boolean_any D _).mono ?_
  rintro e w3 ⟨rfl, hb3⟩
  have HB3 := hidb (HB2.out.trans (hb3.mono HB2.out.size))
  have HX3 := hidb (HX2.out.keep hb3)
  clear hb3
  obtain ⟨⟨x0, x1, x2, x3, x4⟩, ⟨y0, y1, y2, y3, y4⟩, xl⟩ := Box.six HX3.out
  obtain ⟨S, hS⟩ : ∃ S, (bolT D).val = .agg #[.int .i64 3, .int .i64 0, .float .f64 0, .string S, .slice none 0 0] := ⟨_, rfl⟩
  rw [hS]
  have HS := hidb hS
  clear hS
  go_wp2_with fail
  have bx9 := HX3.out.set (.int .i64 3) (.int .i64 0) (.float .f64 0) (.string S) (.slice none 0 0)
  obtain ⟨⟨k0, k1', k2, k3, k4⟩, -, -⟩ := Box.six bx9
  simp only [set5] at k0 k1' k2 k3 k4
  refine bodyPost_ret (v := (bolT D).val) (by rw [HS.out]; simp [results, Tryz.results64, go_sem, k0, k1', k2, k3, k4]) rfl ?_
  rw [← HPP.out]
  exact tld_bool HP.out (((((HB3.out.setCell (by simp) _).setCell (by simp) _).setCell (by simp) _).setCell (by simp) _).setCell (by simp) _)

set_option maxHeartbeats 8000000 in
set_option maxRecDepth 100000 in
theorem opposite_tc {w : World} {a : Option Addr} {c : Nat} {k n : Int} {f : Nat} {s : ByteArray} {a' : Option Addr} {c' : Nat} {ks rest : List Tr} {nm : ByteArray} {P : Tr → Prop} {E : Int → Prop} (hin : ArgsIn w a c (Tr.mk k n f s a' c' ks :: rest)) (hP : isBol (.mk k n f s a' c' ks) = true → P (bolT (decide (s = falseS)))) (hE : isBol (.mk k n f s a' c' ks) = false → E 13) :
    TC 46 P E (.agg #[.string nm, .slice a (Tr.mk k n f s a' c' ks :: rest).length c, .nilFunc]) w := by
  refine ⟨fun args w => by kernel_rfl, fun W hW => ?_⟩
  have HP := hidb hP
  have HE := hidb hE
  have hlen : (0 : Int) < ((Tr.mk k n f s a' c' ks :: rest).length : Int) := by simp
  obtain ⟨b, o, k, n, f, s, a', c', ks, rfl, e, hl, v0, v1, v2, v3, v4⟩ := arg0 hin hW
  injection e with e1 e2 e3 e4 e5 e6 e7
  subst e1 e2 e3 e4 e5 e6 e7
  generalize (Tr.mk _ _ _ _ _ _ _ :: rest).length = L at *
  have IB := hidb (isBool_any (.mk k n f s a' c' ks))
  simp only [Tr.val, Tr.cells] at IB
  have hbW : b < W.heap.size := Nat.lt_of_lt_of_le hl hW.size
  obtain ⟨V1, hV1⟩ : ∃ V1, ((W.alloc (.cells #[.string nm, .slice (some ⟨b, o, none⟩) L c, .nilFunc] CT)).alloc (.cells #[.int .i64 0, .int .i64 0, .float .f64 0, .string ⟨#[]⟩, .slice none 0 0] 25)) = V1 := ⟨_, rfl⟩
  have HX0 : Hid (Box V1 (W.heap.size + 1) (.int .i64 0) (.int .i64 0) (.float .f64 0) (.string ⟨#[]⟩) (.slice none 0 0)) := hidb (by
    rw [← hV1]
    have := Box.new (W.alloc (.cells #[.string nm, .slice (some ⟨b, o, none⟩) L c, .nilFunc] CT)) 25 (.int .i64 0) (.int .i64 0) (.float .f64 0) (.string ⟨#[]⟩) (.slice none 0 0)
    simpa using this)
  have HC0 : Hid (Tri V1 W.heap.size (.string nm) (.slice (some ⟨b, o, none⟩) L c) .nilFunc) := hidb (by rw [← hV1]; exact (Tri.new W _ _ _ _).keep (below_new _ _))
  have HBW : Hid (Below W.heap.size W V1) := hidb (by rw [← hV1]; exact (below_new W _).alloc (by simp) _)
  have HV1 := hidb hV1
  obtain ⟨PP, hPP⟩ : ∃ PP : Ending → World → Prop, Tld P E w.heap.size W = PP := ⟨_, rfl⟩
  have HPP := hidb hPP
  rw [hPP]
  clear hV1 hPP
  clear hin hP hE hW hl
  by_cases hD : isBol (.mk k n f s a' c' ks) = true
  · rw [hD] at IB
    have HP2 := hidb (HP.out hD)
    clear hD HP HE
    obtain ⟨D, hDD⟩ : ∃ D, decide (s = falseS) = D := ⟨_, rfl⟩
    rw [hDD] at HP2
    go_enter Tryz.func46, Tryz.ntmps46
    go_wp2_with fail
    rw [HV1.out]
    refine (IB.out _).mono ?_
    rintro e w2 ⟨rfl, hb2⟩
    have HB2 := hidb (HBW.out.trans (hb2.mono HBW.out.size))
    have HX2 := hidb (HX0.out.keep hb2)
    have HC2 := hidb (HC0.out.keep hb2)
    have t0 := HC2.out.c0; have t1 := HC2.out.c1; have t2 := HC2.out.c2
    have u3 := (HB2.out.cell (p := ⟨b, o + 3, none⟩) hbW).trans v3
    clear hb2 v0 v1 v2 v3 v4
    by_cases hs : s = falseS
    · subst hs
      obtain rfl : D = true := by rw [← hDD]; simp
      clear hDD
      go_wp2_with (go_at_call 98; refine (must_ok _ _).mono ?_; rintro r w1 ⟨rfl, rfl⟩)
      refine (boolean_any true _).mono ?_
      rintro e w3 ⟨rfl, hb3⟩
      have HB3 := hidb (HB2.out.trans (hb3.mono HB2.out.size))
      have HX3 := hidb (HX2.out.keep hb3)
      clear hb3
      obtain ⟨⟨x0, x1, x2, x3, x4⟩, ⟨y0, y1, y2, y3, y4⟩, xl⟩ := Box.six HX3.out
      obtain ⟨S, hS⟩ : ∃ S, (bolT true).val = .agg #[.int .i64 3, .int .i64 0, .float .f64 0, .string S, .slice none 0 0] := ⟨_, rfl⟩
      rw [hS]
      have HS := hidb hS
      clear hS
      go_wp2_with fail
      have bx9 := HX3.out.set (.int .i64 3) (.int .i64 0) (.float .f64 0) (.string S) (.slice none 0 0)
      obtain ⟨⟨k0, k1', k2, k3, k4⟩, -, -⟩ := Box.six bx9
      simp only [set5] at k0 k1' k2 k3 k4
      refine bodyPost_ret (v := (bolT true).val) (by rw [HS.out]; simp [results, Tryz.results46, go_sem, k0, k1', k2, k3, k4]) rfl ?_
      rw [← HPP.out]
      exact tld_bool HP2.out (((((HB3.out.setCell (by simp) _).setCell (by simp) _).setCell (by simp) _).setCell (by simp) _).setCell (by simp) _)
    · obtain ⟨g1, g2⟩ := lit_ne (t := falseS) rfl hs
      obtain rfl : D = false := by rw [← hDD]; simpa using hs
      clear hDD hs
      go_wp2_with (go_at_call 98; refine (must_ok _ _).mono ?_; rintro r w1 ⟨rfl, rfl⟩)
      refine (boolean_any false _).mono ?_
      rintro e w3 ⟨rfl, hb3⟩
      have HB3 := hidb (HB2.out.trans (hb3.mono HB2.out.size))
      have HX3 := hidb (HX2.out.keep hb3)
      clear hb3
      obtain ⟨⟨x0, x1, x2, x3, x4⟩, ⟨y0, y1, y2, y3, y4⟩, xl⟩ := Box.six HX3.out
      obtain ⟨S, hS⟩ : ∃ S, (bolT false).val = .agg #[.int .i64 3, .int .i64 0, .float .f64 0, .string S, .slice none 0 0] := ⟨_, rfl⟩
      rw [hS]
      have HS := hidb hS
      clear hS
      go_wp2_with fail
      have bx9 := HX3.out.set (.int .i64 3) (.int .i64 0) (.float .f64 0) (.string S) (.slice none 0 0)
      obtain ⟨⟨k0, k1', k2, k3, k4⟩, -, -⟩ := Box.six bx9
      simp only [set5] at k0 k1' k2 k3 k4
      refine bodyPost_ret (v := (bolT false).val) (by rw [HS.out]; simp [results, Tryz.results46, go_sem, k0, k1', k2, k3, k4]) rfl ?_
      rw [← HPP.out]
      exact tld_bool HP2.out (((((HB3.out.setCell (by simp) _).setCell (by simp) _).setCell (by simp) _).setCell (by simp) _).setCell (by simp) _)
  · have hD' : isBol (.mk k n f s a' c' ks) = false := by simpa using hD
    rw [hD'] at IB
    have HE2 := hidb (HE.out hD')
    clear hD hD' HP HE
    go_enter Tryz.func46, Tryz.ntmps46
    go_wp2_with fail
    rw [HV1.out]
    refine (IB.out _).mono ?_
    rintro e w2 ⟨rfl, hb2⟩
    have HB2 := hidb (HBW.out.trans (hb2.mono HBW.out.size))
    clear hb2
    go_wp2_with (go_at_call 98; refine (must_no _ _).mono ?_; rintro r w1 ⟨rfl, hb1⟩; have HB1 := hidb hb1; clear hb1)
    refine ⟨rfl, ?_⟩
    rw [← HPP.out]
    exact ⟨HB2.out.trans (HB1.out.mono HB2.out.size), .inr ⟨_, rfl, HE2.out⟩⟩
end Go.Proofs.YtajadhkpadkikaaGreatDoor


/- A region that draws its order, where a condition on memory holds until its last operation, which waits for all others. -/
namespace Go.Proofs.YtajadhkpadkikaaGreatDoor

section
variable {P : Program} {ops : Array Oper} {md : Region.Mode} {Q : Exit → Act → World → Prop} {S : World → Prop} {D : List Nat}

/-- Whatever order is picked from here on, and S holds behind every operation that is carried out and is not one of D. -/
def wpAnyD (P : Program) (md : Region.Mode) (ops : Array Oper) (Q : Exit → Act → World → Prop) (S : World → Prop) (D : List Nat) : Nat → Array Bool → Act → World → Prop
  | 0, listed, a, w => Region.ready md ops listed = [] ∧ Q .normal a w
  | fuel + 1, listed, a, w =>
    (Region.ready md ops listed = [] → Q .normal a w) ∧
    ∀ i ∈ Region.ready md ops listed, wpOp P ops Q i (fun a' w' => (i ∉ D → S w') ∧ wpAnyD P md ops Q S D fuel (listed.setIfInBounds i true) a' w') a w

theorem wpAny_of_D : ∀ (fuel : Nat) (listed : Array Bool) (a : Act) (w : World), wpAnyD P md ops Q S D fuel listed a w → wpAny P md ops Q fuel listed a w
  | 0, _, _, _, h => h
  | fuel + 1, _, _, _, h => ⟨h.1, fun i hi => wpOp_mono (fun a' w' h' => wpAny_of_D fuel _ a' w' h'.2) (h.2 i hi)⟩

/-- Does operation d wait for i? -/
def waitsB (md : Region.Mode) (ops : Array Oper) (i d : Nat) : Bool := ((ops[d]?).map fun o => o.after.any fun e => Region.binds md e && e.on == i).getD false

theorem waitsB_ready {i d : Nat} {listed : Array Bool} (h : waitsB md ops i d = true) (hr : d ∈ Region.ready md ops listed) : listed.getD i false = true := by
  obtain ⟨_, o, ho, hall⟩ := mem_ready.1 hr
  unfold waitsB at h
  rw [ho] at h
  simp only [Option.map_some, Option.getD_some] at h
  obtain ⟨e, he, hb⟩ := Array.any_eq_true'.1 h
  simp only [Bool.and_eq_true, beq_iff_eq] at hb
  have := hall e he hb.1
  rwa [hb.2] at this

theorem wpAnyD_first {i : Nat} {oi : Oper} {v : Value} (hi : ops[i]? = some oi) (hsel : ∀ (j : Nat) (o : Oper) cs b, ops[j]? = some o → o.op ≠ .select cs b)
    (hQ : ∀ c a w, Q (.panic c) (a.put oi.dst v) w → Q (.panic c) a w) (hD : ∀ d, d ∈ D → waitsB md ops i d = true) :
    ∀ (fuel : Nat) (listed : Array Bool) (a : Act) (w : World),
      (∀ j oj, ops[j]? = some oj → j ≠ i → listed.getD j true = false → (∀ e ∈ oj.after, Region.binds md e = true → e.on ≠ i) → oi.apart ops oj = true) →
      i ∈ Region.ready md ops listed → YieldsIf P ops S oi v a → S w →
      wpAnyD P md ops Q S D fuel (listed.setIfInBounds i true) (a.put oi.dst v) w → wpAnyD P md ops Q S D (fuel + 1) listed a w := by
  intro fuel
  induction fuel with
  | zero =>
    intro listed a w _ hr hy hS H
    refine ⟨fun h => (by rw [h] at hr; cases hr), fun j hj => ?_⟩
    by_cases hji : j = i
    · subst hji; exact hy.wpOp hi hS ⟨fun _ => hS, H⟩
    · have := ready_mono hj hji
      rw [H.1] at this
      cases this
  | succ fuel ih =>
    intro listed a w hfree hr hy hS H
    refine ⟨fun h => (by rw [h] at hr; cases hr), fun j hj => ?_⟩
    by_cases hji : j = i
    · subst hji; exact hy.wpOp hi hS ⟨fun _ => hS, H⟩
    · have h1 := H.2 j (ready_mono hj hji)
      obtain ⟨hjun, oj, hoj, hall⟩ := mem_ready.1 hj
      have hun : ∀ (x : Bool), listed.getD i x = false := fun x => by
        have h0 := (mem_ready.1 hr).1
        rcases Nat.lt_or_ge i listed.size with h' | h'
        · simp [h'] at h0 ⊢; exact h0
        · simp [Array.getElem?_eq_none h'] at h0
      have hjD : j ∉ D := fun hd => by
        have := waitsB_ready (hD j hd) hj
        rw [hun] at this
        cases this
      have hnot : ∀ e ∈ oj.after, Region.binds md e = true → e.on ≠ i := fun e he hb heq => by
        have h1 := hall e he hb
        rw [heq, hun] at h1
        cases h1
      have h2 := wpOp_putIf hoj (hfree j oj hoj hji hjun hnot) (fun cs b => hsel i oi cs b hi) (fun cs b => hsel j oj cs b hoj) hQ hy h1
      have hfree' : ∀ k ok, ops[k]? = some ok → k ≠ i → (listed.setIfInBounds j true).getD k true = false →
          (∀ e ∈ ok.after, Region.binds md e = true → e.on ≠ i) → oi.apart ops ok = true := fun k ok hk hki hun hno => by
        refine hfree k ok hk hki ?_ hno
        by_cases hjk : j = k
        · subst hjk; exact hjun
        · rw [getD_set_ne true hjk] at hun; exact hun
      refine wpOp_mono (fun a' w' h3 => ⟨h3.2.1, ih (listed.setIfInBounds j true) a' w' hfree' (ready_mono hr (Ne.symm hji)) h3.1 (h3.2.1 hjD) ?_⟩) h2
      rw [Array.setIfInBounds_comm _ _ hji]
      exact h3.2.2

/-- Operation i is taken first: it yields v wherever S holds. -/
theorem wpAnyD_take {i : Nat} {oi : Oper} {v : Value} {fuel : Nat} {listed : Array Bool} {a : Act} {w : World} (hi : ops[i]? = some oi)
    (hs : Region.noSelect ops = true) (hf : Region.free md ops listed i = true) (hr : (Region.ready md ops listed).contains i = true) (hD : D.all (waitsB md ops i) = true)
    (hQ : ∀ c a w, Q (.panic c) (a.put oi.dst v) w → Q (.panic c) a w) (hS : S w) (hy : YieldsIf P ops S oi v a)
    (h : wpAnyD P md ops Q S D fuel (listed.setIfInBounds i true) (a.put oi.dst v) w) : wpAnyD P md ops Q S D (fuel + 1) listed a w :=
  wpAnyD_first hi (Region.noSelect_spec hs) hQ (fun d hd => List.all_eq_true.1 hD d hd) fuel listed a w (Region.free_spec hi hf) (by simpa using hr) hy hS h

/-- Operation i alone may come up. -/
theorem wpAnyD_step {i : Nat} {oi : Oper} {fuel : Nat} {listed : Array Bool} {a : Act} {w : World} (hr : Region.ready md ops listed = [i]) (hi : ops[i]? = some oi)
    (h : if Region.wanted oi (yielded ops a.tmps) = true then Oper.wp P oi a w (fun a' w' => (i ∉ D → S w') ∧ wpAnyD P md ops Q S D fuel (listed.setIfInBounds i true) a' w') Q else (i ∉ D → S w) ∧ wpAnyD P md ops Q S D fuel (listed.setIfInBounds i true) (a.put oi.dst undef) w) : wpAnyD P md ops Q S D (fuel + 1) listed a w := by
  refine ⟨fun h0 => (by rw [hr] at h0; cases h0), fun j hj => ?_⟩
  rw [hr] at hj
  obtain rfl : j = i := by simpa using hj
  unfold wpOp
  simp only [hi]
  split
  · rename_i hw; rw [if_pos hw] at h; exact .inl h
  · rename_i hw; rw [if_neg hw] at h; exact h

theorem wpAnyD_done {listed : Array Bool} {a : Act} {w : World} (hr : Region.ready md ops listed = []) (h : Q .normal a w) :
    ∀ fuel, wpAnyD P md ops Q S D fuel listed a w
  | 0 => ⟨hr, h⟩
  | _ + 1 => ⟨fun _ => h, by rw [hr]; simp⟩

/-- The same, over a list. -/
theorem wpAnyD_takeL {l : List Oper} {i : Nat} {oi : Oper} {v : Value} {fuel : Nat} {listed : Array Bool} {a : Act} {w : World} (hi : l[i]? = some oi)
    (hs : Region.noSelect l.toArray = true) (hf : Region.free md l.toArray listed i = true) (hr : (Region.ready md l.toArray listed).contains i = true) (hD : D.all (waitsB md l.toArray i) = true)
    (hQ : ∀ c a w, Q (.panic c) (a.put oi.dst v) w → Q (.panic c) a w) (hS : S w) (hg : oi.guard = none) (hy : ∀ w, S w → (execOp a.eval oi).run P w = .ok (.value v) w)
    (h : wpAnyD P md l.toArray Q S D fuel (listed.setIfInBounds i true) (a.put oi.dst v) w) : wpAnyD P md l.toArray Q S D (fuel + 1) listed a w :=
  wpAnyD_take (by simpa using hi) hs hf hr hD hQ hS (.inl ⟨by simp [Region.wanted, hg], hy⟩) h
theorem wpAnyD_stepL {l : List Oper} {i : Nat} {oi : Oper} {fuel : Nat} {listed : Array Bool} {a : Act} {w : World} (hr : Region.ready md l.toArray listed = [i]) (hi : l[i]? = some oi)
    (h : ∀ K : Act → World → Prop, (∀ a' w', (i ∉ D → S w') → wpAnyD P md l.toArray Q S D fuel (listed.setIfInBounds i true) a' w' → K a' w') → if Region.wanted oi (yielded l.toArray a.tmps) = true then Oper.wp P oi a w K Q else K (a.put oi.dst undef) w) : wpAnyD P md l.toArray Q S D (fuel + 1) listed a w := by
  refine wpAnyD_step hr (by simpa using hi) ?_
  have := h (fun a' w' => (i ∉ D → S w') ∧ wpAnyD P md l.toArray Q S D fuel (listed.setIfInBounds i true) a' w') (fun a' w' h1 h2 => ⟨h1, h2⟩)
  exact this

theorem wp_region_D {id : Nat} {a : Act} {w : World} (S : World → Prop) (D : List Nat) (hm : P.follows .mixedOrders = true)
    (h : wpAnyD P .any ops Q S D ops.size (Array.replicate ops.size false) a w.drew) : (Code.region id ops true).wp P Q a w :=
  wp_region_any hm (wpAny_of_D _ _ _ _ h)
end
end Go.Proofs.YtajadhkpadkikaaGreatDoor


