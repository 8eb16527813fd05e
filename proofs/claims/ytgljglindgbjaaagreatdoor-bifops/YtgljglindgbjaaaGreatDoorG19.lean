import Derived.Test.YtgljglindgbjaaaGreatDoorG18
import Derived.Test.YtgljglindgbjaaaGreatDoorG13
/- isBoolean, not. -/
namespace Go.Proofs.YtgljglindgbjaaaGreatDoor
open Go.RowKit Go.Lib Go.Deep
attribute [local go_sem] store_float f64bits store_func store_nilFunc
attribute [local go_sem ↓] Go.wp_at_zero Go.wp_at_succ

/-- Is a term a boolean? -/
def isBol : Tr → Bool | .mk k _ _ s _ _ _ => decide (k = 3) && (decide (s = trueS) || decide (s = falseS))
theorem lit_ne {s t : ByteArray} {l : List UInt8} (ht : t.data.toList = l) (h : s ≠ t) : (s.toList == l) = false ∧ ¬ s.toList = l := by
  have : ¬ s.toList = l := fun e => h (btl_inj (by rw [e, ByteArray.toList_eq]; exact ht.symm))
  exact ⟨by simpa using this, this⟩

set_option maxHeartbeats 4000000 in
set_option maxRecDepth 100000 in
theorem isBool_any (t : Tr) (w : World) : Calls Tryz.prog 107 #[t.val] w fun e w' => e = .returned (.bool (isBol t)) ∧ Below w.heap.size w w' := by
  obtain ⟨k, n, f, s, a, c, ks⟩ := t
  simp only [Tr.val, Tr.cells]
  by_cases hk : k = 3
  · subst hk
    by_cases h1 : s = trueS
    · subst h1
      have hv : isBol (.mk 3 n f trueS a c ks) = true := by simp [isBol]
      rw [hv]
      go_enter Tryz.func107, Tryz.ntmps107
      go_wp2_with fail
      go_ret
      exact ⟨rfl, below_new _ _⟩
    · by_cases h2 : s = falseS
      · subst h2
        have hv : isBol (.mk 3 n f falseS a c ks) = true := by simp [isBol]
        rw [hv]
        go_enter Tryz.func107, Tryz.ntmps107
        go_wp2_with fail
        go_ret
        exact ⟨rfl, below_new _ _⟩
      · have hv : isBol (.mk 3 n f s a c ks) = false := by simp [isBol, h1, h2]
        rw [hv]
        obtain ⟨g1, g2⟩ := lit_ne (t := trueS) rfl h1
        obtain ⟨g3, g4⟩ := lit_ne (t := falseS) rfl h2
        clear h1 h2 hv
        go_enter Tryz.func107, Tryz.ntmps107
        go_wp2_with fail
        go_ret
        exact ⟨rfl, below_new _ _⟩
  · have hv : isBol (.mk k n f s a c ks) = false := by simp [isBol, hk]
    rw [hv]
    have hk' : (k == 3) = false := by simpa using hk
    clear hk hv
    go_enter Tryz.func107, Tryz.ntmps107
    go_wp2_with fail
    go_ret
    exact ⟨rfl, below_new _ _⟩
end Go.Proofs.YtgljglindgbjaaaGreatDoor


/- is_boolean, not. -/
namespace Go.Proofs.YtgljglindgbjaaaGreatDoor
open Go.RowKit Go.Lib Go.Deep
attribute [local go_sem] store_float f64bits store_func store_nilFunc
attribute [local go_sem ↓] Go.wp_at_zero Go.wp_at_succ

/-- The first argument's cells. -/
theorem arg0 {w W : World} {a : Option Addr} {c : Nat} {t : Tr} {rest : List Tr} (hin : ArgsIn w a c (t :: rest)) (hW : Below w.heap.size w W) : ∃ b o k n f s a' c' ks, a = some ⟨b, o, none⟩ ∧ t = .mk k n f s a' c' ks ∧ b < w.heap.size ∧ W.cell? ⟨b, o, none⟩ = some (.int .i64 k) ∧ W.cell? ⟨b, o + 1, none⟩ = some (.int .i64 n) ∧ W.cell? ⟨b, o + 2, none⟩ = some (.float .f64 f) ∧ W.cell? ⟨b, o + 3, none⟩ = some (.string s) ∧ W.cell? ⟨b, o + 4, none⟩ = some (.slice a' ks.length c') := by
  obtain ⟨b, o, rfl, hat⟩ := kid_at hin (by simp)
  obtain ⟨k1, n1, f1, s1, a1, c1, ks1, hu1, hin3, v0, v1, v2, v3, v4⟩ := hat 0 (by simp)
  have hl : b < w.heap.size := World.block_lt_of_cell? _ _ v0
  refine ⟨b, o, k1, n1, f1, s1, a1, c1, ks1, rfl, by simpa using hu1, hl, ?_, ?_, ?_, ?_, ?_⟩
  · exact (hW.cell (p := ⟨b, o, none⟩) hl).trans (by simpa using v0)
  · exact (hW.cell (p := ⟨b, o + 1, none⟩) hl).trans (by simpa using v1)
  · exact (hW.cell (p := ⟨b, o + 2, none⟩) hl).trans (by simpa using v2)
  · exact (hW.cell (p := ⟨b, o + 3, none⟩) hl).trans (by simpa using v3)
  · exact (hW.cell (p := ⟨b, o + 4, none⟩) hl).trans (by simpa using v4)

set_option maxHeartbeats 8000000 in
set_option maxRecDepth 100000 in
theorem isBoolean_tc {w : World} {a : Option Addr} {c : Nat} {t : Tr} {rest : List Tr} {nm : ByteArray} {P : Tr → Prop} {E : Int → Prop} (hin : ArgsIn w a c (t :: rest)) (hP : P (bolT (isBol t))) :
    TC 73 P E (.agg #[.string nm, .slice a (t :: rest).length c, noneF]) w := by
  refine ⟨fun args w => by kernel_rfl, fun W hW => ?_⟩
  have HP := hidb hP
  have hlen : (0 : Int) < ((t :: rest).length : Int) := by simp
  obtain ⟨b, o, k, n, f, s, a', c', ks, rfl, rfl, hl, v0, v1, v2, v3, v4⟩ := arg0 hin hW
  generalize (Tr.mk k n f s a' c' ks :: rest).length = L at *
  have IB := hidb (isBool_any (.mk k n f s a' c' ks))
  simp only [Tr.val, Tr.cells] at IB
  generalize isBol (.mk k n f s a' c' ks) = D at *
  have hbW : b < W.heap.size := Nat.lt_of_lt_of_le hl hW.size
  obtain ⟨V1, hV1⟩ : ∃ V1, ((W.alloc (.cells #[.string nm, .slice (some ⟨b, o, none⟩) L c, noneF] CT)).alloc (.cells #[.int .i64 0, .int .i64 0, .float .f64 0, .string ⟨#[]⟩, .slice none 0 0] 27)) = V1 := ⟨_, rfl⟩
  have HX0 : Hid (Box V1 (W.heap.size + 1) (.int .i64 0) (.int .i64 0) (.float .f64 0) (.string ⟨#[]⟩) (.slice none 0 0)) := hidb (by
    rw [← hV1]
    have := Box.new (W.alloc (.cells #[.string nm, .slice (some ⟨b, o, none⟩) L c, noneF] CT)) 27 (.int .i64 0) (.int .i64 0) (.float .f64 0) (.string ⟨#[]⟩) (.slice none 0 0)
    simpa using this)
  have HC0 : Hid (Tri V1 W.heap.size (.string nm) (.slice (some ⟨b, o, none⟩) L c) noneF) := hidb (by rw [← hV1]; exact (Tri.new W _ _ _ _).keep (below_new _ _))
  have HBW : Hid (Below W.heap.size W V1) := hidb (by rw [← hV1]; exact (below_new W _).alloc (by simp) _)
  have HV1 := hidb hV1
  obtain ⟨PP, hPP⟩ : ∃ PP : Ending → World → Prop, Tld P E w.heap.size W = PP := ⟨_, rfl⟩
  have HPP := hidb hPP
  rw [hPP]
  clear hV1 hPP
  clear hin hP hW hl
  go_enter Tryz.func73, Tryz.ntmps73
  go_wp2_with fail
  rw [HV1.out]
  refine (IB.out _).mono ?_
  rintro e w2 ⟨rfl, hb2⟩
  have HB2 := hidb (HBW.out.trans (hb2.mono HBW.out.size))
  have HX2 := hidb (HX0.out.keep hb2)
  clear hb2
  go_wp2_with fail
  refine (boolean_any D _).mono ?_
  rintro e w3 ⟨rfl, hb3⟩
  have HB3 := hidb (HB2.out.trans (hb3.mono HB2.out.size))
  have HX3 := hidb (HX2.out.keep hb3)
  clear hb3
  obtain ⟨⟨x0, x1, x2, x3, x4⟩, ⟨y0, y1, y2, y3, y4⟩, xl⟩ := Box.six HX3.out
  obtain ⟨S, hS⟩ : ∃ S, (bolT D).val = .agg #[.int .i64 3, .int .i64 0, .float .f64 0, .string S, .slice none 0 0] := ⟨_, rfl⟩
  rw [hS]
  have HS := hidb hS
  clear hS
  go_wp2_with fail
  have bx9 := HX3.out.set (.int .i64 3) (.int .i64 0) (.float .f64 0) (.string S) (.slice none 0 0)
  obtain ⟨⟨k0, k1', k2, k3, k4⟩, -, -⟩ := Box.six bx9
  simp only [set5] at k0 k1' k2 k3 k4
  refine bodyPost_ret (v := (bolT D).val) (by rw [HS.out]; simp [results, Tryz.results73, go_sem, k0, k1', k2, k3, k4]) rfl ?_
  rw [← HPP.out]
  exact tld_bool HP.out (((((HB3.out.setCell (by simp) _).setCell (by simp) _).setCell (by simp) _).setCell (by simp) _).setCell (by simp) _)

set_option maxHeartbeats 8000000 in
set_option maxRecDepth 100000 in
theorem opposite_tc {w : World} {a : Option Addr} {c : Nat} {k n : Int} {f : Nat} {s : ByteArray} {a' : Option Addr} {c' : Nat} {ks rest : List Tr} {nm : ByteArray} {P : Tr → Prop} {E : Int → Prop} (hin : ArgsIn w a c (Tr.mk k n f s a' c' ks :: rest)) (hP : isBol (.mk k n f s a' c' ks) = true → P (bolT (decide (s = falseS)))) (hE : isBol (.mk k n f s a' c' ks) = false → E 13) :
    TC 41 P E (.agg #[.string nm, .slice a (Tr.mk k n f s a' c' ks :: rest).length c, .nilFunc]) w := by
  refine ⟨fun args w => by kernel_rfl, fun W hW => ?_⟩
  have HP := hidb hP
  have HE := hidb hE
  have hlen : (0 : Int) < ((Tr.mk k n f s a' c' ks :: rest).length : Int) := by simp
  obtain ⟨b, o, k, n, f, s, a', c', ks, rfl, e, hl, v0, v1, v2, v3, v4⟩ := arg0 hin hW
  injection e with e1 e2 e3 e4 e5 e6 e7
  subst e1 e2 e3 e4 e5 e6 e7
  generalize (Tr.mk _ _ _ _ _ _ _ :: rest).length = L at *
  have IB := hidb (isBool_any (.mk k n f s a' c' ks))
  simp only [Tr.val, Tr.cells] at IB
  have hbW : b < W.heap.size := Nat.lt_of_lt_of_le hl hW.size
  obtain ⟨V1, hV1⟩ : ∃ V1, ((W.alloc (.cells #[.string nm, .slice (some ⟨b, o, none⟩) L c, .nilFunc] CT)).alloc (.cells #[.int .i64 0, .int .i64 0, .float .f64 0, .string ⟨#[]⟩, .slice none 0 0] 27)) = V1 := ⟨_, rfl⟩
  have HX0 : Hid (Box V1 (W.heap.size + 1) (.int .i64 0) (.int .i64 0) (.float .f64 0) (.string ⟨#[]⟩) (.slice none 0 0)) := hidb (by
    rw [← hV1]
    have := Box.new (W.alloc (.cells #[.string nm, .slice (some ⟨b, o, none⟩) L c, .nilFunc] CT)) 27 (.int .i64 0) (.int .i64 0) (.float .f64 0) (.string ⟨#[]⟩) (.slice none 0 0)
    simpa using this)
  have HC0 : Hid (Tri V1 W.heap.size (.string nm) (.slice (some ⟨b, o, none⟩) L c) .nilFunc) := hidb (by rw [← hV1]; exact (Tri.new W _ _ _ _).keep (below_new _ _))
  have HBW : Hid (Below W.heap.size W V1) := hidb (by rw [← hV1]; exact (below_new W _).alloc (by simp) _)
  have HV1 := hidb hV1
  obtain ⟨PP, hPP⟩ : ∃ PP : Ending → World → Prop, Tld P E w.heap.size W = PP := ⟨_, rfl⟩
  have HPP := hidb hPP
  rw [hPP]
  clear hV1 hPP
  clear hin hP hE hW hl
  by_cases hD : isBol (.mk k n f s a' c' ks) = true
  · rw [hD] at IB
    have HP2 := hidb (HP.out hD)
    clear hD HP HE
    obtain ⟨D, hDD⟩ : ∃ D, decide (s = falseS) = D := ⟨_, rfl⟩
    rw [hDD] at HP2
    go_enter Tryz.func41, Tryz.ntmps41
    go_wp2_with fail
    rw [HV1.out]
    refine (IB.out _).mono ?_
    rintro e w2 ⟨rfl, hb2⟩
    have HB2 := hidb (HBW.out.trans (hb2.mono HBW.out.size))
    have HX2 := hidb (HX0.out.keep hb2)
    have HC2 := hidb (HC0.out.keep hb2)
    have t0 := HC2.out.c0; have t1 := HC2.out.c1; have t2 := HC2.out.c2
    have u3 := (HB2.out.cell (p := ⟨b, o + 3, none⟩) hbW).trans v3
    clear hb2 v0 v1 v2 v3 v4
    by_cases hs : s = falseS
    · subst hs
      obtain rfl : D = true := by rw [← hDD]; simp
      clear hDD
      go_wp2_with (go_at_call 106; refine (must_ok _ _).mono ?_; rintro r w1 ⟨rfl, rfl⟩)
      refine (boolean_any true _).mono ?_
      rintro e w3 ⟨rfl, hb3⟩
      have HB3 := hidb (HB2.out.trans (hb3.mono HB2.out.size))
      have HX3 := hidb (HX2.out.keep hb3)
      clear hb3
      obtain ⟨⟨x0, x1, x2, x3, x4⟩, ⟨y0, y1, y2, y3, y4⟩, xl⟩ := Box.six HX3.out
      obtain ⟨S, hS⟩ : ∃ S, (bolT true).val = .agg #[.int .i64 3, .int .i64 0, .float .f64 0, .string S, .slice none 0 0] := ⟨_, rfl⟩
      rw [hS]
      have HS := hidb hS
      clear hS
      go_wp2_with fail
      have bx9 := HX3.out.set (.int .i64 3) (.int .i64 0) (.float .f64 0) (.string S) (.slice none 0 0)
      obtain ⟨⟨k0, k1', k2, k3, k4⟩, -, -⟩ := Box.six bx9
      simp only [set5] at k0 k1' k2 k3 k4
      refine bodyPost_ret (v := (bolT true).val) (by rw [HS.out]; simp [results, Tryz.results41, go_sem, k0, k1', k2, k3, k4]) rfl ?_
      rw [← HPP.out]
      exact tld_bool HP2.out (((((HB3.out.setCell (by simp) _).setCell (by simp) _).setCell (by simp) _).setCell (by simp) _).setCell (by simp) _)
    · obtain ⟨g1, g2⟩ := lit_ne (t := falseS) rfl hs
      obtain rfl : D = false := by rw [← hDD]; simpa using hs
      clear hDD hs
      go_wp2_with (go_at_call 106; refine (must_ok _ _).mono ?_; rintro r w1 ⟨rfl, rfl⟩)
      refine (boolean_any false _).mono ?_
      rintro e w3 ⟨rfl, hb3⟩
      have HB3 := hidb (HB2.out.trans (hb3.mono HB2.out.size))
      have HX3 := hidb (HX2.out.keep hb3)
      clear hb3
      obtain ⟨⟨x0, x1, x2, x3, x4⟩, ⟨y0, y1, y2, y3, y4⟩, xl⟩ := Box.six HX3.out
      obtain ⟨S, hS⟩ : ∃ S, (bolT false).val = .agg #[.int .i64 3, .int .i64 0, .float .f64 0, .string S, .slice none 0 0] := ⟨_, rfl⟩
      rw [hS]
      have HS := hidb hS
      clear hS
      go_wp2_with fail
      have bx9 := HX3.out.set (.int .i64 3) (.int .i64 0) (.float .f64 0) (.string S) (.slice none 0 0)
      obtain ⟨⟨k0, k1', k2, k3, k4⟩, -, -⟩ := Box.six bx9
      simp only [set5] at k0 k1' k2 k3 k4
      refine bodyPost_ret (v := (bolT false).val) (by rw [HS.out]; simp [results, Tryz.results41, go_sem, k0, k1', k2, k3, k4]) rfl ?_
      rw [← HPP.out]
      exact tld_bool HP2.out (((((HB3.out.setCell (by simp) _).setCell (by simp) _).setCell (by simp) _).setCell (by simp) _).setCell (by simp) _)
  · have hD' : isBol (.mk k n f s a' c' ks) = false := by simpa using hD
    rw [hD'] at IB
    have HE2 := hidb (HE.out hD')
    clear hD hD' HP HE
    go_enter Tryz.func41, Tryz.ntmps41
    go_wp2_with fail
    rw [HV1.out]
    refine (IB.out _).mono ?_
    rintro e w2 ⟨rfl, hb2⟩
    have HB2 := hidb (HBW.out.trans (hb2.mono HBW.out.size))
    clear hb2
    go_wp2_with (go_at_call 106; refine (must_no _ _).mono ?_; rintro r w1 ⟨rfl, hb1⟩; have HB1 := hidb hb1; clear hb1)
    refine ⟨rfl, ?_⟩
    rw [← HPP.out]
    exact ⟨HB2.out.trans (HB1.out.mono HB2.out.size), .inr ⟨_, rfl, HE2.out⟩⟩
end Go.Proofs.YtgljglindgbjaaaGreatDoor


/- Elements of arguments; ==, =:=, element. -/
namespace Go.Proofs.YtgljglindgbjaaaGreatDoor
open Go.RowKit Go.Lib Go.Deep
attribute [local go_sem] store_float f64bits store_func store_nilFunc
attribute [local go_sem ↓] Go.wp_at_zero Go.wp_at_succ

theorem step_callB {f : Nat} {vs : Array Value} {ops : Array Oper} {o : Oper} {a : Act} {w : World} {K : Act → World → Prop} {Q : Exit → Act → World → Prop} {E : Prop} (hw : Region.wanted o (yielded ops a.tmps) = true) (hrun : (execOp a.eval o).run Tryz.prog w = .ok (.enter f vs) w)
    {Post : Ending → World → Prop} (hc : Calls Tryz.prog f vs w Post) (h : ∀ e w', Post e w' → match e with | .returned v => K (a.put o.dst v) w' | .panicked c => Q (.panic c) a w' | .outgrown => LetsOut Q) :
    if Region.wanted o (yielded ops a.tmps) = true then Oper.wp Tryz.prog o a w K Q else E := by
  rw [if_pos hw]
  unfold Oper.wp
  rw [hrun, Oper.upon_enter]
  refine hc.mono fun e w'' hh => ?_
  have := h e w'' hh
  cases e <;> exact this
theorem ent_same : Ent 101 := by
  intro args w
  kernel_rfl
theorem ent_Cmp : Ent 148 := by
  intro args w
  kernel_rfl
theorem ent_boolean : Ent 99 := by
  intro args w
  kernel_rfl
/-- An argument's cells. -/
theorem argi {w W : World} {a : Option Addr} {c : Nat} {kids : List Tr} (hin : ArgsIn w a c kids) (hW : Below w.heap.size w W) {i : Nat} {k n : Int} {f : Nat} {s : ByteArray} {a' : Option Addr} {c' : Nat} {ks : List Tr} (hi : kids[i]? = some (.mk k n f s a' c' ks)) :
    ∃ b o, a = some ⟨b, o, none⟩ ∧ b < W.heap.size ∧ W.cell? ⟨b, o + i * 5, none⟩ = some (.int .i64 k) ∧ W.cell? ⟨b, o + i * 5 + 1, none⟩ = some (.int .i64 n) ∧ W.cell? ⟨b, o + i * 5 + 2, none⟩ = some (.float .f64 f) ∧ W.cell? ⟨b, o + i * 5 + 3, none⟩ = some (.string s) ∧ W.cell? ⟨b, o + i * 5 + 4, none⟩ = some (.slice a' ks.length c') ∧ (Tr.mk k n f s a' c' ks).In W 0 := by
  have hl := (List.getElem?_eq_some_iff.1 hi).1
  obtain ⟨b, o, rfl, hat⟩ := kid_at hin (by omega)
  obtain ⟨k1, n1, f1, s1, a1, c1, ks1, hu1, hin3, v0, v1, v2, v3, v4⟩ := hat i hl
  obtain ⟨rfl, rfl, rfl, rfl, rfl, rfl, rfl⟩ : k = k1 ∧ n = n1 ∧ f = f1 ∧ s = s1 ∧ a' = a1 ∧ c' = c1 ∧ ks = ks1 := by
    have := hi.symm.trans hu1
    injection this with h
    injection h with h1 h2 h3 h4 h5 h6 h7
    exact ⟨h1, h2, h3, h4, h5, h6, h7⟩
  have hlb : b < w.heap.size := World.block_lt_of_cell? _ _ v0
  exact ⟨b, o, rfl, Nat.lt_of_lt_of_le hlb hW.size, (hW.cell (p := ⟨b, o + i * 5, none⟩) hlb).trans v0, (hW.cell (p := ⟨b, o + i * 5 + 1, none⟩) hlb).trans v1, (hW.cell (p := ⟨b, o + i * 5 + 2, none⟩) hlb).trans v2, (hW.cell (p := ⟨b, o + i * 5 + 3, none⟩) hlb).trans v3, (hW.cell (p := ⟨b, o + i * 5 + 4, none⟩) hlb).trans v4, in_below hW hin3⟩

set_option maxHeartbeats 800000 in
set_option maxRecDepth 100000 in
theorem compareM {w : World} {a : Option Addr} {c : Nat} {t0 t1 : Tr} {nm : ByteArray} {r : Int} (hin : ArgsIn w a c [t0, t1]) (hC : ∀ W, Below w.heap.size w W → Calls Tryz.prog 148 #[t0.val, t1.val] W fun e w' => e = .returned (.tuple #[.int .i64 r, .int .i64 0]) ∧ Below W.heap.size W w') (AR : Value) (har : AR = .nilFunc ∨ AR = noneF) :
    Calls Tryz.prog 100 #[.agg #[.string nm, .slice a 2 c, AR]] w fun e w' => e = .returned (.int .i64 r) ∧ Below w.heap.size w w' := by
  obtain ⟨k, n, f, s, a', c', ks⟩ := t0
  obtain ⟨k1, n1, f1, s1, a1, c1, ks1⟩ := t1
  obtain ⟨b, o, rfl, hbW, v0, v1, v2, v3, v4, -⟩ := argi hin (Below.refl _ _) (i := 0) rfl
  obtain ⟨b2, o2, e, -, u0, u1, u2, u3, u4, -⟩ := argi hin (Below.refl _ _) (i := 1) rfl
  obtain ⟨rfl, rfl⟩ : b = b2 ∧ o = o2 := by simpa using e
  simp only [Nat.zero_mul, Nat.add_zero, Nat.one_mul] at v0 v1 v2 v3 v4 u0 u1 u2 u3 u4
  have HC := hidb hC
  simp only [Tr.val, Tr.cells] at HC
  generalize ks.length = l0 at *
  generalize ks1.length = l1 at *
  clear hin hC e
  rcases har with rfl | rfl
  · obtain ⟨V, hV⟩ : ∃ V, w.alloc (.cells #[.string nm, .slice (some ⟨b, o, none⟩) 2 c, .nilFunc] CT) = V := ⟨_, rfl⟩
    have HBV : Hid (Below w.heap.size w V) := hidb (by rw [← hV]; exact below_new _ _)
    have HTV : Hid (Tri V w.heap.size (.string nm) (.slice (some ⟨b, o, none⟩) 2 c) .nilFunc) := hidb (by rw [← hV]; exact Tri.new _ _ _ _ _)
    have HV := hidb hV
    clear hV
    have HS : Hid (∀ W, Below V.heap.size V W → W.cell? ⟨w.heap.size, 1, none⟩ = some (.slice (some ⟨b, o, none⟩) 2 c) ∧ W.cell? ⟨b, o, none⟩ = some (.int .i64 k) ∧ W.cell? ⟨b, o + 1, none⟩ = some (.int .i64 n) ∧ W.cell? ⟨b, o + 2, none⟩ = some (.float .f64 f) ∧ W.cell? ⟨b, o + 3, none⟩ = some (.string s) ∧ W.cell? ⟨b, o + 4, none⟩ = some (.slice a' l0 c') ∧ W.cell? ⟨b, o + 5, none⟩ = some (.int .i64 k1) ∧ W.cell? ⟨b, o + 5 + 1, none⟩ = some (.int .i64 n1) ∧ W.cell? ⟨b, o + 5 + 2, none⟩ = some (.float .f64 f1) ∧ W.cell? ⟨b, o + 5 + 3, none⟩ = some (.string s1) ∧ W.cell? ⟨b, o + 5 + 4, none⟩ = some (.slice a1 l1 c1)) := hidb (fun W hb => have q := HBV.out.trans (hb.mono HBV.out.size); ⟨(HTV.out.keep hb).c1, (q.cell (p := ⟨b, o, none⟩) hbW).trans v0, (q.cell (p := ⟨b, o + 1, none⟩) hbW).trans v1, (q.cell (p := ⟨b, o + 2, none⟩) hbW).trans v2, (q.cell (p := ⟨b, o + 3, none⟩) hbW).trans v3, (q.cell (p := ⟨b, o + 4, none⟩) hbW).trans v4, (q.cell (p := ⟨b, o + 5, none⟩) hbW).trans u0, (q.cell (p := ⟨b, o + 5 + 1, none⟩) hbW).trans u1, (q.cell (p := ⟨b, o + 5 + 2, none⟩) hbW).trans u2, (q.cell (p := ⟨b, o + 5 + 3, none⟩) hbW).trans u3, (q.cell (p := ⟨b, o + 5 + 4, none⟩) hbW).trans u4⟩)
    have HS0 := hidb (HS.out V.drew (Below.refl _ _).drew)
    have C1 := hidb (HC.out V.drew HBV.out.drew)
    clear v0 v1 v2 v3 v4 u0 u1 u2 u3 u4
    go_enter Tryz.func100, Tryz.ntmps100
    go_wp2_with fail
    rw [HV.out]
    refine wp_region_D (fun w' => w'.cell? ⟨w.heap.size, 1, none⟩ = some (.slice (some ⟨b, o, none⟩) 2 c) ∧ w'.cell? ⟨b, o, none⟩ = some (.int .i64 k) ∧ w'.cell? ⟨b, o + 1, none⟩ = some (.int .i64 n) ∧ w'.cell? ⟨b, o + 2, none⟩ = some (.float .f64 f) ∧ w'.cell? ⟨b, o + 3, none⟩ = some (.string s) ∧ w'.cell? ⟨b, o + 4, none⟩ = some (.slice a' l0 c') ∧ w'.cell? ⟨b, o + 5, none⟩ = some (.int .i64 k1) ∧ w'.cell? ⟨b, o + 5 + 1, none⟩ = some (.int .i64 n1) ∧ w'.cell? ⟨b, o + 5 + 2, none⟩ = some (.float .f64 f1) ∧ w'.cell? ⟨b, o + 5 + 3, none⟩ = some (.string s1) ∧ w'.cell? ⟨b, o + 5 + 4, none⟩ = some (.slice a1 l1 c1)) [] (by kernel_rfl) ?_
    refine wpAnyD_takeL (i := 0) (v := ?vv0x) rfl (by kernel_rfl) (by kernel_rfl) (by kernel_rfl) (by kernel_rfl) (fun _ _ _ h => h) HS0.out rfl ?hy0x ?_
    case hy0x => intro wy hSw; obtain ⟨z0, z1, z2, z3, z4, z5, z6, z7, z8, z9, z10⟩ := hSw; go_simp; try with_reducible rfl
    simp only [Act.put, List.setIfInBounds_toArray, List.set_cons_zero, List.set_cons_succ]
    refine wpAnyD_takeL (i := 1) (v := ?vv1x) rfl (by kernel_rfl) (by kernel_rfl) (by kernel_rfl) (by kernel_rfl) (fun _ _ _ h => h) HS0.out rfl ?hy1x ?_
    case hy1x => intro wy hSw; obtain ⟨z0, z1, z2, z3, z4, z5, z6, z7, z8, z9, z10⟩ := hSw; go_simp; try with_reducible rfl
    simp only [Act.put, List.setIfInBounds_toArray, List.set_cons_zero, List.set_cons_succ]
    refine wpAnyD_takeL (i := 2) (v := ?vv2x) rfl (by kernel_rfl) (by kernel_rfl) (by kernel_rfl) (by kernel_rfl) (fun _ _ _ h => h) HS0.out rfl ?hy2x ?_
    case hy2x => intro wy hSw; obtain ⟨z0, z1, z2, z3, z4, z5, z6, z7, z8, z9, z10⟩ := hSw; go_simp; try with_reducible rfl
    simp only [Act.put, List.setIfInBounds_toArray, List.set_cons_zero, List.set_cons_succ]
    refine wpAnyD_takeL (i := 3) (v := ?vv3x) rfl (by kernel_rfl) (by kernel_rfl) (by kernel_rfl) (by kernel_rfl) (fun _ _ _ h => h) HS0.out rfl ?hy3x ?_
    case hy3x => intro wy hSw; obtain ⟨z0, z1, z2, z3, z4, z5, z6, z7, z8, z9, z10⟩ := hSw; go_simp; try with_reducible rfl
    simp only [Act.put, List.setIfInBounds_toArray, List.set_cons_zero, List.set_cons_succ]
    refine wpAnyD_takeL (i := 4) (v := ?vv4x) rfl (by kernel_rfl) (by kernel_rfl) (by kernel_rfl) (by kernel_rfl) (fun _ _ _ h => h) HS0.out rfl ?hy4x ?_
    case hy4x => intro wy hSw; obtain ⟨z0, z1, z2, z3, z4, z5, z6, z7, z8, z9, z10⟩ := hSw; go_simp; try with_reducible rfl
    simp only [Act.put, List.setIfInBounds_toArray, List.set_cons_zero, List.set_cons_succ]
    refine wpAnyD_takeL (i := 5) (v := ?vv5x) rfl (by kernel_rfl) (by kernel_rfl) (by kernel_rfl) (by kernel_rfl) (fun _ _ _ h => h) HS0.out rfl ?hy5x ?_
    case hy5x => intro wy hSw; obtain ⟨z0, z1, z2, z3, z4, z5, z6, z7, z8, z9, z10⟩ := hSw; go_simp; try with_reducible rfl
    simp only [Act.put, List.setIfInBounds_toArray, List.set_cons_zero, List.set_cons_succ]
    refine wpAnyD_takeL (i := 6) (v := ?vv6x) rfl (by kernel_rfl) (by kernel_rfl) (by kernel_rfl) (by kernel_rfl) (fun _ _ _ h => h) HS0.out rfl ?hy6x ?_
    case hy6x => intro wy hSw; obtain ⟨z0, z1, z2, z3, z4, z5, z6, z7, z8, z9, z10⟩ := hSw; go_simp; try with_reducible rfl
    simp only [Act.put, List.setIfInBounds_toArray, List.set_cons_zero, List.set_cons_succ]
    refine wpAnyD_takeL (i := 7) (v := ?vv7x) rfl (by kernel_rfl) (by kernel_rfl) (by kernel_rfl) (by kernel_rfl) (fun _ _ _ h => h) HS0.out rfl ?hy7x ?_
    case hy7x => intro wy hSw; obtain ⟨z0, z1, z2, z3, z4, z5, z6, z7, z8, z9, z10⟩ := hSw; go_simp; try with_reducible rfl
    simp only [Act.put, List.setIfInBounds_toArray, List.set_cons_zero, List.set_cons_succ]
    refine wpAnyD_stepL (i := 8) (by kernel_rfl) rfl (fun K hK => ?_)
    refine step_callB (by simp [Region.wanted]) (run_call ent_Cmp #[.tmp 9, .tmp 13] _ rfl #[.agg #[.int .i64 k, .int .i64 n, .float .f64 f, .string s, .slice a' l0 c'], .agg #[.int .i64 k1, .int .i64 n1, .float .f64 f1, .string s1, .slice a1 l1 c1]] rfl) C1.out ?_
    rintro e w2 ⟨rfl, hb2⟩
    have HS2 := hidb (HS.out w2 (undrew hb2)); have HB2 := hidb (HBV.out.trans ((undrew hb2).mono HBV.out.size)); clear hb2
    refine hK _ _ (fun _ => HS2.out) ?_
    clear hK K HS0
    have HS0 := HS2
    simp only [Act.put, List.setIfInBounds_toArray, List.set_cons_zero, List.set_cons_succ]
    refine wpAnyD_takeL (i := 9) (v := ?vv9x) rfl (by kernel_rfl) (by kernel_rfl) (by kernel_rfl) (by kernel_rfl) (fun _ _ _ h => h) HS0.out rfl ?hy9x ?_
    case hy9x => intro wy hSw; obtain ⟨z0, z1, z2, z3, z4, z5, z6, z7, z8, z9, z10⟩ := hSw; go_simp; try with_reducible rfl
    simp only [Act.put, List.setIfInBounds_toArray, List.set_cons_zero, List.set_cons_succ]
    refine wpAnyD_takeL (i := 10) (v := ?vv10x) rfl (by kernel_rfl) (by kernel_rfl) (by kernel_rfl) (by kernel_rfl) (fun _ _ _ h => h) HS0.out rfl ?hy10x ?_
    case hy10x => intro wy hSw; obtain ⟨z0, z1, z2, z3, z4, z5, z6, z7, z8, z9, z10⟩ := hSw; go_simp; try with_reducible rfl
    simp only [Act.put, List.setIfInBounds_toArray, List.set_cons_zero, List.set_cons_succ]
    refine wpAnyD_takeL (i := 11) (v := ?vv11x) rfl (by kernel_rfl) (by kernel_rfl) (by kernel_rfl) (by kernel_rfl) (fun _ _ _ h => h) HS0.out rfl ?hy11x ?_
    case hy11x => intro wy hSw; obtain ⟨z0, z1, z2, z3, z4, z5, z6, z7, z8, z9, z10⟩ := hSw; go_simp; try with_reducible rfl
    simp only [Act.put, List.setIfInBounds_toArray, List.set_cons_zero, List.set_cons_succ]
    refine wpAnyD_takeL (i := 12) (v := ?vv12x) rfl (by kernel_rfl) (by kernel_rfl) (by kernel_rfl) (by kernel_rfl) (fun _ _ _ h => h) HS0.out rfl ?hy12x ?_
    case hy12x => intro wy hSw; obtain ⟨z0, z1, z2, z3, z4, z5, z6, z7, z8, z9, z10⟩ := hSw; go_simp; try with_reducible rfl
    simp only [Act.put, List.setIfInBounds_toArray, List.set_cons_zero, List.set_cons_succ]
    refine wpAnyD_takeL (i := 13) (v := ?vv13x) rfl (by kernel_rfl) (by kernel_rfl) (by kernel_rfl) (by kernel_rfl) (fun _ _ _ h => h) HS0.out rfl ?hy13x ?_
    case hy13x => intro wy hSw; obtain ⟨z0, z1, z2, z3, z4, z5, z6, z7, z8, z9, z10⟩ := hSw; go_simp; try with_reducible rfl
    simp only [Act.put, List.setIfInBounds_toArray, List.set_cons_zero, List.set_cons_succ]
    refine wpAnyD_done (by kernel_rfl) ?_ _
    go_wp2_with (go_at_call 94; refine (mustBe_ok _).mono ?_; rintro r w1 ⟨rfl, rfl⟩)
    go_ret
    exact ⟨rfl, HB2.out⟩
  · obtain ⟨V, hV⟩ : ∃ V, w.alloc (.cells #[.string nm, .slice (some ⟨b, o, none⟩) 2 c, noneF] CT) = V := ⟨_, rfl⟩
    have HBV : Hid (Below w.heap.size w V) := hidb (by rw [← hV]; exact below_new _ _)
    have HTV : Hid (Tri V w.heap.size (.string nm) (.slice (some ⟨b, o, none⟩) 2 c) noneF) := hidb (by rw [← hV]; exact Tri.new _ _ _ _ _)
    have HV := hidb hV
    clear hV
    have HS : Hid (∀ W, Below V.heap.size V W → W.cell? ⟨w.heap.size, 1, none⟩ = some (.slice (some ⟨b, o, none⟩) 2 c) ∧ W.cell? ⟨b, o, none⟩ = some (.int .i64 k) ∧ W.cell? ⟨b, o + 1, none⟩ = some (.int .i64 n) ∧ W.cell? ⟨b, o + 2, none⟩ = some (.float .f64 f) ∧ W.cell? ⟨b, o + 3, none⟩ = some (.string s) ∧ W.cell? ⟨b, o + 4, none⟩ = some (.slice a' l0 c') ∧ W.cell? ⟨b, o + 5, none⟩ = some (.int .i64 k1) ∧ W.cell? ⟨b, o + 5 + 1, none⟩ = some (.int .i64 n1) ∧ W.cell? ⟨b, o + 5 + 2, none⟩ = some (.float .f64 f1) ∧ W.cell? ⟨b, o + 5 + 3, none⟩ = some (.string s1) ∧ W.cell? ⟨b, o + 5 + 4, none⟩ = some (.slice a1 l1 c1)) := hidb (fun W hb => have q := HBV.out.trans (hb.mono HBV.out.size); ⟨(HTV.out.keep hb).c1, (q.cell (p := ⟨b, o, none⟩) hbW).trans v0, (q.cell (p := ⟨b, o + 1, none⟩) hbW).trans v1, (q.cell (p := ⟨b, o + 2, none⟩) hbW).trans v2, (q.cell (p := ⟨b, o + 3, none⟩) hbW).trans v3, (q.cell (p := ⟨b, o + 4, none⟩) hbW).trans v4, (q.cell (p := ⟨b, o + 5, none⟩) hbW).trans u0, (q.cell (p := ⟨b, o + 5 + 1, none⟩) hbW).trans u1, (q.cell (p := ⟨b, o + 5 + 2, none⟩) hbW).trans u2, (q.cell (p := ⟨b, o + 5 + 3, none⟩) hbW).trans u3, (q.cell (p := ⟨b, o + 5 + 4, none⟩) hbW).trans u4⟩)
    have HS0 := hidb (HS.out V.drew (Below.refl _ _).drew)
    have C1 := hidb (HC.out V.drew HBV.out.drew)
    clear v0 v1 v2 v3 v4 u0 u1 u2 u3 u4
    go_enter Tryz.func100, Tryz.ntmps100
    go_wp2_with fail
    rw [HV.out]
    refine wp_region_D (fun w' => w'.cell? ⟨w.heap.size, 1, none⟩ = some (.slice (some ⟨b, o, none⟩) 2 c) ∧ w'.cell? ⟨b, o, none⟩ = some (.int .i64 k) ∧ w'.cell? ⟨b, o + 1, none⟩ = some (.int .i64 n) ∧ w'.cell? ⟨b, o + 2, none⟩ = some (.float .f64 f) ∧ w'.cell? ⟨b, o + 3, none⟩ = some (.string s) ∧ w'.cell? ⟨b, o + 4, none⟩ = some (.slice a' l0 c') ∧ w'.cell? ⟨b, o + 5, none⟩ = some (.int .i64 k1) ∧ w'.cell? ⟨b, o + 5 + 1, none⟩ = some (.int .i64 n1) ∧ w'.cell? ⟨b, o + 5 + 2, none⟩ = some (.float .f64 f1) ∧ w'.cell? ⟨b, o + 5 + 3, none⟩ = some (.string s1) ∧ w'.cell? ⟨b, o + 5 + 4, none⟩ = some (.slice a1 l1 c1)) [] (by kernel_rfl) ?_
    refine wpAnyD_takeL (i := 0) (v := ?vv0x) rfl (by kernel_rfl) (by kernel_rfl) (by kernel_rfl) (by kernel_rfl) (fun _ _ _ h => h) HS0.out rfl ?hy0x ?_
    case hy0x => intro wy hSw; obtain ⟨z0, z1, z2, z3, z4, z5, z6, z7, z8, z9, z10⟩ := hSw; go_simp; try with_reducible rfl
    simp only [Act.put, List.setIfInBounds_toArray, List.set_cons_zero, List.set_cons_succ]
    refine wpAnyD_takeL (i := 1) (v := ?vv1x) rfl (by kernel_rfl) (by kernel_rfl) (by kernel_rfl) (by kernel_rfl) (fun _ _ _ h => h) HS0.out rfl ?hy1x ?_
    case hy1x => intro wy hSw; obtain ⟨z0, z1, z2, z3, z4, z5, z6, z7, z8, z9, z10⟩ := hSw; go_simp; try with_reducible rfl
    simp only [Act.put, List.setIfInBounds_toArray, List.set_cons_zero, List.set_cons_succ]
    refine wpAnyD_takeL (i := 2) (v := ?vv2x) rfl (by kernel_rfl) (by kernel_rfl) (by kernel_rfl) (by kernel_rfl) (fun _ _ _ h => h) HS0.out rfl ?hy2x ?_
    case hy2x => intro wy hSw; obtain ⟨z0, z1, z2, z3, z4, z5, z6, z7, z8, z9, z10⟩ := hSw; go_simp; try with_reducible rfl
    simp only [Act.put, List.setIfInBounds_toArray, List.set_cons_zero, List.set_cons_succ]
    refine wpAnyD_takeL (i := 3) (v := ?vv3x) rfl (by kernel_rfl) (by kernel_rfl) (by kernel_rfl) (by kernel_rfl) (fun _ _ _ h => h) HS0.out rfl ?hy3x ?_
    case hy3x => intro wy hSw; obtain ⟨z0, z1, z2, z3, z4, z5, z6, z7, z8, z9, z10⟩ := hSw; go_simp; try with_reducible rfl
    simp only [Act.put, List.setIfInBounds_toArray, List.set_cons_zero, List.set_cons_succ]
    refine wpAnyD_takeL (i := 4) (v := ?vv4x) rfl (by kernel_rfl) (by kernel_rfl) (by kernel_rfl) (by kernel_rfl) (fun _ _ _ h => h) HS0.out rfl ?hy4x ?_
    case hy4x => intro wy hSw; obtain ⟨z0, z1, z2, z3, z4, z5, z6, z7, z8, z9, z10⟩ := hSw; go_simp; try with_reducible rfl
    simp only [Act.put, List.setIfInBounds_toArray, List.set_cons_zero, List.set_cons_succ]
    refine wpAnyD_takeL (i := 5) (v := ?vv5x) rfl (by kernel_rfl) (by kernel_rfl) (by kernel_rfl) (by kernel_rfl) (fun _ _ _ h => h) HS0.out rfl ?hy5x ?_
    case hy5x => intro wy hSw; obtain ⟨z0, z1, z2, z3, z4, z5, z6, z7, z8, z9, z10⟩ := hSw; go_simp; try with_reducible rfl
    simp only [Act.put, List.setIfInBounds_toArray, List.set_cons_zero, List.set_cons_succ]
    refine wpAnyD_takeL (i := 6) (v := ?vv6x) rfl (by kernel_rfl) (by kernel_rfl) (by kernel_rfl) (by kernel_rfl) (fun _ _ _ h => h) HS0.out rfl ?hy6x ?_
    case hy6x => intro wy hSw; obtain ⟨z0, z1, z2, z3, z4, z5, z6, z7, z8, z9, z10⟩ := hSw; go_simp; try with_reducible rfl
    simp only [Act.put, List.setIfInBounds_toArray, List.set_cons_zero, List.set_cons_succ]
    refine wpAnyD_takeL (i := 7) (v := ?vv7x) rfl (by kernel_rfl) (by kernel_rfl) (by kernel_rfl) (by kernel_rfl) (fun _ _ _ h => h) HS0.out rfl ?hy7x ?_
    case hy7x => intro wy hSw; obtain ⟨z0, z1, z2, z3, z4, z5, z6, z7, z8, z9, z10⟩ := hSw; go_simp; try with_reducible rfl
    simp only [Act.put, List.setIfInBounds_toArray, List.set_cons_zero, List.set_cons_succ]
    refine wpAnyD_stepL (i := 8) (by kernel_rfl) rfl (fun K hK => ?_)
    refine step_callB (by simp [Region.wanted]) (run_call ent_Cmp #[.tmp 9, .tmp 13] _ rfl #[.agg #[.int .i64 k, .int .i64 n, .float .f64 f, .string s, .slice a' l0 c'], .agg #[.int .i64 k1, .int .i64 n1, .float .f64 f1, .string s1, .slice a1 l1 c1]] rfl) C1.out ?_
    rintro e w2 ⟨rfl, hb2⟩
    have HS2 := hidb (HS.out w2 (undrew hb2)); have HB2 := hidb (HBV.out.trans ((undrew hb2).mono HBV.out.size)); clear hb2
    refine hK _ _ (fun _ => HS2.out) ?_
    clear hK K HS0
    have HS0 := HS2
    simp only [Act.put, List.setIfInBounds_toArray, List.set_cons_zero, List.set_cons_succ]
    refine wpAnyD_takeL (i := 9) (v := ?vv9x) rfl (by kernel_rfl) (by kernel_rfl) (by kernel_rfl) (by kernel_rfl) (fun _ _ _ h => h) HS0.out rfl ?hy9x ?_
    case hy9x => intro wy hSw; obtain ⟨z0, z1, z2, z3, z4, z5, z6, z7, z8, z9, z10⟩ := hSw; go_simp; try with_reducible rfl
    simp only [Act.put, List.setIfInBounds_toArray, List.set_cons_zero, List.set_cons_succ]
    refine wpAnyD_takeL (i := 10) (v := ?vv10x) rfl (by kernel_rfl) (by kernel_rfl) (by kernel_rfl) (by kernel_rfl) (fun _ _ _ h => h) HS0.out rfl ?hy10x ?_
    case hy10x => intro wy hSw; obtain ⟨z0, z1, z2, z3, z4, z5, z6, z7, z8, z9, z10⟩ := hSw; go_simp; try with_reducible rfl
    simp only [Act.put, List.setIfInBounds_toArray, List.set_cons_zero, List.set_cons_succ]
    refine wpAnyD_takeL (i := 11) (v := ?vv11x) rfl (by kernel_rfl) (by kernel_rfl) (by kernel_rfl) (by kernel_rfl) (fun _ _ _ h => h) HS0.out rfl ?hy11x ?_
    case hy11x => intro wy hSw; obtain ⟨z0, z1, z2, z3, z4, z5, z6, z7, z8, z9, z10⟩ := hSw; go_simp; try with_reducible rfl
    simp only [Act.put, List.setIfInBounds_toArray, List.set_cons_zero, List.set_cons_succ]
    refine wpAnyD_takeL (i := 12) (v := ?vv12x) rfl (by kernel_rfl) (by kernel_rfl) (by kernel_rfl) (by kernel_rfl) (fun _ _ _ h => h) HS0.out rfl ?hy12x ?_
    case hy12x => intro wy hSw; obtain ⟨z0, z1, z2, z3, z4, z5, z6, z7, z8, z9, z10⟩ := hSw; go_simp; try with_reducible rfl
    simp only [Act.put, List.setIfInBounds_toArray, List.set_cons_zero, List.set_cons_succ]
    refine wpAnyD_takeL (i := 13) (v := ?vv13x) rfl (by kernel_rfl) (by kernel_rfl) (by kernel_rfl) (by kernel_rfl) (fun _ _ _ h => h) HS0.out rfl ?hy13x ?_
    case hy13x => intro wy hSw; obtain ⟨z0, z1, z2, z3, z4, z5, z6, z7, z8, z9, z10⟩ := hSw; go_simp; try with_reducible rfl
    simp only [Act.put, List.setIfInBounds_toArray, List.set_cons_zero, List.set_cons_succ]
    refine wpAnyD_done (by kernel_rfl) ?_ _
    go_wp2_with (go_at_call 94; refine (mustBe_ok _).mono ?_; rintro r w1 ⟨rfl, rfl⟩)
    go_ret
    exact ⟨rfl, HB2.out⟩
set_option maxHeartbeats 800000 in
set_option maxRecDepth 100000 in
theorem sameM {t0 t1 : Tr} {r : Bool} {w : World} (hC : ∀ W, Below w.heap.size w W → Calls Tryz.prog 149 #[t0.val, t1.val] W fun e w' => e = .returned (.tuple #[.bool r, .int .i64 0]) ∧ Below W.heap.size W w') :
    Calls Tryz.prog 101 #[t0.val, t1.val] w fun e w' => e = .returned (.bool r) ∧ Below w.heap.size w w' := by
  obtain ⟨k, n, f, s, a', c', ks⟩ := t0
  obtain ⟨k1, n1, f1, s1, a1, c1, ks1⟩ := t1
  have HC := hidb hC
  simp only [Tr.val, Tr.cells] at HC ⊢
  generalize ks.length = l0 at *
  generalize ks1.length = l1 at *
  clear hC
  go_enter Tryz.func101, Tryz.ntmps101
  go_wp2_with fail
  refine (HC.out _ ((below_new w _).alloc (by simp) _)).mono ?_
  rintro e w2 ⟨rfl, hb2⟩
  have HB2 := hidb (((below_new w _).alloc (by simp) _).trans (hb2.mono (by simp; omega)))
  clear hb2
  go_wp2_with (go_at_call 94; refine (mustBe_ok _).mono ?_; rintro r w1 ⟨rfl, rfl⟩)
  go_ret
  exact ⟨rfl, HB2.out⟩

set_option maxHeartbeats 800000 in
set_option maxRecDepth 100000 in
theorem equal_tc {w : World} {a : Option Addr} {c : Nat} {t0 t1 : Tr} {nm : ByteArray} {P : Tr → Prop} {E : Int → Prop} {r : Int} (hin : ArgsIn w a c [t0, t1]) (hC : ∀ W, Below w.heap.size w W → Calls Tryz.prog 148 #[t0.val, t1.val] W fun e w' => e = .returned (.tuple #[.int .i64 r, .int .i64 0]) ∧ Below W.heap.size W w') (hP : P (bolT (decide (r = 0)))) :
    TC 31 P E (.agg #[.string nm, .slice a 2 c, .nilFunc]) w := by
  refine ⟨fun args w => by kernel_rfl, fun W hW => ?_⟩
  have HP := hidb hP
  obtain ⟨k, n, f, s, a', c', ks⟩ := t0
  obtain ⟨k1, n1, f1, s1, a1, c1, ks1⟩ := t1
  obtain ⟨b, o, rfl, hbW, v0, v1, v2, v3, v4, -⟩ := argi hin hW (i := 0) rfl
  obtain ⟨b2, o2, e, -, u0, u1, u2, u3, u4, -⟩ := argi hin hW (i := 1) rfl
  obtain ⟨rfl, rfl⟩ : b = b2 ∧ o = o2 := by simpa using e
  simp only [Nat.zero_mul, Nat.add_zero, Nat.one_mul] at v0 v1 v2 v3 v4 u0 u1 u2 u3 u4
  have HC := hidb (fun W1 (hb : Below W.heap.size W W1) => hC W1 (hW.trans (hb.mono hW.size)))
  simp only [Tr.val, Tr.cells] at HC
  generalize ks.length = l0 at *
  generalize ks1.length = l1 at *
  have CM := hidb (fun W1 (hb : Below W.heap.size W W1) => compareM (nm := nm) (in_below (hW.trans (hb.mono hW.size)) hin) (fun W2 hb2 => hC W2 ((hW.trans (hb.mono hW.size)).trans (hb2.mono (hW.trans (hb.mono hW.size)).size))) .nilFunc (.inl rfl))
  obtain ⟨V1, hV1⟩ : ∃ V1, ((W.alloc (.cells #[.string nm, .slice (some ⟨b, o, none⟩) 2 c, .nilFunc] CT)).alloc (.cells #[.int .i64 0, .int .i64 0, .float .f64 0, .string ⟨#[]⟩, .slice none 0 0] 27)) = V1 := ⟨_, rfl⟩
  have HX0 : Hid (Box V1 (W.heap.size + 1) (.int .i64 0) (.int .i64 0) (.float .f64 0) (.string ⟨#[]⟩) (.slice none 0 0)) := hidb (by
    rw [← hV1]
    have := Box.new (W.alloc (.cells #[.string nm, .slice (some ⟨b, o, none⟩) 2 c, .nilFunc] CT)) 27 (.int .i64 0) (.int .i64 0) (.float .f64 0) (.string ⟨#[]⟩) (.slice none 0 0)
    simpa using this)
  have HC0 : Hid (Tri V1 W.heap.size (.string nm) (.slice (some ⟨b, o, none⟩) 2 c) .nilFunc) := hidb (by rw [← hV1]; exact (Tri.new W _ _ _ _).keep (below_new _ _))
  have HBW : Hid (Below W.heap.size W V1) := hidb (by rw [← hV1]; exact (below_new W _).alloc (by simp) _)
  have HV1 := hidb hV1
  obtain ⟨PP, hPP⟩ : ∃ PP : Ending → World → Prop, Tld P E w.heap.size W = PP := ⟨_, rfl⟩
  have HPP := hidb hPP
  rw [hPP]
  clear hV1 hPP
  clear hin hC hP hW
  go_enter Tryz.func31, Tryz.ntmps31
  go_wp2_with fail
  rw [HV1.out]
  refine (CM.out _ HBW.out).mono ?_
  rintro e w2 ⟨rfl, hb2⟩
  have HB2 := hidb (HBW.out.trans (hb2.mono HBW.out.size))
  have HX2 := hidb (HX0.out.keep hb2)
  clear hb2
  have BO := hidb (boolean_any (decide (r = 0)))
  obtain ⟨D, hDD⟩ : ∃ D, decide (r = 0) = D := ⟨_, rfl⟩
  have hD2 : (r == 0) = D := by rw [← hDD]; by_cases h : r = 0 <;> simp [h]
  rw [hDD] at HP BO
  clear hDD
  go_wp2_with fail
  refine (BO.out _).mono ?_
  rintro e w3 ⟨rfl, hb3⟩
  have HB3 := hidb (HB2.out.trans (hb3.mono HB2.out.size))
  have HX3 := hidb (HX2.out.keep hb3)
  clear hb3
  obtain ⟨⟨x0, x1, x2, x3, x4⟩, ⟨y0, y1, y2, y3, y4⟩, xl⟩ := Box.six HX3.out
  obtain ⟨S, hS⟩ : ∃ S, (bolT D).val = .agg #[.int .i64 3, .int .i64 0, .float .f64 0, .string S, .slice none 0 0] := ⟨_, rfl⟩
  rw [hS]
  have HS := hidb hS
  clear hS
  go_wp2_with fail
  have bx9 := HX3.out.set (.int .i64 3) (.int .i64 0) (.float .f64 0) (.string S) (.slice none 0 0)
  obtain ⟨⟨k0, k1', k2, k3, k4⟩, -, -⟩ := Box.six bx9
  simp only [set5] at k0 k1' k2 k3 k4
  refine bodyPost_ret (v := (bolT D).val) (by rw [HS.out]; simp [results, Tryz.results31, go_sem, k0, k1', k2, k3, k4]) rfl ?_
  rw [← HPP.out]
  exact tld_bool HP.out (((((HB3.out.setCell (by simp) _).setCell (by simp) _).setCell (by simp) _).setCell (by simp) _).setCell (by simp) _)

set_option maxHeartbeats 800000 in
set_option maxRecDepth 100000 in
theorem identical_tc {w : World} {a : Option Addr} {c : Nat} {t0 t1 : Tr} {nm : ByteArray} {P : Tr → Prop} {E : Int → Prop} {r : Bool} (hin : ArgsIn w a c [t0, t1]) (hC : ∀ W, Below w.heap.size w W → Calls Tryz.prog 149 #[t0.val, t1.val] W fun e w' => e = .returned (.tuple #[.bool r, .int .i64 0]) ∧ Below W.heap.size W w') (hP : P (bolT (r))) :
    TC 37 P E (.agg #[.string nm, .slice a 2 c, .nilFunc]) w := by
  refine ⟨fun args w => by kernel_rfl, fun W hW => ?_⟩
  have HP := hidb hP
  obtain ⟨k, n, f, s, a', c', ks⟩ := t0
  obtain ⟨k1, n1, f1, s1, a1, c1, ks1⟩ := t1
  obtain ⟨b, o, rfl, hbW, v0, v1, v2, v3, v4, -⟩ := argi hin hW (i := 0) rfl
  obtain ⟨b2, o2, e, -, u0, u1, u2, u3, u4, -⟩ := argi hin hW (i := 1) rfl
  obtain ⟨rfl, rfl⟩ : b = b2 ∧ o = o2 := by simpa using e
  simp only [Nat.zero_mul, Nat.add_zero, Nat.one_mul] at v0 v1 v2 v3 v4 u0 u1 u2 u3 u4
  have HC := hidb (fun W1 (hb : Below W.heap.size W W1) => hC W1 (hW.trans (hb.mono hW.size)))
  simp only [Tr.val, Tr.cells] at HC
  have SM := hidb (fun W1 (hb : Below W.heap.size W W1) => sameM (w := W1) (fun W2 hb2 => hC W2 ((hW.trans (hb.mono hW.size)).trans (hb2.mono (hW.trans (hb.mono hW.size)).size))))
  simp only [Tr.val, Tr.cells] at SM
  generalize ks.length = l0 at *
  generalize ks1.length = l1 at *
  obtain ⟨V1, hV1⟩ : ∃ V1, ((W.alloc (.cells #[.string nm, .slice (some ⟨b, o, none⟩) 2 c, .nilFunc] CT)).alloc (.cells #[.int .i64 0, .int .i64 0, .float .f64 0, .string ⟨#[]⟩, .slice none 0 0] 27)) = V1 := ⟨_, rfl⟩
  have HX0 : Hid (Box V1 (W.heap.size + 1) (.int .i64 0) (.int .i64 0) (.float .f64 0) (.string ⟨#[]⟩) (.slice none 0 0)) := hidb (by
    rw [← hV1]
    have := Box.new (W.alloc (.cells #[.string nm, .slice (some ⟨b, o, none⟩) 2 c, .nilFunc] CT)) 27 (.int .i64 0) (.int .i64 0) (.float .f64 0) (.string ⟨#[]⟩) (.slice none 0 0)
    simpa using this)
  have HC0 : Hid (Tri V1 W.heap.size (.string nm) (.slice (some ⟨b, o, none⟩) 2 c) .nilFunc) := hidb (by rw [← hV1]; exact (Tri.new W _ _ _ _).keep (below_new _ _))
  have HBW : Hid (Below W.heap.size W V1) := hidb (by rw [← hV1]; exact (below_new W _).alloc (by simp) _)
  have HV1 := hidb hV1
  obtain ⟨PP, hPP⟩ : ∃ PP : Ending → World → Prop, Tld P E w.heap.size W = PP := ⟨_, rfl⟩
  have HPP := hidb hPP
  rw [hPP]
  clear hV1 hPP
  clear hin hC hP hW
  have HS : Hid (∀ W9, Below V1.heap.size V1 W9 → W9.cell? ⟨W.heap.size, 1, none⟩ = some (.slice (some ⟨b, o, none⟩) 2 c) ∧ W9.cell? ⟨b, o, none⟩ = some (.int .i64 k) ∧ W9.cell? ⟨b, o + 1, none⟩ = some (.int .i64 n) ∧ W9.cell? ⟨b, o + 2, none⟩ = some (.float .f64 f) ∧ W9.cell? ⟨b, o + 3, none⟩ = some (.string s) ∧ W9.cell? ⟨b, o + 4, none⟩ = some (.slice a' l0 c') ∧ W9.cell? ⟨b, o + 5, none⟩ = some (.int .i64 k1) ∧ W9.cell? ⟨b, o + 5 + 1, none⟩ = some (.int .i64 n1) ∧ W9.cell? ⟨b, o + 5 + 2, none⟩ = some (.float .f64 f1) ∧ W9.cell? ⟨b, o + 5 + 3, none⟩ = some (.string s1) ∧ W9.cell? ⟨b, o + 5 + 4, none⟩ = some (.slice a1 l1 c1)) := hidb (fun W9 hb => have q := HBW.out.trans (hb.mono HBW.out.size); ⟨(HC0.out.keep hb).c1, (q.cell (p := ⟨b, o, none⟩) hbW).trans v0, (q.cell (p := ⟨b, o + 1, none⟩) hbW).trans v1, (q.cell (p := ⟨b, o + 2, none⟩) hbW).trans v2, (q.cell (p := ⟨b, o + 3, none⟩) hbW).trans v3, (q.cell (p := ⟨b, o + 4, none⟩) hbW).trans v4, (q.cell (p := ⟨b, o + 5, none⟩) hbW).trans u0, (q.cell (p := ⟨b, o + 5 + 1, none⟩) hbW).trans u1, (q.cell (p := ⟨b, o + 5 + 2, none⟩) hbW).trans u2, (q.cell (p := ⟨b, o + 5 + 3, none⟩) hbW).trans u3, (q.cell (p := ⟨b, o + 5 + 4, none⟩) hbW).trans u4⟩)
  clear v0 v1 v2 v3 v4 u0 u1 u2 u3 u4
  have HS0 := hidb (HS.out V1.drew (Below.refl _ _).drew)
  have C1 := hidb (SM.out V1.drew HBW.out.drew)
  go_enter Tryz.func37, Tryz.ntmps37
  go_wp2_with fail
  rw [HV1.out]
  refine wp_region_D (fun w' => w'.cell? ⟨W.heap.size, 1, none⟩ = some (.slice (some ⟨b, o, none⟩) 2 c) ∧ w'.cell? ⟨b, o, none⟩ = some (.int .i64 k) ∧ w'.cell? ⟨b, o + 1, none⟩ = some (.int .i64 n) ∧ w'.cell? ⟨b, o + 2, none⟩ = some (.float .f64 f) ∧ w'.cell? ⟨b, o + 3, none⟩ = some (.string s) ∧ w'.cell? ⟨b, o + 4, none⟩ = some (.slice a' l0 c') ∧ w'.cell? ⟨b, o + 5, none⟩ = some (.int .i64 k1) ∧ w'.cell? ⟨b, o + 5 + 1, none⟩ = some (.int .i64 n1) ∧ w'.cell? ⟨b, o + 5 + 2, none⟩ = some (.float .f64 f1) ∧ w'.cell? ⟨b, o + 5 + 3, none⟩ = some (.string s1) ∧ w'.cell? ⟨b, o + 5 + 4, none⟩ = some (.slice a1 l1 c1)) [10] (by kernel_rfl) ?_
  refine wpAnyD_takeL (i := 0) (v := ?vv0) rfl (by kernel_rfl) (by kernel_rfl) (by kernel_rfl) (by kernel_rfl) (fun _ _ _ h => h) HS0.out rfl ?hy0 ?_
  case hy0 => intro wy hSw; obtain ⟨z0, z1, z2, z3, z4, z5, z6, z7, z8, z9, z10⟩ := hSw; go_simp; try with_reducible rfl
  simp only [Act.put, List.setIfInBounds_toArray, List.set_cons_zero, List.set_cons_succ]
  refine wpAnyD_takeL (i := 1) (v := ?vv1) rfl (by kernel_rfl) (by kernel_rfl) (by kernel_rfl) (by kernel_rfl) (fun _ _ _ h => h) HS0.out rfl ?hy1 ?_
  case hy1 => intro wy hSw; obtain ⟨z0, z1, z2, z3, z4, z5, z6, z7, z8, z9, z10⟩ := hSw; go_simp; try with_reducible rfl
  simp only [Act.put, List.setIfInBounds_toArray, List.set_cons_zero, List.set_cons_succ]
  refine wpAnyD_takeL (i := 2) (v := ?vv2) rfl (by kernel_rfl) (by kernel_rfl) (by kernel_rfl) (by kernel_rfl) (fun _ _ _ h => h) HS0.out rfl ?hy2 ?_
  case hy2 => intro wy hSw; obtain ⟨z0, z1, z2, z3, z4, z5, z6, z7, z8, z9, z10⟩ := hSw; go_simp; try with_reducible rfl
  simp only [Act.put, List.setIfInBounds_toArray, List.set_cons_zero, List.set_cons_succ]
  refine wpAnyD_takeL (i := 3) (v := ?vv3) rfl (by kernel_rfl) (by kernel_rfl) (by kernel_rfl) (by kernel_rfl) (fun _ _ _ h => h) HS0.out rfl ?hy3 ?_
  case hy3 => intro wy hSw; obtain ⟨z0, z1, z2, z3, z4, z5, z6, z7, z8, z9, z10⟩ := hSw; go_simp; try with_reducible rfl
  simp only [Act.put, List.setIfInBounds_toArray, List.set_cons_zero, List.set_cons_succ]
  refine wpAnyD_takeL (i := 4) (v := ?vv4) rfl (by kernel_rfl) (by kernel_rfl) (by kernel_rfl) (by kernel_rfl) (fun _ _ _ h => h) HS0.out rfl ?hy4 ?_
  case hy4 => intro wy hSw; obtain ⟨z0, z1, z2, z3, z4, z5, z6, z7, z8, z9, z10⟩ := hSw; go_simp; try with_reducible rfl
  simp only [Act.put, List.setIfInBounds_toArray, List.set_cons_zero, List.set_cons_succ]
  refine wpAnyD_takeL (i := 5) (v := ?vv5) rfl (by kernel_rfl) (by kernel_rfl) (by kernel_rfl) (by kernel_rfl) (fun _ _ _ h => h) HS0.out rfl ?hy5 ?_
  case hy5 => intro wy hSw; obtain ⟨z0, z1, z2, z3, z4, z5, z6, z7, z8, z9, z10⟩ := hSw; go_simp; try with_reducible rfl
  simp only [Act.put, List.setIfInBounds_toArray, List.set_cons_zero, List.set_cons_succ]
  refine wpAnyD_takeL (i := 6) (v := ?vv6) rfl (by kernel_rfl) (by kernel_rfl) (by kernel_rfl) (by kernel_rfl) (fun _ _ _ h => h) HS0.out rfl ?hy6 ?_
  case hy6 => intro wy hSw; obtain ⟨z0, z1, z2, z3, z4, z5, z6, z7, z8, z9, z10⟩ := hSw; go_simp; try with_reducible rfl
  simp only [Act.put, List.setIfInBounds_toArray, List.set_cons_zero, List.set_cons_succ]
  refine wpAnyD_takeL (i := 7) (v := ?vv7) rfl (by kernel_rfl) (by kernel_rfl) (by kernel_rfl) (by kernel_rfl) (fun _ _ _ h => h) HS0.out rfl ?hy7 ?_
  case hy7 => intro wy hSw; obtain ⟨z0, z1, z2, z3, z4, z5, z6, z7, z8, z9, z10⟩ := hSw; go_simp; try with_reducible rfl
  simp only [Act.put, List.setIfInBounds_toArray, List.set_cons_zero, List.set_cons_succ]
  refine wpAnyD_stepL (i := 8) (by kernel_rfl) rfl (fun K hK => ?_)
  refine step_callB (by simp [Region.wanted]) (run_call ent_same #[.tmp 6, .tmp 10] _ rfl #[.agg #[.int .i64 k, .int .i64 n, .float .f64 f, .string s, .slice a' l0 c'], .agg #[.int .i64 k1, .int .i64 n1, .float .f64 f1, .string s1, .slice a1 l1 c1]] rfl) C1.out ?_
  rintro e w2 ⟨rfl, hb2⟩
  have HS2 := hidb (HS.out w2 (undrew hb2)); have HB2 := hidb (HBW.out.trans ((undrew hb2).mono HBW.out.size)); have HX2 := hidb (HX0.out.keep (undrew hb2)); have HV2 := hidb (undrew hb2); clear hb2
  refine hK _ _ (fun _ => HS2.out) ?_
  clear hK K
  simp only [Act.put, List.setIfInBounds_toArray, List.set_cons_zero, List.set_cons_succ]
  refine wpAnyD_stepL (i := 9) (by kernel_rfl) rfl (fun K hK => ?_)
  refine step_callB (by simp [Region.wanted]) (run_call ent_boolean #[.tmp 11] _ rfl #[.bool r] rfl) (boolean_any r w2) ?_
  rintro e w3 ⟨rfl, hb3⟩
  have HB3 := hidb (HB2.out.trans (hb3.mono HB2.out.size))
  have HX3 := hidb (HX2.out.keep hb3)
  have HS3 := hidb (HS.out w3 (HV2.out.trans (hb3.mono HV2.out.size)))
  clear hb3
  refine hK _ _ (fun _ => HS3.out) ?_
  clear hK K
  simp only [Act.put, List.setIfInBounds_toArray, List.set_cons_zero, List.set_cons_succ]
  obtain ⟨⟨x0, x1, x2, x3, x4⟩, ⟨y0, y1, y2, y3, y4⟩, xl⟩ := Box.six HX3.out
  obtain ⟨S, hS⟩ : ∃ S, (bolT r).val = .agg #[.int .i64 3, .int .i64 0, .float .f64 0, .string S, .slice none 0 0] := ⟨_, rfl⟩
  rw [hS]
  have HS := hidb hS
  clear hS
  refine wpAnyD_stepL (i := 10) (by kernel_rfl) rfl (fun K hK => ?_)
  go_simp
  refine hK _ _ (fun h => absurd (List.mem_singleton.2 rfl) h) ?_
  clear hK K
  refine wpAnyD_done (by kernel_rfl) ?_ _
  go_wp2_with fail
  have bx9 := HX3.out.set (.int .i64 3) (.int .i64 0) (.float .f64 0) (.string S) (.slice none 0 0)
  obtain ⟨⟨k0, k1', k2, k3, k4⟩, -, -⟩ := Box.six bx9
  simp only [set5] at k0 k1' k2 k3 k4
  refine bodyPost_ret (v := (bolT r).val) (by rw [HS.out]; simp [results, Tryz.results37, go_sem, k0, k1', k2, k3, k4]) rfl ?_
  rw [← HPP.out]
  exact tld_bool HP.out (((((HB3.out.setCell (by simp) _).setCell (by simp) _).setCell (by simp) _).setCell (by simp) _).setCell (by simp) _)
end Go.Proofs.YtgljglindgbjaaaGreatDoor


