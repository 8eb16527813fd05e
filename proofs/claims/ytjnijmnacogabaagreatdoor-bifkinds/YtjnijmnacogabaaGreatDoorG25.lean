import Derived.Test.YtjnijmnacogabaaGreatDoorG24
/- isBoolean, not. -/
namespace Go.Proofs.YtjnijmnacogabaaGreatDoor
open Go.RowKit Go.Lib Go.Deep
attribute [local go_sem] store_float f64bits store_func store_nilFunc
attribute [local go_sem ↓] Go.wp_at_zero Go.wp_at_succ

/-- Is a term a boolean? -/
def isBol : Tr → Bool | .mk k _ _ s _ _ _ => decide (k = 3) && (decide (s = trueS) || decide (s = falseS))
theorem lit_ne {s t : ByteArray} {l : List UInt8} (ht : t.data.toList = l) (h : s ≠ t) : (s.toList == l) = false ∧ ¬ s.toList = l := by
  have : ¬ s.toList = l := fun e => h (btl_inj (by rw [e, ByteArray.toList_eq]; exact ht.symm))
  exact ⟨by simpa using this, this⟩

set_option maxHeartbeats 4000000 in
set_option maxRecDepth 100000 in
theorem isBool_any (t : Tr) (w : World) : Calls Tryz.prog 87 #[t.val] w fun e w' => e = .returned (.bool (isBol t)) ∧ Below w.heap.size w w' := by
  obtain ⟨k, n, f, s, a, c, ks⟩ := t
  simp only [Tr.val, Tr.cells]
  by_cases hk : k = 3
  · subst hk
    by_cases h1 : s = trueS
    · subst h1
      have hv : isBol (.mk 3 n f trueS a c ks) = true := by simp [isBol]
      rw [hv]
      go_enter Tryz.func87, Tryz.ntmps87
      go_wp2_with fail
      go_ret
      exact ⟨rfl, below_new _ _⟩
    · by_cases h2 : s = falseS
      · subst h2
        have hv : isBol (.mk 3 n f falseS a c ks) = true := by simp [isBol]
        rw [hv]
        go_enter Tryz.func87, Tryz.ntmps87
        go_wp2_with fail
        go_ret
        exact ⟨rfl, below_new _ _⟩
      · have hv : isBol (.mk 3 n f s a c ks) = false := by simp [isBol, h1, h2]
        rw [hv]
        obtain ⟨g1, g2⟩ := lit_ne (t := trueS) rfl h1
        obtain ⟨g3, g4⟩ := lit_ne (t := falseS) rfl h2
        clear h1 h2 hv
        go_enter Tryz.func87, Tryz.ntmps87
        go_wp2_with fail
        go_ret
        exact ⟨rfl, below_new _ _⟩
  · have hv : isBol (.mk k n f s a c ks) = false := by simp [isBol, hk]
    rw [hv]
    have hk' : (k == 3) = false := by simpa using hk
    clear hk hv
    go_enter Tryz.func87, Tryz.ntmps87
    go_wp2_with fail
    go_ret
    exact ⟨rfl, below_new _ _⟩
end Go.Proofs.YtjnijmnacogabaaGreatDoor


/- is_boolean, not. -/
namespace Go.Proofs.YtjnijmnacogabaaGreatDoor
open Go.RowKit Go.Lib Go.Deep
attribute [local go_sem] store_float f64bits store_func store_nilFunc
attribute [local go_sem ↓] Go.wp_at_zero Go.wp_at_succ

/-- The first argument's cells. -/
theorem arg0 {w W : World} {a : Option Addr} {c : Nat} {t : Tr} {rest : List Tr} (hin : ArgsIn w a c (t :: rest)) (hW : Below w.heap.size w W) : ∃ b o k n f s a' c' ks, a = some ⟨b, o, none⟩ ∧ t = .mk k n f s a' c' ks ∧ b < w.heap.size ∧ W.cell? ⟨b, o, none⟩ = some (.int .i64 k) ∧ W.cell? ⟨b, o + 1, none⟩ = some (.int .i64 n) ∧ W.cell? ⟨b, o + 2, none⟩ = some (.float .f64 f) ∧ W.cell? ⟨b, o + 3, none⟩ = some (.string s) ∧ W.cell? ⟨b, o + 4, none⟩ = some (.slice a' ks.length c') := by
  obtain ⟨b, o, rfl, hat⟩ := kid_at hin (by simp)
  obtain ⟨k1, n1, f1, s1, a1, c1, ks1, hu1, hin3, v0, v1, v2, v3, v4⟩ := hat 0 (by simp)
  have hl : b < w.heap.size := World.block_lt_of_cell? _ _ v0
  refine ⟨b, o, k1, n1, f1, s1, a1, c1, ks1, rfl, by simpa using hu1, hl, ?_, ?_, ?_, ?_, ?_⟩
  · exact (hW.cell (p := ⟨b, o, none⟩) hl).trans (by simpa using v0)
  · exact (hW.cell (p := ⟨b, o + 1, none⟩) hl).trans (by simpa using v1)
  · exact (hW.cell (p := ⟨b, o + 2, none⟩) hl).trans (by simpa using v2)
  · exact (hW.cell (p := ⟨b, o + 3, none⟩) hl).trans (by simpa using v3)
  · exact (hW.cell (p := ⟨b, o + 4, none⟩) hl).trans (by simpa using v4)

set_option maxHeartbeats 8000000 in
set_option maxRecDepth 100000 in
theorem isBoolean_tc {w : World} {a : Option Addr} {c : Nat} {t : Tr} {rest : List Tr} {nm : ByteArray} {P : Tr → Prop} {E : Int → Prop} (hin : ArgsIn w a c (t :: rest)) (hP : P (bolT (isBol t))) :
    TC 43 P E (.agg #[.string nm, .slice a (t :: rest).length c, noneF]) w := by
  refine ⟨fun args w => by kernel_rfl, fun W hW => ?_⟩
  have HP := hidb hP
  have hlen : (0 : Int) < ((t :: rest).length : Int) := by simp
  obtain ⟨b, o, k, n, f, s, a', c', ks, rfl, rfl, hl, v0, v1, v2, v3, v4⟩ := arg0 hin hW
  generalize (Tr.mk k n f s a' c' ks :: rest).length = L at *
  have IB := hidb (isBool_any (.mk k n f s a' c' ks))
  simp only [Tr.val, Tr.cells] at IB
  generalize isBol (.mk k n f s a' c' ks) = D at *
  have hbW : b < W.heap.size := Nat.lt_of_lt_of_le hl hW.size
  obtain ⟨V1, hV1⟩ : ∃ V1, ((W.alloc (.cells #[.string nm, .slice (some ⟨b, o, none⟩) L c, noneF] CT)).alloc (.cells #[.int .i64 0, .int .i64 0, .float .f64 0, .string ⟨#[]⟩, .slice none 0 0] 29)) = V1 := ⟨_, rfl⟩
  have HX0 : Hid (Box V1 (W.heap.size + 1) (.int .i64 0) (.int .i64 0) (.float .f64 0) (.string ⟨#[]⟩) (.slice none 0 0)) := hidb (by
    rw [← hV1]
    have := Box.new (W.alloc (.cells #[.string nm, .slice (some ⟨b, o, none⟩) L c, noneF] CT)) 29 (.int .i64 0) (.int .i64 0) (.float .f64 0) (.string ⟨#[]⟩) (.slice none 0 0)
    simpa using this)
  have HC0 : Hid (Tri V1 W.heap.size (.string nm) (.slice (some ⟨b, o, none⟩) L c) noneF) := hidb (by rw [← hV1]; exact (Tri.new W _ _ _ _).keep (below_new _ _))
  have HBW : Hid (Below W.heap.size W V1) := hidb (by rw [← hV1]; exact (below_new W _).alloc (by simp) _)
  have HV1 := hidb hV1
  obtain ⟨PP, hPP⟩ : ∃ PP : Ending → World → Prop, Tld P E w.heap.size W = PP := ⟨_, rfl⟩
  have HPP := hidb hPP
  rw [hPP]
  clear hV1 hPP
  clear hin hP hW hl
  go_enter Tryz.func43, Tryz.ntmps43
  go_wp2_with fail
  rw [HV1.out]
  refine (IB.out _).mono ?_
  rintro e w2 ⟨rfl, hb2⟩
  have HB2 := hidb (HBW.out.trans (hb2.mono HBW.out.size))
  have HX2 := hidb (HX0.out.keep hb2)
  clear hb2
  go_wp2_with fail
  refine (boolean_any D _).mono ?_
  rintro e w3 ⟨rfl, hb3⟩
  have HB3 := hidb (HB2.out.trans (hb3.mono HB2.out.size))
  have HX3 := hidb (HX2.out.keep hb3)
  clear hb3
  obtain ⟨⟨x0, x1, x2, x3, x4⟩, ⟨y0, y1, y2, y3, y4⟩, xl⟩ := Box.six HX3.out
  obtain ⟨S, hS⟩ : ∃ S, (bolT D).val = .agg #[.int .i64 3, .int .i64 0, .float .f64 0, .string S, .slice none 0 0] := ⟨_, rfl⟩
  rw [hS]
  have HS := hidb hS
  clear hS
  go_wp2_with fail
  have bx9 := HX3.out.set (.int .i64 3) (.int .i64 0) (.float .f64 0) (.string S) (.slice none 0 0)
  obtain ⟨⟨k0, k1', k2, k3, k4⟩, -, -⟩ := Box.six bx9
  simp only [set5] at k0 k1' k2 k3 k4
  refine bodyPost_ret (v := (bolT D).val) (by rw [HS.out]; simp [results, Tryz.results43, go_sem, k0, k1', k2, k3, k4]) rfl ?_
  rw [← HPP.out]
  exact tld_bool HP.out (((((HB3.out.setCell (by simp) _).setCell (by simp) _).setCell (by simp) _).setCell (by simp) _).setCell (by simp) _)

set_option maxHeartbeats 8000000 in
set_option maxRecDepth 100000 in
theorem opposite_tc {w : World} {a : Option Addr} {c : Nat} {k n : Int} {f : Nat} {s : ByteArray} {a' : Option Addr} {c' : Nat} {ks rest : List Tr} {nm : ByteArray} {P : Tr → Prop} {E : Int → Prop} (hin : ArgsIn w a c (Tr.mk k n f s a' c' ks :: rest)) (hP : isBol (.mk k n f s a' c' ks) = true → P (bolT (decide (s = falseS)))) (hE : isBol (.mk k n f s a' c' ks) = false → E 13) :
    TC 74 P E (.agg #[.string nm, .slice a (Tr.mk k n f s a' c' ks :: rest).length c, .nilFunc]) w := by
  refine ⟨fun args w => by kernel_rfl, fun W hW => ?_⟩
  have HP := hidb hP
  have HE := hidb hE
  have hlen : (0 : Int) < ((Tr.mk k n f s a' c' ks :: rest).length : Int) := by simp
  obtain ⟨b, o, k, n, f, s, a', c', ks, rfl, e, hl, v0, v1, v2, v3, v4⟩ := arg0 hin hW
  injection e with e1 e2 e3 e4 e5 e6 e7
  subst e1 e2 e3 e4 e5 e6 e7
  generalize (Tr.mk _ _ _ _ _ _ _ :: rest).length = L at *
  have IB := hidb (isBool_any (.mk k n f s a' c' ks))
  simp only [Tr.val, Tr.cells] at IB
  have hbW : b < W.heap.size := Nat.lt_of_lt_of_le hl hW.size
  obtain ⟨V1, hV1⟩ : ∃ V1, ((W.alloc (.cells #[.string nm, .slice (some ⟨b, o, none⟩) L c, .nilFunc] CT)).alloc (.cells #[.int .i64 0, .int .i64 0, .float .f64 0, .string ⟨#[]⟩, .slice none 0 0] 29)) = V1 := ⟨_, rfl⟩
  have HX0 : Hid (Box V1 (W.heap.size + 1) (.int .i64 0) (.int .i64 0) (.float .f64 0) (.string ⟨#[]⟩) (.slice none 0 0)) := hidb (by
    rw [← hV1]
    have := Box.new (W.alloc (.cells #[.string nm, .slice (some ⟨b, o, none⟩) L c, .nilFunc] CT)) 29 (.int .i64 0) (.int .i64 0) (.float .f64 0) (.string ⟨#[]⟩) (.slice none 0 0)
    simpa using this)
  have HC0 : Hid (Tri V1 W.heap.size (.string nm) (.slice (some ⟨b, o, none⟩) L c) .nilFunc) := hidb (by rw [← hV1]; exact (Tri.new W _ _ _ _).keep (below_new _ _))
  have HBW : Hid (Below W.heap.size W V1) := hidb (by rw [← hV1]; exact (below_new W _).alloc (by simp) _)
  have HV1 := hidb hV1
  obtain ⟨PP, hPP⟩ : ∃ PP : Ending → World → Prop, Tld P E w.heap.size W = PP := ⟨_, rfl⟩
  have HPP := hidb hPP
  rw [hPP]
  clear hV1 hPP
  clear hin hP hE hW hl
  by_cases hD : isBol (.mk k n f s a' c' ks) = true
  · rw [hD] at IB
    have HP2 := hidb (HP.out hD)
    clear hD HP HE
    obtain ⟨D, hDD⟩ : ∃ D, decide (s = falseS) = D := ⟨_, rfl⟩
    rw [hDD] at HP2
    go_enter Tryz.func74, Tryz.ntmps74
    go_wp2_with fail
    rw [HV1.out]
    refine (IB.out _).mono ?_
    rintro e w2 ⟨rfl, hb2⟩
    have HB2 := hidb (HBW.out.trans (hb2.mono HBW.out.size))
    have HX2 := hidb (HX0.out.keep hb2)
    have HC2 := hidb (HC0.out.keep hb2)
    have t0 := HC2.out.c0; have t1 := HC2.out.c1; have t2 := HC2.out.c2
    have u3 := (HB2.out.cell (p := ⟨b, o + 3, none⟩) hbW).trans v3
    clear hb2 v0 v1 v2 v3 v4
    by_cases hs : s = falseS
    · subst hs
      obtain rfl : D = true := by rw [← hDD]; simp
      clear hDD
      go_wp2_with (go_at_call 76; refine (must_ok _ _).mono ?_; rintro r w1 ⟨rfl, rfl⟩)
      refine (boolean_any true _).mono ?_
      rintro e w3 ⟨rfl, hb3⟩
      have HB3 := hidb (HB2.out.trans (hb3.mono HB2.out.size))
      have HX3 := hidb (HX2.out.keep hb3)
      clear hb3
      obtain ⟨⟨x0, x1, x2, x3, x4⟩, ⟨y0, y1, y2, y3, y4⟩, xl⟩ := Box.six HX3.out
      obtain ⟨S, hS⟩ : ∃ S, (bolT true).val = .agg #[.int .i64 3, .int .i64 0, .float .f64 0, .string S, .slice none 0 0] := ⟨_, rfl⟩
      rw [hS]
      have HS := hidb hS
      clear hS
      go_wp2_with fail
      have bx9 := HX3.out.set (.int .i64 3) (.int .i64 0) (.float .f64 0) (.string S) (.slice none 0 0)
      obtain ⟨⟨k0, k1', k2, k3, k4⟩, -, -⟩ := Box.six bx9
      simp only [set5] at k0 k1' k2 k3 k4
      refine bodyPost_ret (v := (bolT true).val) (by rw [HS.out]; simp [results, Tryz.results74, go_sem, k0, k1', k2, k3, k4]) rfl ?_
      rw [← HPP.out]
      exact tld_bool HP2.out (((((HB3.out.setCell (by simp) _).setCell (by simp) _).setCell (by simp) _).setCell (by simp) _).setCell (by simp) _)
    · obtain ⟨g1, g2⟩ := lit_ne (t := falseS) rfl hs
      obtain rfl : D = false := by rw [← hDD]; simpa using hs
      clear hDD hs
      go_wp2_with (go_at_call 76; refine (must_ok _ _).mono ?_; rintro r w1 ⟨rfl, rfl⟩)
      refine (boolean_any false _).mono ?_
      rintro e w3 ⟨rfl, hb3⟩
      have HB3 := hidb (HB2.out.trans (hb3.mono HB2.out.size))
      have HX3 := hidb (HX2.out.keep hb3)
      clear hb3
      obtain ⟨⟨x0, x1, x2, x3, x4⟩, ⟨y0, y1, y2, y3, y4⟩, xl⟩ := Box.six HX3.out
      obtain ⟨S, hS⟩ : ∃ S, (bolT false).val = .agg #[.int .i64 3, .int .i64 0, .float .f64 0, .string S, .slice none 0 0] := ⟨_, rfl⟩
      rw [hS]
      have HS := hidb hS
      clear hS
      go_wp2_with fail
      have bx9 := HX3.out.set (.int .i64 3) (.int .i64 0) (.float .f64 0) (.string S) (.slice none 0 0)
      obtain ⟨⟨k0, k1', k2, k3, k4⟩, -, -⟩ := Box.six bx9
      simp only [set5] at k0 k1' k2 k3 k4
      refine bodyPost_ret (v := (bolT false).val) (by rw [HS.out]; simp [results, Tryz.results74, go_sem, k0, k1', k2, k3, k4]) rfl ?_
      rw [← HPP.out]
      exact tld_bool HP2.out (((((HB3.out.setCell (by simp) _).setCell (by simp) _).setCell (by simp) _).setCell (by simp) _).setCell (by simp) _)
  · have hD' : isBol (.mk k n f s a' c' ks) = false := by simpa using hD
    rw [hD'] at IB
    have HE2 := hidb (HE.out hD')
    clear hD hD' HP HE
    go_enter Tryz.func74, Tryz.ntmps74
    go_wp2_with fail
    rw [HV1.out]
    refine (IB.out _).mono ?_
    rintro e w2 ⟨rfl, hb2⟩
    have HB2 := hidb (HBW.out.trans (hb2.mono HBW.out.size))
    clear hb2
    go_wp2_with (go_at_call 76; refine (must_no _ _).mono ?_; rintro r w1 ⟨rfl, hb1⟩; have HB1 := hidb hb1; clear hb1)
    refine ⟨rfl, ?_⟩
    rw [← HPP.out]
    exact ⟨HB2.out.trans (HB1.out.mono HB2.out.size), .inr ⟨_, rfl, HE2.out⟩⟩
end Go.Proofs.YtjnijmnacogabaaGreatDoor


