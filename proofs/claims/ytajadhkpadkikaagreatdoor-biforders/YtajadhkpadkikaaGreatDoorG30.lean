import Derived.Test.YtajadhkpadkikaaGreatDoorG23
import Derived.Test.YtajadhkpadkikaaGreatDoorG29
/- term.Cmp and term.Same of any two right terms. -/
namespace Go.Proofs.YtajadhkpadkikaaGreatDoor
open Go.RowKit Go.Lib Go.Deep
attribute [local go_sem] store_float f64bits
attribute [local go_sem ↓] Go.wp_at_zero Go.wp_at_succ

theorem err_all {t : Tr} (h : errT t = 0) : allT goodT t = true := by
  unfold errT at h
  split at h
  · cases h
  · split at h
    · rename_i h2; exact h2
    · cases h
theorem cmpB_self : ∀ l : List UInt8, compareBytes l l = 0
  | [] => rfl
  | x :: r => by
    unfold compareBytes
    rw [if_neg (by simp), if_neg (by simp)]
    exact cmpB_self r
theorem idP_cmp : ∀ t t' : Tr, idP t t' = true → cmpT t t' = 0 := by
  refine Tr.ind fun k n f s a c ks hk => ?_
  rintro ⟨k', n', f', s', a', c', ks'⟩ h
  unfold idP at h
  simp only [Bool.and_eq_true, beq_iff_eq] at h
  obtain ⟨rfl, rfl, hs, hf, hl, hd⟩ := h
  obtain rfl : f = f' := by omega
  have hll : ks.length = ks'.length := by omega
  obtain rfl : s = s' := by
    rw [ByteArray.toList_eq, ByteArray.toList_eq] at hs
    exact ByteArray.ext (Array.toList_inj.1 hs)
  have hall : ∀ (l l' : List Tr), (∀ t, t ∈ l → t ∈ ks) → l.length = l'.length → idL l l' = true → cmpA l l' = 0 := by
    intro l
    induction l with
    | nil =>
      intro l' _ he _
      cases l' with
      | nil => simp only [cmpA]
      | cons => simp at he
    | cons t r ih =>
      intro l' hm he h
      cases l' with
      | nil => simp at he
      | cons t' r' =>
        unfold idL at h
        simp only [Bool.and_eq_true] at h
        unfold cmpA
        rw [hk t (hm t (by simp)) t' h.1, if_neg (by simp)]
        exact ih r' (fun u hu => hm u (by simp [hu])) (by simpa using he) h.2
  have hA := hall ks ks' (fun _ h => h) hll hd
  have hr : cmpI (rk k) (rk k) = 0 := cmpI_zero.2 rfl
  have hn : cmpI n n = 0 := cmpI_zero.2 rfl
  have hc : compare (valU k n f) (valU k n f) = .eq := by simp [compare, compareOfLessAndEq]
  unfold cmpT
  rw [hr, hn, hA, hll, cmpI_zero.2 rfl, cmpB_self, hc]
  simp [Flt.ordI]

theorem checkPair (t t' : Tr) (w : World) (ty : TypeId) (h1 : t.In w 0) (h2 : t'.In w 0) (s1 : Small t) (s2 : Small t') (e1 : errT t = 0) (e2 : errT t' = 0) :
    Calls Tryz.prog 23 #[.slice (some ⟨w.heap.size, 0, none⟩) 2 2] (w.alloc (.cells ([t, t'].flatMap Tr.cells).toArray ty)) fun e w' => e = .returned (.int .i64 0) ∧ Below w.heap.size w w' := by
  have hin := built_in w [t, t'] (fun u hu => by
    rcases List.mem_cons.1 hu with h | h
    · rw [h]; exact h1
    · rw [List.mem_singleton.1 h]; exact h2) ty (by simp)
  have hb := below_new w (.cells ([t, t'].flatMap Tr.cells).toArray ty)
  generalize w.alloc (.cells ([t, t'].flatMap Tr.cells).toArray ty) = V at *
  have h := checkAll_ok 0 0 0 ⟨#[]⟩ (some ⟨w.heap.size, 0, none⟩) 2 [t, t'] V hin (by unfold Small SmallAll SmallAll SmallAll; exact ⟨by simp, s1, s2, trivial⟩) (fun u hu => by
    rcases List.mem_cons.1 hu with h | h
    · rw [h]; exact e1
    · rw [List.mem_singleton.1 h]; exact e2)
  have e : [t, t'].length = 2 := rfl
  rw [e] at h
  refine h.mono ?_
  rintro e w1 ⟨rfl, hb1⟩
  exact ⟨rfl, hb.trans (hb1.mono hb.size)⟩

set_option maxHeartbeats 8000000 in
set_option maxRecDepth 100000 in
theorem Cmp_any (t t' : Tr) (w : World) (h1 : t.In w 0) (h2 : t'.In w 0) (s1 : Small t) (s2 : Small t') (e1 : errT t = 0) (e2 : errT t' = 0) : Calls Tryz.prog 11 #[t.val, t'.val] w fun e w' => e = .returned (.tuple #[.int .i64 (cmpT t t'), .int .i64 0]) ∧ Below w.heap.size w w' := by
  have CK := hidb (fun (W : World) (hW : Below w.heap.size w W) => checkPair t t' W 25 (in_below hW h1) (in_below hW h2) s1 s2 e1 e2)
  have CM := hidb (fun (W : World) (hW : Below w.heap.size w W) => compare_any t (err_all e1) t' (err_all e2) W (in_below hW h1) (in_below hW h2))
  obtain ⟨R, hR⟩ : ∃ R, cmpT t t' = R := ⟨_, rfl⟩
  rw [hR] at CM ⊢
  obtain ⟨k, n, f, s, a, c, ks⟩ := t
  obtain ⟨k', n', f', s', a', c', ks'⟩ := t'
  simp only [Tr.val, Tr.cells, List.flatMap_cons, List.flatMap_nil, List.append_nil, List.cons_append, List.nil_append] at CK CM ⊢
  clear h1 h2 s1 s2 e1 e2 hR
  generalize ks.length = l at *
  generalize ks'.length = l' at *
  obtain ⟨V, hV⟩ : ∃ V, (w.alloc (.cells #[.int .i64 k, .int .i64 n, .float .f64 f, .string s, .slice a l c] 25)).alloc (.cells #[.int .i64 k', .int .i64 n', .float .f64 f', .string s', .slice a' l' c'] 25) = V := ⟨_, rfl⟩
  have HBV : Hid (Below w.heap.size w V ∧ V.heap.size = w.heap.size + 1 + 1) := hidb (by rw [← hV]; exact ⟨(below_new w _).alloc (by simp) _, by simp⟩)
  have HB1 : Hid (Box V w.heap.size (.int .i64 k) (.int .i64 n) (.float .f64 f) (.string s) (.slice a l c)) := hidb (by rw [← hV]; exact (Box.new w _ _ _ _ _ _).keep (below_new _ _))
  have HB2 : Hid (Box V (w.heap.size + 1) (.int .i64 k') (.int .i64 n') (.float .f64 f') (.string s') (.slice a' l' c')) := hidb (by
    rw [← hV]
    have := Box.new (w.alloc (.cells #[.int .i64 k, .int .i64 n, .float .f64 f, .string s, .slice a l c] 25)) 25 (.int .i64 k') (.int .i64 n') (.float .f64 f') (.string s') (.slice a' l' c')
    simpa using this)
  have HV := hidb hV
  clear hV
  go_enter Tryz.func11, Tryz.ntmps11
  go_wp2_with fail
  rw [HV.out, ← HBV.out.2]
  refine (CK.out V HBV.out.1).mono ?_
  rintro e w2 ⟨rfl, hb2⟩
  have HB3 := hidb hb2
  have HX1 := hidb (HB1.out.keep HB3.out)
  have HX2 := hidb (HB2.out.keep HB3.out)
  obtain ⟨⟨x0, x1, x2, x3, x4⟩, -, xl⟩ := Box.six HX1.out
  obtain ⟨⟨y0, y1, y2, y3, y4⟩, -, yl⟩ := Box.six HX2.out
  clear hb2
  go_wp2_with fail
  refine (CM.out _ (HBV.out.1.trans (HB3.out.mono HBV.out.1.size))).mono ?_
  rintro e w4 ⟨rfl, hb4⟩
  have HB4 := hidb (HBV.out.1.trans ((HB3.out.trans (hb4.mono HB3.out.size)).mono HBV.out.1.size))
  clear hb4
  go_wp2_with fail
  go_ret2
  exact ⟨rfl, HB4.out⟩

set_option maxHeartbeats 8000000 in
set_option maxRecDepth 100000 in
theorem Same_any (t t' : Tr) (w : World) (h1 : t.In w 0) (h2 : t'.In w 0) (s1 : Small t) (s2 : Small t') (e1 : errT t = 0) (e2 : errT t' = 0) : Calls Tryz.prog 132 #[t.val, t'.val] w fun e w' => e = .returned (.tuple #[.bool (idP t t'), .int .i64 0]) ∧ Below w.heap.size w w' := by
  have CK := hidb (fun (W : World) (hW : Below w.heap.size w W) => checkPair t t' W 25 (in_below hW h1) (in_below hW h2) s1 s2 e1 e2)
  have CM := hidb (fun (W : World) (hW : Below w.heap.size w W) => identical_any t t' W (in_below hW h1) (in_below hW h2))
  obtain ⟨R, hR⟩ : ∃ R, idP t t' = R := ⟨_, rfl⟩
  rw [hR] at CM ⊢
  obtain ⟨k, n, f, s, a, c, ks⟩ := t
  obtain ⟨k', n', f', s', a', c', ks'⟩ := t'
  simp only [Tr.val, Tr.cells, List.flatMap_cons, List.flatMap_nil, List.append_nil, List.cons_append, List.nil_append] at CK CM ⊢
  clear h1 h2 s1 s2 e1 e2 hR
  generalize ks.length = l at *
  generalize ks'.length = l' at *
  obtain ⟨V, hV⟩ : ∃ V, (w.alloc (.cells #[.int .i64 k, .int .i64 n, .float .f64 f, .string s, .slice a l c] 25)).alloc (.cells #[.int .i64 k', .int .i64 n', .float .f64 f', .string s', .slice a' l' c'] 25) = V := ⟨_, rfl⟩
  have HBV : Hid (Below w.heap.size w V ∧ V.heap.size = w.heap.size + 1 + 1) := hidb (by rw [← hV]; exact ⟨(below_new w _).alloc (by simp) _, by simp⟩)
  have HB1 : Hid (Box V w.heap.size (.int .i64 k) (.int .i64 n) (.float .f64 f) (.string s) (.slice a l c)) := hidb (by rw [← hV]; exact (Box.new w _ _ _ _ _ _).keep (below_new _ _))
  have HB2 : Hid (Box V (w.heap.size + 1) (.int .i64 k') (.int .i64 n') (.float .f64 f') (.string s') (.slice a' l' c')) := hidb (by
    rw [← hV]
    have := Box.new (w.alloc (.cells #[.int .i64 k, .int .i64 n, .float .f64 f, .string s, .slice a l c] 25)) 25 (.int .i64 k') (.int .i64 n') (.float .f64 f') (.string s') (.slice a' l' c')
    simpa using this)
  have HV := hidb hV
  clear hV
  go_enter Tryz.func132, Tryz.ntmps132
  go_wp2_with fail
  rw [HV.out, ← HBV.out.2]
  refine (CK.out V HBV.out.1).mono ?_
  rintro e w2 ⟨rfl, hb2⟩
  have HB3 := hidb hb2
  have HX1 := hidb (HB1.out.keep HB3.out)
  have HX2 := hidb (HB2.out.keep HB3.out)
  obtain ⟨⟨x0, x1, x2, x3, x4⟩, -, xl⟩ := Box.six HX1.out
  obtain ⟨⟨y0, y1, y2, y3, y4⟩, -, yl⟩ := Box.six HX2.out
  clear hb2
  go_wp2_with fail
  refine (CM.out _ (HBV.out.1.trans (HB3.out.mono HBV.out.1.size))).mono ?_
  rintro e w4 ⟨rfl, hb4⟩
  have HB4 := hidb (HBV.out.1.trans ((HB3.out.trans (hb4.mono HB3.out.size)).mono HBV.out.1.size))
  clear hb4
  go_wp2_with fail
  go_ret2
  exact ⟨rfl, HB4.out⟩
end Go.Proofs.YtajadhkpadkikaaGreatDoor


/- The other comparing operators, min and max. -/
namespace Go.Proofs.YtajadhkpadkikaaGreatDoor
open Go.RowKit Go.Lib Go.Deep
attribute [local go_sem] store_float f64bits store_func store_nilFunc
attribute [local go_sem ↓] Go.wp_at_zero Go.wp_at_succ

set_option maxHeartbeats 8000000 in
set_option maxRecDepth 100000 in
theorem unequal_tc {w : World} {a : Option Addr} {c : Nat} {t0 t1 : Tr} {nm : ByteArray} {P : Tr → Prop} {E : Int → Prop} {r : Int} (hin : ArgsIn w a c [t0, t1]) (hC : ∀ W, Below w.heap.size w W → Calls Tryz.prog 11 #[t0.val, t1.val] W fun e w' => e = .returned (.tuple #[.int .i64 r, .int .i64 0]) ∧ Below W.heap.size W w') (hP : P (bolT (decide (¬ r = 0)))) :
    TC 37 P E (.agg #[.string nm, .slice a 2 c, .nilFunc]) w := by
  refine ⟨fun args w => by kernel_rfl, fun W hW => ?_⟩
  have HP := hidb hP
  obtain ⟨k, n, f, s, a', c', ks⟩ := t0
  obtain ⟨k1, n1, f1, s1, a1, c1, ks1⟩ := t1
  obtain ⟨b, o, rfl, hbW, v0, v1, v2, v3, v4, -⟩ := argi hin hW (i := 0) rfl
  obtain ⟨b2, o2, e, -, u0, u1, u2, u3, u4, -⟩ := argi hin hW (i := 1) rfl
  obtain ⟨rfl, rfl⟩ : b = b2 ∧ o = o2 := by simpa using e
  simp only [Nat.zero_mul, Nat.add_zero, Nat.one_mul] at v0 v1 v2 v3 v4 u0 u1 u2 u3 u4
  have HC := hidb (fun W1 (hb : Below W.heap.size W W1) => hC W1 (hW.trans (hb.mono hW.size)))
  simp only [Tr.val, Tr.cells] at HC
  generalize ks.length = l0 at *
  generalize ks1.length = l1 at *
  have CM := hidb (fun W1 (hb : Below W.heap.size W W1) => compareM (nm := nm) (in_below (hW.trans (hb.mono hW.size)) hin) (fun W2 hb2 => hC W2 ((hW.trans (hb.mono hW.size)).trans (hb2.mono (hW.trans (hb.mono hW.size)).size))) .nilFunc (.inl rfl))
  obtain ⟨V1, hV1⟩ : ∃ V1, ((W.alloc (.cells #[.string nm, .slice (some ⟨b, o, none⟩) 2 c, .nilFunc] CT)).alloc (.cells #[.int .i64 0, .int .i64 0, .float .f64 0, .string ⟨#[]⟩, .slice none 0 0] 25)) = V1 := ⟨_, rfl⟩
  have HX0 : Hid (Box V1 (W.heap.size + 1) (.int .i64 0) (.int .i64 0) (.float .f64 0) (.string ⟨#[]⟩) (.slice none 0 0)) := hidb (by
    rw [← hV1]
    have := Box.new (W.alloc (.cells #[.string nm, .slice (some ⟨b, o, none⟩) 2 c, .nilFunc] CT)) 25 (.int .i64 0) (.int .i64 0) (.float .f64 0) (.string ⟨#[]⟩) (.slice none 0 0)
    simpa using this)
  have HC0 : Hid (Tri V1 W.heap.size (.string nm) (.slice (some ⟨b, o, none⟩) 2 c) .nilFunc) := hidb (by rw [← hV1]; exact (Tri.new W _ _ _ _).keep (below_new _ _))
  have HBW : Hid (Below W.heap.size W V1) := hidb (by rw [← hV1]; exact (below_new W _).alloc (by simp) _)
  have HV1 := hidb hV1
  obtain ⟨PP, hPP⟩ : ∃ PP : Ending → World → Prop, Tld P E w.heap.size W = PP := ⟨_, rfl⟩
  have HPP := hidb hPP
  rw [hPP]
  clear hV1 hPP
  clear hin hC hP hW
  go_enter Tryz.func37, Tryz.ntmps37
  go_wp2_with fail
  rw [HV1.out]
  refine (CM.out _ HBW.out).mono ?_
  rintro e w2 ⟨rfl, hb2⟩
  have HB2 := hidb (HBW.out.trans (hb2.mono HBW.out.size))
  have HX2 := hidb (HX0.out.keep hb2)
  clear hb2
  have BO := hidb (boolean_any (decide (¬ r = 0)))
  obtain ⟨D, hDD⟩ : ∃ D, decide (¬ r = 0) = D := ⟨_, rfl⟩
  have hD2 : (r != 0) = D := by rw [← hDD]; by_cases h : r = 0 <;> simp [h]
  rw [hDD] at HP BO
  clear hDD
  go_wp2_with fail
  refine (BO.out _).mono ?_
  rintro e w3 ⟨rfl, hb3⟩
  have HB3 := hidb (HB2.out.trans (hb3.mono HB2.out.size))
  have HX3 := hidb (HX2.out.keep hb3)
  clear hb3
  obtain ⟨⟨x0, x1, x2, x3, x4⟩, ⟨y0, y1, y2, y3, y4⟩, xl⟩ := Box.six HX3.out
  obtain ⟨S, hS⟩ : ∃ S, (bolT D).val = .agg #[.int .i64 3, .int .i64 0, .float .f64 0, .string S, .slice none 0 0] := ⟨_, rfl⟩
  rw [hS]
  have HS := hidb hS
  clear hS
  go_wp2_with fail
  have bx9 := HX3.out.set (.int .i64 3) (.int .i64 0) (.float .f64 0) (.string S) (.slice none 0 0)
  obtain ⟨⟨k0, k1', k2, k3, k4⟩, -, -⟩ := Box.six bx9
  simp only [set5] at k0 k1' k2 k3 k4
  refine bodyPost_ret (v := (bolT D).val) (by rw [HS.out]; simp [results, Tryz.results37, go_sem, k0, k1', k2, k3, k4]) rfl ?_
  rw [← HPP.out]
  exact tld_bool HP.out (((((HB3.out.setCell (by simp) _).setCell (by simp) _).setCell (by simp) _).setCell (by simp) _).setCell (by simp) _)

set_option maxHeartbeats 8000000 in
set_option maxRecDepth 100000 in
theorem notAbove_tc {w : World} {a : Option Addr} {c : Nat} {t0 t1 : Tr} {nm : ByteArray} {P : Tr → Prop} {E : Int → Prop} {r : Int} (hin : ArgsIn w a c [t0, t1]) (hC : ∀ W, Below w.heap.size w W → Calls Tryz.prog 11 #[t0.val, t1.val] W fun e w' => e = .returned (.tuple #[.int .i64 r, .int .i64 0]) ∧ Below W.heap.size W w') (hP : P (bolT (decide (r ≤ 0)))) :
    TC 38 P E (.agg #[.string nm, .slice a 2 c, .nilFunc]) w := by
  refine ⟨fun args w => by kernel_rfl, fun W hW => ?_⟩
  have HP := hidb hP
  obtain ⟨k, n, f, s, a', c', ks⟩ := t0
  obtain ⟨k1, n1, f1, s1, a1, c1, ks1⟩ := t1
  obtain ⟨b, o, rfl, hbW, v0, v1, v2, v3, v4, -⟩ := argi hin hW (i := 0) rfl
  obtain ⟨b2, o2, e, -, u0, u1, u2, u3, u4, -⟩ := argi hin hW (i := 1) rfl
  obtain ⟨rfl, rfl⟩ : b = b2 ∧ o = o2 := by simpa using e
  simp only [Nat.zero_mul, Nat.add_zero, Nat.one_mul] at v0 v1 v2 v3 v4 u0 u1 u2 u3 u4
  have HC := hidb (fun W1 (hb : Below W.heap.size W W1) => hC W1 (hW.trans (hb.mono hW.size)))
  simp only [Tr.val, Tr.cells] at HC
  generalize ks.length = l0 at *
  generalize ks1.length = l1 at *
  have CM := hidb (fun W1 (hb : Below W.heap.size W W1) => compareM (nm := nm) (in_below (hW.trans (hb.mono hW.size)) hin) (fun W2 hb2 => hC W2 ((hW.trans (hb.mono hW.size)).trans (hb2.mono (hW.trans (hb.mono hW.size)).size))) .nilFunc (.inl rfl))
  obtain ⟨V1, hV1⟩ : ∃ V1, ((W.alloc (.cells #[.string nm, .slice (some ⟨b, o, none⟩) 2 c, .nilFunc] CT)).alloc (.cells #[.int .i64 0, .int .i64 0, .float .f64 0, .string ⟨#[]⟩, .slice none 0 0] 25)) = V1 := ⟨_, rfl⟩
  have HX0 : Hid (Box V1 (W.heap.size + 1) (.int .i64 0) (.int .i64 0) (.float .f64 0) (.string ⟨#[]⟩) (.slice none 0 0)) := hidb (by
    rw [← hV1]
    have := Box.new (W.alloc (.cells #[.string nm, .slice (some ⟨b, o, none⟩) 2 c, .nilFunc] CT)) 25 (.int .i64 0) (.int .i64 0) (.float .f64 0) (.string ⟨#[]⟩) (.slice none 0 0)
    simpa using this)
  have HC0 : Hid (Tri V1 W.heap.size (.string nm) (.slice (some ⟨b, o, none⟩) 2 c) .nilFunc) := hidb (by rw [← hV1]; exact (Tri.new W _ _ _ _).keep (below_new _ _))
  have HBW : Hid (Below W.heap.size W V1) := hidb (by rw [← hV1]; exact (below_new W _).alloc (by simp) _)
  have HV1 := hidb hV1
  obtain ⟨PP, hPP⟩ : ∃ PP : Ending → World → Prop, Tld P E w.heap.size W = PP := ⟨_, rfl⟩
  have HPP := hidb hPP
  rw [hPP]
  clear hV1 hPP
  clear hin hC hP hW
  go_enter Tryz.func38, Tryz.ntmps38
  go_wp2_with fail
  rw [HV1.out]
  refine (CM.out _ HBW.out).mono ?_
  rintro e w2 ⟨rfl, hb2⟩
  have HB2 := hidb (HBW.out.trans (hb2.mono HBW.out.size))
  have HX2 := hidb (HX0.out.keep hb2)
  clear hb2
  have BO := hidb (boolean_any (decide (r ≤ 0)))
  obtain ⟨D, hDD⟩ : ∃ D, decide (r ≤ 0) = D := ⟨_, rfl⟩
  have hD2 := hDD
  rw [hDD] at HP BO
  go_wp2_with fail
  refine (BO.out _).mono ?_
  rintro e w3 ⟨rfl, hb3⟩
  have HB3 := hidb (HB2.out.trans (hb3.mono HB2.out.size))
  have HX3 := hidb (HX2.out.keep hb3)
  clear hb3
  obtain ⟨⟨x0, x1, x2, x3, x4⟩, ⟨y0, y1, y2, y3, y4⟩, xl⟩ := Box.six HX3.out
  obtain ⟨S, hS⟩ : ∃ S, (bolT D).val = .agg #[.int .i64 3, .int .i64 0, .float .f64 0, .string S, .slice none 0 0] := ⟨_, rfl⟩
  rw [hS]
  have HS := hidb hS
  clear hS
  go_wp2_with fail
  have bx9 := HX3.out.set (.int .i64 3) (.int .i64 0) (.float .f64 0) (.string S) (.slice none 0 0)
  obtain ⟨⟨k0, k1', k2, k3, k4⟩, -, -⟩ := Box.six bx9
  simp only [set5] at k0 k1' k2 k3 k4
  refine bodyPost_ret (v := (bolT D).val) (by rw [HS.out]; simp [results, Tryz.results38, go_sem, k0, k1', k2, k3, k4]) rfl ?_
  rw [← HPP.out]
  exact tld_bool HP.out (((((HB3.out.setCell (by simp) _).setCell (by simp) _).setCell (by simp) _).setCell (by simp) _).setCell (by simp) _)

set_option maxHeartbeats 8000000 in
set_option maxRecDepth 100000 in
theorem below_tc {w : World} {a : Option Addr} {c : Nat} {t0 t1 : Tr} {nm : ByteArray} {P : Tr → Prop} {E : Int → Prop} {r : Int} (hin : ArgsIn w a c [t0, t1]) (hC : ∀ W, Below w.heap.size w W → Calls Tryz.prog 11 #[t0.val, t1.val] W fun e w' => e = .returned (.tuple #[.int .i64 r, .int .i64 0]) ∧ Below W.heap.size W w') (hP : P (bolT (decide (r < 0)))) :
    TC 39 P E (.agg #[.string nm, .slice a 2 c, .nilFunc]) w := by
  refine ⟨fun args w => by kernel_rfl, fun W hW => ?_⟩
  have HP := hidb hP
  obtain ⟨k, n, f, s, a', c', ks⟩ := t0
  obtain ⟨k1, n1, f1, s1, a1, c1, ks1⟩ := t1
  obtain ⟨b, o, rfl, hbW, v0, v1, v2, v3, v4, -⟩ := argi hin hW (i := 0) rfl
  obtain ⟨b2, o2, e, -, u0, u1, u2, u3, u4, -⟩ := argi hin hW (i := 1) rfl
  obtain ⟨rfl, rfl⟩ : b = b2 ∧ o = o2 := by simpa using e
  simp only [Nat.zero_mul, Nat.add_zero, Nat.one_mul] at v0 v1 v2 v3 v4 u0 u1 u2 u3 u4
  have HC := hidb (fun W1 (hb : Below W.heap.size W W1) => hC W1 (hW.trans (hb.mono hW.size)))
  simp only [Tr.val, Tr.cells] at HC
  generalize ks.length = l0 at *
  generalize ks1.length = l1 at *
  have CM := hidb (fun W1 (hb : Below W.heap.size W W1) => compareM (nm := nm) (in_below (hW.trans (hb.mono hW.size)) hin) (fun W2 hb2 => hC W2 ((hW.trans (hb.mono hW.size)).trans (hb2.mono (hW.trans (hb.mono hW.size)).size))) .nilFunc (.inl rfl))
  obtain ⟨V1, hV1⟩ : ∃ V1, ((W.alloc (.cells #[.string nm, .slice (some ⟨b, o, none⟩) 2 c, .nilFunc] CT)).alloc (.cells #[.int .i64 0, .int .i64 0, .float .f64 0, .string ⟨#[]⟩, .slice none 0 0] 25)) = V1 := ⟨_, rfl⟩
  have HX0 : Hid (Box V1 (W.heap.size + 1) (.int .i64 0) (.int .i64 0) (.float .f64 0) (.string ⟨#[]⟩) (.slice none 0 0)) := hidb (by
    rw [← hV1]
    have := Box.new (W.alloc (.cells #[.string nm, .slice (some ⟨b, o, none⟩) 2 c, .nilFunc] CT)) 25 (.int .i64 0) (.int .i64 0) (.float .f64 0) (.string ⟨#[]⟩) (.slice none 0 0)
    simpa using this)
  have HC0 : Hid (Tri V1 W.heap.size (.string nm) (.slice (some ⟨b, o, none⟩) 2 c) .nilFunc) := hidb (by rw [← hV1]; exact (Tri.new W _ _ _ _).keep (below_new _ _))
  have HBW : Hid (Below W.heap.size W V1) := hidb (by rw [← hV1]; exact (below_new W _).alloc (by simp) _)
  have HV1 := hidb hV1
  obtain ⟨PP, hPP⟩ : ∃ PP : Ending → World → Prop, Tld P E w.heap.size W = PP := ⟨_, rfl⟩
  have HPP := hidb hPP
  rw [hPP]
  clear hV1 hPP
  clear hin hC hP hW
  go_enter Tryz.func39, Tryz.ntmps39
  go_wp2_with fail
  rw [HV1.out]
  refine (CM.out _ HBW.out).mono ?_
  rintro e w2 ⟨rfl, hb2⟩
  have HB2 := hidb (HBW.out.trans (hb2.mono HBW.out.size))
  have HX2 := hidb (HX0.out.keep hb2)
  clear hb2
  have BO := hidb (boolean_any (decide (r < 0)))
  obtain ⟨D, hDD⟩ : ∃ D, decide (r < 0) = D := ⟨_, rfl⟩
  have hD2 := hDD
  rw [hDD] at HP BO
  go_wp2_with fail
  refine (BO.out _).mono ?_
  rintro e w3 ⟨rfl, hb3⟩
  have HB3 := hidb (HB2.out.trans (hb3.mono HB2.out.size))
  have HX3 := hidb (HX2.out.keep hb3)
  clear hb3
  obtain ⟨⟨x0, x1, x2, x3, x4⟩, ⟨y0, y1, y2, y3, y4⟩, xl⟩ := Box.six HX3.out
  obtain ⟨S, hS⟩ : ∃ S, (bolT D).val = .agg #[.int .i64 3, .int .i64 0, .float .f64 0, .string S, .slice none 0 0] := ⟨_, rfl⟩
  rw [hS]
  have HS := hidb hS
  clear hS
  go_wp2_with fail
  have bx9 := HX3.out.set (.int .i64 3) (.int .i64 0) (.float .f64 0) (.string S) (.slice none 0 0)
  obtain ⟨⟨k0, k1', k2, k3, k4⟩, -, -⟩ := Box.six bx9
  simp only [set5] at k0 k1' k2 k3 k4
  refine bodyPost_ret (v := (bolT D).val) (by rw [HS.out]; simp [results, Tryz.results39, go_sem, k0, k1', k2, k3, k4]) rfl ?_
  rw [← HPP.out]
  exact tld_bool HP.out (((((HB3.out.setCell (by simp) _).setCell (by simp) _).setCell (by simp) _).setCell (by simp) _).setCell (by simp) _)

set_option maxHeartbeats 8000000 in
set_option maxRecDepth 100000 in
theorem notBelow_tc {w : World} {a : Option Addr} {c : Nat} {t0 t1 : Tr} {nm : ByteArray} {P : Tr → Prop} {E : Int → Prop} {r : Int} (hin : ArgsIn w a c [t0, t1]) (hC : ∀ W, Below w.heap.size w W → Calls Tryz.prog 11 #[t0.val, t1.val] W fun e w' => e = .returned (.tuple #[.int .i64 r, .int .i64 0]) ∧ Below W.heap.size W w') (hP : P (bolT (decide (0 ≤ r)))) :
    TC 40 P E (.agg #[.string nm, .slice a 2 c, .nilFunc]) w := by
  refine ⟨fun args w => by kernel_rfl, fun W hW => ?_⟩
  have HP := hidb hP
  obtain ⟨k, n, f, s, a', c', ks⟩ := t0
  obtain ⟨k1, n1, f1, s1, a1, c1, ks1⟩ := t1
  obtain ⟨b, o, rfl, hbW, v0, v1, v2, v3, v4, -⟩ := argi hin hW (i := 0) rfl
  obtain ⟨b2, o2, e, -, u0, u1, u2, u3, u4, -⟩ := argi hin hW (i := 1) rfl
  obtain ⟨rfl, rfl⟩ : b = b2 ∧ o = o2 := by simpa using e
  simp only [Nat.zero_mul, Nat.add_zero, Nat.one_mul] at v0 v1 v2 v3 v4 u0 u1 u2 u3 u4
  have HC := hidb (fun W1 (hb : Below W.heap.size W W1) => hC W1 (hW.trans (hb.mono hW.size)))
  simp only [Tr.val, Tr.cells] at HC
  generalize ks.length = l0 at *
  generalize ks1.length = l1 at *
  have CM := hidb (fun W1 (hb : Below W.heap.size W W1) => compareM (nm := nm) (in_below (hW.trans (hb.mono hW.size)) hin) (fun W2 hb2 => hC W2 ((hW.trans (hb.mono hW.size)).trans (hb2.mono (hW.trans (hb.mono hW.size)).size))) .nilFunc (.inl rfl))
  obtain ⟨V1, hV1⟩ : ∃ V1, ((W.alloc (.cells #[.string nm, .slice (some ⟨b, o, none⟩) 2 c, .nilFunc] CT)).alloc (.cells #[.int .i64 0, .int .i64 0, .float .f64 0, .string ⟨#[]⟩, .slice none 0 0] 25)) = V1 := ⟨_, rfl⟩
  have HX0 : Hid (Box V1 (W.heap.size + 1) (.int .i64 0) (.int .i64 0) (.float .f64 0) (.string ⟨#[]⟩) (.slice none 0 0)) := hidb (by
    rw [← hV1]
    have := Box.new (W.alloc (.cells #[.string nm, .slice (some ⟨b, o, none⟩) 2 c, .nilFunc] CT)) 25 (.int .i64 0) (.int .i64 0) (.float .f64 0) (.string ⟨#[]⟩) (.slice none 0 0)
    simpa using this)
  have HC0 : Hid (Tri V1 W.heap.size (.string nm) (.slice (some ⟨b, o, none⟩) 2 c) .nilFunc) := hidb (by rw [← hV1]; exact (Tri.new W _ _ _ _).keep (below_new _ _))
  have HBW : Hid (Below W.heap.size W V1) := hidb (by rw [← hV1]; exact (below_new W _).alloc (by simp) _)
  have HV1 := hidb hV1
  obtain ⟨PP, hPP⟩ : ∃ PP : Ending → World → Prop, Tld P E w.heap.size W = PP := ⟨_, rfl⟩
  have HPP := hidb hPP
  rw [hPP]
  clear hV1 hPP
  clear hin hC hP hW
  go_enter Tryz.func40, Tryz.ntmps40
  go_wp2_with fail
  rw [HV1.out]
  refine (CM.out _ HBW.out).mono ?_
  rintro e w2 ⟨rfl, hb2⟩
  have HB2 := hidb (HBW.out.trans (hb2.mono HBW.out.size))
  have HX2 := hidb (HX0.out.keep hb2)
  clear hb2
  have BO := hidb (boolean_any (decide (0 ≤ r)))
  obtain ⟨D, hDD⟩ : ∃ D, decide (0 ≤ r) = D := ⟨_, rfl⟩
  have hD2 := hDD
  rw [hDD] at HP BO
  go_wp2_with fail
  refine (BO.out _).mono ?_
  rintro e w3 ⟨rfl, hb3⟩
  have HB3 := hidb (HB2.out.trans (hb3.mono HB2.out.size))
  have HX3 := hidb (HX2.out.keep hb3)
  clear hb3
  obtain ⟨⟨x0, x1, x2, x3, x4⟩, ⟨y0, y1, y2, y3, y4⟩, xl⟩ := Box.six HX3.out
  obtain ⟨S, hS⟩ : ∃ S, (bolT D).val = .agg #[.int .i64 3, .int .i64 0, .float .f64 0, .string S, .slice none 0 0] := ⟨_, rfl⟩
  rw [hS]
  have HS := hidb hS
  clear hS
  go_wp2_with fail
  have bx9 := HX3.out.set (.int .i64 3) (.int .i64 0) (.float .f64 0) (.string S) (.slice none 0 0)
  obtain ⟨⟨k0, k1', k2, k3, k4⟩, -, -⟩ := Box.six bx9
  simp only [set5] at k0 k1' k2 k3 k4
  refine bodyPost_ret (v := (bolT D).val) (by rw [HS.out]; simp [results, Tryz.results40, go_sem, k0, k1', k2, k3, k4]) rfl ?_
  rw [← HPP.out]
  exact tld_bool HP.out (((((HB3.out.setCell (by simp) _).setCell (by simp) _).setCell (by simp) _).setCell (by simp) _).setCell (by simp) _)

set_option maxHeartbeats 8000000 in
set_option maxRecDepth 100000 in
theorem above_tc {w : World} {a : Option Addr} {c : Nat} {t0 t1 : Tr} {nm : ByteArray} {P : Tr → Prop} {E : Int → Prop} {r : Int} (hin : ArgsIn w a c [t0, t1]) (hC : ∀ W, Below w.heap.size w W → Calls Tryz.prog 11 #[t0.val, t1.val] W fun e w' => e = .returned (.tuple #[.int .i64 r, .int .i64 0]) ∧ Below W.heap.size W w') (hP : P (bolT (decide (0 < r)))) :
    TC 41 P E (.agg #[.string nm, .slice a 2 c, .nilFunc]) w := by
  refine ⟨fun args w => by kernel_rfl, fun W hW => ?_⟩
  have HP := hidb hP
  obtain ⟨k, n, f, s, a', c', ks⟩ := t0
  obtain ⟨k1, n1, f1, s1, a1, c1, ks1⟩ := t1
  obtain ⟨b, o, rfl, hbW, v0, v1, v2, v3, v4, -⟩ := argi hin hW (i := 0) rfl
  obtain ⟨b2, o2, e, -, u0, u1, u2, u3, u4, -⟩ := argi hin hW (i := 1) rfl
  obtain ⟨rfl, rfl⟩ : b = b2 ∧ o = o2 := by simpa using e
  simp only [Nat.zero_mul, Nat.add_zero, Nat.one_mul] at v0 v1 v2 v3 v4 u0 u1 u2 u3 u4
  have HC := hidb (fun W1 (hb : Below W.heap.size W W1) => hC W1 (hW.trans (hb.mono hW.size)))
  simp only [Tr.val, Tr.cells] at HC
  generalize ks.length = l0 at *
  generalize ks1.length = l1 at *
  have CM := hidb (fun W1 (hb : Below W.heap.size W W1) => compareM (nm := nm) (in_below (hW.trans (hb.mono hW.size)) hin) (fun W2 hb2 => hC W2 ((hW.trans (hb.mono hW.size)).trans (hb2.mono (hW.trans (hb.mono hW.size)).size))) .nilFunc (.inl rfl))
  obtain ⟨V1, hV1⟩ : ∃ V1, ((W.alloc (.cells #[.string nm, .slice (some ⟨b, o, none⟩) 2 c, .nilFunc] CT)).alloc (.cells #[.int .i64 0, .int .i64 0, .float .f64 0, .string ⟨#[]⟩, .slice none 0 0] 25)) = V1 := ⟨_, rfl⟩
  have HX0 : Hid (Box V1 (W.heap.size + 1) (.int .i64 0) (.int .i64 0) (.float .f64 0) (.string ⟨#[]⟩) (.slice none 0 0)) := hidb (by
    rw [← hV1]
    have := Box.new (W.alloc (.cells #[.string nm, .slice (some ⟨b, o, none⟩) 2 c, .nilFunc] CT)) 25 (.int .i64 0) (.int .i64 0) (.float .f64 0) (.string ⟨#[]⟩) (.slice none 0 0)
    simpa using this)
  have HC0 : Hid (Tri V1 W.heap.size (.string nm) (.slice (some ⟨b, o, none⟩) 2 c) .nilFunc) := hidb (by rw [← hV1]; exact (Tri.new W _ _ _ _).keep (below_new _ _))
  have HBW : Hid (Below W.heap.size W V1) := hidb (by rw [← hV1]; exact (below_new W _).alloc (by simp) _)
  have HV1 := hidb hV1
  obtain ⟨PP, hPP⟩ : ∃ PP : Ending → World → Prop, Tld P E w.heap.size W = PP := ⟨_, rfl⟩
  have HPP := hidb hPP
  rw [hPP]
  clear hV1 hPP
  clear hin hC hP hW
  go_enter Tryz.func41, Tryz.ntmps41
  go_wp2_with fail
  rw [HV1.out]
  refine (CM.out _ HBW.out).mono ?_
  rintro e w2 ⟨rfl, hb2⟩
  have HB2 := hidb (HBW.out.trans (hb2.mono HBW.out.size))
  have HX2 := hidb (HX0.out.keep hb2)
  clear hb2
  have BO := hidb (boolean_any (decide (0 < r)))
  obtain ⟨D, hDD⟩ : ∃ D, decide (0 < r) = D := ⟨_, rfl⟩
  have hD2 := hDD
  rw [hDD] at HP BO
  go_wp2_with fail
  refine (BO.out _).mono ?_
  rintro e w3 ⟨rfl, hb3⟩
  have HB3 := hidb (HB2.out.trans (hb3.mono HB2.out.size))
  have HX3 := hidb (HX2.out.keep hb3)
  clear hb3
  obtain ⟨⟨x0, x1, x2, x3, x4⟩, ⟨y0, y1, y2, y3, y4⟩, xl⟩ := Box.six HX3.out
  obtain ⟨S, hS⟩ : ∃ S, (bolT D).val = .agg #[.int .i64 3, .int .i64 0, .float .f64 0, .string S, .slice none 0 0] := ⟨_, rfl⟩
  rw [hS]
  have HS := hidb hS
  clear hS
  go_wp2_with fail
  have bx9 := HX3.out.set (.int .i64 3) (.int .i64 0) (.float .f64 0) (.string S) (.slice none 0 0)
  obtain ⟨⟨k0, k1', k2, k3, k4⟩, -, -⟩ := Box.six bx9
  simp only [set5] at k0 k1' k2 k3 k4
  refine bodyPost_ret (v := (bolT D).val) (by rw [HS.out]; simp [results, Tryz.results41, go_sem, k0, k1', k2, k3, k4]) rfl ?_
  rw [← HPP.out]
  exact tld_bool HP.out (((((HB3.out.setCell (by simp) _).setCell (by simp) _).setCell (by simp) _).setCell (by simp) _).setCell (by simp) _)

end Go.Proofs.YtajadhkpadkikaaGreatDoor


