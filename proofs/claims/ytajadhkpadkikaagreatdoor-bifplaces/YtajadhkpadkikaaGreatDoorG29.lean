import Derived.Test.YtajadhkpadkikaaGreatDoorG28
/- The kinds' tests, isBoolean, not. -/
namespace Go.Proofs.YtajadhkpadkikaaGreatDoor
open Go.RowKit Go.Lib Go.Deep
attribute [local go_sem] store_float f64bits store_func store_nilFunc
attribute [local go_sem ↓] Go.wp_at_zero Go.wp_at_succ

def Tr.kd : Tr → Int | .mk k _ _ _ _ _ _ => k
/-- Arguments in memory. -/
abbrev ArgsIn (w : World) (a : Option Addr) (c : Nat) (kids : List Tr) : Prop := (Tr.mk 0 0 0 ⟨#[]⟩ a c kids).In w 0
abbrev noneF : Value := .func (.func 17) #[] #[]

theorem tld_bool {E : Int → Prop} {B : Nat} {w : World} {b : Bool} {P : Tr → Prop} (hP : P (bolT b)) {w' : World} (hb : Below w.heap.size w w') : Tld P E B w (.returned (bolT b).val) w' :=
  ⟨hb, .inl ⟨bolT b, rfl, hP, bolT_in b w' 0, bolT_on b _, (bolT_small b).1, (bolT_small b).2⟩⟩

set_option maxHeartbeats 8000000 in
set_option maxRecDepth 100000 in
theorem isOf_any {w : World} {a : Option Addr} {c kb cap : Nat} {t : Tr} {rest : List Tr} {nm : ByteArray} {ks : List Int} (hin : ArgsIn w a c (t :: rest)) (hk : ∀ (i : Nat) (k : Int), ks[i]? = some k → w.cell? ⟨kb, i, none⟩ = some (.int .i64 k)) (hl : ks.length ≤ 1000) :
    Calls Tryz.prog 106 #[.agg #[.string nm, .slice a (t :: rest).length c, noneF], .slice (some ⟨kb, 0, none⟩) ks.length cap] w fun e w' => e = .returned (bolT (decide (t.kd ∈ ks))).val ∧ Below w.heap.size w w' := by
  obtain ⟨b, o, rfl, hat⟩ := kid_at hin (by simp)
  obtain ⟨k1, n1, f1, s1, a1, c1, ks1, hu1, hin3, v0, v1, v2, v3, v4⟩ := hat 0 (by simp)
  obtain rfl : t = .mk k1 n1 f1 s1 a1 c1 ks1 := by simpa using hu1
  have hlb : b < w.heap.size := World.block_lt_of_cell? _ _ v0
  have v0' : w.cell? ⟨b, o, none⟩ = some (.int .i64 k1) := by simpa using v0
  have CN : Hid (∀ W, Below w.heap.size w W → Calls Tryz.prog 138 #[.slice (some ⟨kb, 0, none⟩) ks.length cap, .int .i64 k1] W fun e w' => e = .returned (.bool (decide (k1 ∈ ks))) ∧ w' = W) := hidb (fun W hW => contains_any (fun i k h => (hW.cell (p := ⟨kb, i, none⟩) (World.block_lt_of_cell? _ _ (hk i k h))).trans (hk i k h)) k1 hl)
  have hlen : (0 : Int) < (((Tr.mk k1 n1 f1 s1 a1 c1 ks1) :: rest).length : Int) := by simp
  generalize ((Tr.mk k1 n1 f1 s1 a1 c1 ks1) :: rest).length = L at *
  generalize ks.length = KL at *
  show Calls _ _ _ _ (fun e w' => e = .returned (bolT (decide (k1 ∈ ks))).val ∧ Below w.heap.size w w')
  generalize decide (k1 ∈ ks) = D at *
  clear hin hk hl hat hu1 hin3 v0 v1 v2 v3 v4
  have HX0 : Hid (Box ((w.alloc (.cells #[.string nm, .slice (some ⟨b, o, none⟩) L c, noneF] CT)).alloc (.cells #[.int .i64 0, .int .i64 0, .float .f64 0, .string ⟨#[]⟩, .slice none 0 0] 25)) (w.heap.size + 1) (.int .i64 0) (.int .i64 0) (.float .f64 0) (.string ⟨#[]⟩) (.slice none 0 0)) := hidb (by
    have := Box.new (w.alloc (.cells #[.string nm, .slice (some ⟨b, o, none⟩) L c, noneF] CT)) 25 (.int .i64 0) (.int .i64 0) (.float .f64 0) (.string ⟨#[]⟩) (.slice none 0 0)
    simpa using this)
  have HBW : Hid (Below w.heap.size w ((w.alloc (.cells #[.string nm, .slice (some ⟨b, o, none⟩) L c, noneF] CT)).alloc (.cells #[.int .i64 0, .int .i64 0, .float .f64 0, .string ⟨#[]⟩, .slice none 0 0] 25))) := hidb ((below_new w _).alloc (by simp) _)
  go_enter Tryz.func106, Tryz.ntmps106
  go_wp2_with fail
  refine (CN.out _ HBW.out).mono ?_
  rintro e w2 ⟨rfl, rfl⟩
  go_wp2_with fail
  refine (boolean_any D _).mono ?_
  rintro e w3 ⟨rfl, hb3⟩
  have HB3 := hidb (HBW.out.trans (hb3.mono HBW.out.size))
  have HX3 := hidb (HX0.out.keep hb3)
  obtain ⟨⟨x0, x1, x2, x3, x4⟩, ⟨y0, y1, y2, y3, y4⟩, xl⟩ := Box.six HX3.out
  clear hb3
  obtain ⟨S, hS⟩ : ∃ S, (bolT D).val = .agg #[.int .i64 3, .int .i64 0, .float .f64 0, .string S, .slice none 0 0] := ⟨_, rfl⟩
  rw [hS]
  have HS := hidb hS
  clear hS
  go_wp2_with fail
  have bx9 := HX3.out.set (.int .i64 3) (.int .i64 0) (.float .f64 0) (.string S) (.slice none 0 0)
  obtain ⟨⟨k0, k1', k2, k3, k4⟩, -, -⟩ := Box.six bx9
  simp only [set5] at k0 k1' k2 k3 k4
  refine bodyPost_ret (v := (bolT D).val) (by rw [HS.out]; simp [results, Tryz.results106, go_sem, k0, k1', k2, k3, k4]) rfl ⟨rfl, (((((HB3.out.setCell (by simp) _).setCell (by simp) _).setCell (by simp) _).setCell (by simp) _).setCell (by simp) _)⟩

set_option maxHeartbeats 8000000 in
set_option maxRecDepth 100000 in
theorem isAtom_tc {w : World} {a : Option Addr} {c : Nat} {t : Tr} {rest : List Tr} {nm : ByteArray} {P : Tr → Prop} {E : Int → Prop} (hin : ArgsIn w a c (t :: rest)) (hP : P (bolT (decide (t.kd ∈ ([3] : List Int))))) :
    TC 55 P E (.agg #[.string nm, .slice a (t :: rest).length c, noneF]) w := by
  refine ⟨fun args w => by kernel_rfl, fun W hW => ?_⟩
  have HO := hidb (fun W1 (hb : Below W.heap.size W W1) kb cap (hk : ∀ (i : Nat) (k : Int), ([3] : List Int)[i]? = some k → W1.cell? ⟨kb, i, none⟩ = some (.int .i64 k)) => isOf_any (cap := cap) (nm := nm) (in_below (hW.trans (hb.mono hW.size)) hin) hk (by simp))
  have HP := hidb hP
  generalize (t :: rest).length = L at *
  obtain ⟨V1, hV1⟩ : ∃ V1, ((W.alloc (.cells #[.string nm, .slice a L c, noneF] CT)).alloc (.cells #[.int .i64 0, .int .i64 0, .float .f64 0, .string ⟨#[]⟩, .slice none 0 0] 25)) = V1 := ⟨_, rfl⟩
  have HX0 : Hid (Box V1 (W.heap.size + 1) (.int .i64 0) (.int .i64 0) (.float .f64 0) (.string ⟨#[]⟩) (.slice none 0 0)) := hidb (by
    rw [← hV1]
    have := Box.new (W.alloc (.cells #[.string nm, .slice a L c, noneF] CT)) 25 (.int .i64 0) (.int .i64 0) (.float .f64 0) (.string ⟨#[]⟩) (.slice none 0 0)
    simpa using this)
  have HBW : Hid (Below W.heap.size W V1) := hidb (by rw [← hV1]; exact (below_new W _).alloc (by simp) _)
  have HZ : Hid (V1.heap.size = W.heap.size + 1 + 1) := hidb (by rw [← hV1]; simp)
  have HV1 := hidb hV1
  obtain ⟨PP, hPP⟩ : ∃ PP : Ending → World → Prop, Tld P E w.heap.size W = PP := ⟨_, rfl⟩
  have HPP := hidb hPP
  rw [hPP]
  generalize decide (t.kd ∈ ([3] : List Int)) = D at *
  clear hin hP hW hV1 hPP
  go_enter Tryz.func55, Tryz.ntmps55
  go_wp2_with fail
  rw [HV1.out]
  refine (HO.out _ (HBW.out.trans ((below_new V1 _).mono HBW.out.size)) _ 1 (fun i k h => ?_)).mono ?_
  · rw [← HZ.out, World.cell?_alloc_new]
    rcases i with _ | i
    · simp at h ⊢; exact h
    · simp at h
  rintro e w3 ⟨rfl, hb3⟩
  have HB3 := hidb ((HBW.out.trans ((below_new V1 _).mono HBW.out.size)).trans (hb3.mono (by have := HBW.out.size; simp; omega)))
  have HX3 := hidb ((HX0.out.keep (below_new V1 _)).keep hb3)
  obtain ⟨⟨x0, x1, x2, x3, x4⟩, ⟨y0, y1, y2, y3, y4⟩, xl⟩ := Box.six HX3.out
  clear hb3
  obtain ⟨S, hS⟩ : ∃ S, (bolT D).val = .agg #[.int .i64 3, .int .i64 0, .float .f64 0, .string S, .slice none 0 0] := ⟨_, rfl⟩
  rw [hS]
  have HS := hidb hS
  clear hS
  go_wp2_with fail
  have bx9 := HX3.out.set (.int .i64 3) (.int .i64 0) (.float .f64 0) (.string S) (.slice none 0 0)
  obtain ⟨⟨k0, k1', k2, k3, k4⟩, -, -⟩ := Box.six bx9
  simp only [set5] at k0 k1' k2 k3 k4
  refine bodyPost_ret (v := (bolT D).val) (by rw [HS.out]; simp [results, Tryz.results55, go_sem, k0, k1', k2, k3, k4]) rfl ?_
  rw [← HPP.out]
  exact tld_bool HP.out (((((HB3.out.setCell (by simp) _).setCell (by simp) _).setCell (by simp) _).setCell (by simp) _).setCell (by simp) _)

set_option maxHeartbeats 8000000 in
set_option maxRecDepth 100000 in
theorem isInteger_tc {w : World} {a : Option Addr} {c : Nat} {t : Tr} {rest : List Tr} {nm : ByteArray} {P : Tr → Prop} {E : Int → Prop} (hin : ArgsIn w a c (t :: rest)) (hP : P (bolT (decide (t.kd ∈ ([1] : List Int))))) :
    TC 56 P E (.agg #[.string nm, .slice a (t :: rest).length c, noneF]) w := by
  refine ⟨fun args w => by kernel_rfl, fun W hW => ?_⟩
  have HO := hidb (fun W1 (hb : Below W.heap.size W W1) kb cap (hk : ∀ (i : Nat) (k : Int), ([1] : List Int)[i]? = some k → W1.cell? ⟨kb, i, none⟩ = some (.int .i64 k)) => isOf_any (cap := cap) (nm := nm) (in_below (hW.trans (hb.mono hW.size)) hin) hk (by simp))
  have HP := hidb hP
  generalize (t :: rest).length = L at *
  obtain ⟨V1, hV1⟩ : ∃ V1, ((W.alloc (.cells #[.string nm, .slice a L c, noneF] CT)).alloc (.cells #[.int .i64 0, .int .i64 0, .float .f64 0, .string ⟨#[]⟩, .slice none 0 0] 25)) = V1 := ⟨_, rfl⟩
  have HX0 : Hid (Box V1 (W.heap.size + 1) (.int .i64 0) (.int .i64 0) (.float .f64 0) (.string ⟨#[]⟩) (.slice none 0 0)) := hidb (by
    rw [← hV1]
    have := Box.new (W.alloc (.cells #[.string nm, .slice a L c, noneF] CT)) 25 (.int .i64 0) (.int .i64 0) (.float .f64 0) (.string ⟨#[]⟩) (.slice none 0 0)
    simpa using this)
  have HBW : Hid (Below W.heap.size W V1) := hidb (by rw [← hV1]; exact (below_new W _).alloc (by simp) _)
  have HZ : Hid (V1.heap.size = W.heap.size + 1 + 1) := hidb (by rw [← hV1]; simp)
  have HV1 := hidb hV1
  obtain ⟨PP, hPP⟩ : ∃ PP : Ending → World → Prop, Tld P E w.heap.size W = PP := ⟨_, rfl⟩
  have HPP := hidb hPP
  rw [hPP]
  generalize decide (t.kd ∈ ([1] : List Int)) = D at *
  clear hin hP hW hV1 hPP
  go_enter Tryz.func56, Tryz.ntmps56
  go_wp2_with fail
  rw [HV1.out]
  refine (HO.out _ (HBW.out.trans ((below_new V1 _).mono HBW.out.size)) _ 1 (fun i k h => ?_)).mono ?_
  · rw [← HZ.out, World.cell?_alloc_new]
    rcases i with _ | i
    · simp at h ⊢; exact h
    · simp at h
  rintro e w3 ⟨rfl, hb3⟩
  have HB3 := hidb ((HBW.out.trans ((below_new V1 _).mono HBW.out.size)).trans (hb3.mono (by have := HBW.out.size; simp; omega)))
  have HX3 := hidb ((HX0.out.keep (below_new V1 _)).keep hb3)
  obtain ⟨⟨x0, x1, x2, x3, x4⟩, ⟨y0, y1, y2, y3, y4⟩, xl⟩ := Box.six HX3.out
  clear hb3
  obtain ⟨S, hS⟩ : ∃ S, (bolT D).val = .agg #[.int .i64 3, .int .i64 0, .float .f64 0, .string S, .slice none 0 0] := ⟨_, rfl⟩
  rw [hS]
  have HS := hidb hS
  clear hS
  go_wp2_with fail
  have bx9 := HX3.out.set (.int .i64 3) (.int .i64 0) (.float .f64 0) (.string S) (.slice none 0 0)
  obtain ⟨⟨k0, k1', k2, k3, k4⟩, -, -⟩ := Box.six bx9
  simp only [set5] at k0 k1' k2 k3 k4
  refine bodyPost_ret (v := (bolT D).val) (by rw [HS.out]; simp [results, Tryz.results56, go_sem, k0, k1', k2, k3, k4]) rfl ?_
  rw [← HPP.out]
  exact tld_bool HP.out (((((HB3.out.setCell (by simp) _).setCell (by simp) _).setCell (by simp) _).setCell (by simp) _).setCell (by simp) _)

set_option maxHeartbeats 8000000 in
set_option maxRecDepth 100000 in
theorem isFloat_tc {w : World} {a : Option Addr} {c : Nat} {t : Tr} {rest : List Tr} {nm : ByteArray} {P : Tr → Prop} {E : Int → Prop} (hin : ArgsIn w a c (t :: rest)) (hP : P (bolT (decide (t.kd ∈ ([2] : List Int))))) :
    TC 57 P E (.agg #[.string nm, .slice a (t :: rest).length c, noneF]) w := by
  refine ⟨fun args w => by kernel_rfl, fun W hW => ?_⟩
  have HO := hidb (fun W1 (hb : Below W.heap.size W W1) kb cap (hk : ∀ (i : Nat) (k : Int), ([2] : List Int)[i]? = some k → W1.cell? ⟨kb, i, none⟩ = some (.int .i64 k)) => isOf_any (cap := cap) (nm := nm) (in_below (hW.trans (hb.mono hW.size)) hin) hk (by simp))
  have HP := hidb hP
  generalize (t :: rest).length = L at *
  obtain ⟨V1, hV1⟩ : ∃ V1, ((W.alloc (.cells #[.string nm, .slice a L c, noneF] CT)).alloc (.cells #[.int .i64 0, .int .i64 0, .float .f64 0, .string ⟨#[]⟩, .slice none 0 0] 25)) = V1 := ⟨_, rfl⟩
  have HX0 : Hid (Box V1 (W.heap.size + 1) (.int .i64 0) (.int .i64 0) (.float .f64 0) (.string ⟨#[]⟩) (.slice none 0 0)) := hidb (by
    rw [← hV1]
    have := Box.new (W.alloc (.cells #[.string nm, .slice a L c, noneF] CT)) 25 (.int .i64 0) (.int .i64 0) (.float .f64 0) (.string ⟨#[]⟩) (.slice none 0 0)
    simpa using this)
  have HBW : Hid (Below W.heap.size W V1) := hidb (by rw [← hV1]; exact (below_new W _).alloc (by simp) _)
  have HZ : Hid (V1.heap.size = W.heap.size + 1 + 1) := hidb (by rw [← hV1]; simp)
  have HV1 := hidb hV1
  obtain ⟨PP, hPP⟩ : ∃ PP : Ending → World → Prop, Tld P E w.heap.size W = PP := ⟨_, rfl⟩
  have HPP := hidb hPP
  rw [hPP]
  generalize decide (t.kd ∈ ([2] : List Int)) = D at *
  clear hin hP hW hV1 hPP
  go_enter Tryz.func57, Tryz.ntmps57
  go_wp2_with fail
  rw [HV1.out]
  refine (HO.out _ (HBW.out.trans ((below_new V1 _).mono HBW.out.size)) _ 1 (fun i k h => ?_)).mono ?_
  · rw [← HZ.out, World.cell?_alloc_new]
    rcases i with _ | i
    · simp at h ⊢; exact h
    · simp at h
  rintro e w3 ⟨rfl, hb3⟩
  have HB3 := hidb ((HBW.out.trans ((below_new V1 _).mono HBW.out.size)).trans (hb3.mono (by have := HBW.out.size; simp; omega)))
  have HX3 := hidb ((HX0.out.keep (below_new V1 _)).keep hb3)
  obtain ⟨⟨x0, x1, x2, x3, x4⟩, ⟨y0, y1, y2, y3, y4⟩, xl⟩ := Box.six HX3.out
  clear hb3
  obtain ⟨S, hS⟩ : ∃ S, (bolT D).val = .agg #[.int .i64 3, .int .i64 0, .float .f64 0, .string S, .slice none 0 0] := ⟨_, rfl⟩
  rw [hS]
  have HS := hidb hS
  clear hS
  go_wp2_with fail
  have bx9 := HX3.out.set (.int .i64 3) (.int .i64 0) (.float .f64 0) (.string S) (.slice none 0 0)
  obtain ⟨⟨k0, k1', k2, k3, k4⟩, -, -⟩ := Box.six bx9
  simp only [set5] at k0 k1' k2 k3 k4
  refine bodyPost_ret (v := (bolT D).val) (by rw [HS.out]; simp [results, Tryz.results57, go_sem, k0, k1', k2, k3, k4]) rfl ?_
  rw [← HPP.out]
  exact tld_bool HP.out (((((HB3.out.setCell (by simp) _).setCell (by simp) _).setCell (by simp) _).setCell (by simp) _).setCell (by simp) _)

set_option maxHeartbeats 8000000 in
set_option maxRecDepth 100000 in
theorem isNumber_tc {w : World} {a : Option Addr} {c : Nat} {t : Tr} {rest : List Tr} {nm : ByteArray} {P : Tr → Prop} {E : Int → Prop} (hin : ArgsIn w a c (t :: rest)) (hP : P (bolT (decide (t.kd ∈ ([1, 2] : List Int))))) :
    TC 58 P E (.agg #[.string nm, .slice a (t :: rest).length c, noneF]) w := by
  refine ⟨fun args w => by kernel_rfl, fun W hW => ?_⟩
  have HO := hidb (fun W1 (hb : Below W.heap.size W W1) kb cap (hk : ∀ (i : Nat) (k : Int), ([1, 2] : List Int)[i]? = some k → W1.cell? ⟨kb, i, none⟩ = some (.int .i64 k)) => isOf_any (cap := cap) (nm := nm) (in_below (hW.trans (hb.mono hW.size)) hin) hk (by simp))
  have HP := hidb hP
  generalize (t :: rest).length = L at *
  obtain ⟨V1, hV1⟩ : ∃ V1, ((W.alloc (.cells #[.string nm, .slice a L c, noneF] CT)).alloc (.cells #[.int .i64 0, .int .i64 0, .float .f64 0, .string ⟨#[]⟩, .slice none 0 0] 25)) = V1 := ⟨_, rfl⟩
  have HX0 : Hid (Box V1 (W.heap.size + 1) (.int .i64 0) (.int .i64 0) (.float .f64 0) (.string ⟨#[]⟩) (.slice none 0 0)) := hidb (by
    rw [← hV1]
    have := Box.new (W.alloc (.cells #[.string nm, .slice a L c, noneF] CT)) 25 (.int .i64 0) (.int .i64 0) (.float .f64 0) (.string ⟨#[]⟩) (.slice none 0 0)
    simpa using this)
  have HBW : Hid (Below W.heap.size W V1) := hidb (by rw [← hV1]; exact (below_new W _).alloc (by simp) _)
  have HZ : Hid (V1.heap.size = W.heap.size + 1 + 1) := hidb (by rw [← hV1]; simp)
  have HV1 := hidb hV1
  obtain ⟨PP, hPP⟩ : ∃ PP : Ending → World → Prop, Tld P E w.heap.size W = PP := ⟨_, rfl⟩
  have HPP := hidb hPP
  rw [hPP]
  generalize decide (t.kd ∈ ([1, 2] : List Int)) = D at *
  clear hin hP hW hV1 hPP
  go_enter Tryz.func58, Tryz.ntmps58
  go_wp2_with fail
  rw [HV1.out]
  refine (HO.out _ (HBW.out.trans ((below_new V1 _).mono HBW.out.size)) _ 2 (fun i k h => ?_)).mono ?_
  · rw [← HZ.out, World.cell?_alloc_new]
    rcases i with _ | i
    · simp at h ⊢; exact h
    · rcases i with _ | i
      · simp at h ⊢; exact h
      · simp at h
  rintro e w3 ⟨rfl, hb3⟩
  have HB3 := hidb ((HBW.out.trans ((below_new V1 _).mono HBW.out.size)).trans (hb3.mono (by have := HBW.out.size; simp; omega)))
  have HX3 := hidb ((HX0.out.keep (below_new V1 _)).keep hb3)
  obtain ⟨⟨x0, x1, x2, x3, x4⟩, ⟨y0, y1, y2, y3, y4⟩, xl⟩ := Box.six HX3.out
  clear hb3
  obtain ⟨S, hS⟩ : ∃ S, (bolT D).val = .agg #[.int .i64 3, .int .i64 0, .float .f64 0, .string S, .slice none 0 0] := ⟨_, rfl⟩
  rw [hS]
  have HS := hidb hS
  clear hS
  go_wp2_with fail
  have bx9 := HX3.out.set (.int .i64 3) (.int .i64 0) (.float .f64 0) (.string S) (.slice none 0 0)
  obtain ⟨⟨k0, k1', k2, k3, k4⟩, -, -⟩ := Box.six bx9
  simp only [set5] at k0 k1' k2 k3 k4
  refine bodyPost_ret (v := (bolT D).val) (by rw [HS.out]; simp [results, Tryz.results58, go_sem, k0, k1', k2, k3, k4]) rfl ?_
  rw [← HPP.out]
  exact tld_bool HP.out (((((HB3.out.setCell (by simp) _).setCell (by simp) _).setCell (by simp) _).setCell (by simp) _).setCell (by simp) _)

set_option maxHeartbeats 8000000 in
set_option maxRecDepth 100000 in
theorem isList_tc {w : World} {a : Option Addr} {c : Nat} {t : Tr} {rest : List Tr} {nm : ByteArray} {P : Tr → Prop} {E : Int → Prop} (hin : ArgsIn w a c (t :: rest)) (hP : P (bolT (decide (t.kd ∈ ([8] : List Int))))) :
    TC 59 P E (.agg #[.string nm, .slice a (t :: rest).length c, noneF]) w := by
  refine ⟨fun args w => by kernel_rfl, fun W hW => ?_⟩
  have HO := hidb (fun W1 (hb : Below W.heap.size W W1) kb cap (hk : ∀ (i : Nat) (k : Int), ([8] : List Int)[i]? = some k → W1.cell? ⟨kb, i, none⟩ = some (.int .i64 k)) => isOf_any (cap := cap) (nm := nm) (in_below (hW.trans (hb.mono hW.size)) hin) hk (by simp))
  have HP := hidb hP
  generalize (t :: rest).length = L at *
  obtain ⟨V1, hV1⟩ : ∃ V1, ((W.alloc (.cells #[.string nm, .slice a L c, noneF] CT)).alloc (.cells #[.int .i64 0, .int .i64 0, .float .f64 0, .string ⟨#[]⟩, .slice none 0 0] 25)) = V1 := ⟨_, rfl⟩
  have HX0 : Hid (Box V1 (W.heap.size + 1) (.int .i64 0) (.int .i64 0) (.float .f64 0) (.string ⟨#[]⟩) (.slice none 0 0)) := hidb (by
    rw [← hV1]
    have := Box.new (W.alloc (.cells #[.string nm, .slice a L c, noneF] CT)) 25 (.int .i64 0) (.int .i64 0) (.float .f64 0) (.string ⟨#[]⟩) (.slice none 0 0)
    simpa using this)
  have HBW : Hid (Below W.heap.size W V1) := hidb (by rw [← hV1]; exact (below_new W _).alloc (by simp) _)
  have HZ : Hid (V1.heap.size = W.heap.size + 1 + 1) := hidb (by rw [← hV1]; simp)
  have HV1 := hidb hV1
  obtain ⟨PP, hPP⟩ : ∃ PP : Ending → World → Prop, Tld P E w.heap.size W = PP := ⟨_, rfl⟩
  have HPP := hidb hPP
  rw [hPP]
  generalize decide (t.kd ∈ ([8] : List Int)) = D at *
  clear hin hP hW hV1 hPP
  go_enter Tryz.func59, Tryz.ntmps59
  go_wp2_with fail
  rw [HV1.out]
  refine (HO.out _ (HBW.out.trans ((below_new V1 _).mono HBW.out.size)) _ 1 (fun i k h => ?_)).mono ?_
  · rw [← HZ.out, World.cell?_alloc_new]
    rcases i with _ | i
    · simp at h ⊢; exact h
    · simp at h
  rintro e w3 ⟨rfl, hb3⟩
  have HB3 := hidb ((HBW.out.trans ((below_new V1 _).mono HBW.out.size)).trans (hb3.mono (by have := HBW.out.size; simp; omega)))
  have HX3 := hidb ((HX0.out.keep (below_new V1 _)).keep hb3)
  obtain ⟨⟨x0, x1, x2, x3, x4⟩, ⟨y0, y1, y2, y3, y4⟩, xl⟩ := Box.six HX3.out
  clear hb3
  obtain ⟨S, hS⟩ : ∃ S, (bolT D).val = .agg #[.int .i64 3, .int .i64 0, .float .f64 0, .string S, .slice none 0 0] := ⟨_, rfl⟩
  rw [hS]
  have HS := hidb hS
  clear hS
  go_wp2_with fail
  have bx9 := HX3.out.set (.int .i64 3) (.int .i64 0) (.float .f64 0) (.string S) (.slice none 0 0)
  obtain ⟨⟨k0, k1', k2, k3, k4⟩, -, -⟩ := Box.six bx9
  simp only [set5] at k0 k1' k2 k3 k4
  refine bodyPost_ret (v := (bolT D).val) (by rw [HS.out]; simp [results, Tryz.results59, go_sem, k0, k1', k2, k3, k4]) rfl ?_
  rw [← HPP.out]
  exact tld_bool HP.out (((((HB3.out.setCell (by simp) _).setCell (by simp) _).setCell (by simp) _).setCell (by simp) _).setCell (by simp) _)

set_option maxHeartbeats 8000000 in
set_option maxRecDepth 100000 in
theorem isTuple_tc {w : World} {a : Option Addr} {c : Nat} {t : Tr} {rest : List Tr} {nm : ByteArray} {P : Tr → Prop} {E : Int → Prop} (hin : ArgsIn w a c (t :: rest)) (hP : P (bolT (decide (t.kd ∈ ([7] : List Int))))) :
    TC 60 P E (.agg #[.string nm, .slice a (t :: rest).length c, noneF]) w := by
  refine ⟨fun args w => by kernel_rfl, fun W hW => ?_⟩
  have HO := hidb (fun W1 (hb : Below W.heap.size W W1) kb cap (hk : ∀ (i : Nat) (k : Int), ([7] : List Int)[i]? = some k → W1.cell? ⟨kb, i, none⟩ = some (.int .i64 k)) => isOf_any (cap := cap) (nm := nm) (in_below (hW.trans (hb.mono hW.size)) hin) hk (by simp))
  have HP := hidb hP
  generalize (t :: rest).length = L at *
  obtain ⟨V1, hV1⟩ : ∃ V1, ((W.alloc (.cells #[.string nm, .slice a L c, noneF] CT)).alloc (.cells #[.int .i64 0, .int .i64 0, .float .f64 0, .string ⟨#[]⟩, .slice none 0 0] 25)) = V1 := ⟨_, rfl⟩
  have HX0 : Hid (Box V1 (W.heap.size + 1) (.int .i64 0) (.int .i64 0) (.float .f64 0) (.string ⟨#[]⟩) (.slice none 0 0)) := hidb (by
    rw [← hV1]
    have := Box.new (W.alloc (.cells #[.string nm, .slice a L c, noneF] CT)) 25 (.int .i64 0) (.int .i64 0) (.float .f64 0) (.string ⟨#[]⟩) (.slice none 0 0)
    simpa using this)
  have HBW : Hid (Below W.heap.size W V1) := hidb (by rw [← hV1]; exact (below_new W _).alloc (by simp) _)
  have HZ : Hid (V1.heap.size = W.heap.size + 1 + 1) := hidb (by rw [← hV1]; simp)
  have HV1 := hidb hV1
  obtain ⟨PP, hPP⟩ : ∃ PP : Ending → World → Prop, Tld P E w.heap.size W = PP := ⟨_, rfl⟩
  have HPP := hidb hPP
  rw [hPP]
  generalize decide (t.kd ∈ ([7] : List Int)) = D at *
  clear hin hP hW hV1 hPP
  go_enter Tryz.func60, Tryz.ntmps60
  go_wp2_with fail
  rw [HV1.out]
  refine (HO.out _ (HBW.out.trans ((below_new V1 _).mono HBW.out.size)) _ 1 (fun i k h => ?_)).mono ?_
  · rw [← HZ.out, World.cell?_alloc_new]
    rcases i with _ | i
    · simp at h ⊢; exact h
    · simp at h
  rintro e w3 ⟨rfl, hb3⟩
  have HB3 := hidb ((HBW.out.trans ((below_new V1 _).mono HBW.out.size)).trans (hb3.mono (by have := HBW.out.size; simp; omega)))
  have HX3 := hidb ((HX0.out.keep (below_new V1 _)).keep hb3)
  obtain ⟨⟨x0, x1, x2, x3, x4⟩, ⟨y0, y1, y2, y3, y4⟩, xl⟩ := Box.six HX3.out
  clear hb3
  obtain ⟨S, hS⟩ : ∃ S, (bolT D).val = .agg #[.int .i64 3, .int .i64 0, .float .f64 0, .string S, .slice none 0 0] := ⟨_, rfl⟩
  rw [hS]
  have HS := hidb hS
  clear hS
  go_wp2_with fail
  have bx9 := HX3.out.set (.int .i64 3) (.int .i64 0) (.float .f64 0) (.string S) (.slice none 0 0)
  obtain ⟨⟨k0, k1', k2, k3, k4⟩, -, -⟩ := Box.six bx9
  simp only [set5] at k0 k1' k2 k3 k4
  refine bodyPost_ret (v := (bolT D).val) (by rw [HS.out]; simp [results, Tryz.results60, go_sem, k0, k1', k2, k3, k4]) rfl ?_
  rw [← HPP.out]
  exact tld_bool HP.out (((((HB3.out.setCell (by simp) _).setCell (by simp) _).setCell (by simp) _).setCell (by simp) _).setCell (by simp) _)

set_option maxHeartbeats 8000000 in
set_option maxRecDepth 100000 in
theorem isPid_tc {w : World} {a : Option Addr} {c : Nat} {t : Tr} {rest : List Tr} {nm : ByteArray} {P : Tr → Prop} {E : Int → Prop} (hin : ArgsIn w a c (t :: rest)) (hP : P (bolT (decide (t.kd ∈ ([6] : List Int))))) :
    TC 61 P E (.agg #[.string nm, .slice a (t :: rest).length c, noneF]) w := by
  refine ⟨fun args w => by kernel_rfl, fun W hW => ?_⟩
  have HO := hidb (fun W1 (hb : Below W.heap.size W W1) kb cap (hk : ∀ (i : Nat) (k : Int), ([6] : List Int)[i]? = some k → W1.cell? ⟨kb, i, none⟩ = some (.int .i64 k)) => isOf_any (cap := cap) (nm := nm) (in_below (hW.trans (hb.mono hW.size)) hin) hk (by simp))
  have HP := hidb hP
  generalize (t :: rest).length = L at *
  obtain ⟨V1, hV1⟩ : ∃ V1, ((W.alloc (.cells #[.string nm, .slice a L c, noneF] CT)).alloc (.cells #[.int .i64 0, .int .i64 0, .float .f64 0, .string ⟨#[]⟩, .slice none 0 0] 25)) = V1 := ⟨_, rfl⟩
  have HX0 : Hid (Box V1 (W.heap.size + 1) (.int .i64 0) (.int .i64 0) (.float .f64 0) (.string ⟨#[]⟩) (.slice none 0 0)) := hidb (by
    rw [← hV1]
    have := Box.new (W.alloc (.cells #[.string nm, .slice a L c, noneF] CT)) 25 (.int .i64 0) (.int .i64 0) (.float .f64 0) (.string ⟨#[]⟩) (.slice none 0 0)
    simpa using this)
  have HBW : Hid (Below W.heap.size W V1) := hidb (by rw [← hV1]; exact (below_new W _).alloc (by simp) _)
  have HZ : Hid (V1.heap.size = W.heap.size + 1 + 1) := hidb (by rw [← hV1]; simp)
  have HV1 := hidb hV1
  obtain ⟨PP, hPP⟩ : ∃ PP : Ending → World → Prop, Tld P E w.heap.size W = PP := ⟨_, rfl⟩
  have HPP := hidb hPP
  rw [hPP]
  generalize decide (t.kd ∈ ([6] : List Int)) = D at *
  clear hin hP hW hV1 hPP
  go_enter Tryz.func61, Tryz.ntmps61
  go_wp2_with fail
  rw [HV1.out]
  refine (HO.out _ (HBW.out.trans ((below_new V1 _).mono HBW.out.size)) _ 1 (fun i k h => ?_)).mono ?_
  · rw [← HZ.out, World.cell?_alloc_new]
    rcases i with _ | i
    · simp at h ⊢; exact h
    · simp at h
  rintro e w3 ⟨rfl, hb3⟩
  have HB3 := hidb ((HBW.out.trans ((below_new V1 _).mono HBW.out.size)).trans (hb3.mono (by have := HBW.out.size; simp; omega)))
  have HX3 := hidb ((HX0.out.keep (below_new V1 _)).keep hb3)
  obtain ⟨⟨x0, x1, x2, x3, x4⟩, ⟨y0, y1, y2, y3, y4⟩, xl⟩ := Box.six HX3.out
  clear hb3
  obtain ⟨S, hS⟩ : ∃ S, (bolT D).val = .agg #[.int .i64 3, .int .i64 0, .float .f64 0, .string S, .slice none 0 0] := ⟨_, rfl⟩
  rw [hS]
  have HS := hidb hS
  clear hS
  go_wp2_with fail
  have bx9 := HX3.out.set (.int .i64 3) (.int .i64 0) (.float .f64 0) (.string S) (.slice none 0 0)
  obtain ⟨⟨k0, k1', k2, k3, k4⟩, -, -⟩ := Box.six bx9
  simp only [set5] at k0 k1' k2 k3 k4
  refine bodyPost_ret (v := (bolT D).val) (by rw [HS.out]; simp [results, Tryz.results61, go_sem, k0, k1', k2, k3, k4]) rfl ?_
  rw [← HPP.out]
  exact tld_bool HP.out (((((HB3.out.setCell (by simp) _).setCell (by simp) _).setCell (by simp) _).setCell (by simp) _).setCell (by simp) _)

set_option maxHeartbeats 8000000 in
set_option maxRecDepth 100000 in
theorem isReference_tc {w : World} {a : Option Addr} {c : Nat} {t : Tr} {rest : List Tr} {nm : ByteArray} {P : Tr → Prop} {E : Int → Prop} (hin : ArgsIn w a c (t :: rest)) (hP : P (bolT (decide (t.kd ∈ ([4] : List Int))))) :
    TC 62 P E (.agg #[.string nm, .slice a (t :: rest).length c, noneF]) w := by
  refine ⟨fun args w => by kernel_rfl, fun W hW => ?_⟩
  have HO := hidb (fun W1 (hb : Below W.heap.size W W1) kb cap (hk : ∀ (i : Nat) (k : Int), ([4] : List Int)[i]? = some k → W1.cell? ⟨kb, i, none⟩ = some (.int .i64 k)) => isOf_any (cap := cap) (nm := nm) (in_below (hW.trans (hb.mono hW.size)) hin) hk (by simp))
  have HP := hidb hP
  generalize (t :: rest).length = L at *
  obtain ⟨V1, hV1⟩ : ∃ V1, ((W.alloc (.cells #[.string nm, .slice a L c, noneF] CT)).alloc (.cells #[.int .i64 0, .int .i64 0, .float .f64 0, .string ⟨#[]⟩, .slice none 0 0] 25)) = V1 := ⟨_, rfl⟩
  have HX0 : Hid (Box V1 (W.heap.size + 1) (.int .i64 0) (.int .i64 0) (.float .f64 0) (.string ⟨#[]⟩) (.slice none 0 0)) := hidb (by
    rw [← hV1]
    have := Box.new (W.alloc (.cells #[.string nm, .slice a L c, noneF] CT)) 25 (.int .i64 0) (.int .i64 0) (.float .f64 0) (.string ⟨#[]⟩) (.slice none 0 0)
    simpa using this)
  have HBW : Hid (Below W.heap.size W V1) := hidb (by rw [← hV1]; exact (below_new W _).alloc (by simp) _)
  have HZ : Hid (V1.heap.size = W.heap.size + 1 + 1) := hidb (by rw [← hV1]; simp)
  have HV1 := hidb hV1
  obtain ⟨PP, hPP⟩ : ∃ PP : Ending → World → Prop, Tld P E w.heap.size W = PP := ⟨_, rfl⟩
  have HPP := hidb hPP
  rw [hPP]
  generalize decide (t.kd ∈ ([4] : List Int)) = D at *
  clear hin hP hW hV1 hPP
  go_enter Tryz.func62, Tryz.ntmps62
  go_wp2_with fail
  rw [HV1.out]
  refine (HO.out _ (HBW.out.trans ((below_new V1 _).mono HBW.out.size)) _ 1 (fun i k h => ?_)).mono ?_
  · rw [← HZ.out, World.cell?_alloc_new]
    rcases i with _ | i
    · simp at h ⊢; exact h
    · simp at h
  rintro e w3 ⟨rfl, hb3⟩
  have HB3 := hidb ((HBW.out.trans ((below_new V1 _).mono HBW.out.size)).trans (hb3.mono (by have := HBW.out.size; simp; omega)))
  have HX3 := hidb ((HX0.out.keep (below_new V1 _)).keep hb3)
  obtain ⟨⟨x0, x1, x2, x3, x4⟩, ⟨y0, y1, y2, y3, y4⟩, xl⟩ := Box.six HX3.out
  clear hb3
  obtain ⟨S, hS⟩ : ∃ S, (bolT D).val = .agg #[.int .i64 3, .int .i64 0, .float .f64 0, .string S, .slice none 0 0] := ⟨_, rfl⟩
  rw [hS]
  have HS := hidb hS
  clear hS
  go_wp2_with fail
  have bx9 := HX3.out.set (.int .i64 3) (.int .i64 0) (.float .f64 0) (.string S) (.slice none 0 0)
  obtain ⟨⟨k0, k1', k2, k3, k4⟩, -, -⟩ := Box.six bx9
  simp only [set5] at k0 k1' k2 k3 k4
  refine bodyPost_ret (v := (bolT D).val) (by rw [HS.out]; simp [results, Tryz.results62, go_sem, k0, k1', k2, k3, k4]) rfl ?_
  rw [← HPP.out]
  exact tld_bool HP.out (((((HB3.out.setCell (by simp) _).setCell (by simp) _).setCell (by simp) _).setCell (by simp) _).setCell (by simp) _)

set_option maxHeartbeats 8000000 in
set_option maxRecDepth 100000 in
theorem isFunction_tc {w : World} {a : Option Addr} {c : Nat} {t : Tr} {rest : List Tr} {nm : ByteArray} {P : Tr → Prop} {E : Int → Prop} (hin : ArgsIn w a c (t :: rest)) (hP : P (bolT (decide (t.kd ∈ ([5] : List Int))))) :
    TC 63 P E (.agg #[.string nm, .slice a (t :: rest).length c, noneF]) w := by
  refine ⟨fun args w => by kernel_rfl, fun W hW => ?_⟩
  have HO := hidb (fun W1 (hb : Below W.heap.size W W1) kb cap (hk : ∀ (i : Nat) (k : Int), ([5] : List Int)[i]? = some k → W1.cell? ⟨kb, i, none⟩ = some (.int .i64 k)) => isOf_any (cap := cap) (nm := nm) (in_below (hW.trans (hb.mono hW.size)) hin) hk (by simp))
  have HP := hidb hP
  generalize (t :: rest).length = L at *
  obtain ⟨V1, hV1⟩ : ∃ V1, ((W.alloc (.cells #[.string nm, .slice a L c, noneF] CT)).alloc (.cells #[.int .i64 0, .int .i64 0, .float .f64 0, .string ⟨#[]⟩, .slice none 0 0] 25)) = V1 := ⟨_, rfl⟩
  have HX0 : Hid (Box V1 (W.heap.size + 1) (.int .i64 0) (.int .i64 0) (.float .f64 0) (.string ⟨#[]⟩) (.slice none 0 0)) := hidb (by
    rw [← hV1]
    have := Box.new (W.alloc (.cells #[.string nm, .slice a L c, noneF] CT)) 25 (.int .i64 0) (.int .i64 0) (.float .f64 0) (.string ⟨#[]⟩) (.slice none 0 0)
    simpa using this)
  have HBW : Hid (Below W.heap.size W V1) := hidb (by rw [← hV1]; exact (below_new W _).alloc (by simp) _)
  have HZ : Hid (V1.heap.size = W.heap.size + 1 + 1) := hidb (by rw [← hV1]; simp)
  have HV1 := hidb hV1
  obtain ⟨PP, hPP⟩ : ∃ PP : Ending → World → Prop, Tld P E w.heap.size W = PP := ⟨_, rfl⟩
  have HPP := hidb hPP
  rw [hPP]
  generalize decide (t.kd ∈ ([5] : List Int)) = D at *
  clear hin hP hW hV1 hPP
  go_enter Tryz.func63, Tryz.ntmps63
  go_wp2_with fail
  rw [HV1.out]
  refine (HO.out _ (HBW.out.trans ((below_new V1 _).mono HBW.out.size)) _ 1 (fun i k h => ?_)).mono ?_
  · rw [← HZ.out, World.cell?_alloc_new]
    rcases i with _ | i
    · simp at h ⊢; exact h
    · simp at h
  rintro e w3 ⟨rfl, hb3⟩
  have HB3 := hidb ((HBW.out.trans ((below_new V1 _).mono HBW.out.size)).trans (hb3.mono (by have := HBW.out.size; simp; omega)))
  have HX3 := hidb ((HX0.out.keep (below_new V1 _)).keep hb3)
  obtain ⟨⟨x0, x1, x2, x3, x4⟩, ⟨y0, y1, y2, y3, y4⟩, xl⟩ := Box.six HX3.out
  clear hb3
  obtain ⟨S, hS⟩ : ∃ S, (bolT D).val = .agg #[.int .i64 3, .int .i64 0, .float .f64 0, .string S, .slice none 0 0] := ⟨_, rfl⟩
  rw [hS]
  have HS := hidb hS
  clear hS
  go_wp2_with fail
  have bx9 := HX3.out.set (.int .i64 3) (.int .i64 0) (.float .f64 0) (.string S) (.slice none 0 0)
  obtain ⟨⟨k0, k1', k2, k3, k4⟩, -, -⟩ := Box.six bx9
  simp only [set5] at k0 k1' k2 k3 k4
  refine bodyPost_ret (v := (bolT D).val) (by rw [HS.out]; simp [results, Tryz.results63, go_sem, k0, k1', k2, k3, k4]) rfl ?_
  rw [← HPP.out]
  exact tld_bool HP.out (((((HB3.out.setCell (by simp) _).setCell (by simp) _).setCell (by simp) _).setCell (by simp) _).setCell (by simp) _)
end Go.Proofs.YtajadhkpadkikaaGreatDoor


/- isBoolean, not. -/
namespace Go.Proofs.YtajadhkpadkikaaGreatDoor
open Go.RowKit Go.Lib Go.Deep
attribute [local go_sem] store_float f64bits store_func store_nilFunc
attribute [local go_sem ↓] Go.wp_at_zero Go.wp_at_succ

/-- Is a term a boolean? -/
def isBol : Tr → Bool | .mk k _ _ s _ _ _ => decide (k = 3) && (decide (s = trueS) || decide (s = falseS))
theorem lit_ne {s t : ByteArray} {l : List UInt8} (ht : t.data.toList = l) (h : s ≠ t) : (s.toList == l) = false ∧ ¬ s.toList = l := by
  have : ¬ s.toList = l := fun e => h (btl_inj (by rw [e, ByteArray.toList_eq]; exact ht.symm))
  exact ⟨by simpa using this, this⟩

set_option maxHeartbeats 4000000 in
set_option maxRecDepth 100000 in
theorem isBool_any (t : Tr) (w : World) : Calls Tryz.prog 99 #[t.val] w fun e w' => e = .returned (.bool (isBol t)) ∧ Below w.heap.size w w' := by
  obtain ⟨k, n, f, s, a, c, ks⟩ := t
  simp only [Tr.val, Tr.cells]
  by_cases hk : k = 3
  · subst hk
    by_cases h1 : s = trueS
    · subst h1
      have hv : isBol (.mk 3 n f trueS a c ks) = true := by simp [isBol]
      rw [hv]
      go_enter Tryz.func99, Tryz.ntmps99
      go_wp2_with fail
      go_ret
      exact ⟨rfl, below_new _ _⟩
    · by_cases h2 : s = falseS
      · subst h2
        have hv : isBol (.mk 3 n f falseS a c ks) = true := by simp [isBol]
        rw [hv]
        go_enter Tryz.func99, Tryz.ntmps99
        go_wp2_with fail
        go_ret
        exact ⟨rfl, below_new _ _⟩
      · have hv : isBol (.mk 3 n f s a c ks) = false := by simp [isBol, h1, h2]
        rw [hv]
        obtain ⟨g1, g2⟩ := lit_ne (t := trueS) rfl h1
        obtain ⟨g3, g4⟩ := lit_ne (t := falseS) rfl h2
        clear h1 h2 hv
        go_enter Tryz.func99, Tryz.ntmps99
        go_wp2_with fail
        go_ret
        exact ⟨rfl, below_new _ _⟩
  · have hv : isBol (.mk k n f s a c ks) = false := by simp [isBol, hk]
    rw [hv]
    have hk' : (k == 3) = false := by simpa using hk
    clear hk hv
    go_enter Tryz.func99, Tryz.ntmps99
    go_wp2_with fail
    go_ret
    exact ⟨rfl, below_new _ _⟩
end Go.Proofs.YtajadhkpadkikaaGreatDoor


