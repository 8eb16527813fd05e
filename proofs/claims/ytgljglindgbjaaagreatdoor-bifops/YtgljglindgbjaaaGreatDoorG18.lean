import Derived.Test.YtgljglindgbjaaaGreatDoorG17
import Derived.ProofKit
import Derived.Test.YtgljglindgbjaaaGreatDoorG13
import Derived.BigQuiet
/- What builtins are made of: booleans, kinds. -/
namespace Go.Proofs.YtgljglindgbjaaaGreatDoor
open Go.RowKit Go.Lib Go.Deep
attribute [local go_sem] store_float f64bits store_func store_nilFunc
attribute [local go_sem ↓] Go.wp_at_zero Go.wp_at_succ

abbrev trueS : ByteArray := ⟨#[116, 114, 117, 101]⟩
abbrev falseS : ByteArray := ⟨#[102, 97, 108, 115, 101]⟩
def bolT (b : Bool) : Tr := .mk 3 0 0 (if b then trueS else falseS) none 0 []
theorem bolT_in (b : Bool) (w : World) (base : Nat) : (bolT b).In w base := by
  unfold bolT Tr.In
  refine ⟨⟨by decide, by decide, by decide, by cases b <;> (show _ ≤ maxLen; unfold maxLen; simp [ByteArray.size]), by simp, by simp, fun _ => rfl⟩, fun ad h => by simp at h⟩
theorem bolT_small (b : Bool) : Small (bolT b) ∧ cnT (bolT b) ≤ 1000000000 := by
  constructor
  · simp [bolT, Small, SmallAll]
  · simp [bolT, cnT, cnA]
theorem bolT_err (b : Bool) : errT (bolT b) = 0 := by cases b <;> kernel_rfl
theorem bolT_on (b : Bool) (S : Nat → Prop) : (bolT b).On S := by
  unfold bolT Tr.On
  exact ⟨fun h => by simp at h, by unfold Tr.OnAll; trivial⟩

theorem Box.six {w : World} {b : Nat} {v0 v1 v2 v3 v4 : Value} (h : Box w b v0 v1 v2 v3 v4) : (w.cell? ⟨b, 0, none⟩ = some v0 ∧ w.cell? ⟨b, 1, none⟩ = some v1 ∧ w.cell? ⟨b, 2, none⟩ = some v2 ∧ w.cell? ⟨b, 3, none⟩ = some v3 ∧ w.cell? ⟨b, 4, none⟩ = some v4) ∧ (w.frozen? ⟨b, 0, none⟩ = false ∧ w.frozen? ⟨b, 1, none⟩ = false ∧ w.frozen? ⟨b, 2, none⟩ = false ∧ w.frozen? ⟨b, 3, none⟩ = false ∧ w.frozen? ⟨b, 4, none⟩ = false) ∧ b < w.heap.size :=
  ⟨⟨h.c0, h.c1, h.c2, h.c3, h.c4⟩, ⟨h.f0, h.f1, h.f2, h.f3, h.f4⟩, h.lt⟩
set_option maxHeartbeats 2000000 in
set_option maxRecDepth 100000 in
theorem atomB_any (s : ByteArray) (w : World) : Calls Tryz.prog 127 #[.string s] w fun e w' => e = .returned (.agg #[.int .i64 3, .int .i64 0, .float .f64 0, .string s, .slice none 0 0]) ∧ Below w.heap.size w w' := by
  go_enter Tryz.func127, Tryz.ntmps127
  go_wp2_with fail
  exact bodyPost_ret (v := .agg #[.int .i64 3, .int .i64 0, .float .f64 0, .string s, .slice none 0 0]) (by simp [results, Tryz.results127, go_sem]) rfl ⟨rfl, below_new w _⟩
set_option maxHeartbeats 2000000 in
set_option maxRecDepth 100000 in
theorem boolean_any (b : Bool) (w : World) : Calls Tryz.prog 99 #[.bool b] w fun e w' => e = .returned (bolT b).val ∧ Below w.heap.size w w' := by
  have HX0 := hidb (Box.new w 27 (.int .i64 0) (.int .i64 0) (.float .f64 0) (.string ⟨#[]⟩) (.slice none 0 0))
  cases b
  · go_enter Tryz.func99, Tryz.ntmps99
    go_wp2_with (go_at_call 127; refine (atomB_any _ _).mono ?_; rintro e w1 ⟨rfl, hb⟩; have HB := hidb hb; have HX1 := hidb (HX0.out.keep hb); obtain ⟨⟨x0, x1, x2, x3, x4⟩, ⟨y0, y1, y2, y3, y4⟩, xl⟩ := Box.six HX1.out; clear hb)
    have bx9 := HX1.out.set (.int .i64 3) (.int .i64 0) (.float .f64 0) (.string falseS) (.slice none 0 0)
    obtain ⟨⟨k0, k1, k2, k3, k4⟩, -, -⟩ := Box.six bx9
    simp only [set5] at k0 k1 k2 k3 k4
    have hbW : Below w.heap.size w w1 := (below_new w _).trans (HB.out.mono (by simp))
    exact bodyPost_ret (v := (bolT false).val) (by simp [bolT, Tr.val, Tr.cells, results, Tryz.results99, go_sem, k0, k1, k2, k3, k4]) rfl ⟨rfl, (((((hbW.setCell (by simp) _).setCell (by simp) _).setCell (by simp) _).setCell (by simp) _).setCell (by simp) _)⟩
  · go_enter Tryz.func99, Tryz.ntmps99
    go_wp2_with (go_at_call 127; refine (atomB_any _ _).mono ?_; rintro e w1 ⟨rfl, hb⟩; have HB := hidb hb; have HX1 := hidb (HX0.out.keep hb); obtain ⟨⟨x0, x1, x2, x3, x4⟩, ⟨y0, y1, y2, y3, y4⟩, xl⟩ := Box.six HX1.out; clear hb)
    have bx9 := HX1.out.set (.int .i64 3) (.int .i64 0) (.float .f64 0) (.string trueS) (.slice none 0 0)
    obtain ⟨⟨k0, k1, k2, k3, k4⟩, -, -⟩ := Box.six bx9
    simp only [set5] at k0 k1 k2 k3 k4
    have hbW : Below w.heap.size w w1 := (below_new w _).trans (HB.out.mono (by simp))
    exact bodyPost_ret (v := (bolT true).val) (by simp [bolT, Tr.val, Tr.cells, results, Tryz.results99, go_sem, k0, k1, k2, k3, k4]) rfl ⟨rfl, (((((hbW.setCell (by simp) _).setCell (by simp) _).setCell (by simp) _).setCell (by simp) _).setCell (by simp) _)⟩

set_option maxHeartbeats 4000000 in
set_option maxRecDepth 100000 in
theorem index_any {w : World} {b cap : Nat} {ks : List Int} (hk : ∀ (i : Nat) (k : Int), ks[i]? = some k → w.cell? ⟨b, i, none⟩ = some (.int .i64 k)) (v : Int) (hl : ks.length ≤ 1000) :
    Calls Tryz.prog 185 #[.slice (some ⟨b, 0, none⟩) ks.length cap, .int .i64 v] w fun e w' => (∃ i : Int, e = .returned (.int .i64 i) ∧ -1 ≤ i ∧ (decide (0 ≤ i) = decide (v ∈ ks))) ∧ w' = w := by
  have HK := hidb hk
  have HL := hidb hl
  obtain ⟨N, hN⟩ : ∃ N, ks.length = N := ⟨_, rfl⟩
  have HN := hidb hN
  rw [hN]
  clear hk hl hN
  go_enter Tryz.func185, Tryz.ntmps185
  go_wp2_with fail
  go_loopw [8] (fun iv wr => ∃ i : Nat, i ≤ N ∧ iv = .int .i64 (i : Int) ∧ wr = w ∧ ∀ (j : Nat) (q : Int), j < i → ks[j]? = some q → q ≠ v) (fun iv _ => N - (RowKit.intOf iv).toNat)
  case atStart => exact ⟨0, by omega, rfl, rfl, fun j q hj => by omega⟩
  case round =>
  obtain ⟨i, hi, rfl, rfl, hno⟩ := hrel
  rename World => w
  have HO := hidb hno
  have HI := hidb hi
  clear hno hi
  by_cases hil : i < N
  · obtain ⟨k, hk⟩ : ∃ k, ks[i]? = some k := ⟨_, List.getElem?_eq_getElem (by have := HN.out; omega)⟩
    have z0 := HK.out i k hk
    have e1 : (i : Int) < (N : Int) := by omega
    have e2 : (0 : Int) ≤ (i : Int) := by omega
    have HE : Hid (wrap64 ((i : Int) + 1) = ((i + 1 : Nat) : Int)) := hidb (by have := HL.out; have := HN.out; unfold wrap64; omega)
    have HR := hidb hk
    clear hk
    by_cases hq : v = k
    · subst hq
      go_wp2_with fail
      go_ret
      refine ⟨⟨_, rfl, by omega, ?_⟩, rfl⟩
      have : v ∈ ks := List.mem_of_getElem? HR.out
      simp [this]
    · have hq' : (v == k) = false := by simpa using hq
      have HQ := hidb hq
      clear hq
      go_wp2_with fail
      go_roundw
      case rel => exact ⟨i + 1, by omega, by rw [HE.out], trivial, fun j q hj hjq => by
        by_cases e : j < i
        · exact HO.out j q e hjq
        · obtain rfl : j = i := by omega
          obtain rfl := Option.some.inj (HR.out.symm.trans hjq)
          exact fun h => HQ.out h.symm⟩
      case measure => rw [HE.out]; simp only [RowKit.intOf, Int.toNat_natCast]; omega
  · have e1 : ¬ (i : Int) < (N : Int) := by omega
    go_wp2_with fail
    go_ret
    refine ⟨⟨_, rfl, by omega, ?_⟩, rfl⟩
    have : ¬ v ∈ ks := fun h => by
      obtain ⟨j, hj⟩ := List.getElem?_of_mem h
      exact HO.out j v (by have := (List.getElem?_eq_some_iff.1 hj).1; have := HN.out; omega) hj rfl
    simp [this]

set_option maxHeartbeats 4000000 in
set_option maxRecDepth 100000 in
theorem contains_any {w : World} {b cap : Nat} {ks : List Int} (hk : ∀ (i : Nat) (k : Int), ks[i]? = some k → w.cell? ⟨b, i, none⟩ = some (.int .i64 k)) (v : Int) (hl : ks.length ≤ 1000) :
    Calls Tryz.prog 155 #[.slice (some ⟨b, 0, none⟩) ks.length cap, .int .i64 v] w fun e w' => e = .returned (.bool (decide (v ∈ ks))) ∧ w' = w := by
  have IX := hidb (index_any (cap := cap) hk v hl)
  generalize ks.length = N at *
  go_enter Tryz.func155, Tryz.ntmps155
  go_wp2_with fail
  refine IX.out.mono ?_
  rintro e w1 ⟨⟨i, rfl, h1, h2⟩, rfl⟩
  go_wp2_with fail
  go_ret
  exact ⟨by rw [← h2]; rfl, rfl⟩
end Go.Proofs.YtgljglindgbjaaaGreatDoor


/- term.Cmp and term.Same of 1 and 1.0. -/
namespace Go.Proofs.YtgljglindgbjaaaGreatDoor
open Go.RowKit Go.Lib Go.Deep
attribute [local go_sem] store_float f64bits
attribute [local go_sem ↓] Go.wp_at_zero Go.wp_at_succ

abbrev oneC : Array Value := #[.int .i64 1, .int .i64 1, .float .f64 0, .string ⟨#[]⟩, .slice none 0 0, .int .i64 2, .int .i64 0, .float .f64 4607182418800017408, .string ⟨#[]⟩, .slice none 0 0]
theorem flat5_get : ∀ (ts : List Tr) (j : Nat) (t : Tr), ts[j]? = some t → ∀ i, i < 5 → (ts.flatMap Tr.cells)[j * 5 + i]? = t.cells[i]?
  | [], j, t, h, _, _ => by simp at h
  | u :: r, 0, t, h, i, hi => by
    obtain rfl : u = t := by simpa using h
    rw [List.flatMap_cons, List.getElem?_append_left (by rw [cells_len]; omega)]
    simp
  | u :: r, j + 1, t, h, i, hi => by
    rw [List.flatMap_cons, List.getElem?_append_right (by rw [cells_len]; omega), cells_len, show (j + 1) * 5 + i - 5 = j * 5 + i by omega]
    exact flat5_get r j t (by simpa using h) i hi
/-- A row of terms that was just made. -/
theorem built_in (w : World) (ts : List Tr) (hts : ∀ t ∈ ts, t.In w 0) (tp : TypeId) (hl : ts.length ≤ 1000) : (Tr.mk 0 0 0 ⟨#[]⟩ (some ⟨w.heap.size, 0, none⟩) ts.length ts).In (w.alloc (.cells (ts.flatMap Tr.cells).toArray tp)) 0 := by
  unfold Tr.In
  refine ⟨⟨by decide, by decide, by decide, by show 0 ≤ maxLen; omega, Nat.le_refl _, by unfold maxLen; omega, fun h => by cases h⟩, fun ad had => ?_⟩
  obtain rfl : (⟨w.heap.size, 0, none⟩ : Addr) = ad := by simpa using had
  refine ⟨Nat.zero_le _, inAll_of fun j t hj => ⟨fun i hi => ?_, in_below (below_new w _) (hts t (List.mem_of_getElem? hj))⟩⟩
  have e : ((⟨w.heap.size, 0, none⟩ : Addr).add (j * 5)).add i = ⟨w.heap.size, j * 5 + i, none⟩ := by
    rw [add_add]; unfold Addr.add; split <;> simp_all
  rw [e, World.cell?_alloc_new]
  have := flat5_get ts j t hj i hi
  simpa using this
abbrev oneT : Tr := .mk 1 1 0 ⟨#[]⟩ none 0 []
abbrev oneFT : Tr := .mk 2 0 4607182418800017408 ⟨#[]⟩ none 0 []
theorem ones_in (w : World) (t : TypeId) : (Tr.mk 0 0 0 ⟨#[]⟩ (some ⟨w.heap.size, 0, none⟩) 2 [oneT, oneFT]).In (w.alloc (.cells oneC t)) 0 :=
  built_in w [oneT, oneFT] (fun t ht => by
    rcases List.mem_cons.1 ht with rfl | ht
    · exact (one_in w).1
    · obtain rfl : t = _ := by simpa using ht
      exact (one_in w).2) t (by simp)

theorem one_err : errT (Tr.mk 1 1 0 ⟨#[]⟩ none 0 []) = 0 := by simp [errT, meas, measAll, own, allT, allAll, goodT, rightB, whB, ByteArray.toList_eq]
theorem oneF_err : errT (Tr.mk 2 0 4607182418800017408 ⟨#[]⟩ none 0 []) = 0 := by simp [errT, meas, measAll, own, allT, allAll, goodT, rightB, Flt.fin, ByteArray.toList_eq]

set_option maxHeartbeats 1000000 in
set_option maxRecDepth 100000 in
theorem checkTwo (w : World) (t : TypeId) : Calls Tryz.prog 168 #[.slice (some ⟨w.heap.size, 0, none⟩) 2 2] (w.alloc (.cells oneC t)) fun e w' => e = .returned (.int .i64 0) ∧ Below (w.alloc (.cells oneC t)).heap.size (w.alloc (.cells oneC t)) w' := by
  have hin := ones_in w t
  generalize w.alloc (.cells oneC t) = V at *
  have h := checkAll_ok 0 0 0 ⟨#[]⟩ (some ⟨w.heap.size, 0, none⟩) 2 [oneT, oneFT] V hin (by simp [Small, SmallAll]) (fun u hu => by
    rcases List.mem_cons.1 hu with h | h
    · rw [h]; exact one_err
    · rw [List.mem_singleton.1 h]; exact oneF_err)
  have e : [oneT, oneFT].length = 2 := rfl
  rw [e] at h
  exact h

set_option maxHeartbeats 8000000 in
set_option maxRecDepth 100000 in
theorem cmp_one (w : World) : Calls Tryz.prog 148 #[one, oneF] w fun e w' => e = .returned (.tuple #[.int .i64 0, .int .i64 0]) ∧ Below w.heap.size w w' := by
  obtain ⟨V, hV⟩ : ∃ V, (w.alloc (.cells #[.int .i64 1, .int .i64 1, .float .f64 0, .string ⟨#[]⟩, .slice none 0 0] 27)).alloc (.cells #[.int .i64 2, .int .i64 0, .float .f64 4607182418800017408, .string ⟨#[]⟩, .slice none 0 0] 27) = V := ⟨_, rfl⟩
  have HBV : Hid (Below w.heap.size w V ∧ V.heap.size = w.heap.size + 1 + 1) := hidb (by rw [← hV]; exact ⟨(below_new w _).alloc (by simp) _, by simp⟩)
  have HB1 : Hid (Box V w.heap.size (.int .i64 1) (.int .i64 1) (.float .f64 0) (.string ⟨#[]⟩) (.slice none 0 0)) := hidb (by rw [← hV]; exact (Box.new w _ _ _ _ _ _).keep (below_new _ _))
  have HB2 : Hid (Box V (w.heap.size + 1) (.int .i64 2) (.int .i64 0) (.float .f64 4607182418800017408) (.string ⟨#[]⟩) (.slice none 0 0)) := hidb (by
    rw [← hV]
    have := Box.new (w.alloc (.cells #[.int .i64 1, .int .i64 1, .float .f64 0, .string ⟨#[]⟩, .slice none 0 0] 27)) 27 (.int .i64 2) (.int .i64 0) (.float .f64 4607182418800017408) (.string ⟨#[]⟩) (.slice none 0 0)
    simpa using this)
  have HV := hidb hV
  clear hV
  go_enter Tryz.func148, Tryz.ntmps148
  go_wp2_with fail
  rw [HV.out, ← HBV.out.2]
  refine (checkTwo V _).mono ?_
  rintro e w2 ⟨rfl, hb2⟩
  have HB3 := hidb ((below_new V _).trans (hb2.mono (by simp)))
  have HX1 := hidb (HB1.out.keep HB3.out)
  have HX2 := hidb (HB2.out.keep HB3.out)
  obtain ⟨⟨x0, x1, x2, x3, x4⟩, -, xl⟩ := Box.six HX1.out
  obtain ⟨⟨y0, y1, y2, y3, y4⟩, -, yl⟩ := Box.six HX2.out
  clear hb2
  go_wp2_with fail
  refine (compare_one _).mono ?_
  rintro e w4 ⟨rfl, hb4⟩
  have HB4 := hidb (HBV.out.1.trans ((HB3.out.trans (hb4.mono HB3.out.size)).mono HBV.out.1.size))
  clear hb4
  go_wp2_with fail
  go_ret2
  exact ⟨rfl, HB4.out⟩
set_option maxHeartbeats 8000000 in
set_option maxRecDepth 100000 in
theorem same_one (w : World) : Calls Tryz.prog 149 #[one, oneF] w fun e w' => e = .returned (.tuple #[.bool false, .int .i64 0]) ∧ Below w.heap.size w w' := by
  have ID : Hid (∀ w, Calls Tryz.prog 177 #[one, oneF] w fun e w' => e = .returned (.bool false) ∧ Below w.heap.size w w') := hidb (fun w => by
    go_enter Tryz.func177, Tryz.ntmps177
    go_wp2_with fail
    go_big_quiet (fail)
    go_wp2_with fail
    go_ret
    exact ⟨rfl, below_drewN ((below_new w _).alloc (by simp) _) _⟩)
  obtain ⟨V, hV⟩ : ∃ V, (w.alloc (.cells #[.int .i64 1, .int .i64 1, .float .f64 0, .string ⟨#[]⟩, .slice none 0 0] 27)).alloc (.cells #[.int .i64 2, .int .i64 0, .float .f64 4607182418800017408, .string ⟨#[]⟩, .slice none 0 0] 27) = V := ⟨_, rfl⟩
  have HBV : Hid (Below w.heap.size w V ∧ V.heap.size = w.heap.size + 1 + 1) := hidb (by rw [← hV]; exact ⟨(below_new w _).alloc (by simp) _, by simp⟩)
  have HB1 : Hid (Box V w.heap.size (.int .i64 1) (.int .i64 1) (.float .f64 0) (.string ⟨#[]⟩) (.slice none 0 0)) := hidb (by rw [← hV]; exact (Box.new w _ _ _ _ _ _).keep (below_new _ _))
  have HB2 : Hid (Box V (w.heap.size + 1) (.int .i64 2) (.int .i64 0) (.float .f64 4607182418800017408) (.string ⟨#[]⟩) (.slice none 0 0)) := hidb (by
    rw [← hV]
    have := Box.new (w.alloc (.cells #[.int .i64 1, .int .i64 1, .float .f64 0, .string ⟨#[]⟩, .slice none 0 0] 27)) 27 (.int .i64 2) (.int .i64 0) (.float .f64 4607182418800017408) (.string ⟨#[]⟩) (.slice none 0 0)
    simpa using this)
  have HV := hidb hV
  clear hV
  go_enter Tryz.func149, Tryz.ntmps149
  go_wp2_with fail
  rw [HV.out, ← HBV.out.2]
  refine (checkTwo V _).mono ?_
  rintro e w2 ⟨rfl, hb2⟩
  have HB3 := hidb ((below_new V _).trans (hb2.mono (by simp)))
  have HX1 := hidb (HB1.out.keep HB3.out)
  have HX2 := hidb (HB2.out.keep HB3.out)
  obtain ⟨⟨x0, x1, x2, x3, x4⟩, -, xl⟩ := Box.six HX1.out
  obtain ⟨⟨y0, y1, y2, y3, y4⟩, -, yl⟩ := Box.six HX2.out
  clear hb2
  go_wp2_with fail
  refine (ID.out _).mono ?_
  rintro e w4 ⟨rfl, hb4⟩
  have HB4 := hidb (HBV.out.1.trans ((HB3.out.trans (hb4.mono HB3.out.size)).mono HBV.out.1.size))
  clear hb4
  go_wp2_with fail
  go_ret2
  exact ⟨rfl, HB4.out⟩
end Go.Proofs.YtgljglindgbjaaaGreatDoor


/- The kinds' tests, isBoolean, not. -/
namespace Go.Proofs.YtgljglindgbjaaaGreatDoor
open Go.RowKit Go.Lib Go.Deep
attribute [local go_sem] store_float f64bits store_func store_nilFunc
attribute [local go_sem ↓] Go.wp_at_zero Go.wp_at_succ

def Tr.kd : Tr → Int | .mk k _ _ _ _ _ _ => k
/-- Arguments in memory. -/
abbrev ArgsIn (w : World) (a : Option Addr) (c : Nat) (kids : List Tr) : Prop := (Tr.mk 0 0 0 ⟨#[]⟩ a c kids).In w 0
abbrev noneF : Value := .func (.func 11) #[] #[]

theorem tld_bool {E : Int → Prop} {B : Nat} {w : World} {b : Bool} {P : Tr → Prop} (hP : P (bolT b)) {w' : World} (hb : Below w.heap.size w w') : Tld P E B w (.returned (bolT b).val) w' :=
  ⟨hb, .inl ⟨bolT b, rfl, hP, bolT_in b w' 0, bolT_on b _, (bolT_small b).1, (bolT_small b).2⟩⟩

set_option maxHeartbeats 8000000 in
set_option maxRecDepth 100000 in
theorem isOf_any {w : World} {a : Option Addr} {c kb cap : Nat} {t : Tr} {rest : List Tr} {nm : ByteArray} {ks : List Int} (hin : ArgsIn w a c (t :: rest)) (hk : ∀ (i : Nat) (k : Int), ks[i]? = some k → w.cell? ⟨kb, i, none⟩ = some (.int .i64 k)) (hl : ks.length ≤ 1000) :
    Calls Tryz.prog 121 #[.agg #[.string nm, .slice a (t :: rest).length c, noneF], .slice (some ⟨kb, 0, none⟩) ks.length cap] w fun e w' => e = .returned (bolT (decide (t.kd ∈ ks))).val ∧ Below w.heap.size w w' := by
  obtain ⟨b, o, rfl, hat⟩ := kid_at hin (by simp)
  obtain ⟨k1, n1, f1, s1, a1, c1, ks1, hu1, hin3, v0, v1, v2, v3, v4⟩ := hat 0 (by simp)
  obtain rfl : t = .mk k1 n1 f1 s1 a1 c1 ks1 := by simpa using hu1
  have hlb : b < w.heap.size := World.block_lt_of_cell? _ _ v0
  have v0' : w.cell? ⟨b, o, none⟩ = some (.int .i64 k1) := by simpa using v0
  have CN : Hid (∀ W, Below w.heap.size w W → Calls Tryz.prog 155 #[.slice (some ⟨kb, 0, none⟩) ks.length cap, .int .i64 k1] W fun e w' => e = .returned (.bool (decide (k1 ∈ ks))) ∧ w' = W) := hidb (fun W hW => contains_any (fun i k h => (hW.cell (p := ⟨kb, i, none⟩) (World.block_lt_of_cell? _ _ (hk i k h))).trans (hk i k h)) k1 hl)
  have hlen : (0 : Int) < (((Tr.mk k1 n1 f1 s1 a1 c1 ks1) :: rest).length : Int) := by simp
  generalize ((Tr.mk k1 n1 f1 s1 a1 c1 ks1) :: rest).length = L at *
  generalize ks.length = KL at *
  show Calls _ _ _ _ (fun e w' => e = .returned (bolT (decide (k1 ∈ ks))).val ∧ Below w.heap.size w w')
  generalize decide (k1 ∈ ks) = D at *
  clear hin hk hl hat hu1 hin3 v0 v1 v2 v3 v4
  have HX0 : Hid (Box ((w.alloc (.cells #[.string nm, .slice (some ⟨b, o, none⟩) L c, noneF] CT)).alloc (.cells #[.int .i64 0, .int .i64 0, .float .f64 0, .string ⟨#[]⟩, .slice none 0 0] 27)) (w.heap.size + 1) (.int .i64 0) (.int .i64 0) (.float .f64 0) (.string ⟨#[]⟩) (.slice none 0 0)) := hidb (by
    have := Box.new (w.alloc (.cells #[.string nm, .slice (some ⟨b, o, none⟩) L c, noneF] CT)) 27 (.int .i64 0) (.int .i64 0) (.float .f64 0) (.string ⟨#[]⟩) (.slice none 0 0)
    simpa using this)
  have HBW : Hid (Below w.heap.size w ((w.alloc (.cells #[.string nm, .slice (some ⟨b, o, none⟩) L c, noneF] CT)).alloc (.cells #[.int .i64 0, .int .i64 0, .float .f64 0, .string ⟨#[]⟩, .slice none 0 0] 27))) := hidb ((below_new w _).alloc (by simp) _)
  go_enter Tryz.func121, Tryz.ntmps121
  go_wp2_with fail
  refine (CN.out _ HBW.out).mono ?_
  rintro e w2 ⟨rfl, rfl⟩
  go_wp2_with fail
  refine (boolean_any D _).mono ?_
  rintro e w3 ⟨rfl, hb3⟩
  have HB3 := hidb (HBW.out.trans (hb3.mono HBW.out.size))
  have HX3 := hidb (HX0.out.keep hb3)
  obtain ⟨⟨x0, x1, x2, x3, x4⟩, ⟨y0, y1, y2, y3, y4⟩, xl⟩ := Box.six HX3.out
  clear hb3
  obtain ⟨S, hS⟩ : ∃ S, (bolT D).val = .agg #[.int .i64 3, .int .i64 0, .float .f64 0, .string S, .slice none 0 0] := ⟨_, rfl⟩
  rw [hS]
  have HS := hidb hS
  clear hS
  go_wp2_with fail
  have bx9 := HX3.out.set (.int .i64 3) (.int .i64 0) (.float .f64 0) (.string S) (.slice none 0 0)
  obtain ⟨⟨k0, k1', k2, k3, k4⟩, -, -⟩ := Box.six bx9
  simp only [set5] at k0 k1' k2 k3 k4
  refine bodyPost_ret (v := (bolT D).val) (by rw [HS.out]; simp [results, Tryz.results121, go_sem, k0, k1', k2, k3, k4]) rfl ⟨rfl, (((((HB3.out.setCell (by simp) _).setCell (by simp) _).setCell (by simp) _).setCell (by simp) _).setCell (by simp) _)⟩

set_option maxHeartbeats 8000000 in
set_option maxRecDepth 100000 in
theorem isAtom_tc {w : World} {a : Option Addr} {c : Nat} {t : Tr} {rest : List Tr} {nm : ByteArray} {P : Tr → Prop} {E : Int → Prop} (hin : ArgsIn w a c (t :: rest)) (hP : P (bolT (decide (t.kd ∈ ([3] : List Int))))) :
    TC 64 P E (.agg #[.string nm, .slice a (t :: rest).length c, noneF]) w := by
  refine ⟨fun args w => by kernel_rfl, fun W hW => ?_⟩
  have HO := hidb (fun W1 (hb : Below W.heap.size W W1) kb cap (hk : ∀ (i : Nat) (k : Int), ([3] : List Int)[i]? = some k → W1.cell? ⟨kb, i, none⟩ = some (.int .i64 k)) => isOf_any (cap := cap) (nm := nm) (in_below (hW.trans (hb.mono hW.size)) hin) hk (by simp))
  have HP := hidb hP
  generalize (t :: rest).length = L at *
  obtain ⟨V1, hV1⟩ : ∃ V1, ((W.alloc (.cells #[.string nm, .slice a L c, noneF] CT)).alloc (.cells #[.int .i64 0, .int .i64 0, .float .f64 0, .string ⟨#[]⟩, .slice none 0 0] 27)) = V1 := ⟨_, rfl⟩
  have HX0 : Hid (Box V1 (W.heap.size + 1) (.int .i64 0) (.int .i64 0) (.float .f64 0) (.string ⟨#[]⟩) (.slice none 0 0)) := hidb (by
    rw [← hV1]
    have := Box.new (W.alloc (.cells #[.string nm, .slice a L c, noneF] CT)) 27 (.int .i64 0) (.int .i64 0) (.float .f64 0) (.string ⟨#[]⟩) (.slice none 0 0)
    simpa using this)
  have HBW : Hid (Below W.heap.size W V1) := hidb (by rw [← hV1]; exact (below_new W _).alloc (by simp) _)
  have HZ : Hid (V1.heap.size = W.heap.size + 1 + 1) := hidb (by rw [← hV1]; simp)
  have HV1 := hidb hV1
  obtain ⟨PP, hPP⟩ : ∃ PP : Ending → World → Prop, Tld P E w.heap.size W = PP := ⟨_, rfl⟩
  have HPP := hidb hPP
  rw [hPP]
  generalize decide (t.kd ∈ ([3] : List Int)) = D at *
  clear hin hP hW hV1 hPP
  go_enter Tryz.func64, Tryz.ntmps64
  go_wp2_with fail
  rw [HV1.out]
  refine (HO.out _ (HBW.out.trans ((below_new V1 _).mono HBW.out.size)) _ 1 (fun i k h => ?_)).mono ?_
  · rw [← HZ.out, World.cell?_alloc_new]
    rcases i with _ | i
    · simp at h ⊢; exact h
    · simp at h
  rintro e w3 ⟨rfl, hb3⟩
  have HB3 := hidb ((HBW.out.trans ((below_new V1 _).mono HBW.out.size)).trans (hb3.mono (by have := HBW.out.size; simp; omega)))
  have HX3 := hidb ((HX0.out.keep (below_new V1 _)).keep hb3)
  obtain ⟨⟨x0, x1, x2, x3, x4⟩, ⟨y0, y1, y2, y3, y4⟩, xl⟩ := Box.six HX3.out
  clear hb3
  obtain ⟨S, hS⟩ : ∃ S, (bolT D).val = .agg #[.int .i64 3, .int .i64 0, .float .f64 0, .string S, .slice none 0 0] := ⟨_, rfl⟩
  rw [hS]
  have HS := hidb hS
  clear hS
  go_wp2_with fail
  have bx9 := HX3.out.set (.int .i64 3) (.int .i64 0) (.float .f64 0) (.string S) (.slice none 0 0)
  obtain ⟨⟨k0, k1', k2, k3, k4⟩, -, -⟩ := Box.six bx9
  simp only [set5] at k0 k1' k2 k3 k4
  refine bodyPost_ret (v := (bolT D).val) (by rw [HS.out]; simp [results, Tryz.results64, go_sem, k0, k1', k2, k3, k4]) rfl ?_
  rw [← HPP.out]
  exact tld_bool HP.out (((((HB3.out.setCell (by simp) _).setCell (by simp) _).setCell (by simp) _).setCell (by simp) _).setCell (by simp) _)

set_option maxHeartbeats 8000000 in
set_option maxRecDepth 100000 in
theorem isInteger_tc {w : World} {a : Option Addr} {c : Nat} {t : Tr} {rest : List Tr} {nm : ByteArray} {P : Tr → Prop} {E : Int → Prop} (hin : ArgsIn w a c (t :: rest)) (hP : P (bolT (decide (t.kd ∈ ([1] : List Int))))) :
    TC 65 P E (.agg #[.string nm, .slice a (t :: rest).length c, noneF]) w := by
  refine ⟨fun args w => by kernel_rfl, fun W hW => ?_⟩
  have HO := hidb (fun W1 (hb : Below W.heap.size W W1) kb cap (hk : ∀ (i : Nat) (k : Int), ([1] : List Int)[i]? = some k → W1.cell? ⟨kb, i, none⟩ = some (.int .i64 k)) => isOf_any (cap := cap) (nm := nm) (in_below (hW.trans (hb.mono hW.size)) hin) hk (by simp))
  have HP := hidb hP
  generalize (t :: rest).length = L at *
  obtain ⟨V1, hV1⟩ : ∃ V1, ((W.alloc (.cells #[.string nm, .slice a L c, noneF] CT)).alloc (.cells #[.int .i64 0, .int .i64 0, .float .f64 0, .string ⟨#[]⟩, .slice none 0 0] 27)) = V1 := ⟨_, rfl⟩
  have HX0 : Hid (Box V1 (W.heap.size + 1) (.int .i64 0) (.int .i64 0) (.float .f64 0) (.string ⟨#[]⟩) (.slice none 0 0)) := hidb (by
    rw [← hV1]
    have := Box.new (W.alloc (.cells #[.string nm, .slice a L c, noneF] CT)) 27 (.int .i64 0) (.int .i64 0) (.float .f64 0) (.string ⟨#[]⟩) (.slice none 0 0)
    simpa using this)
  have HBW : Hid (Below W.heap.size W V1) := hidb (by rw [← hV1]; exact (below_new W _).alloc (by simp) _)
  have HZ : Hid (V1.heap.size = W.heap.size + 1 + 1) := hidb (by rw [← hV1]; simp)
  have HV1 := hidb hV1
  obtain ⟨PP, hPP⟩ : ∃ PP : Ending → World → Prop, Tld P E w.heap.size W = PP := ⟨_, rfl⟩
  have HPP := hidb hPP
  rw [hPP]
  generalize decide (t.kd ∈ ([1] : List Int)) = D at *
  clear hin hP hW hV1 hPP
  go_enter Tryz.func65, Tryz.ntmps65
  go_wp2_with fail
  rw [HV1.out]
  refine (HO.out _ (HBW.out.trans ((below_new V1 _).mono HBW.out.size)) _ 1 (fun i k h => ?_)).mono ?_
  · rw [← HZ.out, World.cell?_alloc_new]
    rcases i with _ | i
    · simp at h ⊢; exact h
    · simp at h
  rintro e w3 ⟨rfl, hb3⟩
  have HB3 := hidb ((HBW.out.trans ((below_new V1 _).mono HBW.out.size)).trans (hb3.mono (by have := HBW.out.size; simp; omega)))
  have HX3 := hidb ((HX0.out.keep (below_new V1 _)).keep hb3)
  obtain ⟨⟨x0, x1, x2, x3, x4⟩, ⟨y0, y1, y2, y3, y4⟩, xl⟩ := Box.six HX3.out
  clear hb3
  obtain ⟨S, hS⟩ : ∃ S, (bolT D).val = .agg #[.int .i64 3, .int .i64 0, .float .f64 0, .string S, .slice none 0 0] := ⟨_, rfl⟩
  rw [hS]
  have HS := hidb hS
  clear hS
  go_wp2_with fail
  have bx9 := HX3.out.set (.int .i64 3) (.int .i64 0) (.float .f64 0) (.string S) (.slice none 0 0)
  obtain ⟨⟨k0, k1', k2, k3, k4⟩, -, -⟩ := Box.six bx9
  simp only [set5] at k0 k1' k2 k3 k4
  refine bodyPost_ret (v := (bolT D).val) (by rw [HS.out]; simp [results, Tryz.results65, go_sem, k0, k1', k2, k3, k4]) rfl ?_
  rw [← HPP.out]
  exact tld_bool HP.out (((((HB3.out.setCell (by simp) _).setCell (by simp) _).setCell (by simp) _).setCell (by simp) _).setCell (by simp) _)

set_option maxHeartbeats 8000000 in
set_option maxRecDepth 100000 in
theorem isFloat_tc {w : World} {a : Option Addr} {c : Nat} {t : Tr} {rest : List Tr} {nm : ByteArray} {P : Tr → Prop} {E : Int → Prop} (hin : ArgsIn w a c (t :: rest)) (hP : P (bolT (decide (t.kd ∈ ([2] : List Int))))) :
    TC 66 P E (.agg #[.string nm, .slice a (t :: rest).length c, noneF]) w := by
  refine ⟨fun args w => by kernel_rfl, fun W hW => ?_⟩
  have HO := hidb (fun W1 (hb : Below W.heap.size W W1) kb cap (hk : ∀ (i : Nat) (k : Int), ([2] : List Int)[i]? = some k → W1.cell? ⟨kb, i, none⟩ = some (.int .i64 k)) => isOf_any (cap := cap) (nm := nm) (in_below (hW.trans (hb.mono hW.size)) hin) hk (by simp))
  have HP := hidb hP
  generalize (t :: rest).length = L at *
  obtain ⟨V1, hV1⟩ : ∃ V1, ((W.alloc (.cells #[.string nm, .slice a L c, noneF] CT)).alloc (.cells #[.int .i64 0, .int .i64 0, .float .f64 0, .string ⟨#[]⟩, .slice none 0 0] 27)) = V1 := ⟨_, rfl⟩
  have HX0 : Hid (Box V1 (W.heap.size + 1) (.int .i64 0) (.int .i64 0) (.float .f64 0) (.string ⟨#[]⟩) (.slice none 0 0)) := hidb (by
    rw [← hV1]
    have := Box.new (W.alloc (.cells #[.string nm, .slice a L c, noneF] CT)) 27 (.int .i64 0) (.int .i64 0) (.float .f64 0) (.string ⟨#[]⟩) (.slice none 0 0)
    simpa using this)
  have HBW : Hid (Below W.heap.size W V1) := hidb (by rw [← hV1]; exact (below_new W _).alloc (by simp) _)
  have HZ : Hid (V1.heap.size = W.heap.size + 1 + 1) := hidb (by rw [← hV1]; simp)
  have HV1 := hidb hV1
  obtain ⟨PP, hPP⟩ : ∃ PP : Ending → World → Prop, Tld P E w.heap.size W = PP := ⟨_, rfl⟩
  have HPP := hidb hPP
  rw [hPP]
  generalize decide (t.kd ∈ ([2] : List Int)) = D at *
  clear hin hP hW hV1 hPP
  go_enter Tryz.func66, Tryz.ntmps66
  go_wp2_with fail
  rw [HV1.out]
  refine (HO.out _ (HBW.out.trans ((below_new V1 _).mono HBW.out.size)) _ 1 (fun i k h => ?_)).mono ?_
  · rw [← HZ.out, World.cell?_alloc_new]
    rcases i with _ | i
    · simp at h ⊢; exact h
    · simp at h
  rintro e w3 ⟨rfl, hb3⟩
  have HB3 := hidb ((HBW.out.trans ((below_new V1 _).mono HBW.out.size)).trans (hb3.mono (by have := HBW.out.size; simp; omega)))
  have HX3 := hidb ((HX0.out.keep (below_new V1 _)).keep hb3)
  obtain ⟨⟨x0, x1, x2, x3, x4⟩, ⟨y0, y1, y2, y3, y4⟩, xl⟩ := Box.six HX3.out
  clear hb3
  obtain ⟨S, hS⟩ : ∃ S, (bolT D).val = .agg #[.int .i64 3, .int .i64 0, .float .f64 0, .string S, .slice none 0 0] := ⟨_, rfl⟩
  rw [hS]
  have HS := hidb hS
  clear hS
  go_wp2_with fail
  have bx9 := HX3.out.set (.int .i64 3) (.int .i64 0) (.float .f64 0) (.string S) (.slice none 0 0)
  obtain ⟨⟨k0, k1', k2, k3, k4⟩, -, -⟩ := Box.six bx9
  simp only [set5] at k0 k1' k2 k3 k4
  refine bodyPost_ret (v := (bolT D).val) (by rw [HS.out]; simp [results, Tryz.results66, go_sem, k0, k1', k2, k3, k4]) rfl ?_
  rw [← HPP.out]
  exact tld_bool HP.out (((((HB3.out.setCell (by simp) _).setCell (by simp) _).setCell (by simp) _).setCell (by simp) _).setCell (by simp) _)

set_option maxHeartbeats 8000000 in
set_option maxRecDepth 100000 in
theorem isNumber_tc {w : World} {a : Option Addr} {c : Nat} {t : Tr} {rest : List Tr} {nm : ByteArray} {P : Tr → Prop} {E : Int → Prop} (hin : ArgsIn w a c (t :: rest)) (hP : P (bolT (decide (t.kd ∈ ([1, 2] : List Int))))) :
    TC 67 P E (.agg #[.string nm, .slice a (t :: rest).length c, noneF]) w := by
  refine ⟨fun args w => by kernel_rfl, fun W hW => ?_⟩
  have HO := hidb (fun W1 (hb : Below W.heap.size W W1) kb cap (hk : ∀ (i : Nat) (k : Int), ([1, 2] : List Int)[i]? = some k → W1.cell? ⟨kb, i, none⟩ = some (.int .i64 k)) => isOf_any (cap := cap) (nm := nm) (in_below (hW.trans (hb.mono hW.size)) hin) hk (by simp))
  have HP := hidb hP
  generalize (t :: rest).length = L at *
  obtain ⟨V1, hV1⟩ : ∃ V1, ((W.alloc (.cells #[.string nm, .slice a L c, noneF] CT)).alloc (.cells #[.int .i64 0, .int .i64 0, .float .f64 0, .string ⟨#[]⟩, .slice none 0 0] 27)) = V1 := ⟨_, rfl⟩
  have HX0 : Hid (Box V1 (W.heap.size + 1) (.int .i64 0) (.int .i64 0) (.float .f64 0) (.string ⟨#[]⟩) (.slice none 0 0)) := hidb (by
    rw [← hV1]
    have := Box.new (W.alloc (.cells #[.string nm, .slice a L c, noneF] CT)) 27 (.int .i64 0) (.int .i64 0) (.float .f64 0) (.string ⟨#[]⟩) (.slice none 0 0)
    simpa using this)
  have HBW : Hid (Below W.heap.size W V1) := hidb (by rw [← hV1]; exact (below_new W _).alloc (by simp) _)
  have HZ : Hid (V1.heap.size = W.heap.size + 1 + 1) := hidb (by rw [← hV1]; simp)
  have HV1 := hidb hV1
  obtain ⟨PP, hPP⟩ : ∃ PP : Ending → World → Prop, Tld P E w.heap.size W = PP := ⟨_, rfl⟩
  have HPP := hidb hPP
  rw [hPP]
  generalize decide (t.kd ∈ ([1, 2] : List Int)) = D at *
  clear hin hP hW hV1 hPP
  go_enter Tryz.func67, Tryz.ntmps67
  go_wp2_with fail
  rw [HV1.out]
  refine (HO.out _ (HBW.out.trans ((below_new V1 _).mono HBW.out.size)) _ 2 (fun i k h => ?_)).mono ?_
  · rw [← HZ.out, World.cell?_alloc_new]
    rcases i with _ | i
    · simp at h ⊢; exact h
    · rcases i with _ | i
      · simp at h ⊢; exact h
      · simp at h
  rintro e w3 ⟨rfl, hb3⟩
  have HB3 := hidb ((HBW.out.trans ((below_new V1 _).mono HBW.out.size)).trans (hb3.mono (by have := HBW.out.size; simp; omega)))
  have HX3 := hidb ((HX0.out.keep (below_new V1 _)).keep hb3)
  obtain ⟨⟨x0, x1, x2, x3, x4⟩, ⟨y0, y1, y2, y3, y4⟩, xl⟩ := Box.six HX3.out
  clear hb3
  obtain ⟨S, hS⟩ : ∃ S, (bolT D).val = .agg #[.int .i64 3, .int .i64 0, .float .f64 0, .string S, .slice none 0 0] := ⟨_, rfl⟩
  rw [hS]
  have HS := hidb hS
  clear hS
  go_wp2_with fail
  have bx9 := HX3.out.set (.int .i64 3) (.int .i64 0) (.float .f64 0) (.string S) (.slice none 0 0)
  obtain ⟨⟨k0, k1', k2, k3, k4⟩, -, -⟩ := Box.six bx9
  simp only [set5] at k0 k1' k2 k3 k4
  refine bodyPost_ret (v := (bolT D).val) (by rw [HS.out]; simp [results, Tryz.results67, go_sem, k0, k1', k2, k3, k4]) rfl ?_
  rw [← HPP.out]
  exact tld_bool HP.out (((((HB3.out.setCell (by simp) _).setCell (by simp) _).setCell (by simp) _).setCell (by simp) _).setCell (by simp) _)

set_option maxHeartbeats 8000000 in
set_option maxRecDepth 100000 in
theorem isList_tc {w : World} {a : Option Addr} {c : Nat} {t : Tr} {rest : List Tr} {nm : ByteArray} {P : Tr → Prop} {E : Int → Prop} (hin : ArgsIn w a c (t :: rest)) (hP : P (bolT (decide (t.kd ∈ ([8] : List Int))))) :
    TC 68 P E (.agg #[.string nm, .slice a (t :: rest).length c, noneF]) w := by
  refine ⟨fun args w => by kernel_rfl, fun W hW => ?_⟩
  have HO := hidb (fun W1 (hb : Below W.heap.size W W1) kb cap (hk : ∀ (i : Nat) (k : Int), ([8] : List Int)[i]? = some k → W1.cell? ⟨kb, i, none⟩ = some (.int .i64 k)) => isOf_any (cap := cap) (nm := nm) (in_below (hW.trans (hb.mono hW.size)) hin) hk (by simp))
  have HP := hidb hP
  generalize (t :: rest).length = L at *
  obtain ⟨V1, hV1⟩ : ∃ V1, ((W.alloc (.cells #[.string nm, .slice a L c, noneF] CT)).alloc (.cells #[.int .i64 0, .int .i64 0, .float .f64 0, .string ⟨#[]⟩, .slice none 0 0] 27)) = V1 := ⟨_, rfl⟩
  have HX0 : Hid (Box V1 (W.heap.size + 1) (.int .i64 0) (.int .i64 0) (.float .f64 0) (.string ⟨#[]⟩) (.slice none 0 0)) := hidb (by
    rw [← hV1]
    have := Box.new (W.alloc (.cells #[.string nm, .slice a L c, noneF] CT)) 27 (.int .i64 0) (.int .i64 0) (.float .f64 0) (.string ⟨#[]⟩) (.slice none 0 0)
    simpa using this)
  have HBW : Hid (Below W.heap.size W V1) := hidb (by rw [← hV1]; exact (below_new W _).alloc (by simp) _)
  have HZ : Hid (V1.heap.size = W.heap.size + 1 + 1) := hidb (by rw [← hV1]; simp)
  have HV1 := hidb hV1
  obtain ⟨PP, hPP⟩ : ∃ PP : Ending → World → Prop, Tld P E w.heap.size W = PP := ⟨_, rfl⟩
  have HPP := hidb hPP
  rw [hPP]
  generalize decide (t.kd ∈ ([8] : List Int)) = D at *
  clear hin hP hW hV1 hPP
  go_enter Tryz.func68, Tryz.ntmps68
  go_wp2_with fail
  rw [HV1.out]
  refine (HO.out _ (HBW.out.trans ((below_new V1 _).mono HBW.out.size)) _ 1 (fun i k h => ?_)).mono ?_
  · rw [← HZ.out, World.cell?_alloc_new]
    rcases i with _ | i
    · simp at h ⊢; exact h
    · simp at h
  rintro e w3 ⟨rfl, hb3⟩
  have HB3 := hidb ((HBW.out.trans ((below_new V1 _).mono HBW.out.size)).trans (hb3.mono (by have := HBW.out.size; simp; omega)))
  have HX3 := hidb ((HX0.out.keep (below_new V1 _)).keep hb3)
  obtain ⟨⟨x0, x1, x2, x3, x4⟩, ⟨y0, y1, y2, y3, y4⟩, xl⟩ := Box.six HX3.out
  clear hb3
  obtain ⟨S, hS⟩ : ∃ S, (bolT D).val = .agg #[.int .i64 3, .int .i64 0, .float .f64 0, .string S, .slice none 0 0] := ⟨_, rfl⟩
  rw [hS]
  have HS := hidb hS
  clear hS
  go_wp2_with fail
  have bx9 := HX3.out.set (.int .i64 3) (.int .i64 0) (.float .f64 0) (.string S) (.slice none 0 0)
  obtain ⟨⟨k0, k1', k2, k3, k4⟩, -, -⟩ := Box.six bx9
  simp only [set5] at k0 k1' k2 k3 k4
  refine bodyPost_ret (v := (bolT D).val) (by rw [HS.out]; simp [results, Tryz.results68, go_sem, k0, k1', k2, k3, k4]) rfl ?_
  rw [← HPP.out]
  exact tld_bool HP.out (((((HB3.out.setCell (by simp) _).setCell (by simp) _).setCell (by simp) _).setCell (by simp) _).setCell (by simp) _)

set_option maxHeartbeats 8000000 in
set_option maxRecDepth 100000 in
theorem isTuple_tc {w : World} {a : Option Addr} {c : Nat} {t : Tr} {rest : List Tr} {nm : ByteArray} {P : Tr → Prop} {E : Int → Prop} (hin : ArgsIn w a c (t :: rest)) (hP : P (bolT (decide (t.kd ∈ ([7] : List Int))))) :
    TC 69 P E (.agg #[.string nm, .slice a (t :: rest).length c, noneF]) w := by
  refine ⟨fun args w => by kernel_rfl, fun W hW => ?_⟩
  have HO := hidb (fun W1 (hb : Below W.heap.size W W1) kb cap (hk : ∀ (i : Nat) (k : Int), ([7] : List Int)[i]? = some k → W1.cell? ⟨kb, i, none⟩ = some (.int .i64 k)) => isOf_any (cap := cap) (nm := nm) (in_below (hW.trans (hb.mono hW.size)) hin) hk (by simp))
  have HP := hidb hP
  generalize (t :: rest).length = L at *
  obtain ⟨V1, hV1⟩ : ∃ V1, ((W.alloc (.cells #[.string nm, .slice a L c, noneF] CT)).alloc (.cells #[.int .i64 0, .int .i64 0, .float .f64 0, .string ⟨#[]⟩, .slice none 0 0] 27)) = V1 := ⟨_, rfl⟩
  have HX0 : Hid (Box V1 (W.heap.size + 1) (.int .i64 0) (.int .i64 0) (.float .f64 0) (.string ⟨#[]⟩) (.slice none 0 0)) := hidb (by
    rw [← hV1]
    have := Box.new (W.alloc (.cells #[.string nm, .slice a L c, noneF] CT)) 27 (.int .i64 0) (.int .i64 0) (.float .f64 0) (.string ⟨#[]⟩) (.slice none 0 0)
    simpa using this)
  have HBW : Hid (Below W.heap.size W V1) := hidb (by rw [← hV1]; exact (below_new W _).alloc (by simp) _)
  have HZ : Hid (V1.heap.size = W.heap.size + 1 + 1) := hidb (by rw [← hV1]; simp)
  have HV1 := hidb hV1
  obtain ⟨PP, hPP⟩ : ∃ PP : Ending → World → Prop, Tld P E w.heap.size W = PP := ⟨_, rfl⟩
  have HPP := hidb hPP
  rw [hPP]
  generalize decide (t.kd ∈ ([7] : List Int)) = D at *
  clear hin hP hW hV1 hPP
  go_enter Tryz.func69, Tryz.ntmps69
  go_wp2_with fail
  rw [HV1.out]
  refine (HO.out _ (HBW.out.trans ((below_new V1 _).mono HBW.out.size)) _ 1 (fun i k h => ?_)).mono ?_
  · rw [← HZ.out, World.cell?_alloc_new]
    rcases i with _ | i
    · simp at h ⊢; exact h
    · simp at h
  rintro e w3 ⟨rfl, hb3⟩
  have HB3 := hidb ((HBW.out.trans ((below_new V1 _).mono HBW.out.size)).trans (hb3.mono (by have := HBW.out.size; simp; omega)))
  have HX3 := hidb ((HX0.out.keep (below_new V1 _)).keep hb3)
  obtain ⟨⟨x0, x1, x2, x3, x4⟩, ⟨y0, y1, y2, y3, y4⟩, xl⟩ := Box.six HX3.out
  clear hb3
  obtain ⟨S, hS⟩ : ∃ S, (bolT D).val = .agg #[.int .i64 3, .int .i64 0, .float .f64 0, .string S, .slice none 0 0] := ⟨_, rfl⟩
  rw [hS]
  have HS := hidb hS
  clear hS
  go_wp2_with fail
  have bx9 := HX3.out.set (.int .i64 3) (.int .i64 0) (.float .f64 0) (.string S) (.slice none 0 0)
  obtain ⟨⟨k0, k1', k2, k3, k4⟩, -, -⟩ := Box.six bx9
  simp only [set5] at k0 k1' k2 k3 k4
  refine bodyPost_ret (v := (bolT D).val) (by rw [HS.out]; simp [results, Tryz.results69, go_sem, k0, k1', k2, k3, k4]) rfl ?_
  rw [← HPP.out]
  exact tld_bool HP.out (((((HB3.out.setCell (by simp) _).setCell (by simp) _).setCell (by simp) _).setCell (by simp) _).setCell (by simp) _)

set_option maxHeartbeats 8000000 in
set_option maxRecDepth 100000 in
theorem isPid_tc {w : World} {a : Option Addr} {c : Nat} {t : Tr} {rest : List Tr} {nm : ByteArray} {P : Tr → Prop} {E : Int → Prop} (hin : ArgsIn w a c (t :: rest)) (hP : P (bolT (decide (t.kd ∈ ([6] : List Int))))) :
    TC 70 P E (.agg #[.string nm, .slice a (t :: rest).length c, noneF]) w := by
  refine ⟨fun args w => by kernel_rfl, fun W hW => ?_⟩
  have HO := hidb (fun W1 (hb : Below W.heap.size W W1) kb cap (hk : ∀ (i : Nat) (k : Int), ([6] : List Int)[i]? = some k → W1.cell? ⟨kb, i, none⟩ = some (.int .i64 k)) => isOf_any (cap := cap) (nm := nm) (in_below (hW.trans (hb.mono hW.size)) hin) hk (by simp))
  have HP := hidb hP
  generalize (t :: rest).length = L at *
  obtain ⟨V1, hV1⟩ : ∃ V1, ((W.alloc (.cells #[.string nm, .slice a L c, noneF] CT)).alloc (.cells #[.int .i64 0, .int .i64 0, .float .f64 0, .string ⟨#[]⟩, .slice none 0 0] 27)) = V1 := ⟨_, rfl⟩
  have HX0 : Hid (Box V1 (W.heap.size + 1) (.int .i64 0) (.int .i64 0) (.float .f64 0) (.string ⟨#[]⟩) (.slice none 0 0)) := hidb (by
    rw [← hV1]
    have := Box.new (W.alloc (.cells #[.string nm, .slice a L c, noneF] CT)) 27 (.int .i64 0) (.int .i64 0) (.float .f64 0) (.string ⟨#[]⟩) (.slice none 0 0)
    simpa using this)
  have HBW : Hid (Below W.heap.size W V1) := hidb (by rw [← hV1]; exact (below_new W _).alloc (by simp) _)
  have HZ : Hid (V1.heap.size = W.heap.size + 1 + 1) := hidb (by rw [← hV1]; simp)
  have HV1 := hidb hV1
  obtain ⟨PP, hPP⟩ : ∃ PP : Ending → World → Prop, Tld P E w.heap.size W = PP := ⟨_, rfl⟩
  have HPP := hidb hPP
  rw [hPP]
  generalize decide (t.kd ∈ ([6] : List Int)) = D at *
  clear hin hP hW hV1 hPP
  go_enter Tryz.func70, Tryz.ntmps70
  go_wp2_with fail
  rw [HV1.out]
  refine (HO.out _ (HBW.out.trans ((below_new V1 _).mono HBW.out.size)) _ 1 (fun i k h => ?_)).mono ?_
  · rw [← HZ.out, World.cell?_alloc_new]
    rcases i with _ | i
    · simp at h ⊢; exact h
    · simp at h
  rintro e w3 ⟨rfl, hb3⟩
  have HB3 := hidb ((HBW.out.trans ((below_new V1 _).mono HBW.out.size)).trans (hb3.mono (by have := HBW.out.size; simp; omega)))
  have HX3 := hidb ((HX0.out.keep (below_new V1 _)).keep hb3)
  obtain ⟨⟨x0, x1, x2, x3, x4⟩, ⟨y0, y1, y2, y3, y4⟩, xl⟩ := Box.six HX3.out
  clear hb3
  obtain ⟨S, hS⟩ : ∃ S, (bolT D).val = .agg #[.int .i64 3, .int .i64 0, .float .f64 0, .string S, .slice none 0 0] := ⟨_, rfl⟩
  rw [hS]
  have HS := hidb hS
  clear hS
  go_wp2_with fail
  have bx9 := HX3.out.set (.int .i64 3) (.int .i64 0) (.float .f64 0) (.string S) (.slice none 0 0)
  obtain ⟨⟨k0, k1', k2, k3, k4⟩, -, -⟩ := Box.six bx9
  simp only [set5] at k0 k1' k2 k3 k4
  refine bodyPost_ret (v := (bolT D).val) (by rw [HS.out]; simp [results, Tryz.results70, go_sem, k0, k1', k2, k3, k4]) rfl ?_
  rw [← HPP.out]
  exact tld_bool HP.out (((((HB3.out.setCell (by simp) _).setCell (by simp) _).setCell (by simp) _).setCell (by simp) _).setCell (by simp) _)

set_option maxHeartbeats 8000000 in
set_option maxRecDepth 100000 in
theorem isReference_tc {w : World} {a : Option Addr} {c : Nat} {t : Tr} {rest : List Tr} {nm : ByteArray} {P : Tr → Prop} {E : Int → Prop} (hin : ArgsIn w a c (t :: rest)) (hP : P (bolT (decide (t.kd ∈ ([4] : List Int))))) :
    TC 71 P E (.agg #[.string nm, .slice a (t :: rest).length c, noneF]) w := by
  refine ⟨fun args w => by kernel_rfl, fun W hW => ?_⟩
  have HO := hidb (fun W1 (hb : Below W.heap.size W W1) kb cap (hk : ∀ (i : Nat) (k : Int), ([4] : List Int)[i]? = some k → W1.cell? ⟨kb, i, none⟩ = some (.int .i64 k)) => isOf_any (cap := cap) (nm := nm) (in_below (hW.trans (hb.mono hW.size)) hin) hk (by simp))
  have HP := hidb hP
  generalize (t :: rest).length = L at *
  obtain ⟨V1, hV1⟩ : ∃ V1, ((W.alloc (.cells #[.string nm, .slice a L c, noneF] CT)).alloc (.cells #[.int .i64 0, .int .i64 0, .float .f64 0, .string ⟨#[]⟩, .slice none 0 0] 27)) = V1 := ⟨_, rfl⟩
  have HX0 : Hid (Box V1 (W.heap.size + 1) (.int .i64 0) (.int .i64 0) (.float .f64 0) (.string ⟨#[]⟩) (.slice none 0 0)) := hidb (by
    rw [← hV1]
    have := Box.new (W.alloc (.cells #[.string nm, .slice a L c, noneF] CT)) 27 (.int .i64 0) (.int .i64 0) (.float .f64 0) (.string ⟨#[]⟩) (.slice none 0 0)
    simpa using this)
  have HBW : Hid (Below W.heap.size W V1) := hidb (by rw [← hV1]; exact (below_new W _).alloc (by simp) _)
  have HZ : Hid (V1.heap.size = W.heap.size + 1 + 1) := hidb (by rw [← hV1]; simp)
  have HV1 := hidb hV1
  obtain ⟨PP, hPP⟩ : ∃ PP : Ending → World → Prop, Tld P E w.heap.size W = PP := ⟨_, rfl⟩
  have HPP := hidb hPP
  rw [hPP]
  generalize decide (t.kd ∈ ([4] : List Int)) = D at *
  clear hin hP hW hV1 hPP
  go_enter Tryz.func71, Tryz.ntmps71
  go_wp2_with fail
  rw [HV1.out]
  refine (HO.out _ (HBW.out.trans ((below_new V1 _).mono HBW.out.size)) _ 1 (fun i k h => ?_)).mono ?_
  · rw [← HZ.out, World.cell?_alloc_new]
    rcases i with _ | i
    · simp at h ⊢; exact h
    · simp at h
  rintro e w3 ⟨rfl, hb3⟩
  have HB3 := hidb ((HBW.out.trans ((below_new V1 _).mono HBW.out.size)).trans (hb3.mono (by have := HBW.out.size; simp; omega)))
  have HX3 := hidb ((HX0.out.keep (below_new V1 _)).keep hb3)
  obtain ⟨⟨x0, x1, x2, x3, x4⟩, ⟨y0, y1, y2, y3, y4⟩, xl⟩ := Box.six HX3.out
  clear hb3
  obtain ⟨S, hS⟩ : ∃ S, (bolT D).val = .agg #[.int .i64 3, .int .i64 0, .float .f64 0, .string S, .slice none 0 0] := ⟨_, rfl⟩
  rw [hS]
  have HS := hidb hS
  clear hS
  go_wp2_with fail
  have bx9 := HX3.out.set (.int .i64 3) (.int .i64 0) (.float .f64 0) (.string S) (.slice none 0 0)
  obtain ⟨⟨k0, k1', k2, k3, k4⟩, -, -⟩ := Box.six bx9
  simp only [set5] at k0 k1' k2 k3 k4
  refine bodyPost_ret (v := (bolT D).val) (by rw [HS.out]; simp [results, Tryz.results71, go_sem, k0, k1', k2, k3, k4]) rfl ?_
  rw [← HPP.out]
  exact tld_bool HP.out (((((HB3.out.setCell (by simp) _).setCell (by simp) _).setCell (by simp) _).setCell (by simp) _).setCell (by simp) _)

set_option maxHeartbeats 8000000 in
set_option maxRecDepth 100000 in
theorem isFunction_tc {w : World} {a : Option Addr} {c : Nat} {t : Tr} {rest : List Tr} {nm : ByteArray} {P : Tr → Prop} {E : Int → Prop} (hin : ArgsIn w a c (t :: rest)) (hP : P (bolT (decide (t.kd ∈ ([5] : List Int))))) :
    TC 72 P E (.agg #[.string nm, .slice a (t :: rest).length c, noneF]) w := by
  refine ⟨fun args w => by kernel_rfl, fun W hW => ?_⟩
  have HO := hidb (fun W1 (hb : Below W.heap.size W W1) kb cap (hk : ∀ (i : Nat) (k : Int), ([5] : List Int)[i]? = some k → W1.cell? ⟨kb, i, none⟩ = some (.int .i64 k)) => isOf_any (cap := cap) (nm := nm) (in_below (hW.trans (hb.mono hW.size)) hin) hk (by simp))
  have HP := hidb hP
  generalize (t :: rest).length = L at *
  obtain ⟨V1, hV1⟩ : ∃ V1, ((W.alloc (.cells #[.string nm, .slice a L c, noneF] CT)).alloc (.cells #[.int .i64 0, .int .i64 0, .float .f64 0, .string ⟨#[]⟩, .slice none 0 0] 27)) = V1 := ⟨_, rfl⟩
  have HX0 : Hid (Box V1 (W.heap.size + 1) (.int .i64 0) (.int .i64 0) (.float .f64 0) (.string ⟨#[]⟩) (.slice none 0 0)) := hidb (by
    rw [← hV1]
    have := Box.new (W.alloc (.cells #[.string nm, .slice a L c, noneF] CT)) 27 (.int .i64 0) (.int .i64 0) (.float .f64 0) (.string ⟨#[]⟩) (.slice none 0 0)
    simpa using this)
  have HBW : Hid (Below W.heap.size W V1) := hidb (by rw [← hV1]; exact (below_new W _).alloc (by simp) _)
  have HZ : Hid (V1.heap.size = W.heap.size + 1 + 1) := hidb (by rw [← hV1]; simp)
  have HV1 := hidb hV1
  obtain ⟨PP, hPP⟩ : ∃ PP : Ending → World → Prop, Tld P E w.heap.size W = PP := ⟨_, rfl⟩
  have HPP := hidb hPP
  rw [hPP]
  generalize decide (t.kd ∈ ([5] : List Int)) = D at *
  clear hin hP hW hV1 hPP
  go_enter Tryz.func72, Tryz.ntmps72
  go_wp2_with fail
  rw [HV1.out]
  refine (HO.out _ (HBW.out.trans ((below_new V1 _).mono HBW.out.size)) _ 1 (fun i k h => ?_)).mono ?_
  · rw [← HZ.out, World.cell?_alloc_new]
    rcases i with _ | i
    · simp at h ⊢; exact h
    · simp at h
  rintro e w3 ⟨rfl, hb3⟩
  have HB3 := hidb ((HBW.out.trans ((below_new V1 _).mono HBW.out.size)).trans (hb3.mono (by have := HBW.out.size; simp; omega)))
  have HX3 := hidb ((HX0.out.keep (below_new V1 _)).keep hb3)
  obtain ⟨⟨x0, x1, x2, x3, x4⟩, ⟨y0, y1, y2, y3, y4⟩, xl⟩ := Box.six HX3.out
  clear hb3
  obtain ⟨S, hS⟩ : ∃ S, (bolT D).val = .agg #[.int .i64 3, .int .i64 0, .float .f64 0, .string S, .slice none 0 0] := ⟨_, rfl⟩
  rw [hS]
  have HS := hidb hS
  clear hS
  go_wp2_with fail
  have bx9 := HX3.out.set (.int .i64 3) (.int .i64 0) (.float .f64 0) (.string S) (.slice none 0 0)
  obtain ⟨⟨k0, k1', k2, k3, k4⟩, -, -⟩ := Box.six bx9
  simp only [set5] at k0 k1' k2 k3 k4
  refine bodyPost_ret (v := (bolT D).val) (by rw [HS.out]; simp [results, Tryz.results72, go_sem, k0, k1', k2, k3, k4]) rfl ?_
  rw [← HPP.out]
  exact tld_bool HP.out (((((HB3.out.setCell (by simp) _).setCell (by simp) _).setCell (by simp) _).setCell (by simp) _).setCell (by simp) _)
end Go.Proofs.YtgljglindgbjaaaGreatDoor


