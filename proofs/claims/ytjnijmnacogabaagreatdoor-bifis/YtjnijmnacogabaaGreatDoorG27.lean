import Derived.Test.YtjnijmnacogabaaGreatDoorG12
import Derived.Test.YtjnijmnacogabaaGreatDoorG15
import Derived.Test.YtjnijmnacogabaaGreatDoorG16
import Derived.Test.YtjnijmnacogabaaGreatDoorG26
import Derived.Deep.LoopGhost
import Derived.Test.YtjnijmnacogabaaGreatDoorG19
import Derived.BigQuiet
/- term.Cmp and term.Same of 1 and 1.0. -/
namespace Go.Proofs.YtjnijmnacogabaaGreatDoor
open Go.RowKit Go.Lib Go.Deep
attribute [local go_sem] store_float f64bits
attribute [local go_sem ↓] Go.wp_at_zero Go.wp_at_succ

set_option maxHeartbeats 2000000 in
theorem checkAll_ok (k n : Int) (f : Nat) (s : ByteArray) (a : Option Addr) (c : Nat) (kids : List Tr) (w : World) (hin : (Tr.mk k n f s a c kids).In w 0) (hsm : Small (.mk k n f s a c kids)) (hok : ∀ t, t ∈ kids → errT t = 0) : Calls Tryz.prog 137 #[.slice a kids.length c] w fun e w' => e = .returned (.int .i64 0) ∧ Below w.heap.size w w' := by
  have hlen := len_small hin
  have HIN := hidb hin
  have HSM := hidb hsm
  have HOK := hidb hok
  obtain ⟨M, hM⟩ : ∃ M, kids.length = M := ⟨_, rfl⟩
  have HM := hidb hM
  rw [hM] at hlen ⊢
  clear hin hsm hok hM
  go_enter Tryz.func137, Tryz.ntmps137
  go_wp2_with fail
  go_loopw [8] (fun iv wr => ∃ (m : Nat), m ≤ M ∧ iv = .int .i64 m ∧ Below w.heap.size w wr) (fun iv _ => M - (RowKit.intOf iv).toNat)
  case atStart => exact ⟨0, by omega, rfl, Below.refl _ _⟩
  case round =>
  obtain ⟨m, hm, rfl, hby⟩ := hrel
  have HBY := hidb hby
  by_cases hml : m < M
  · have hmb : (m : Int) < (M : Int) := by omega
    have hmz : (0 : Int) ≤ (m : Int) := by omega
    obtain ⟨b, o, rfl, hat⟩ := kid_at (in_below hby HIN.out) (by have := HM.out; omega)
    obtain ⟨k', n', f', s', a', c', kids', hu, hin', c0, c1, c2, c3, c4⟩ := hat m (by have := HM.out; omega)
    have hmem := List.mem_of_getElem? hu
    have CK := hidb (fun (w' : World) (hb : Below wr.heap.size wr w') => check_t (.mk k' n' f' s' a' c' kids') w' (in_below hb hin') (smallAll_get (by have := HSM.out; unfold Small at this; exact this.2) hmem))
    rw [HOK.out _ hmem] at CK
    simp only [Tr.val, Tr.cells] at CK
    generalize kids'.length = tl' at *
    clear hat hu hin' hby hmem
    go_wp2_with (go_at_call 89; refine (CK.out _ (below_new wr _)).mono ?_; rintro e w1 ⟨rfl, hb1⟩; have HB1 := hidb (HBY.out.trans (((below_new wr _).mono HBY.out.size).trans (hb1.mono (Nat.le_trans HBY.out.size (below_new wr _).size)))); clear hb1)
    go_roundw
    case rel => exact ⟨m + 1, by omega, by go_num, HB1.out⟩
    case measure => simp [RowKit.intOf]; omega
  · have hmn : ¬ (m : Int) < (M : Int) := by omega
    clear hby
    go_wp2_with fail
    go_ret
    exact ⟨rfl, HBY.out⟩


theorem method_rank1 (w : World) : (method 349 (kt 1) (.agg #[]) "exitwave/term.rank").run Tryz.prog w = .ok (264, .agg #[]) w := by kernel_rfl
theorem method_rank2 (w : World) : (method 349 (kt 2) (.agg #[]) "exitwave/term.rank").run Tryz.prog w = .ok (264, .agg #[]) w := by kernel_rfl
theorem method_cmp1 (w : World) : (method 349 (kt 1) (.agg #[]) "exitwave/term.compare").run Tryz.prog w = .ok (263, .agg #[]) w := by kernel_rfl

abbrev one : Value := .agg #[.int .i64 1, .int .i64 1, .float .f64 0, .string ⟨#[]⟩, .slice none 0 0]
abbrev oneF : Value := .agg #[.int .i64 2, .int .i64 0, .float .f64 4607182418800017408, .string ⟨#[]⟩, .slice none 0 0]

set_option maxHeartbeats 8000000 in
set_option maxRecDepth 100000 in
theorem compare_one (w : World) : Calls Tryz.prog 140 #[one, oneF] w fun e w' => e = .returned (.int .i64 0) ∧ Below w.heap.size w w' := by
  have K1 := hidb (kindOf_any 1 1 0 ⟨#[]⟩ none 0 0)
  have K2 := hidb (kindOf_any 2 0 4607182418800017408 ⟨#[]⟩ none 0 0)
  have hv : Flt.ordI (compare (valU 1 1 0) (valU 2 0 4607182418800017408)) = 0 := by kernel_rfl
  have NC := hidb (cmp_any 1 1 2 0 0 4607182418800017408 ⟨#[]⟩ ⟨#[]⟩ none none 0 0 0 0 (by decide) (by decide) (by simp [rightB, whB, ByteArray.toList_eq]) (by simp [rightB, Flt.fin, ByteArray.toList_eq]))
  rw [hv] at NC
  clear hv
  have e1 := method_rank1
  have e2 := method_rank2
  have e3 := method_cmp1
  have CI : Hid (∀ w, Calls Tryz.prog 185 #[.int .i64 0, .int .i64 0] w fun e w' => e = .returned (.int .i64 0) ∧ w' = w) := hidb (fun w => by
    have IN : ∀ w, Calls Tryz.prog 216 #[.int .i64 0] w fun e w' => e = .returned (.bool false) ∧ w' = w := fun w => by
      go_enter Tryz.func216, Tryz.ntmps216
      go_wp2_with fail
      go_ret
      exact ⟨rfl, rfl⟩
    go_enter Tryz.func185, Tryz.ntmps185
    go_wp2_with (go_at_call 216; refine (IN _).mono ?_; rintro e w3 ⟨rfl, rfl⟩)
    go_ret
    exact ⟨rfl, rfl⟩)
  have NM : Hid (∀ w, Calls Tryz.prog 263 #[.agg #[], one, oneF] w fun e w' => e = .returned (.int .i64 0) ∧ Below w.heap.size w w') := hidb (fun w => by
    have HBW : Hid (Below w.heap.size w ((w.alloc (.cells #[.int .i64 1, .int .i64 1, .float .f64 0, .string ⟨#[]⟩, .slice none 0 0] 29)).alloc (.cells #[.int .i64 2, .int .i64 0, .float .f64 4607182418800017408, .string ⟨#[]⟩, .slice none 0 0] 29))) := hidb ((below_new w _).alloc (by simp) _)
    go_enter Tryz.func263, Tryz.ntmps263
    go_wp2_with fail
    refine (NC.out _).mono ?_
    rintro e w1 ⟨rfl, hb1⟩
    have HB1 := hidb hb1
    clear hb1
    go_wp2_with fail
    go_ret
    refine ⟨rfl, ?_⟩
    exact ((((Below.refl _ w).alloc (Nat.le_refl _) _).alloc (by simp) _).alloc (by simp; omega) _).trans (HB1.out.mono (by simp; omega)))
  have RK : Hid (∀ w, Calls Tryz.prog 264 #[.agg #[]] w fun e w' => e = .returned (.int .i64 0) ∧ Below w.heap.size w w') := hidb (fun w => by
    go_enter Tryz.func264, Tryz.ntmps264
    go_wp2_with fail
    go_ret
    exact ⟨rfl, by first | exact Below.refl _ _ | exact below_new _ _⟩)
  obtain ⟨V, hV⟩ : ∃ V, (w.alloc (.cells #[.int .i64 1, .int .i64 1, .float .f64 0, .string ⟨#[]⟩, .slice none 0 0] 29)).alloc (.cells #[.int .i64 2, .int .i64 0, .float .f64 4607182418800017408, .string ⟨#[]⟩, .slice none 0 0] 29) = V := ⟨_, rfl⟩
  have HBV : Hid (Below w.heap.size w V) := hidb (by rw [← hV]; exact (below_new w _).alloc (by simp) _)
  have HB1 : Hid (Box V w.heap.size (.int .i64 1) (.int .i64 1) (.float .f64 0) (.string ⟨#[]⟩) (.slice none 0 0)) := hidb (by rw [← hV]; exact (Box.new w _ _ _ _ _ _).keep (below_new _ _))
  have HB2 : Hid (Box V (w.heap.size + 1) (.int .i64 2) (.int .i64 0) (.float .f64 4607182418800017408) (.string ⟨#[]⟩) (.slice none 0 0)) := hidb (by
    rw [← hV]
    have := Box.new (w.alloc (.cells #[.int .i64 1, .int .i64 1, .float .f64 0, .string ⟨#[]⟩, .slice none 0 0] 29)) 29 (.int .i64 2) (.int .i64 0) (.float .f64 4607182418800017408) (.string ⟨#[]⟩) (.slice none 0 0)
    simpa using this)
  have HV := hidb hV
  clear hV
  have HS : Hid (∀ W, Below V.heap.size V W → W.cell? ⟨w.heap.size, 0, none⟩ = some (.int .i64 1) ∧ W.cell? ⟨w.heap.size, 1, none⟩ = some (.int .i64 1) ∧ W.cell? ⟨w.heap.size, 2, none⟩ = some (.float .f64 0) ∧ W.cell? ⟨w.heap.size, 3, none⟩ = some (.string ⟨#[]⟩) ∧ W.cell? ⟨w.heap.size, 4, none⟩ = some (.slice none 0 0) ∧ W.cell? ⟨w.heap.size + 1, 0, none⟩ = some (.int .i64 2) ∧ W.cell? ⟨w.heap.size + 1, 1, none⟩ = some (.int .i64 0) ∧ W.cell? ⟨w.heap.size + 1, 2, none⟩ = some (.float .f64 4607182418800017408) ∧ W.cell? ⟨w.heap.size + 1, 3, none⟩ = some (.string ⟨#[]⟩) ∧ W.cell? ⟨w.heap.size + 1, 4, none⟩ = some (.slice none 0 0)) := hidb (fun W hb => ⟨(HB1.out.keep hb).c0, (HB1.out.keep hb).c1, (HB1.out.keep hb).c2, (HB1.out.keep hb).c3, (HB1.out.keep hb).c4, (HB2.out.keep hb).c0, (HB2.out.keep hb).c1, (HB2.out.keep hb).c2, (HB2.out.keep hb).c3, (HB2.out.keep hb).c4⟩)
  have HS0 := hidb (HS.out V.drew (Below.refl _ _).drew)
  have C1 : Hid (Calls Tryz.prog 184 #[one] V.drew fun e w1 => e = .returned (.iface (kt 1) (.agg #[])) ∧ Hid (w1.cell? ⟨w.heap.size, 0, none⟩ = some (.int .i64 1) ∧ w1.cell? ⟨w.heap.size, 1, none⟩ = some (.int .i64 1) ∧ w1.cell? ⟨w.heap.size, 2, none⟩ = some (.float .f64 0) ∧ w1.cell? ⟨w.heap.size, 3, none⟩ = some (.string ⟨#[]⟩) ∧ w1.cell? ⟨w.heap.size, 4, none⟩ = some (.slice none 0 0) ∧ w1.cell? ⟨w.heap.size + 1, 0, none⟩ = some (.int .i64 2) ∧ w1.cell? ⟨w.heap.size + 1, 1, none⟩ = some (.int .i64 0) ∧ w1.cell? ⟨w.heap.size + 1, 2, none⟩ = some (.float .f64 4607182418800017408) ∧ w1.cell? ⟨w.heap.size + 1, 3, none⟩ = some (.string ⟨#[]⟩) ∧ w1.cell? ⟨w.heap.size + 1, 4, none⟩ = some (.slice none 0 0)) ∧ Hid (Calls Tryz.prog 184 #[oneF] w1 fun e w2 => e = .returned (.iface (kt 2) (.agg #[])) ∧ Hid (w2.cell? ⟨w.heap.size, 0, none⟩ = some (.int .i64 1) ∧ w2.cell? ⟨w.heap.size, 1, none⟩ = some (.int .i64 1) ∧ w2.cell? ⟨w.heap.size, 2, none⟩ = some (.float .f64 0) ∧ w2.cell? ⟨w.heap.size, 3, none⟩ = some (.string ⟨#[]⟩) ∧ w2.cell? ⟨w.heap.size, 4, none⟩ = some (.slice none 0 0) ∧ w2.cell? ⟨w.heap.size + 1, 0, none⟩ = some (.int .i64 2) ∧ w2.cell? ⟨w.heap.size + 1, 1, none⟩ = some (.int .i64 0) ∧ w2.cell? ⟨w.heap.size + 1, 2, none⟩ = some (.float .f64 4607182418800017408) ∧ w2.cell? ⟨w.heap.size + 1, 3, none⟩ = some (.string ⟨#[]⟩) ∧ w2.cell? ⟨w.heap.size + 1, 4, none⟩ = some (.slice none 0 0)) ∧ Hid (Below V.heap.size V w2))) := hidb (by
    refine (K1.out _).mono ?_
    rintro e w1 ⟨rfl, hb1⟩
    have q1 := undrew hb1
    refine ⟨rfl, hidb (HS.out w1 q1), hidb ((K2.out _).mono ?_)⟩
    rintro e w2 ⟨rfl, hb2⟩
    have q2 := q1.trans (hb2.mono q1.size)
    exact ⟨rfl, hidb (HS.out w2 q2), hidb q2⟩)
  clear K1 K2
  go_enter Tryz.func140, Tryz.ntmps140
  go_wp2_with fail
  rw [HV.out]
  go_region_held3 (fun w' => w'.cell? ⟨w.heap.size, 0, none⟩ = some (.int .i64 1) ∧ w'.cell? ⟨w.heap.size, 1, none⟩ = some (.int .i64 1) ∧ w'.cell? ⟨w.heap.size, 2, none⟩ = some (.float .f64 0) ∧ w'.cell? ⟨w.heap.size, 3, none⟩ = some (.string ⟨#[]⟩) ∧ w'.cell? ⟨w.heap.size, 4, none⟩ = some (.slice none 0 0) ∧ w'.cell? ⟨w.heap.size + 1, 0, none⟩ = some (.int .i64 2) ∧ w'.cell? ⟨w.heap.size + 1, 1, none⟩ = some (.int .i64 0) ∧ w'.cell? ⟨w.heap.size + 1, 2, none⟩ = some (.float .f64 4607182418800017408) ∧ w'.cell? ⟨w.heap.size + 1, 3, none⟩ = some (.string ⟨#[]⟩) ∧ w'.cell? ⟨w.heap.size + 1, 4, none⟩ = some (.slice none 0 0)) (first | with_reducible exact HS0.out | with_reducible exact HS1.out | with_reducible exact HS2.out) (first
    | (go_at_call 184; refine C1.out.mono ?_; clear C1; rintro e w1 ⟨rfl, HS1, C2⟩)
    | (go_at_call 184; refine C2.out.mono ?_; clear C2; rintro e w2 ⟨rfl, HS2, HB⟩))
  go_wp2_with (go_at_call 264; refine (RK.out _).mono ?_; rintro e w3 ⟨rfl, hb3⟩; have HB := hidb (HB.out.trans (hb3.mono HB.out.size)); clear hb3)
  refine (CI.out _).mono ?_
  rintro e w4 ⟨rfl, rfl⟩
  obtain ⟨z0, z1, z2, z3, z4, z5, z6, z7, z8, z9⟩ := HS.out _ HB.out
  go_wp2_with fail
  refine (NM.out _).mono ?_
  rintro e w5 ⟨rfl, hb5⟩
  have HB5 := hidb (HBV.out.trans ((HB.out.trans (hb5.mono HB.out.size)).mono HBV.out.size))
  clear hb5
  go_wp2_with fail
  go_ret
  exact ⟨rfl, HB5.out⟩

theorem one_in (w : World) : (Tr.mk 1 1 0 ⟨#[]⟩ none 0 []).In w 0 ∧ (Tr.mk 2 0 4607182418800017408 ⟨#[]⟩ none 0 []).In w 0 := by
  constructor
  · unfold Tr.In
    exact ⟨⟨by decide, by decide, by decide, by show 0 ≤ maxLen; omega, by simp, by simp, fun _ => rfl⟩, fun ad h => by simp at h⟩
  · unfold Tr.In
    exact ⟨⟨by decide, by decide, by decide, by show 0 ≤ maxLen; omega, by simp, by simp, fun _ => rfl⟩, fun ad h => by simp at h⟩
end Go.Proofs.YtjnijmnacogabaaGreatDoor


/- term.Cmp and term.Same of 1 and 1.0. -/
namespace Go.Proofs.YtjnijmnacogabaaGreatDoor
open Go.RowKit Go.Lib Go.Deep
attribute [local go_sem] store_float f64bits
attribute [local go_sem ↓] Go.wp_at_zero Go.wp_at_succ

abbrev oneC : Array Value := #[.int .i64 1, .int .i64 1, .float .f64 0, .string ⟨#[]⟩, .slice none 0 0, .int .i64 2, .int .i64 0, .float .f64 4607182418800017408, .string ⟨#[]⟩, .slice none 0 0]
theorem flat5_get : ∀ (ts : List Tr) (j : Nat) (t : Tr), ts[j]? = some t → ∀ i, i < 5 → (ts.flatMap Tr.cells)[j * 5 + i]? = t.cells[i]?
  | [], j, t, h, _, _ => by simp at h
  | u :: r, 0, t, h, i, hi => by
    obtain rfl : u = t := by simpa using h
    rw [List.flatMap_cons, List.getElem?_append_left (by rw [cells_len]; omega)]
    simp
  | u :: r, j + 1, t, h, i, hi => by
    rw [List.flatMap_cons, List.getElem?_append_right (by rw [cells_len]; omega), cells_len, show (j + 1) * 5 + i - 5 = j * 5 + i by omega]
    exact flat5_get r j t (by simpa using h) i hi
/-- A row of terms that was just made. -/
theorem built_in (w : World) (ts : List Tr) (hts : ∀ t ∈ ts, t.In w 0) (tp : TypeId) (hl : ts.length ≤ 1000) : (Tr.mk 0 0 0 ⟨#[]⟩ (some ⟨w.heap.size, 0, none⟩) ts.length ts).In (w.alloc (.cells (ts.flatMap Tr.cells).toArray tp)) 0 := by
  unfold Tr.In
  refine ⟨⟨by decide, by decide, by decide, by show 0 ≤ maxLen; omega, Nat.le_refl _, by unfold maxLen; omega, fun h => by cases h⟩, fun ad had => ?_⟩
  obtain rfl : (⟨w.heap.size, 0, none⟩ : Addr) = ad := by simpa using had
  refine ⟨Nat.zero_le _, inAll_of fun j t hj => ⟨fun i hi => ?_, in_below (below_new w _) (hts t (List.mem_of_getElem? hj))⟩⟩
  have e : ((⟨w.heap.size, 0, none⟩ : Addr).add (j * 5)).add i = ⟨w.heap.size, j * 5 + i, none⟩ := by
    rw [add_add]; unfold Addr.add; split <;> simp_all
  rw [e, World.cell?_alloc_new]
  have := flat5_get ts j t hj i hi
  simpa using this
abbrev oneT : Tr := .mk 1 1 0 ⟨#[]⟩ none 0 []
abbrev oneFT : Tr := .mk 2 0 4607182418800017408 ⟨#[]⟩ none 0 []
theorem ones_in (w : World) (t : TypeId) : (Tr.mk 0 0 0 ⟨#[]⟩ (some ⟨w.heap.size, 0, none⟩) 2 [oneT, oneFT]).In (w.alloc (.cells oneC t)) 0 :=
  built_in w [oneT, oneFT] (fun t ht => by
    rcases List.mem_cons.1 ht with rfl | ht
    · exact (one_in w).1
    · obtain rfl : t = _ := by simpa using ht
      exact (one_in w).2) t (by simp)

theorem one_err : errT (Tr.mk 1 1 0 ⟨#[]⟩ none 0 []) = 0 := by simp [errT, meas, measAll, own, allT, allAll, goodT, rightB, whB, ByteArray.toList_eq]
theorem oneF_err : errT (Tr.mk 2 0 4607182418800017408 ⟨#[]⟩ none 0 []) = 0 := by simp [errT, meas, measAll, own, allT, allAll, goodT, rightB, Flt.fin, ByteArray.toList_eq]

set_option maxHeartbeats 1000000 in
set_option maxRecDepth 100000 in
theorem checkTwo (w : World) (t : TypeId) : Calls Tryz.prog 137 #[.slice (some ⟨w.heap.size, 0, none⟩) 2 2] (w.alloc (.cells oneC t)) fun e w' => e = .returned (.int .i64 0) ∧ Below (w.alloc (.cells oneC t)).heap.size (w.alloc (.cells oneC t)) w' := by
  have hin := ones_in w t
  generalize w.alloc (.cells oneC t) = V at *
  have h := checkAll_ok 0 0 0 ⟨#[]⟩ (some ⟨w.heap.size, 0, none⟩) 2 [oneT, oneFT] V hin (by simp [Small, SmallAll]) (fun u hu => by
    rcases List.mem_cons.1 hu with h | h
    · rw [h]; exact one_err
    · rw [List.mem_singleton.1 h]; exact oneF_err)
  have e : [oneT, oneFT].length = 2 := rfl
  rw [e] at h
  exact h

set_option maxHeartbeats 8000000 in
set_option maxRecDepth 100000 in
theorem cmp_one (w : World) : Calls Tryz.prog 123 #[one, oneF] w fun e w' => e = .returned (.tuple #[.int .i64 0, .int .i64 0]) ∧ Below w.heap.size w w' := by
  obtain ⟨V, hV⟩ : ∃ V, (w.alloc (.cells #[.int .i64 1, .int .i64 1, .float .f64 0, .string ⟨#[]⟩, .slice none 0 0] 29)).alloc (.cells #[.int .i64 2, .int .i64 0, .float .f64 4607182418800017408, .string ⟨#[]⟩, .slice none 0 0] 29) = V := ⟨_, rfl⟩
  have HBV : Hid (Below w.heap.size w V ∧ V.heap.size = w.heap.size + 1 + 1) := hidb (by rw [← hV]; exact ⟨(below_new w _).alloc (by simp) _, by simp⟩)
  have HB1 : Hid (Box V w.heap.size (.int .i64 1) (.int .i64 1) (.float .f64 0) (.string ⟨#[]⟩) (.slice none 0 0)) := hidb (by rw [← hV]; exact (Box.new w _ _ _ _ _ _).keep (below_new _ _))
  have HB2 : Hid (Box V (w.heap.size + 1) (.int .i64 2) (.int .i64 0) (.float .f64 4607182418800017408) (.string ⟨#[]⟩) (.slice none 0 0)) := hidb (by
    rw [← hV]
    have := Box.new (w.alloc (.cells #[.int .i64 1, .int .i64 1, .float .f64 0, .string ⟨#[]⟩, .slice none 0 0] 29)) 29 (.int .i64 2) (.int .i64 0) (.float .f64 4607182418800017408) (.string ⟨#[]⟩) (.slice none 0 0)
    simpa using this)
  have HV := hidb hV
  clear hV
  go_enter Tryz.func123, Tryz.ntmps123
  go_wp2_with fail
  rw [HV.out, ← HBV.out.2]
  refine (checkTwo V _).mono ?_
  rintro e w2 ⟨rfl, hb2⟩
  have HB3 := hidb ((below_new V _).trans (hb2.mono (by simp)))
  have HX1 := hidb (HB1.out.keep HB3.out)
  have HX2 := hidb (HB2.out.keep HB3.out)
  obtain ⟨⟨x0, x1, x2, x3, x4⟩, -, xl⟩ := Box.six HX1.out
  obtain ⟨⟨y0, y1, y2, y3, y4⟩, -, yl⟩ := Box.six HX2.out
  clear hb2
  go_wp2_with fail
  refine (compare_one _).mono ?_
  rintro e w4 ⟨rfl, hb4⟩
  have HB4 := hidb (HBV.out.1.trans ((HB3.out.trans (hb4.mono HB3.out.size)).mono HBV.out.1.size))
  clear hb4
  go_wp2_with fail
  go_ret2
  exact ⟨rfl, HB4.out⟩
set_option maxHeartbeats 8000000 in
set_option maxRecDepth 100000 in
theorem same_one (w : World) : Calls Tryz.prog 142 #[one, oneF] w fun e w' => e = .returned (.tuple #[.bool false, .int .i64 0]) ∧ Below w.heap.size w w' := by
  have ID : Hid (∀ w, Calls Tryz.prog 186 #[one, oneF] w fun e w' => e = .returned (.bool false) ∧ Below w.heap.size w w') := hidb (fun w => by
    go_enter Tryz.func186, Tryz.ntmps186
    go_wp2_with fail
    go_big_quiet (fail)
    go_wp2_with fail
    go_ret
    exact ⟨rfl, below_drewN ((below_new w _).alloc (by simp) _) _⟩)
  obtain ⟨V, hV⟩ : ∃ V, (w.alloc (.cells #[.int .i64 1, .int .i64 1, .float .f64 0, .string ⟨#[]⟩, .slice none 0 0] 29)).alloc (.cells #[.int .i64 2, .int .i64 0, .float .f64 4607182418800017408, .string ⟨#[]⟩, .slice none 0 0] 29) = V := ⟨_, rfl⟩
  have HBV : Hid (Below w.heap.size w V ∧ V.heap.size = w.heap.size + 1 + 1) := hidb (by rw [← hV]; exact ⟨(below_new w _).alloc (by simp) _, by simp⟩)
  have HB1 : Hid (Box V w.heap.size (.int .i64 1) (.int .i64 1) (.float .f64 0) (.string ⟨#[]⟩) (.slice none 0 0)) := hidb (by rw [← hV]; exact (Box.new w _ _ _ _ _ _).keep (below_new _ _))
  have HB2 : Hid (Box V (w.heap.size + 1) (.int .i64 2) (.int .i64 0) (.float .f64 4607182418800017408) (.string ⟨#[]⟩) (.slice none 0 0)) := hidb (by
    rw [← hV]
    have := Box.new (w.alloc (.cells #[.int .i64 1, .int .i64 1, .float .f64 0, .string ⟨#[]⟩, .slice none 0 0] 29)) 29 (.int .i64 2) (.int .i64 0) (.float .f64 4607182418800017408) (.string ⟨#[]⟩) (.slice none 0 0)
    simpa using this)
  have HV := hidb hV
  clear hV
  go_enter Tryz.func142, Tryz.ntmps142
  go_wp2_with fail
  rw [HV.out, ← HBV.out.2]
  refine (checkTwo V _).mono ?_
  rintro e w2 ⟨rfl, hb2⟩
  have HB3 := hidb ((below_new V _).trans (hb2.mono (by simp)))
  have HX1 := hidb (HB1.out.keep HB3.out)
  have HX2 := hidb (HB2.out.keep HB3.out)
  obtain ⟨⟨x0, x1, x2, x3, x4⟩, -, xl⟩ := Box.six HX1.out
  obtain ⟨⟨y0, y1, y2, y3, y4⟩, -, yl⟩ := Box.six HX2.out
  clear hb2
  go_wp2_with fail
  refine (ID.out _).mono ?_
  rintro e w4 ⟨rfl, hb4⟩
  have HB4 := hidb (HBV.out.1.trans ((HB3.out.trans (hb4.mono HB3.out.size)).mono HBV.out.1.size))
  clear hb4
  go_wp2_with fail
  go_ret2
  exact ⟨rfl, HB4.out⟩
end Go.Proofs.YtjnijmnacogabaaGreatDoor


