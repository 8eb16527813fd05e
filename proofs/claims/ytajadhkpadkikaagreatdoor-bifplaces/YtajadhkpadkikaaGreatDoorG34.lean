import Derived.Test.YtajadhkpadkikaaGreatDoorG33
import Derived.Lib.SliceRun
import Derived.Test.YtajadhkpadkikaaGreatDoorG32
/- slices.Clone of a row of terms. -/
namespace Go.Proofs.YtajadhkpadkikaaGreatDoor
open Go.RowKit Go.Lib Go.Deep
attribute [local go_sem] store_float f64bits store_func store_nilFunc
attribute [local go_sem ↓] Go.wp_at_zero Go.wp_at_succ

set_option maxHeartbeats 4000000 in
set_option maxRecDepth 100000 in
theorem clone_some {W : World} {ad : Addr} {c1 : Nat} {kids : List Tr} (hin : ArgsIn W (some ad) c1 kids) (hl : kids.length ≤ 65536) :
    Calls Tryz.prog 107 #[.slice (some ad) kids.length c1] W fun e w' => ∃ v', e = .returned v' ∧ w'.ownsRow W.heap.size 25 5 v' kids.length (kids.flatMap Tr.cells) ∧ Below W.heap.size W w' := by
  have hnews : ∀ (j : Nat) (u : Value), (kids.flatMap Tr.cells)[j]? = some u → W.cell? (ad.add j) = some u := by
    intro j u hj
    have hjl := (List.getElem?_eq_some_iff.1 hj).1
    rw [flat_len] at hjl
    obtain ⟨b, o, he, hat⟩ := kid_at (hin) (by omega)
    obtain rfl : ad = ⟨b, o, none⟩ := by simpa using he
    have hd : j = j / 5 * 5 + j % 5 := by omega
    obtain ⟨k1, n1, f1, s1, a1, c1', ks1, hu1, -, v0, v1, v2, v3, v4⟩ := hat (j / 5) (by omega)
    have hg := flat5_get kids (j / 5) _ hu1 (j % 5) (by omega)
    rw [← hd, hj] at hg
    have e1 : (⟨b, o, none⟩ : Addr).add j = ⟨b, o + j, none⟩ := by clear hd hg hat v0 v1 v2 v3 v4; unfold Addr.add; split <;> simp_all
    rw [e1, hg, show o + j = o + j / 5 * 5 + j % 5 by omega]
    have h5 : j % 5 < 5 := by omega
    generalize j % 5 = r at *
    match r, h5 with
    | 0, _ => exact v0
    | 1, _ => exact v1
    | 2, _ => exact v2
    | 3, _ => exact v3
    | 4, _ => exact v4
  have hone : ∀ u ∈ kids.flatMap Tr.cells, u.oneCell' = true := by
    intro u hu
    obtain ⟨t, -, ht⟩ := List.mem_flatMap.1 hu
    exact tr_one t u ht
  have hxl : (kids.flatMap Tr.cells).length = kids.length * 5 := flat_len _
  obtain ⟨N, hN⟩ : ∃ N, kids.length = N := ⟨_, rfl⟩
  obtain ⟨XS, hXS⟩ : ∃ XS, kids.flatMap Tr.cells = XS := ⟨_, rfl⟩
  rw [hN] at hl hxl ⊢
  rw [hXS] at hnews hone hxl ⊢
  have HL := hidb hl
  have HNW := hidb hnews
  have HON := hidb hone
  have HXL := hidb hxl
  clear hnews hone hxl hN hXS hin hl
  obtain ⟨i0, hi, hz0, hs0, hb0⟩ := infoT5'
  have q22 : ∀ (w : World) (a : Option Addr) (n c n' c' : Nat), (binOp .eql 23 (.slice a n c) (.slice none n' c')).run Tryz.prog w = .ok (.bool a.isNone) w := fun w a n c n' c' => Lib.run_eql_slice_nil w _ _ a n c n' c' Tryz.underlying23
  have u22 : ∀ w, Sem.run Tryz.prog (underlying 23) w = .ok (TypeDesc.slice 25) w := run_underlying Tryz.underlying23
  go_enter Tryz.func107, Tryz.ntmps107
  go_wp2_with (at_builtin; refine wpList_append_own_at _ rfl _ _ 23 rfl W.heap.size 25 i0 (.agg #[.int .i64 0, .int .i64 0, .float .f64 0, .string ⟨#[]⟩, .slice none 0 0]) 5 64 Tryz.underlying23 hi hz0 hs0 hb0 rfl (by decide) _ _ _ rfl (World.ownsRow_made W #[] 0 (Nat.le_refl _) (Nat.zero_le _) rfl) ad N c1 XS rfl HXL.out ?e1 HON.out ?e3 ?e4 ?e5 ?_)
  case e1 => exact fun j u hj => Lib.cell?_alloc_some _ (HNW.out j u hj)
  case e3 => have := HL.out; unfold maxLen; omega
  case e4 => have := HL.out; omega
  case e5 => simp
  intro v6 w6 hown6 hgrow6 hnil6 hat6
  have HO6 := hidb hown6
  have HB6 : Hid (Below W.heap.size W w6) := hidb (((Below.refl _ W).alloc (Nat.le_refl _) _).grown hgrow6 (by simp) (by intro k hk; simp [Value.ownBlock] at hk; omega))
  clear hown6 hgrow6 hnil6 hat6
  go_wp2_with fail
  go_ret
  exact ⟨_, rfl, by simpa using HO6.out, HB6.out⟩
set_option maxRecDepth 100000 in
theorem clone_none {W : World} (n c : Nat) : Calls Tryz.prog 107 #[.slice none n c] W fun e w' => e = .returned (.slice none 0 0) ∧ w' = W := by
  have q22 : ∀ (w : World) (a : Option Addr) (n c n' c' : Nat), (binOp .eql 23 (.slice a n c) (.slice none n' c')).run Tryz.prog w = .ok (.bool a.isNone) w := fun w a n c n' c' => Lib.run_eql_slice_nil w _ _ a n c n' c' Tryz.underlying23
  go_enter Tryz.func107, Tryz.ntmps107
  go_wp2_with fail
  go_ret
  exact ⟨rfl, rfl⟩
end Go.Proofs.YtajadhkpadkikaaGreatDoor


/- known: the chapter's examples. -/
namespace Go.Proofs.YtajadhkpadkikaaGreatDoor
open Go.RowKit Go.Lib Go.Deep
attribute [local go_sem] store_float f64bits store_func store_nilFunc
attribute [local go_sem ↓] Go.wp_at_zero Go.wp_at_succ

abbrev bolS (b : Bool) : ByteArray := if b then trueS else falseS
theorem ans_bool {b : Bool} {w : World} {e : Ending} {w' : World} (h : Ans (fun x => x = bolT b) (fun _ => False) w e w') : ∃ a c, e = .returned (.tuple #[.agg #[.int .i64 3, .int .i64 0, .float .f64 0, .string (bolS b), .slice a 0 c], .int .i64 0]) ∧ Below w.heap.size w w' ∧ (Tr.mk 3 0 0 (bolS b) a c []).In w' w.heap.size := by
  obtain ⟨hb, ⟨t, ⟨k', n', f', s', a', c', ks'⟩, rfl, -, hs, hin, rfl⟩ | ⟨er, hE | ⟨t, rfl, he, -⟩, rfl⟩⟩ := h
  · unfold bolT Sm at hs
    obtain ⟨rfl, rfl, rfl, rfl, h⟩ := hs
    cases ks' with
    | nil => exact ⟨a', c', rfl, hb, hin⟩
    | cons => simp [SmA] at h
  · exact hE.elim
  · exact absurd (bolT_err b) he
theorem ans_err {er : Int} {w : World} {e : Ending} {w' : World} (h : Ans (fun _ => False) (fun x => x = er) w e w') : e = .returned (.tuple #[zterm, .int .i64 er]) ∧ Below w.heap.size w w' := by
  obtain ⟨hb, ⟨t, t', h, -⟩ | ⟨er', rfl | ⟨t, h, -⟩, rfl⟩⟩ := h
  · exact h.elim
  · exact ⟨rfl, hb⟩
  · exact h.elim
theorem in_kind {w : World} {base : Nat} {k' n : Int} {f : Nat} {s : ByteArray} {a : Option Addr} {c : Nat} {ks : List Tr} (h : (Tr.mk 0 n f s a c ks).In w base) (hk : Lit.wf (.int .i64 k') = true) : (Tr.mk k' n f s a c ks).In w base := by
  unfold Tr.In at h ⊢
  exact ⟨⟨hk, h.1.2⟩, h.2⟩

theorem i9_any (k : Int) (w : World) : Calls Tryz.prog 19 #[.int .i64 k] w fun e w' => e = .returned (.agg #[.int .i64 1, .int .i64 k, .float .f64 0, .string ⟨#[]⟩, .slice none 0 0]) ∧ Below w.heap.size w w' := by
  go_enter Tryz.func19, Tryz.ntmps19
  go_wp2
  exact bodyPost_ret (v := .agg #[.int .i64 1, .int .i64 k, .float .f64 0, .string ⟨#[]⟩, .slice none 0 0]) (by simp [results, Tryz.results19, go_sem]) rfl ⟨rfl, below_new w _⟩

set_option maxRecDepth 100000 in
theorem eq_one (w : World) : Calls Tryz.prog 12 #[.string ⟨#[61, 61]⟩, .slice (some ⟨w.heap.size, 0, none⟩) 2 2] (w.alloc (.cells oneC 25)) fun e w' => (∃ a c, e = .returned (.tuple #[.agg #[.int .i64 3, .int .i64 0, .float .f64 0, .string trueS, .slice a 0 c], .int .i64 0])) ∧ Below w.heap.size w w' := by
  refine (op_any (P := fun x => x = bolT true) (E := fun _ => False) (n := 2) (fun r hr => ?_) (fun h => ?_)).mono ?_
  · have hf : bfnd opsL ⟨#[61, 61]⟩ ((2 : Nat) : Int) = some (⟨#[61, 61]⟩, 2, 36) := by kernel_rfl
    rw [hf] at hr
    obtain rfl := Option.some.inj hr
    exact equal_tc (r := 0) (ones_in w _) (fun W hW => cmp_one W) rfl
  · have hf : bfnd opsL ⟨#[61, 61]⟩ ((2 : Nat) : Int) = some (⟨#[61, 61]⟩, 2, 36) := by kernel_rfl
    rw [hf] at h
    cases h
  · intro e w' h
    obtain ⟨a, c, rfl, hb, -⟩ := ans_bool h
    exact ⟨⟨a, c, rfl⟩, (below_new w _).trans (hb.mono (by simp))⟩
set_option maxRecDepth 100000 in
theorem id_one (w : World) : Calls Tryz.prog 12 #[.string ⟨#[61, 58, 61]⟩, .slice (some ⟨w.heap.size, 0, none⟩) 2 2] (w.alloc (.cells oneC 25)) fun e w' => (∃ a c, e = .returned (.tuple #[.agg #[.int .i64 3, .int .i64 0, .float .f64 0, .string falseS, .slice a 0 c], .int .i64 0])) ∧ Below w.heap.size w w' := by
  refine (op_any (P := fun x => x = bolT false) (E := fun _ => False) (n := 2) (fun r hr => ?_) (fun h => ?_)).mono ?_
  · have hf : bfnd opsL ⟨#[61, 58, 61]⟩ ((2 : Nat) : Int) = some (⟨#[61, 58, 61]⟩, 2, 42) := by kernel_rfl
    rw [hf] at hr
    obtain rfl := Option.some.inj hr
    exact identical_tc (r := false) (ones_in w _) (fun W hW => same_one W) rfl
  · have hf : bfnd opsL ⟨#[61, 58, 61]⟩ ((2 : Nat) : Int) = some (⟨#[61, 58, 61]⟩, 2, 42) := by kernel_rfl
    rw [hf] at h
    cases h
  · intro e w' h
    obtain ⟨a, c, rfl, hb, -⟩ := ans_bool h
    exact ⟨⟨a, c, rfl⟩, (below_new w _).trans (hb.mono (by simp))⟩

abbrev sevT : Tr := .mk 1 7 0 ⟨#[]⟩ none 0 []
theorem sev_in (w : World) : sevT.In w 0 := by
  unfold Tr.In
  exact ⟨⟨by decide, by decide, by decide, by show 0 ≤ maxLen; omega, by simp, by simp, fun _ => rfl⟩, fun ad h => by simp at h⟩
theorem num_in (n : Int) (h0 : 0 ≤ n) (h1 : n ≤ 1000) (w : World) : (Tr.mk 1 n 0 ⟨#[]⟩ none 0 []).In w 0 := by
  unfold Tr.In
  refine ⟨⟨by decide, ?_, by decide, by show 0 ≤ maxLen; omega, by simp, by simp, fun _ => rfl⟩, fun ad h => by simp at h⟩
  have e0 : IntKind.i64.min = -9223372036854775808 := by decide
  have e1 : IntKind.i64.max = 9223372036854775807 := by decide
  simp only [Lit.wf, e0, e1, Bool.and_eq_true, decide_eq_true_eq]
  omega
/-- {7} and a number, as arguments. -/
theorem el_args (n : Int) (h0 : 0 ≤ n) (h1 : n ≤ 1000) (w : World) (tb : Nat) (htb : (Tr.mk 0 0 0 ⟨#[]⟩ (some ⟨tb, 0, none⟩) 1 [sevT]).In w 0) (t : TypeId) : ArgsIn (w.alloc (.cells #[.int .i64 1, .int .i64 n, .float .f64 0, .string ⟨#[]⟩, .slice none 0 0, .int .i64 7, .int .i64 0, .float .f64 0, .string ⟨#[]⟩, .slice (some ⟨tb, 0, none⟩) 1 1] t)) (some ⟨w.heap.size, 0, none⟩) 2 [.mk 1 n 0 ⟨#[]⟩ none 0 [], .mk 7 0 0 ⟨#[]⟩ (some ⟨tb, 0, none⟩) 1 [sevT]] :=
  built_in w [.mk 1 n 0 ⟨#[]⟩ none 0 [], .mk 7 0 0 ⟨#[]⟩ (some ⟨tb, 0, none⟩) 1 [sevT]] (fun u hu => by
    rcases List.mem_cons.1 hu with h | h
    · rw [h]; exact num_in n h0 h1 w
    · rw [List.mem_singleton.1 h]; exact in_kind htb (by decide)) t (by simp)
theorem el_find : (bfnd grdL ⟨#[101, 108, 101, 109, 101, 110, 116]⟩ ((2 : Nat) : Int)).or (bfnd othL ⟨#[101, 108, 101, 109, 101, 110, 116]⟩ ((2 : Nat) : Int)) = some (⟨#[101, 108, 101, 109, 101, 110, 116]⟩, 2, 54) := by kernel_rfl
theorem sev_small : ∀ t ∈ [sevT], Small t ∧ cnT t ≤ 1000000000 := fun t ht => by
  rw [List.mem_singleton.1 ht]
  simp [Small, SmallAll, cnT, cnA]
set_option maxRecDepth 100000 in
theorem el_1 (w : World) (tb : Nat) (htb : (Tr.mk 0 0 0 ⟨#[]⟩ (some ⟨tb, 0, none⟩) 1 [sevT]).In w 0) : Calls Tryz.prog 16 #[.string ⟨#[101, 108, 101, 109, 101, 110, 116]⟩, .slice (some ⟨w.heap.size, 0, none⟩) 2 2, noneF] (w.alloc (.cells #[.int .i64 1, .int .i64 1, .float .f64 0, .string ⟨#[]⟩, .slice none 0 0, .int .i64 7, .int .i64 0, .float .f64 0, .string ⟨#[]⟩, .slice (some ⟨tb, 0, none⟩) 1 1] 25)) fun e w' => (∃ a c, e = .returned (.tuple #[.agg #[.int .i64 1, .int .i64 7, .float .f64 0, .string ⟨#[]⟩, .slice a 0 c], .int .i64 0])) ∧ Below w.heap.size w w' := by
  refine (call_any (P := fun x => x = sevT) (E := fun _ => False) (n := 2) (fun r hr => ?_) (fun h => ?_)).mono ?_
  · rw [el_find] at hr
    obtain rfl := Option.some.inj hr
    refine element_tc (el_args 1 (by omega) (by omega) w tb htb _) sev_small (by simp) (fun _ _ t ht => ?_) (fun h => ?_)
    · simpa using ht.symm
    · simp [plB] at h
  · rw [el_find] at h
    cases h
  · intro e w' h
    obtain ⟨hb, ⟨t, ⟨k', n', f', s', a', c', ks'⟩, rfl, -, hs, hin, rfl⟩ | ⟨er, hE | ⟨t, rfl, he, -⟩, rfl⟩⟩ := h
    · unfold Sm at hs
      obtain ⟨rfl, rfl, rfl, rfl, h⟩ := hs
      cases ks' with
      | nil => exact ⟨⟨a', c', rfl⟩, (below_new w _).trans (hb.mono (by simp))⟩
      | cons => simp [SmA] at h
    · exact hE.elim
    · exact absurd (by simp [errT, meas, measAll, own, allT, allAll, goodT, rightB, whB, ByteArray.toList_eq]) he
set_option maxRecDepth 100000 in
theorem el_0 (w : World) (tb : Nat) (htb : (Tr.mk 0 0 0 ⟨#[]⟩ (some ⟨tb, 0, none⟩) 1 [sevT]).In w 0) : Calls Tryz.prog 16 #[.string ⟨#[101, 108, 101, 109, 101, 110, 116]⟩, .slice (some ⟨w.heap.size, 0, none⟩) 2 2, noneF] (w.alloc (.cells #[.int .i64 1, .int .i64 0, .float .f64 0, .string ⟨#[]⟩, .slice none 0 0, .int .i64 7, .int .i64 0, .float .f64 0, .string ⟨#[]⟩, .slice (some ⟨tb, 0, none⟩) 1 1] 25)) fun e w' => e = .returned (.tuple #[zterm, .int .i64 13]) ∧ Below w.heap.size w w' := by
  refine (call_any (P := fun _ => False) (E := fun x => x = 13) (n := 2) (fun r hr => ?_) (fun h => ?_)).mono ?_
  · rw [el_find] at hr
    obtain rfl := Option.some.inj hr
    refine element_tc (el_args 0 (by omega) (by omega) w tb htb _) sev_small (by simp) (fun _ h t ht => ?_) (fun h => rfl)
    simp [plB] at h
  · rw [el_find] at h
    cases h
  · intro e w' h
    obtain ⟨rfl, hb⟩ := ans_err h
    exact ⟨rfl, (below_new w _).trans (hb.mono (by simp))⟩

set_option maxHeartbeats 1600000 in
set_option maxRecDepth 100000 in
theorem known9_any (w : World) : Calls Tryz.prog 7 #[] w fun e w' => e = .returned (.bool true) ∧ Below w.heap.size w w' := by
  go_enter Tryz.func7, Tryz.ntmps7
  go_wp2_with (go_at_call 19; refine (i9_any _ _).mono ?_; rintro e w1 ⟨rfl, hb1⟩; have HB1 := hidb hb1; clear hb1)
  refine (eq_one w1).mono ?_
  rintro e w2 ⟨⟨a1, c1, rfl⟩, hb2⟩
  have HB2 := hidb (HB1.out.trans (hb2.mono HB1.out.size))
  clear hb2 HB1
  go_wp2_with fail
  refine (i9_any _ _).mono ?_
  rintro e w3 ⟨rfl, hb3⟩
  have HA3 := hidb ((Box.new w2 25 (.int .i64 3) (.int .i64 0) (.float .f64 0) (.string trueS) (.slice a1 0 c1)).keep hb3)
  have HB3 := hidb (HB2.out.trans (((below_new w2 _).trans (hb3.mono (by simp))).mono HB2.out.size))
  clear hb3 HB2
  go_wp2_with fail
  refine (id_one w3).mono ?_
  rintro e w4 ⟨⟨a2, c2, rfl⟩, hb4⟩
  have HA4 := hidb (HA3.out.keep hb4)
  have HB4 := hidb (HB3.out.trans (hb4.mono HB3.out.size))
  clear hb4 HA3 HB3
  go_wp2_with fail
  refine (i9_any _ _).mono ?_
  rintro e w5 ⟨rfl, hb5⟩
  have HA5 := hidb ((HA4.out.keep (below_new w4 _)).keep hb5)
  have HD5 := hidb ((Box.new w4 25 (.int .i64 3) (.int .i64 0) (.float .f64 0) (.string falseS) (.slice a2 0 c2)).keep hb5)
  have HB5 := hidb (HB4.out.trans (((below_new w4 _).trans (hb5.mono (by simp))).mono HB4.out.size))
  clear hb5 HA4 HB4
  go_wp2_with fail
  refine (i9_any _ _).mono ?_
  rintro e w6 ⟨rfl, hb6⟩
  have HA6 := hidb (HA5.out.keep hb6)
  have HD6 := hidb (HD5.out.keep hb6)
  have HB6 := hidb (HB5.out.trans (hb6.mono HB5.out.size))
  clear hb6 HA5 HB5 HD5
  go_wp2_with fail
  obtain ⟨V6, hV6⟩ : ∃ V6, w6.alloc (.cells #[.int .i64 1, .int .i64 7, .float .f64 0, .string ⟨#[]⟩, .slice none 0 0] 25) = V6 := ⟨_, rfl⟩
  have htb : (Tr.mk 0 0 0 ⟨#[]⟩ (some ⟨w6.heap.size, 0, none⟩) 1 [sevT]).In V6 0 := by
    rw [← hV6]
    exact built_in w6 [sevT] (fun u hu => by rw [List.mem_singleton.1 hu]; exact sev_in w6) 25 (by simp)
  have hz6 : w6.heap.size + 1 = V6.heap.size := by rw [← hV6]; simp
  have hbV : Below w6.heap.size w6 V6 := by rw [← hV6]; exact below_new _ _
  rw [hV6, hz6]
  refine (el_1 V6 w6.heap.size htb).mono ?_
  rintro e w7 ⟨⟨a3, c3, rfl⟩, hb7⟩
  have hb67 := hbV.trans (hb7.mono hbV.size)
  have HA7 := hidb (HA6.out.keep hb67)
  have HD7 := hidb (HD6.out.keep hb67)
  have HB7 := hidb (HB6.out.trans (hb67.mono HB6.out.size))
  clear hb67 hb7 hbV hz6 htb hV6 HA6 HD6 HB6
  go_wp2_with fail
  refine (i9_any _ _).mono ?_
  rintro e w8 ⟨rfl, hb8⟩
  have HA8 := hidb ((HA7.out.keep (below_new w7 _)).keep hb8)
  have HD8 := hidb ((HD7.out.keep (below_new w7 _)).keep hb8)
  have HF8 := hidb ((Box.new w7 25 (.int .i64 1) (.int .i64 7) (.float .f64 0) (.string ⟨#[]⟩) (.slice a3 0 c3)).keep hb8)
  have HB8 := hidb (HB7.out.trans (((below_new w7 _).trans (hb8.mono (by simp))).mono HB7.out.size))
  clear hb8 HA7 HD7 HB7
  go_wp2_with fail
  refine (i9_any _ _).mono ?_
  rintro e w9 ⟨rfl, hb9⟩
  have HA9 := hidb (HA8.out.keep hb9)
  have HD9 := hidb (HD8.out.keep hb9)
  have HF9 := hidb (HF8.out.keep hb9)
  have HB9 := hidb (HB8.out.trans (hb9.mono HB8.out.size))
  clear hb9 HA8 HD8 HB8 HF8
  go_wp2_with fail
  obtain ⟨V9, hV9⟩ : ∃ V9, w9.alloc (.cells #[.int .i64 1, .int .i64 7, .float .f64 0, .string ⟨#[]⟩, .slice none 0 0] 25) = V9 := ⟨_, rfl⟩
  have htb : (Tr.mk 0 0 0 ⟨#[]⟩ (some ⟨w9.heap.size, 0, none⟩) 1 [sevT]).In V9 0 := by
    rw [← hV9]
    exact built_in w9 [sevT] (fun u hu => by rw [List.mem_singleton.1 hu]; exact sev_in w9) 25 (by simp)
  have hz9 : w9.heap.size + 1 = V9.heap.size := by rw [← hV9]; simp
  have hbV : Below w9.heap.size w9 V9 := by rw [← hV9]; exact below_new _ _
  rw [hV9, hz9]
  refine (el_0 V9 w9.heap.size htb).mono ?_
  rintro e wa ⟨rfl, hba⟩
  have hb9a := hbV.trans (hba.mono hbV.size)
  have HAa := hidb (HA9.out.keep hb9a)
  have HDa := hidb (HD9.out.keep hb9a)
  have HFa := hidb (HF9.out.keep hb9a)
  have HBa := hidb (HB9.out.trans (hb9a.mono HB9.out.size))
  obtain ⟨⟨x0, x1, x2, x3, x4⟩, -, xl⟩ := Box.six HAa.out
  obtain ⟨⟨y0, y1, y2, y3, y4⟩, -, yl⟩ := Box.six HDa.out
  obtain ⟨⟨z0, z1, z2, z3, z4⟩, -, zl⟩ := Box.six HFa.out
  clear hb9a hba hbV hz9 htb hV9 HA9 HD9 HB9 HF9
  go_wp2_with fail
  go_ret
  exact ⟨rfl, HBa.out.alloc HBa.out.size _⟩
end Go.Proofs.YtajadhkpadkikaaGreatDoor


