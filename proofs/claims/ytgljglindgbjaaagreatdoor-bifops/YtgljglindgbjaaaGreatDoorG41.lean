import Derived.Test.YtgljglindgbjaaaGreatDoorG40
import Derived.Test.YtgljglindgbjaaaGreatDoorG13
/- slices.Concat of two rows of terms. -/
namespace Go.Proofs.YtgljglindgbjaaaGreatDoor
open Go.RowKit Go.Lib Go.Deep
attribute [local go_sem] store_float f64bits store_func store_nilFunc
attribute [local go_sem ↓] Go.wp_at_zero Go.wp_at_succ

/-- A row of terms as cells at an address: what an append of it wants. -/
theorem row_news {W : World} {ad : Addr} {c : Nat} {kids : List Tr} (hin : ArgsIn W (some ad) c kids) : (∀ (j : Nat) (u : Value), (kids.flatMap Tr.cells)[j]? = some u → W.cell? (ad.add j) = some u) ∧ (∀ u ∈ kids.flatMap Tr.cells, u.oneCell' = true) ∧ (kids.flatMap Tr.cells).length = kids.length * 5 := by
  refine ⟨?_, ?_, flat_len kids⟩
  · intro j u hj
    have hjl := (List.getElem?_eq_some_iff.1 hj).1
    rw [flat_len] at hjl
    obtain ⟨b, o, he, hat⟩ := kid_at hin (by omega)
    obtain rfl : ad = ⟨b, o, none⟩ := by simpa using he
    have hd : j = j / 5 * 5 + j % 5 := by omega
    obtain ⟨k1, n1, f1, s1, a1, c1', ks1, hu1, -, v0, v1, v2, v3, v4⟩ := hat (j / 5) (by omega)
    have hg := flat5_get kids (j / 5) _ hu1 (j % 5) (by omega)
    rw [← hd, hj] at hg
    have e1 : (⟨b, o, none⟩ : Addr).add j = ⟨b, o + j, none⟩ := by clear hd hg hat v0 v1 v2 v3 v4; unfold Addr.add; split <;> simp_all
    rw [e1, hg, show o + j = o + j / 5 * 5 + j % 5 by omega]
    have h5 : j % 5 < 5 := by omega
    generalize j % 5 = r at *
    match r, h5 with
    | 0, _ => exact v0
    | 1, _ => exact v1
    | 2, _ => exact v2
    | 3, _ => exact v3
    | 4, _ => exact v4
  · intro u hu
    obtain ⟨t, -, ht⟩ := List.mem_flatMap.1 hu
    exact tr_one t u ht
theorem row_nil {W : World} {c : Nat} {kids : List Tr} (hin : ArgsIn W none c kids) : c = 0 ∧ kids = [] := by
  unfold Tr.In at hin
  obtain rfl : c = 0 := hin.1.2.2.2.2.2.2 rfl
  have hk0 : kids.length ≤ 0 := hin.1.2.2.2.2.1
  exact ⟨rfl, List.length_eq_zero_iff.1 (by omega)⟩
set_option maxHeartbeats 8000000 in
set_option maxRecDepth 100000 in
theorem concat_two {W : World} {rb : Nat} {a1 a2 : Option Addr} {c1 c2 : Nat} {kids kids2 : List Tr} (hin : ArgsIn W a1 c1 kids) (hin2 : ArgsIn W a2 c2 kids2) (h0 : W.cell? ⟨rb, 0, none⟩ = some (.slice a1 kids.length c1)) (h1 : W.cell? ⟨rb, 1, none⟩ = some (.slice a2 kids2.length c2)) (hl : kids.length + kids2.length ≤ 65536) :
    Calls Tryz.prog 103 #[.slice (some ⟨rb, 0, none⟩) 2 2] W fun e w' => ∃ v', e = .returned v' ∧ w'.ownsRow W.heap.size 27 5 v' (kids.length + kids2.length) (kids.flatMap Tr.cells ++ kids2.flatMap Tr.cells) ∧ Below W.heap.size W w' := by
  have GR := hidb (fun W1 (hb : W.heap.size ≤ W1.heap.size) => grow_terms W.heap.size (.slice none 0 0) 0 (kids.length + kids2.length) [] W1 (World.ownsRow_nil _ _ _ _) hl (by omega) hb)
  have HIN := hidb hin
  have HIN2 := hidb hin2
  have HR1 := hidb (fun (ad : Addr) (e : a1 = some ad) => row_news (e ▸ hin))
  have HR2 := hidb (fun (ad : Addr) (e : a2 = some ad) => row_news (e ▸ hin2))
  have HZ1 := hidb (fun (e : a1 = none) => row_nil (e ▸ hin))
  have HZ2 := hidb (fun (e : a2 = none) => row_nil (e ▸ hin2))
  have HLT : Hid ((∀ ad, a1 = some ad → 0 < kids.length → ad.block < W.heap.size) ∧ ∀ ad, a2 = some ad → 0 < kids2.length → ad.block < W.heap.size) := hidb ⟨fun ad e h => by
    subst e
    obtain ⟨b, o, he, hat⟩ := kid_at hin h
    obtain ⟨k1, n1, f1, s1, a1, c1', ks1, hu1, -, v0, -⟩ := hat 0 h
    obtain rfl : ad = ⟨b, o, none⟩ := by simpa using he
    exact World.block_lt_of_cell? _ _ v0, fun ad e h => by
    subst e
    obtain ⟨b, o, he, hat⟩ := kid_at hin2 h
    obtain ⟨k1, n1, f1, s1, a1, c1', ks1, hu1, -, v0, -⟩ := hat 0 h
    obtain rfl : ad = ⟨b, o, none⟩ := by simpa using he
    exact World.block_lt_of_cell? _ _ v0⟩
  obtain ⟨XS, hXS⟩ : ∃ XS, kids.flatMap Tr.cells = XS := ⟨_, rfl⟩
  obtain ⟨YS, hYS⟩ : ∃ XS, kids2.flatMap Tr.cells = XS := ⟨_, rfl⟩
  have HXS := hidb (And.intro hXS hYS)
  rw [hXS] at HR1 ⊢
  rw [hYS] at HR2 ⊢
  clear hXS hYS
  obtain ⟨N, hN⟩ : ∃ N, kids.length = N := ⟨_, rfl⟩
  obtain ⟨M, hM⟩ : ∃ N, kids2.length = N := ⟨_, rfl⟩
  have HN := hidb (And.intro hN hM)
  rw [hN] at h0 GR hl HR1 HLT ⊢
  rw [hM] at h1 GR hl HR2 HLT ⊢
  have w1 : wrap64 (0 + (N : Int)) = (N : Int) := by unfold wrap64; omega
  have w2 : wrap64 ((N : Int) + (M : Int)) = (N : Int) + (M : Int) := by unfold wrap64; omega
  have w3 : wrap64 (N : Int) = (N : Int) := by unfold wrap64; omega
  have w4 : ¬ (N : Int) < 0 := by omega
  have wn5 : ¬ (N : Int) + (M : Int) < 0 := by omega
  have e9 : ((N : Int) + (M : Int)) = (((N + M : Nat)) : Int) := by omega
  have HE9 := hidb e9
  have hrl : rb < W.heap.size := World.block_lt_of_cell? _ _ h0
  have HL := hidb hl
  clear hin hin2 hN hM hl e9
  go_enter Tryz.func103, Tryz.ntmps103
  go_wp2_with fail
  refine wp_loop_times 3 ?_
  unfold Un
  go_wp2_with fail
  unfold Un
  go_wp2_with fail
  unfold Un
  go_wp2_with fail
  rw [HE9.out]
  refine (GR.out W (Nat.le_refl _)).mono ?_
  rintro e w5 ⟨v5, rfl, hown5, hblk5, hb5⟩
  obtain ⟨q5, c5, rfl⟩ := own_sl hown5
  have HO5 := hidb hown5
  have HB5 := hidb hb5
  have k0 := (hb5.cell (p := ⟨rb, 0, none⟩) hrl).trans h0
  have k1 := (hb5.cell (p := ⟨rb, 1, none⟩) hrl).trans h1
  clear hown5 hblk5 hb5
  obtain ⟨i0, hi, hz0, hs0, hb0⟩ := infoT5'
  cases a1 with
  | none =>
    cases a2 with
    | none =>
      obtain ⟨rfl, hk1⟩ := HZ1.out rfl
      obtain rfl : N = 0 := by rw [← HN.out.1, hk1]; rfl
      obtain rfl : XS = [] := by rw [← HXS.out.1, hk1]; rfl
      clear hk1
      obtain ⟨rfl, hk2⟩ := HZ2.out rfl
      obtain rfl : M = 0 := by rw [← HN.out.2, hk2]; rfl
      obtain rfl : YS = [] := by rw [← HXS.out.2, hk2]; rfl
      clear hk2
      have M1 := trivial
      have M2 := trivial
      go_wp2_with fail
      refine wp_loop_times 3 ?_
      unfold Un
      go_wp2_with (at_builtin; clear M1; refine wpList_append_own_none rfl _ _ 22 rfl W.heap.size 27 i0 5 Tryz.underlying22 hi (.slice q5 0 c5) 0 ([]) rfl HO5.out rfl ?_)
      unfold Un
      go_wp2_with (at_builtin; clear M2; refine wpList_append_own_none rfl _ _ 22 rfl W.heap.size 27 i0 5 Tryz.underlying22 hi (.slice q5 0 c5) 0 ([]) rfl HO5.out rfl ?_)
      unfold Un
      go_wp2_with fail
      go_ret
      refine ⟨_, rfl, ?_, HB5.out⟩
      first | exact HO5.out | (have h9 := HO5.out; simpa using h9)
    | some ad2 =>
      obtain ⟨rfl, hk1⟩ := HZ1.out rfl
      obtain rfl : N = 0 := by rw [← HN.out.1, hk1]; rfl
      obtain rfl : XS = [] := by rw [← HXS.out.1, hk1]; rfl
      clear hk1
      have HK2 := hidb (HR2.out ad2 rfl)
      have M1 := trivial
      have M2 := trivial
      go_wp2_with fail
      refine wp_loop_times 3 ?_
      unfold Un
      go_wp2_with (at_builtin; clear M1; refine wpList_append_own_none rfl _ _ 22 rfl W.heap.size 27 i0 5 Tryz.underlying22 hi (.slice q5 0 c5) 0 ([]) rfl HO5.out rfl ?_)
      unfold Un
      have HK2 := hidb (And.intro (fun (j : Nat) (u : Value) (hj : YS[j]? = some u) => (HB5.out.cell (p := ad2.add j) (by have h9 := World.block_lt_of_cell? _ _ (HK2.out.1 j u hj); exact h9)).trans (HK2.out.1 j u hj)) HK2.out.2)
      go_wp2_with (at_builtin; clear M2; refine wpList_append_own_at _ rfl _ _ 22 rfl W.heap.size 27 i0 (.agg #[.int .i64 0, .int .i64 0, .float .f64 0, .string ⟨#[]⟩, .slice none 0 0]) 5 64 Tryz.underlying22 hi hz0 hs0 hb0 rfl (by decide) (.slice q5 0 c5) 0 ([]) rfl HO5.out ad2 M c2 YS rfl HK2.out.2.2 HK2.out.1 HK2.out.2.1 ?e3ns2 ?e4ns2 ?e5ns2 ?_)
      case e3ns2 => have := HL.out; unfold maxLen; omega
      case e4ns2 => have := HL.out; omega
      case e5ns2 => exact HB5.out.size
      intro v7 w7 hown7 hgrow7 hnil7 hat7
      have HB7 := hidb (grown_up HB5.out hgrow7 (fun k hk => (row_lt HO5.out k hk).2))
      (try simp only [List.nil_append, Nat.zero_add] at hown7)
      have HO7 := hidb hown7
      obtain ⟨q7, c7, rfl⟩ := own_sl hown7
      clear hown7 hgrow7 hnil7 hat7 k1
      go_wp2_with fail
      unfold Un
      go_wp2_with fail
      go_ret
      refine ⟨_, rfl, ?_, HB7.out⟩
      first | exact HO7.out | (have h9 := HO7.out; simpa using h9)
  | some ad1 =>
    cases a2 with
    | none =>
      have HK1 := hidb (HR1.out ad1 rfl)
      obtain ⟨rfl, hk2⟩ := HZ2.out rfl
      obtain rfl : M = 0 := by rw [← HN.out.2, hk2]; rfl
      obtain rfl : YS = [] := by rw [← HXS.out.2, hk2]; rfl
      clear hk2
      have M1 := trivial
      have M2 := trivial
      have HK1 := hidb (And.intro (fun (j : Nat) (u : Value) (hj : XS[j]? = some u) => (HB5.out.cell (p := ad1.add j) (by have h9 := World.block_lt_of_cell? _ _ (HK1.out.1 j u hj); exact h9)).trans (HK1.out.1 j u hj)) HK1.out.2)
      go_wp2_with fail
      refine wp_loop_times 3 ?_
      unfold Un
      go_wp2_with (at_builtin; clear M1; refine wpList_append_own_at _ rfl _ _ 22 rfl W.heap.size 27 i0 (.agg #[.int .i64 0, .int .i64 0, .float .f64 0, .string ⟨#[]⟩, .slice none 0 0]) 5 64 Tryz.underlying22 hi hz0 hs0 hb0 rfl (by decide) (.slice q5 0 c5) 0 ([]) rfl HO5.out ad1 N c1 XS rfl HK1.out.2.2 HK1.out.1 HK1.out.2.1 ?e3sn1 ?e4sn1 ?e5sn1 ?_)
      case e3sn1 => have := HL.out; unfold maxLen; omega
      case e4sn1 => have := HL.out; omega
      case e5sn1 => exact HB5.out.size
      intro v6 w6 hown6 hgrow6 hnil6 hat6
      have HB6 := hidb (grown_up HB5.out hgrow6 (fun k hk => (row_lt HO5.out k hk).2))
      (try simp only [List.nil_append, Nat.zero_add] at hown6)
      have HO6 := hidb hown6
      obtain ⟨q6, c6, rfl⟩ := own_sl hown6
      have k1 := (HB6.out.cell (p := ⟨rb, 1, none⟩) hrl).trans h1
      clear hown6 hgrow6 hnil6 hat6 k0
      go_wp2_with fail
      unfold Un
      go_wp2_with (at_builtin; clear M2; refine wpList_append_own_none rfl _ _ 22 rfl W.heap.size 27 i0 5 Tryz.underlying22 hi (.slice q6 N c6) N (XS) rfl HO6.out rfl ?_)
      unfold Un
      go_wp2_with fail
      go_ret
      refine ⟨_, rfl, ?_, HB6.out⟩
      first | exact HO6.out | (have h9 := HO6.out; simpa using h9)
    | some ad2 =>
      have HK1 := hidb (HR1.out ad1 rfl)
      have HK2 := hidb (HR2.out ad2 rfl)
      have M1 := trivial
      have M2 := trivial
      have HK1 := hidb (And.intro (fun (j : Nat) (u : Value) (hj : XS[j]? = some u) => (HB5.out.cell (p := ad1.add j) (by have h9 := World.block_lt_of_cell? _ _ (HK1.out.1 j u hj); exact h9)).trans (HK1.out.1 j u hj)) HK1.out.2)
      go_wp2_with fail
      refine wp_loop_times 3 ?_
      unfold Un
      go_wp2_with (at_builtin; clear M1; refine wpList_append_own_at _ rfl _ _ 22 rfl W.heap.size 27 i0 (.agg #[.int .i64 0, .int .i64 0, .float .f64 0, .string ⟨#[]⟩, .slice none 0 0]) 5 64 Tryz.underlying22 hi hz0 hs0 hb0 rfl (by decide) (.slice q5 0 c5) 0 ([]) rfl HO5.out ad1 N c1 XS rfl HK1.out.2.2 HK1.out.1 HK1.out.2.1 ?e3ss1 ?e4ss1 ?e5ss1 ?_)
      case e3ss1 => have := HL.out; unfold maxLen; omega
      case e4ss1 => have := HL.out; omega
      case e5ss1 => exact HB5.out.size
      intro v6 w6 hown6 hgrow6 hnil6 hat6
      have HB6 := hidb (grown_up HB5.out hgrow6 (fun k hk => (row_lt HO5.out k hk).2))
      (try simp only [List.nil_append, Nat.zero_add] at hown6)
      have HO6 := hidb hown6
      obtain ⟨q6, c6, rfl⟩ := own_sl hown6
      have k1 := (HB6.out.cell (p := ⟨rb, 1, none⟩) hrl).trans h1
      clear hown6 hgrow6 hnil6 hat6 k0
      go_wp2_with fail
      unfold Un
      have HK2 := hidb (And.intro (fun (j : Nat) (u : Value) (hj : YS[j]? = some u) => (HB6.out.cell (p := ad2.add j) (by have h9 := World.block_lt_of_cell? _ _ (HK2.out.1 j u hj); exact h9)).trans (HK2.out.1 j u hj)) HK2.out.2)
      go_wp2_with (at_builtin; clear M2; refine wpList_append_own_at _ rfl _ _ 22 rfl W.heap.size 27 i0 (.agg #[.int .i64 0, .int .i64 0, .float .f64 0, .string ⟨#[]⟩, .slice none 0 0]) 5 64 Tryz.underlying22 hi hz0 hs0 hb0 rfl (by decide) (.slice q6 N c6) N (XS) rfl HO6.out ad2 M c2 YS rfl HK2.out.2.2 HK2.out.1 HK2.out.2.1 ?e3ss2 ?e4ss2 ?e5ss2 ?_)
      case e3ss2 => have := HL.out; unfold maxLen; omega
      case e4ss2 => have := HL.out; omega
      case e5ss2 => exact HB6.out.size
      intro v7 w7 hown7 hgrow7 hnil7 hat7
      have HB7 := hidb (grown_up HB6.out hgrow7 (fun k hk => (row_lt HO6.out k hk).2))
      (try simp only [List.nil_append, Nat.zero_add] at hown7)
      have HO7 := hidb hown7
      obtain ⟨q7, c7, rfl⟩ := own_sl hown7
      clear hown7 hgrow7 hnil7 hat7 k1
      go_wp2_with fail
      unfold Un
      go_wp2_with fail
      go_ret
      refine ⟨_, rfl, ?_, HB7.out⟩
      first | exact HO7.out | (have h9 := HO7.out; simpa using h9)
end Go.Proofs.YtgljglindgbjaaaGreatDoor


/- known: the chapter's examples. -/
namespace Go.Proofs.YtgljglindgbjaaaGreatDoor
open Go.RowKit Go.Lib Go.Deep
attribute [local go_sem] store_float f64bits store_func store_nilFunc
attribute [local go_sem ↓] Go.wp_at_zero Go.wp_at_succ

abbrev bolS (b : Bool) : ByteArray := if b then trueS else falseS
theorem ans_bool {b : Bool} {w : World} {e : Ending} {w' : World} (h : Ans (fun x => x = bolT b) (fun _ => False) w e w') : ∃ a c, e = .returned (.tuple #[.agg #[.int .i64 3, .int .i64 0, .float .f64 0, .string (bolS b), .slice a 0 c], .int .i64 0]) ∧ Below w.heap.size w w' ∧ (Tr.mk 3 0 0 (bolS b) a c []).In w' w.heap.size := by
  obtain ⟨hb, ⟨t, ⟨k', n', f', s', a', c', ks'⟩, rfl, -, hs, hin, rfl⟩ | ⟨er, hE | ⟨t, rfl, he, -⟩, rfl⟩⟩ := h
  · unfold bolT Sm at hs
    obtain ⟨rfl, rfl, rfl, rfl, h⟩ := hs
    cases ks' with
    | nil => exact ⟨a', c', rfl, hb, hin⟩
    | cons => simp [SmA] at h
  · exact hE.elim
  · exact absurd (bolT_err b) he
theorem ans_err {er : Int} {w : World} {e : Ending} {w' : World} (h : Ans (fun _ => False) (fun x => x = er) w e w') : e = .returned (.tuple #[zterm, .int .i64 er]) ∧ Below w.heap.size w w' := by
  obtain ⟨hb, ⟨t, t', h, -⟩ | ⟨er', rfl | ⟨t, h, -⟩, rfl⟩⟩ := h
  · exact h.elim
  · exact ⟨rfl, hb⟩
  · exact h.elim
theorem in_kind {w : World} {base : Nat} {k' n : Int} {f : Nat} {s : ByteArray} {a : Option Addr} {c : Nat} {ks : List Tr} (h : (Tr.mk 0 n f s a c ks).In w base) (hk : Lit.wf (.int .i64 k') = true) : (Tr.mk k' n f s a c ks).In w base := by
  unfold Tr.In at h ⊢
  exact ⟨⟨hk, h.1.2⟩, h.2⟩

theorem i9_any (k : Int) (w : World) : Calls Tryz.prog 9 #[.int .i64 k] w fun e w' => e = .returned (.agg #[.int .i64 1, .int .i64 k, .float .f64 0, .string ⟨#[]⟩, .slice none 0 0]) ∧ Below w.heap.size w w' := by
  go_enter Tryz.func9, Tryz.ntmps9
  go_wp2
  exact bodyPost_ret (v := .agg #[.int .i64 1, .int .i64 k, .float .f64 0, .string ⟨#[]⟩, .slice none 0 0]) (by simp [results, Tryz.results9, go_sem]) rfl ⟨rfl, below_new w _⟩

set_option maxRecDepth 100000 in
theorem eq_one (w : World) : Calls Tryz.prog 6 #[.string ⟨#[61, 61]⟩, .slice (some ⟨w.heap.size, 0, none⟩) 2 2] (w.alloc (.cells oneC 27)) fun e w' => (∃ a c, e = .returned (.tuple #[.agg #[.int .i64 3, .int .i64 0, .float .f64 0, .string trueS, .slice a 0 c], .int .i64 0])) ∧ Below w.heap.size w w' := by
  refine (op_any (P := fun x => x = bolT true) (E := fun _ => False) (n := 2) (fun r hr => ?_) (fun h => ?_)).mono ?_
  · have hf : bfnd opsL ⟨#[61, 61]⟩ ((2 : Nat) : Int) = some (⟨#[61, 61]⟩, 2, 31) := by kernel_rfl
    rw [hf] at hr
    obtain rfl := Option.some.inj hr
    exact equal_tc (r := 0) (ones_in w _) (fun W hW => cmp_one W) rfl
  · have hf : bfnd opsL ⟨#[61, 61]⟩ ((2 : Nat) : Int) = some (⟨#[61, 61]⟩, 2, 31) := by kernel_rfl
    rw [hf] at h
    cases h
  · intro e w' h
    obtain ⟨a, c, rfl, hb, -⟩ := ans_bool h
    exact ⟨⟨a, c, rfl⟩, (below_new w _).trans (hb.mono (by simp))⟩
set_option maxRecDepth 100000 in
theorem id_one (w : World) : Calls Tryz.prog 6 #[.string ⟨#[61, 58, 61]⟩, .slice (some ⟨w.heap.size, 0, none⟩) 2 2] (w.alloc (.cells oneC 27)) fun e w' => (∃ a c, e = .returned (.tuple #[.agg #[.int .i64 3, .int .i64 0, .float .f64 0, .string falseS, .slice a 0 c], .int .i64 0])) ∧ Below w.heap.size w w' := by
  refine (op_any (P := fun x => x = bolT false) (E := fun _ => False) (n := 2) (fun r hr => ?_) (fun h => ?_)).mono ?_
  · have hf : bfnd opsL ⟨#[61, 58, 61]⟩ ((2 : Nat) : Int) = some (⟨#[61, 58, 61]⟩, 2, 37) := by kernel_rfl
    rw [hf] at hr
    obtain rfl := Option.some.inj hr
    exact identical_tc (r := false) (ones_in w _) (fun W hW => same_one W) rfl
  · have hf : bfnd opsL ⟨#[61, 58, 61]⟩ ((2 : Nat) : Int) = some (⟨#[61, 58, 61]⟩, 2, 37) := by kernel_rfl
    rw [hf] at h
    cases h
  · intro e w' h
    obtain ⟨a, c, rfl, hb, -⟩ := ans_bool h
    exact ⟨⟨a, c, rfl⟩, (below_new w _).trans (hb.mono (by simp))⟩

abbrev sevT : Tr := .mk 1 7 0 ⟨#[]⟩ none 0 []
theorem sev_in (w : World) : sevT.In w 0 := by
  unfold Tr.In
  exact ⟨⟨by decide, by decide, by decide, by show 0 ≤ maxLen; omega, by simp, by simp, fun _ => rfl⟩, fun ad h => by simp at h⟩
theorem num_in (n : Int) (h0 : 0 ≤ n) (h1 : n ≤ 1000) (w : World) : (Tr.mk 1 n 0 ⟨#[]⟩ none 0 []).In w 0 := by
  unfold Tr.In
  refine ⟨⟨by decide, ?_, by decide, by show 0 ≤ maxLen; omega, by simp, by simp, fun _ => rfl⟩, fun ad h => by simp at h⟩
  have e0 : IntKind.i64.min = -9223372036854775808 := by decide
  have e1 : IntKind.i64.max = 9223372036854775807 := by decide
  simp only [Lit.wf, e0, e1, Bool.and_eq_true, decide_eq_true_eq]
  omega
/-- {7} and a number, as arguments. -/
theorem el_args (n : Int) (h0 : 0 ≤ n) (h1 : n ≤ 1000) (w : World) (tb : Nat) (htb : (Tr.mk 0 0 0 ⟨#[]⟩ (some ⟨tb, 0, none⟩) 1 [sevT]).In w 0) (t : TypeId) : ArgsIn (w.alloc (.cells #[.int .i64 1, .int .i64 n, .float .f64 0, .string ⟨#[]⟩, .slice none 0 0, .int .i64 7, .int .i64 0, .float .f64 0, .string ⟨#[]⟩, .slice (some ⟨tb, 0, none⟩) 1 1] t)) (some ⟨w.heap.size, 0, none⟩) 2 [.mk 1 n 0 ⟨#[]⟩ none 0 [], .mk 7 0 0 ⟨#[]⟩ (some ⟨tb, 0, none⟩) 1 [sevT]] :=
  built_in w [.mk 1 n 0 ⟨#[]⟩ none 0 [], .mk 7 0 0 ⟨#[]⟩ (some ⟨tb, 0, none⟩) 1 [sevT]] (fun u hu => by
    rcases List.mem_cons.1 hu with h | h
    · rw [h]; exact num_in n h0 h1 w
    · rw [List.mem_singleton.1 h]; exact in_kind htb (by decide)) t (by simp)
theorem el_find : (bfnd grdL ⟨#[101, 108, 101, 109, 101, 110, 116]⟩ ((2 : Nat) : Int)).or (bfnd othL ⟨#[101, 108, 101, 109, 101, 110, 116]⟩ ((2 : Nat) : Int)) = some (⟨#[101, 108, 101, 109, 101, 110, 116]⟩, 2, 63) := by kernel_rfl
theorem sev_small : ∀ t ∈ [sevT], Small t ∧ cnT t ≤ 1000000000 := fun t ht => by
  rw [List.mem_singleton.1 ht]
  simp [Small, SmallAll, cnT, cnA]
set_option maxRecDepth 100000 in
theorem el_1 (w : World) (tb : Nat) (htb : (Tr.mk 0 0 0 ⟨#[]⟩ (some ⟨tb, 0, none⟩) 1 [sevT]).In w 0) : Calls Tryz.prog 10 #[.string ⟨#[101, 108, 101, 109, 101, 110, 116]⟩, .slice (some ⟨w.heap.size, 0, none⟩) 2 2, noneF] (w.alloc (.cells #[.int .i64 1, .int .i64 1, .float .f64 0, .string ⟨#[]⟩, .slice none 0 0, .int .i64 7, .int .i64 0, .float .f64 0, .string ⟨#[]⟩, .slice (some ⟨tb, 0, none⟩) 1 1] 27)) fun e w' => (∃ a c, e = .returned (.tuple #[.agg #[.int .i64 1, .int .i64 7, .float .f64 0, .string ⟨#[]⟩, .slice a 0 c], .int .i64 0])) ∧ Below w.heap.size w w' := by
  refine (call_any (P := fun x => x = sevT) (E := fun _ => False) (n := 2) (fun r hr => ?_) (fun h => ?_)).mono ?_
  · rw [el_find] at hr
    obtain rfl := Option.some.inj hr
    refine element_tc (el_args 1 (by omega) (by omega) w tb htb _) sev_small (by simp) (fun _ _ t ht => ?_) (fun h => ?_)
    · simpa using ht.symm
    · simp [plB] at h
  · rw [el_find] at h
    cases h
  · intro e w' h
    obtain ⟨hb, ⟨t, ⟨k', n', f', s', a', c', ks'⟩, rfl, -, hs, hin, rfl⟩ | ⟨er, hE | ⟨t, rfl, he, -⟩, rfl⟩⟩ := h
    · unfold Sm at hs
      obtain ⟨rfl, rfl, rfl, rfl, h⟩ := hs
      cases ks' with
      | nil => exact ⟨⟨a', c', rfl⟩, (below_new w _).trans (hb.mono (by simp))⟩
      | cons => simp [SmA] at h
    · exact hE.elim
    · exact absurd (by simp [errT, meas, measAll, own, allT, allAll, goodT, rightB, whB, ByteArray.toList_eq]) he
set_option maxRecDepth 100000 in
theorem el_0 (w : World) (tb : Nat) (htb : (Tr.mk 0 0 0 ⟨#[]⟩ (some ⟨tb, 0, none⟩) 1 [sevT]).In w 0) : Calls Tryz.prog 10 #[.string ⟨#[101, 108, 101, 109, 101, 110, 116]⟩, .slice (some ⟨w.heap.size, 0, none⟩) 2 2, noneF] (w.alloc (.cells #[.int .i64 1, .int .i64 0, .float .f64 0, .string ⟨#[]⟩, .slice none 0 0, .int .i64 7, .int .i64 0, .float .f64 0, .string ⟨#[]⟩, .slice (some ⟨tb, 0, none⟩) 1 1] 27)) fun e w' => e = .returned (.tuple #[zterm, .int .i64 13]) ∧ Below w.heap.size w w' := by
  refine (call_any (P := fun _ => False) (E := fun x => x = 13) (n := 2) (fun r hr => ?_) (fun h => ?_)).mono ?_
  · rw [el_find] at hr
    obtain rfl := Option.some.inj hr
    refine element_tc (el_args 0 (by omega) (by omega) w tb htb _) sev_small (by simp) (fun _ h t ht => ?_) (fun h => rfl)
    simp [plB] at h
  · rw [el_find] at h
    cases h
  · intro e w' h
    obtain ⟨rfl, hb⟩ := ans_err h
    exact ⟨rfl, (below_new w _).trans (hb.mono (by simp))⟩

set_option maxHeartbeats 1600000 in
set_option maxRecDepth 100000 in
theorem known9_any (w : World) : Calls Tryz.prog 4 #[] w fun e w' => e = .returned (.bool true) ∧ Below w.heap.size w w' := by
  go_enter Tryz.func4, Tryz.ntmps4
  go_wp2_with (go_at_call 9; refine (i9_any _ _).mono ?_; rintro e w1 ⟨rfl, hb1⟩; have HB1 := hidb hb1; clear hb1)
  refine (eq_one w1).mono ?_
  rintro e w2 ⟨⟨a1, c1, rfl⟩, hb2⟩
  have HB2 := hidb (HB1.out.trans (hb2.mono HB1.out.size))
  clear hb2 HB1
  go_wp2_with fail
  refine (i9_any _ _).mono ?_
  rintro e w3 ⟨rfl, hb3⟩
  have HA3 := hidb ((Box.new w2 27 (.int .i64 3) (.int .i64 0) (.float .f64 0) (.string trueS) (.slice a1 0 c1)).keep hb3)
  have HB3 := hidb (HB2.out.trans (((below_new w2 _).trans (hb3.mono (by simp))).mono HB2.out.size))
  clear hb3 HB2
  go_wp2_with fail
  refine (id_one w3).mono ?_
  rintro e w4 ⟨⟨a2, c2, rfl⟩, hb4⟩
  have HA4 := hidb (HA3.out.keep hb4)
  have HB4 := hidb (HB3.out.trans (hb4.mono HB3.out.size))
  clear hb4 HA3 HB3
  go_wp2_with fail
  refine (i9_any _ _).mono ?_
  rintro e w5 ⟨rfl, hb5⟩
  have HA5 := hidb ((HA4.out.keep (below_new w4 _)).keep hb5)
  have HD5 := hidb ((Box.new w4 27 (.int .i64 3) (.int .i64 0) (.float .f64 0) (.string falseS) (.slice a2 0 c2)).keep hb5)
  have HB5 := hidb (HB4.out.trans (((below_new w4 _).trans (hb5.mono (by simp))).mono HB4.out.size))
  clear hb5 HA4 HB4
  go_wp2_with fail
  refine (i9_any _ _).mono ?_
  rintro e w6 ⟨rfl, hb6⟩
  have HA6 := hidb (HA5.out.keep hb6)
  have HD6 := hidb (HD5.out.keep hb6)
  have HB6 := hidb (HB5.out.trans (hb6.mono HB5.out.size))
  clear hb6 HA5 HB5 HD5
  go_wp2_with fail
  obtain ⟨V6, hV6⟩ : ∃ V6, w6.alloc (.cells #[.int .i64 1, .int .i64 7, .float .f64 0, .string ⟨#[]⟩, .slice none 0 0] 27) = V6 := ⟨_, rfl⟩
  have htb : (Tr.mk 0 0 0 ⟨#[]⟩ (some ⟨w6.heap.size, 0, none⟩) 1 [sevT]).In V6 0 := by
    rw [← hV6]
    exact built_in w6 [sevT] (fun u hu => by rw [List.mem_singleton.1 hu]; exact sev_in w6) 27 (by simp)
  have hz6 : w6.heap.size + 1 = V6.heap.size := by rw [← hV6]; simp
  have hbV : Below w6.heap.size w6 V6 := by rw [← hV6]; exact below_new _ _
  rw [hV6, hz6]
  refine (el_1 V6 w6.heap.size htb).mono ?_
  rintro e w7 ⟨⟨a3, c3, rfl⟩, hb7⟩
  have hb67 := hbV.trans (hb7.mono hbV.size)
  have HA7 := hidb (HA6.out.keep hb67)
  have HD7 := hidb (HD6.out.keep hb67)
  have HB7 := hidb (HB6.out.trans (hb67.mono HB6.out.size))
  clear hb67 hb7 hbV hz6 htb hV6 HA6 HD6 HB6
  go_wp2_with fail
  refine (i9_any _ _).mono ?_
  rintro e w8 ⟨rfl, hb8⟩
  have HA8 := hidb ((HA7.out.keep (below_new w7 _)).keep hb8)
  have HD8 := hidb ((HD7.out.keep (below_new w7 _)).keep hb8)
  have HF8 := hidb ((Box.new w7 27 (.int .i64 1) (.int .i64 7) (.float .f64 0) (.string ⟨#[]⟩) (.slice a3 0 c3)).keep hb8)
  have HB8 := hidb (HB7.out.trans (((below_new w7 _).trans (hb8.mono (by simp))).mono HB7.out.size))
  clear hb8 HA7 HD7 HB7
  go_wp2_with fail
  refine (i9_any _ _).mono ?_
  rintro e w9 ⟨rfl, hb9⟩
  have HA9 := hidb (HA8.out.keep hb9)
  have HD9 := hidb (HD8.out.keep hb9)
  have HF9 := hidb (HF8.out.keep hb9)
  have HB9 := hidb (HB8.out.trans (hb9.mono HB8.out.size))
  clear hb9 HA8 HD8 HB8 HF8
  go_wp2_with fail
  obtain ⟨V9, hV9⟩ : ∃ V9, w9.alloc (.cells #[.int .i64 1, .int .i64 7, .float .f64 0, .string ⟨#[]⟩, .slice none 0 0] 27) = V9 := ⟨_, rfl⟩
  have htb : (Tr.mk 0 0 0 ⟨#[]⟩ (some ⟨w9.heap.size, 0, none⟩) 1 [sevT]).In V9 0 := by
    rw [← hV9]
    exact built_in w9 [sevT] (fun u hu => by rw [List.mem_singleton.1 hu]; exact sev_in w9) 27 (by simp)
  have hz9 : w9.heap.size + 1 = V9.heap.size := by rw [← hV9]; simp
  have hbV : Below w9.heap.size w9 V9 := by rw [← hV9]; exact below_new _ _
  rw [hV9, hz9]
  refine (el_0 V9 w9.heap.size htb).mono ?_
  rintro e wa ⟨rfl, hba⟩
  have hb9a := hbV.trans (hba.mono hbV.size)
  have HAa := hidb (HA9.out.keep hb9a)
  have HDa := hidb (HD9.out.keep hb9a)
  have HFa := hidb (HF9.out.keep hb9a)
  have HBa := hidb (HB9.out.trans (hb9a.mono HB9.out.size))
  obtain ⟨⟨x0, x1, x2, x3, x4⟩, -, xl⟩ := Box.six HAa.out
  obtain ⟨⟨y0, y1, y2, y3, y4⟩, -, yl⟩ := Box.six HDa.out
  obtain ⟨⟨z0, z1, z2, z3, z4⟩, -, zl⟩ := Box.six HFa.out
  clear hb9a hba hbV hz9 htb hV9 HA9 HD9 HB9 HF9
  go_wp2_with fail
  go_ret
  exact ⟨rfl, HBa.out.alloc HBa.out.size _⟩
end Go.Proofs.YtgljglindgbjaaaGreatDoor


/- ++ of a list and of none. -/
namespace Go.Proofs.YtgljglindgbjaaaGreatDoor
open Go.RowKit Go.Lib Go.Deep
attribute [local go_sem] store_float f64bits store_func store_nilFunc
attribute [local go_sem ↓] Go.wp_at_zero Go.wp_at_succ

theorem ent_elements : Ent 104 := by
  intro args w
  kernel_rfl
theorem ent_concat : Ent 103 := by
  intro args w
  kernel_rfl
theorem ent_list : Ent 102 := by
  intro args w
  kernel_rfl
theorem list_any (a : Option Addr) (l c : Nat) (w : World) : Calls Tryz.prog 102 #[.slice a l c] w fun e w' => e = .returned (.agg #[.int .i64 8, .int .i64 0, .float .f64 0, .string ⟨#[]⟩, .slice a l c]) ∧ Below w.heap.size w w' := by
  go_enter Tryz.func102, Tryz.ntmps102
  go_wp2
  exact bodyPost_ret (v := .agg #[.int .i64 8, .int .i64 0, .float .f64 0, .string ⟨#[]⟩, .slice a l c]) (by simp [results, Tryz.results102, go_sem]) rfl ⟨rfl, below_new w _⟩
abbrev nolT : Tr := .mk 8 0 0 ⟨#[]⟩ none 0 []
theorem row_low {w : World} {B e size n : Nat} {V : Value} {xs : List Value} (h : w.ownsRow B e size V n xs) : w.ownsRow 0 e size V n xs := by
  refine ⟨h.1, ?_⟩
  rcases h.2 with h0 | ⟨g, cap, cur, rfl, _, r⟩
  · exact .inl h0
  · exact .inr ⟨g, cap, cur, rfl, Nat.zero_le _, r⟩

set_option maxHeartbeats 1600000 in
set_option maxRecDepth 100000 in
theorem joined_tc {w : World} {a : Option Addr} {c : Nat} {k n : Int} {f : Nat} {s : ByteArray} {a1 : Option Addr} {c1 : Nat} {ks : List Tr} {nm : ByteArray} {P : Tr → Prop} {E : Int → Prop} (hin : ArgsIn w a c [.mk k n f s a1 c1 ks, nolT])
    (hsm : Small (.mk k n f s a1 c1 ks)) (hcn : cnT (.mk k n f s a1 c1 ks) ≤ 1000000000) (hlen : k = 8 → ks.length ≤ 65536)
    (hP : k = 8 → ∀ a' c', P (.mk 8 0 0 ⟨#[]⟩ a' c' ks)) (hE : k ≠ 8 → E 13) :
    TC 39 P E (.agg #[.string nm, .slice a 2 c, .nilFunc]) w := by
  refine ⟨fun args w => by kernel_rfl, fun W hW => ?_⟩
  have HP := hidb hP
  have HE := hidb hE
  have HWS := hidb hW.size
  have HIW := hidb (in_below hW hin)
  obtain ⟨b, o, rfl, hbW, v0, v1, v2, v3, v4, hin0⟩ := argi hin hW (i := 0) rfl
  have HON := hidb (onAll_get (t := .mk k n f s a1 c1 ks) (by have := on_all _ hin; unfold Tr.On at this; exact this.2) (by simp))
  have HI0 := hidb hin0
  have HSM := hidb (And.intro hsm (And.intro hcn hlen))
  obtain ⟨V1, hV1⟩ : ∃ V1, ((W.alloc (.cells #[.string nm, .slice (some ⟨b, o, none⟩) 2 c, .nilFunc] CT)).alloc (.cells #[.int .i64 0, .int .i64 0, .float .f64 0, .string ⟨#[]⟩, .slice none 0 0] 27)) = V1 := ⟨_, rfl⟩
  have HX0 : Hid (Box V1 (W.heap.size + 1) (.int .i64 0) (.int .i64 0) (.float .f64 0) (.string ⟨#[]⟩) (.slice none 0 0)) := hidb (by
    rw [← hV1]
    have := Box.new (W.alloc (.cells #[.string nm, .slice (some ⟨b, o, none⟩) 2 c, .nilFunc] CT)) 27 (.int .i64 0) (.int .i64 0) (.float .f64 0) (.string ⟨#[]⟩) (.slice none 0 0)
    simpa using this)
  have HC0 : Hid (Tri V1 W.heap.size (.string nm) (.slice (some ⟨b, o, none⟩) 2 c) .nilFunc) := hidb (by rw [← hV1]; exact (Tri.new W _ _ _ _).keep (below_new _ _))
  have HBW : Hid (Below W.heap.size W V1) := hidb (by rw [← hV1]; exact (below_new W _).alloc (by simp) _)
  have HV1 := hidb hV1
  obtain ⟨PP, hPP⟩ : ∃ PP : Ending → World → Prop, Tld P E w.heap.size W = PP := ⟨_, rfl⟩
  have HPP := hidb hPP
  rw [hPP]
  clear hV1 hPP
  have HSA : Hid (∀ W9, Below V1.heap.size V1 W9 → (fun W9 => W9.cell? ⟨W.heap.size, 0, none⟩ = some (.string nm) ∧ W9.cell? ⟨W.heap.size, 1, none⟩ = some (.slice (some ⟨b, o, none⟩) 2 c) ∧ W9.cell? ⟨W.heap.size, 2, none⟩ = some .nilFunc) W9) := hidb (fun W9 hb => ⟨(HC0.out.keep hb).c0, (HC0.out.keep hb).c1, (HC0.out.keep hb).c2⟩)
  have HS0 := hidb (HSA.out V1.drew (Below.refl _ _).drew)
  clear hP hE hW hin hin0 hsm hcn hlen v0 v1 v2 v3 v4
  by_cases h8 : k = 8
  · subst h8
    have EL0 := hidb (fun W1 (hb : Below W.heap.size W W1) => elementsN_ok (nm := nm) (in_below hb HIW.out) (i := 0) rfl)
    have EL1 := hidb (fun W1 (hb : Below W.heap.size W W1) => elementsN_ok (nm := nm) (in_below hb HIW.out) (i := 1) rfl)
    simp only [List.length_cons, List.length_nil] at EL0 EL1
    have CC := hidb (fun W1 (hb : Below W.heap.size W W1) rb (h0 : W1.cell? ⟨rb, 0, none⟩ = some (.slice a1 ks.length c1)) (h1 : W1.cell? ⟨rb, 1, none⟩ = some (.slice none 0 0)) => concat_one (W := W1) (rb := rb) (a1 := a1) (c1 := c1) (kids := ks) (by have := in_below hb HI0.out; unfold Tr.In at this ⊢; exact ⟨⟨by decide, by decide, by decide, by show 0 ≤ maxLen; omega, this.1.2.2.2.2⟩, this.2⟩) h0 h1 (HSM.out.2.2 rfl))
    obtain ⟨N, hN⟩ : ∃ N, ks.length = N := ⟨_, rfl⟩
    have HN := hidb hN
    rw [hN] at EL0 CC
    obtain ⟨XS, hXS⟩ : ∃ XS, ks.flatMap Tr.cells = XS := ⟨_, rfl⟩
    have HXS := hidb hXS
    rw [hXS] at CC
    clear hN hXS
    go_enter Tryz.func39, Tryz.ntmps39
    go_wp2_with fail
    rw [HV1.out]
    refine wp_region_D (fun W9 => W9.cell? ⟨W.heap.size, 0, none⟩ = some (.string nm) ∧ W9.cell? ⟨W.heap.size, 1, none⟩ = some (.slice (some ⟨b, o, none⟩) 2 c) ∧ W9.cell? ⟨W.heap.size, 2, none⟩ = some .nilFunc) [7] (by kernel_rfl) ?_
    refine wpAnyD_takeL (i := 0) (v := ?vv0z) rfl (by kernel_rfl) (by kernel_rfl) (by kernel_rfl) (by kernel_rfl) (fun _ _ _ h => h) HS0.out rfl ?hy0z ?_
    case hy0z => intro wy hSw; obtain ⟨z0, z1, z2⟩ := hSw; go_simp; try with_reducible rfl
    simp only [Act.put, List.setIfInBounds_toArray, List.set_cons_zero, List.set_cons_succ]
    refine wpAnyD_takeL (i := 2) (v := ?vv2z) rfl (by kernel_rfl) (by kernel_rfl) (by kernel_rfl) (by kernel_rfl) (fun _ _ _ h => h) HS0.out rfl ?hy2z ?_
    case hy2z => intro wy hSw; obtain ⟨z0, z1, z2⟩ := hSw; go_simp; try with_reducible rfl
    simp only [Act.put, List.setIfInBounds_toArray, List.set_cons_zero, List.set_cons_succ]
    refine wpAnyD_stepL (i := 1) (by kernel_rfl) rfl (fun K hK => ?_)
    refine step_callB (by simp [Region.wanted]) (run_call ent_elements #[.tmp 3, .const (.int .i64 0), .const (.int .i64 8)] _ rfl #[.agg #[.string nm, .slice (some ⟨b, o, none⟩) 2 c, .nilFunc], .int .i64 0, .int .i64 8] rfl) (EL0.out V1.drew HBW.out.drew) ?_
    rintro e w2 ⟨rfl, hb2⟩
    have HV2 := hidb (undrew hb2)
    refine hK _ _ (fun _ => HSA.out w2 HV2.out) ?_
    clear hK K hb2 HS0
    simp only [Act.put, List.setIfInBounds_toArray, List.set_cons_zero, List.set_cons_succ]
    refine wpAnyD_stepL (i := 3) (by kernel_rfl) rfl (fun K hK => ?_)
    refine step_callB (by simp [Region.wanted]) (run_call ent_elements #[.tmp 5, .const (.int .i64 1), .const (.int .i64 8)] _ rfl #[.agg #[.string nm, .slice (some ⟨b, o, none⟩) 2 c, .nilFunc], .int .i64 1, .int .i64 8] rfl) (EL1.out w2 (HBW.out.trans (HV2.out.mono HBW.out.size))) ?_
    rintro e w3 ⟨rfl, hb3⟩
    have HV3 := hidb (HV2.out.trans (hb3.mono HV2.out.size))
    refine hK _ _ (fun _ => HSA.out w3 HV3.out) ?_
    clear hK K hb3
    simp only [Act.put, List.setIfInBounds_toArray, List.set_cons_zero, List.set_cons_succ]
    refine wpAnyD_stepL (i := 4) (by kernel_rfl) rfl (fun K hK => ?_)
    go_simp
    refine hK _ _ (fun _ => HSA.out _ (HV3.out.alloc HV3.out.size _)) ?_
    clear hK K
    obtain ⟨W4, hW4⟩ : ∃ W4, w3.alloc (.cells #[.slice a1 N c1, .slice none 0 0] 22) = W4 := ⟨_, rfl⟩
    have HV4 : Hid (Below V1.heap.size V1 W4) := hidb (by rw [← hW4]; exact HV3.out.alloc HV3.out.size _)
    have hc0 : W4.cell? ⟨w3.heap.size, 0, none⟩ = some (.slice a1 N c1) := by rw [← hW4, World.cell?_alloc_new]; rfl
    have hc1 : W4.cell? ⟨w3.heap.size, 1, none⟩ = some (.slice none 0 0) := by rw [← hW4, World.cell?_alloc_new]; rfl
    rw [hW4]
    clear hW4
    refine wpAnyD_stepL (i := 5) (by kernel_rfl) rfl (fun K hK => ?_)
    refine step_callB (by simp [Region.wanted]) (run_call ent_concat #[.tmp 7] _ rfl #[.slice (some ⟨w3.heap.size, 0, none⟩) 2 2] rfl) (CC.out W4 (HBW.out.trans (HV4.out.mono HBW.out.size)) w3.heap.size hc0 hc1) ?_
    rintro e w5 ⟨v5, rfl, hown5, hb5⟩
    obtain ⟨q5, c5, rfl⟩ := own_sl hown5
    have HV5 := hidb (HV4.out.trans (hb5.mono HV4.out.size))
    have HO5 := hidb hown5
    have HZ4 := hidb HV4.out.size
    refine hK _ _ (fun _ => HSA.out w5 HV5.out) ?_
    clear hK K hb5 hown5 hc0 hc1
    simp only [Act.put, List.setIfInBounds_toArray, List.set_cons_zero, List.set_cons_succ]
    refine wpAnyD_stepL (i := 6) (by kernel_rfl) rfl (fun K hK => ?_)
    refine step_callB (by simp [Region.wanted]) (run_call ent_list #[.tmp 8] _ rfl #[.slice q5 N c5] rfl) (list_any q5 N c5 w5) ?_
    rintro e w6 ⟨rfl, hb6⟩
    have HV6 := hidb (HV5.out.trans (hb6.mono HV5.out.size))
    have HO6 := hidb (row_but HO5.out (But.of_below (S := fun _ => False) hb6) (fun _ _ h => h))
    have HX6 := hidb (HX0.out.keep HV6.out)
    refine hK _ _ (fun _ => HSA.out w6 HV6.out) ?_
    clear hK K hb6
    simp only [Act.put, List.setIfInBounds_toArray, List.set_cons_zero, List.set_cons_succ]
    obtain ⟨⟨x0, x1, x2, x3, x4⟩, ⟨y0, y1, y2, y3, y4⟩, xl⟩ := Box.six HX6.out
    refine wpAnyD_stepL (i := 7) (by kernel_rfl) rfl (fun K hK => ?_)
    go_simp
    refine hK _ _ (fun h => absurd (List.mem_singleton.2 rfl) h) ?_
    clear hK K
    refine wpAnyD_done (by kernel_rfl) ?_ _
    go_wp2_with fail
    have bx9 := HX6.out.set (.int .i64 8) (.int .i64 0) (.float .f64 0) (.string ⟨#[]⟩) (.slice q5 N c5)
    obtain ⟨⟨k0, k1', k2, k3, k4⟩, -, -⟩ := Box.six bx9
    simp only [set5] at k0 k1' k2 k3 k4
    refine bodyPost_ret (v := (Tr.mk 8 0 0 ⟨#[]⟩ q5 c5 ks).val) (by simp [Tr.val, Tr.cells, HN.out, results, Tryz.results39, go_sem, k0, k1', k2, k3, k4]) rfl ?_
    rw [← HPP.out]
    have hbW6 : Below W.heap.size W w6 := HBW.out.trans (HV6.out.mono HBW.out.size)
    have hwl : w.heap.size ≤ W.heap.size := HWS.out
    have hvz : W.heap.size + 1 < V1.heap.size := HX0.out.lt
    have hin6 : (Tr.mk 8 0 0 ⟨#[]⟩ q5 c5 ks).In w6 0 := by
      have ho : w6.ownsRow 0 27 5 (.slice q5 N c5) ks.length (ks.flatMap Tr.cells) := by rw [HN.out, HXS.out]; exact row_low HO6.out
      have hkk : ∀ t, t ∈ ks → t.In w6 0 ∧ t.On (fun b => (Value.slice q5 N c5).ownBlock ≠ some b ∧ b < w6.heap.size ∧ 0 ≤ b) := by
        intro t ht
        constructor
        · have h1 := in_below hbW6 HI0.out
          unfold Tr.In at h1
          obtain ⟨j, hj⟩ := List.getElem?_of_mem ht
          cases a1 with
          | none =>
            have h0 := h1.1.2.2.2.2.2.2 rfl
            have h2 := h1.1.2.2.2.2.1
            have := (List.getElem?_eq_some_iff.1 hj).1
            omega
          | some ad => exact (inAll_get (h1.2 ad rfl).2 j t hj).2
        · refine on_mono (fun q hq => ?_) _ (on_kid HON.out ht)
          refine ⟨fun e => ?_, by have := hbW6.size; omega, Nat.zero_le _⟩
          have := (row_lt HO6.out q e).2
          have := HZ4.out
          have := HBW.out.size
          omega
      obtain ⟨a9, c9, he, hin9⟩ := rows_tree (w := w6) (base := 0) (v := .slice q5 N c5) (ds := ks) ⟨ho, hkk⟩ 8 0 0 ⟨#[]⟩ (by decide) (by decide) (by decide) (by show 0 ≤ maxLen; omega)
      obtain ⟨rfl, -, rfl⟩ : q5 = a9 ∧ N = ks.length ∧ c5 = c9 := by simpa using he
      exact hin9
    have hon6 : (Tr.mk 8 0 0 ⟨#[]⟩ q5 c5 ks).On (fun q => q < w.heap.size ∨ W.heap.size + 2 ≤ q) := by
      have h9 := HON.out
      unfold Tr.On at h9 ⊢
      refine ⟨fun h0 ad had => .inr ?_, ?_⟩
      · have := (row_lt HO6.out ad.block (by subst had; rcases HO6.out.2 with ⟨h, _⟩ | ⟨g, cap, cur, h, _⟩ <;> simp_all [Value.ownBlock])).2
        have := HZ4.out
        omega
      · have : ∀ l : List Tr, (∀ t ∈ l, t ∈ ks) → Tr.OnAll (fun q => q < w.heap.size ∨ W.heap.size + 2 ≤ q) l := by
          intro l
          induction l with
          | nil => intro _; unfold Tr.OnAll; trivial
          | cons t r ih =>
            intro hl
            unfold Tr.OnAll
            exact ⟨on_mono (fun q hq => .inl hq) _ (on_kid HON.out (hl t (by simp))), ih (fun u hu => hl u (by simp [hu]))⟩
        exact this ks (fun t h => h)
    refine ⟨(((((hbW6.setCell (by simp) _).setCell (by simp) _).setCell (by simp) _).setCell (by simp) _).setCell (by simp) _), .inl ⟨_, rfl, HP.out (by first | rfl | trivial) _ _, ?_, on_mono (fun q hq => by omega) _ hon6, ?_, ?_⟩⟩
    · exact in_on5 (B := w.heap.size) (c := W.heap.size + 2) hin6 hon6 (by omega) (by omega) _ _ _ _ _
    · have := HSM.out.1; unfold Small at this ⊢; exact this
    · have := HSM.out.2.1; unfold cnT at this ⊢; exact this
  · have EL0 := hidb (fun W1 (hb : Below W.heap.size W W1) => elementsN_no (nm := nm) (kd := 8) (in_below hb HIW.out) (i := 0) rfl h8)
    simp only [List.length_cons, List.length_nil] at EL0
    have HE2 := hidb (HE.out h8)
    clear h8 HP HE
    go_enter Tryz.func39, Tryz.ntmps39
    go_wp2_with fail
    rw [HV1.out]
    refine wp_region_D (fun W9 => W9.cell? ⟨W.heap.size, 0, none⟩ = some (.string nm) ∧ W9.cell? ⟨W.heap.size, 1, none⟩ = some (.slice (some ⟨b, o, none⟩) 2 c) ∧ W9.cell? ⟨W.heap.size, 2, none⟩ = some .nilFunc) [7] (by kernel_rfl) ?_
    refine wpAnyD_takeL (i := 0) (v := ?vv0y) rfl (by kernel_rfl) (by kernel_rfl) (by kernel_rfl) (by kernel_rfl) (fun _ _ _ h => h) HS0.out rfl ?hy0y ?_
    case hy0y => intro wy hSw; obtain ⟨z0, z1, z2⟩ := hSw; go_simp; try with_reducible rfl
    simp only [Act.put, List.setIfInBounds_toArray, List.set_cons_zero, List.set_cons_succ]
    refine wpAnyD_takeL (i := 2) (v := ?vv2y) rfl (by kernel_rfl) (by kernel_rfl) (by kernel_rfl) (by kernel_rfl) (fun _ _ _ h => h) HS0.out rfl ?hy2y ?_
    case hy2y => intro wy hSw; obtain ⟨z0, z1, z2⟩ := hSw; go_simp; try with_reducible rfl
    simp only [Act.put, List.setIfInBounds_toArray, List.set_cons_zero, List.set_cons_succ]
    refine wpAnyD_stepL (i := 1) (by kernel_rfl) rfl (fun K hK => ?_)
    refine step_callB (by simp [Region.wanted]) (run_call ent_elements #[.tmp 3, .const (.int .i64 0), .const (.int .i64 8)] _ rfl #[.agg #[.string nm, .slice (some ⟨b, o, none⟩) 2 c, .nilFunc], .int .i64 0, .int .i64 8] rfl) (EL0.out V1.drew HBW.out.drew) ?_
    rintro e w2 ⟨rfl, hb2⟩
    refine ⟨rfl, ?_⟩
    rw [← HPP.out]
    exact ⟨HBW.out.trans ((undrew hb2).mono HBW.out.size), .inr ⟨_, rfl, HE2.out⟩⟩
end Go.Proofs.YtgljglindgbjaaaGreatDoor


