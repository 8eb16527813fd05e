import Derived.Test.YtjnijmnacogabaaGreatDoorG34
/- BifNots. -/
namespace Go.Proofs.YtjnijmnacogabaaGreatDoor
open Go.RowKit Go.Lib Go.Deep
attribute [local go_sem] store_float f64bits store_func store_nilFunc
attribute [local go_sem ↓] Go.wp_at_zero Go.wp_at_succ

set_option maxRecDepth 100000 in
theorem not_yes {W : World} {a : Option Addr} {c : Nat} {k n : Int} {f : Nat} {s : ByteArray} {a' : Option Addr} {c' : Nat} {ks : List Tr} (hin : ArgsIn W a c [.mk k n f s a' c' ks]) (hb : isBol (.mk k n f s a' c' ks) = true) :
    Calls Tryz.prog 12 #[.string ⟨#[110, 111, 116]⟩, .slice a 1 c] W fun e w' => (∃ a2 c2, e = .returned (.tuple #[.agg #[.int .i64 3, .int .i64 0, .float .f64 0, .string (bolS (decide (s = falseS))), .slice a2 0 c2], .int .i64 0]) ∧ (Tr.mk 3 0 0 (bolS (decide (s = falseS))) a2 c2 []).In w' 0) ∧ Below W.heap.size W w' := by
  have hf : bfnd opsL ⟨#[110, 111, 116]⟩ ((1 : Nat) : Int) = some (⟨#[110, 111, 116]⟩, 1, 74) := by kernel_rfl
  refine (op_any (P := fun x => x = bolT (decide (s = falseS))) (E := fun _ => False) (n := 1) (fun r hr => ?_) (fun h => ?_)).mono ?_
  · rw [hf] at hr
    obtain rfl := Option.some.inj hr
    exact opposite_tc hin (fun _ => rfl) (fun h => by rw [hb] at h; cases h)
  · rw [hf] at h
    cases h
  · intro e w' h
    obtain ⟨a2, c2, rfl, hb2, hin2⟩ := ans_bool h
    exact ⟨⟨a2, c2, rfl, in_base (Nat.zero_le _) _ hin2⟩, hb2⟩
set_option maxRecDepth 100000 in
theorem not_no {W : World} {a : Option Addr} {c : Nat} {k n : Int} {f : Nat} {s : ByteArray} {a' : Option Addr} {c' : Nat} {ks : List Tr} (hin : ArgsIn W a c [.mk k n f s a' c' ks]) (hb : isBol (.mk k n f s a' c' ks) = false) :
    Calls Tryz.prog 12 #[.string ⟨#[110, 111, 116]⟩, .slice a 1 c] W fun e w' => e = .returned (.tuple #[zterm, .int .i64 13]) ∧ Below W.heap.size W w' := by
  have hf : bfnd opsL ⟨#[110, 111, 116]⟩ ((1 : Nat) : Int) = some (⟨#[110, 111, 116]⟩, 1, 74) := by kernel_rfl
  refine (op_any (P := fun _ => False) (E := fun x => x = 13) (n := 1) (fun r hr => ?_) (fun h => ?_)).mono ?_
  · rw [hf] at hr
    obtain rfl := Option.some.inj hr
    exact opposite_tc hin (fun h => by rw [hb] at h; cases h) (fun _ => rfl)
  · rw [hf] at h
    cases h
  · intro e w' h
    exact ans_err h
theorem len_list {n : Int} {f : Nat} {s : ByteArray} {a : Option Addr} {c : Nat} {ks : List Tr} (h : errT (.mk 8 n f s a c ks) = 0) : ks.length ≤ 65536 := by
  unfold errT at h
  split at h
  · cases h
  · rename_i h1
    unfold meas at h1
    split at h1
    · exact absurd (by decide) h1
    · rename_i h2
      have : own 8 ks.length = 2 * ks.length := by simp [own]
      omega
theorem good_list {n : Int} {f : Nat} {s : ByteArray} {a : Option Addr} {c : Nat} {ks : List Tr} (h : errT (.mk 8 n f s a c ks) = 0) (a' : Option Addr) (c' : Nat) : errT (.mk 8 0 0 ⟨#[]⟩ a' c' ks) = 0 := by
  unfold errT at h ⊢
  split at h
  · cases h
  · rename_i h1
    have e : meas (.mk 8 0 0 ⟨#[]⟩ a' c' ks) 200 65536 = meas (.mk 8 n f s a c ks) 200 65536 := rfl
    rw [e, if_neg h1]
    split at h
    · rename_i h2
      have h3 : allT goodT (.mk 8 0 0 ⟨#[]⟩ a' c' ks) = true := by
        unfold allT at h2 ⊢
        simp only [Bool.and_eq_true] at h2 ⊢
        exact ⟨by simp [goodT, ByteArray.toList_eq], h2.2⟩
      rw [if_pos h3]
    · cases h
set_option maxRecDepth 100000 in
theorem join_yes {W : World} {a : Option Addr} {c : Nat} {n : Int} {f : Nat} {s : ByteArray} {a' : Option Addr} {c' : Nat} {ks : List Tr} (hin : ArgsIn W a c [.mk 8 n f s a' c' ks, nolT]) (he : errT (.mk 8 n f s a' c' ks) = 0) (hsm : Small (.mk 8 n f s a' c' ks)) (hcn : cnT (.mk 8 n f s a' c' ks) ≤ 1000000000) :
    Calls Tryz.prog 12 #[.string ⟨#[43, 43]⟩, .slice a 2 c] W fun e w' => (∃ k2 n2 f2 s2 a2 l2 c2, e = .returned (.tuple #[.agg #[.int .i64 k2, .int .i64 n2, .float .f64 f2, .string s2, .slice a2 l2 c2], .int .i64 0])) ∧ Below W.heap.size W w' := by
  have hf : bfnd opsL ⟨#[43, 43]⟩ ((2 : Nat) : Int) = some (⟨#[43, 43]⟩, 2, 72) := by kernel_rfl
  refine (op_any (P := fun x => ∃ a' c', x = .mk 8 0 0 ⟨#[]⟩ a' c' ks) (E := fun _ => False) (n := 2) (fun r hr => ?_) (fun h => ?_)).mono ?_
  · rw [hf] at hr
    obtain rfl := Option.some.inj hr
    exact joined_tc hin hsm hcn (fun _ => len_list he) (fun _ a' c' => ⟨a', c', rfl⟩) (fun h => absurd rfl h)
  · rw [hf] at h
    cases h
  · intro e w' h
    obtain ⟨hb, ⟨t, ⟨k', n', f', s', a', c', ks'⟩, -, -, -, -, rfl⟩ | ⟨er, hE | ⟨t, ⟨a2, c2, rfl⟩, h2, -⟩, rfl⟩⟩ := h
    · exact ⟨⟨_, _, _, _, _, _, _, rfl⟩, hb⟩
    · exact hE.elim
    · exact absurd (good_list he a2 c2) h2
set_option maxRecDepth 100000 in
theorem join_no {W : World} {a : Option Addr} {c : Nat} {k n : Int} {f : Nat} {s : ByteArray} {a' : Option Addr} {c' : Nat} {ks : List Tr} (hin : ArgsIn W a c [.mk k n f s a' c' ks, nolT]) (hk : k ≠ 8) (hsm : Small (.mk k n f s a' c' ks)) (hcn : cnT (.mk k n f s a' c' ks) ≤ 1000000000) :
    Calls Tryz.prog 12 #[.string ⟨#[43, 43]⟩, .slice a 2 c] W fun e w' => e = .returned (.tuple #[zterm, .int .i64 13]) ∧ Below W.heap.size W w' := by
  have hf : bfnd opsL ⟨#[43, 43]⟩ ((2 : Nat) : Int) = some (⟨#[43, 43]⟩, 2, 72) := by kernel_rfl
  refine (op_any (P := fun _ => False) (E := fun x => x = 13) (n := 2) (fun r hr => ?_) (fun h => ?_)).mono ?_
  · rw [hf] at hr
    obtain rfl := Option.some.inj hr
    exact joined_tc hin hsm hcn (fun h => absurd h hk) (fun h => absurd h hk) (fun _ => rfl)
  · rw [hf] at h
    cases h
  · intro e w' h
    exact ans_err h
end Go.Proofs.YtjnijmnacogabaaGreatDoor


/- BifNots. -/
namespace Go.Proofs.YtjnijmnacogabaaGreatDoor
open Go.RowKit Go.Lib Go.Deep
attribute [local go_sem] store_float f64bits store_func store_nilFunc
attribute [local go_sem ↓] Go.wp_at_zero Go.wp_at_succ

set_option maxHeartbeats 4000000 in
set_option maxRecDepth 100000 in
theorem BifNots_of (k n : Int) (f : Nat) (s : ByteArray) (a : Option Addr) (c : Nat) (ks : List Tr) (w : World) (hin : (Tr.mk k n f s a c ks).In w 0) (hsw : SmallW (.mk k n f s a c ks)) :
    Calls Tryz.prog 7 #[.agg #[.int .i64 k, .int .i64 n, .float .f64 f, .string s, .slice a ks.length c]] w fun e w' => e = .returned (.bool true) ∧ Below w.heap.size w w' := by
  obtain ⟨t, ht⟩ : ∃ t, Tr.mk k n f s a c ks = t := ⟨_, rfl⟩
  have HIN := hidb hin
  have HSW := hidb hsw
  obtain ⟨L, hL⟩ : ∃ L, ks.length = L := ⟨_, rfl⟩
  have HL := hidb hL
  rw [hL]
  clear hin hsw hL
  have HX0 := hidb (Box.new w 29 (.int .i64 k) (.int .i64 n) (.float .f64 f) (.string s) (.slice a L c))
  go_enter Tryz.func7, Tryz.ntmps7
  go_wp2_with fail
  refine (known9_any _).mono ?_
  rintro e w1 ⟨rfl, hb1⟩
  have HX1 := hidb (HX0.out.keep hb1)
  have HB1 := hidb ((below_new w _).trans (hb1.mono (by simp)))
  obtain ⟨⟨x0, x1, x2, x3, x4⟩, -, xl⟩ := Box.six HX1.out
  clear hb1
  go_wp2_with fail
  have hai : ArgsIn (w1.alloc (.cells #[.int .i64 k, .int .i64 n, .float .f64 f, .string s, .slice a L c] 29)) (some ⟨w1.heap.size, 0, none⟩) 1 [.mk k n f s a c ks] := by
    have := built_in w1 [.mk k n f s a c ks] (fun u hu => by rw [List.mem_singleton.1 hu]; exact in_below HB1.out HIN.out) 29 (by simp)
    rw [← HL.out]
    exact this
  have RG := hidb (right9_any hai (fun u hu => by rw [List.mem_singleton.1 hu]; exact HSW.out) (by simp))
  obtain ⟨R, hR⟩ : ∃ R, rgt9 (some ⟨w1.heap.size, 0, none⟩) 1 [.mk k n f s a c ks] = R := ⟨_, rfl⟩
  have HR := hidb hR
  rw [hR] at RG
  clear hR hai
  refine RG.out.mono ?_
  rintro e w2 ⟨rfl, hb2⟩
  have HX2 := hidb ((HX1.out.keep (below_new _ _)).keep hb2)
  have HB2 := hidb (HB1.out.trans (((below_new w1 _).trans (hb2.mono (by simp))).mono HB1.out.size))
  clear hb2 x0 x1 x2 x3 x4 xl
  cases R
  · go_wp2_with fail
    go_ret
    exact ⟨rfl, HB2.out⟩
  · have HOK := hidb (rgt9_ok HR.out _ (List.mem_singleton.2 rfl))
    obtain ⟨⟨x0, x1, x2, x3, x4⟩, -, xl⟩ := Box.six HX2.out
    have HAI : Hid (∀ W, Below w.heap.size w W → ArgsIn (W.alloc (.cells #[.int .i64 k, .int .i64 n, .float .f64 f, .string s, .slice a L c] 29)) (some ⟨W.heap.size, 0, none⟩) 1 [.mk k n f s a c ks]) := hidb (fun W hW => by
      have := built_in W [.mk k n f s a c ks] (fun u hu => by rw [List.mem_singleton.1 hu]; exact in_below hW HIN.out) 29 (by simp)
      rw [← HL.out]
      exact this)
    have HAJ : Hid (∀ W, Below w.heap.size w W → ArgsIn (W.alloc (.cells #[.int .i64 k, .int .i64 n, .float .f64 f, .string s, .slice a L c, .int .i64 8, .int .i64 0, .float .f64 0, .string ⟨#[]⟩, .slice none 0 0] 29)) (some ⟨W.heap.size, 0, none⟩) 2 [.mk k n f s a c ks, nolT]) := hidb (fun W hW => by
      have := built_in W [.mk k n f s a c ks, nolT] (fun u hu => by
        rcases List.mem_cons.1 hu with h | h
        · rw [h]; exact in_below hW HIN.out
        · rw [List.mem_singleton.1 h]
          unfold Tr.In
          exact ⟨⟨by decide, by decide, by decide, by show 0 ≤ maxLen; omega, by simp, by simp, fun _ => rfl⟩, fun ad h => by simp at h⟩) 29 (by simp)
      rw [← HL.out]
      exact this)
    have JY : Hid (k = 8 → ∀ W, Below w.heap.size w W → Calls Tryz.prog 12 #[.string ⟨#[43, 43]⟩, .slice (some ⟨W.heap.size, 0, none⟩) 2 2] (W.alloc (.cells #[.int .i64 k, .int .i64 n, .float .f64 f, .string s, .slice a L c, .int .i64 8, .int .i64 0, .float .f64 0, .string ⟨#[]⟩, .slice none 0 0] 29)) fun e w' => (∃ k2 n2 f2 s2 a2 l2 c2, e = .returned (.tuple #[.agg #[.int .i64 k2, .int .i64 n2, .float .f64 f2, .string s2, .slice a2 l2 c2], .int .i64 0])) ∧ Below W.heap.size W w') := hidb (fun h8 W hW => by
      subst h8
      refine (join_yes (HAJ.out W hW) HOK.out.1 HOK.out.2.1 (by have := HOK.out.2.2; omega)).mono ?_
      rintro e w' ⟨h1, h2⟩
      exact ⟨h1, (below_new W _).trans (h2.mono (by simp))⟩)
    have JN : Hid (k ≠ 8 → ∀ W, Below w.heap.size w W → Calls Tryz.prog 12 #[.string ⟨#[43, 43]⟩, .slice (some ⟨W.heap.size, 0, none⟩) 2 2] (W.alloc (.cells #[.int .i64 k, .int .i64 n, .float .f64 f, .string s, .slice a L c, .int .i64 8, .int .i64 0, .float .f64 0, .string ⟨#[]⟩, .slice none 0 0] 29)) fun e w' => e = .returned (.tuple #[zterm, .int .i64 13]) ∧ Below W.heap.size W w') := hidb (fun h8 W hW => by
      refine (join_no (HAJ.out W hW) h8 HOK.out.2.1 (by have := HOK.out.2.2; omega)).mono ?_
      rintro e w' ⟨h1, h2⟩
      exact ⟨h1, (below_new W _).trans (h2.mono (by simp))⟩)
    by_cases hbl : isBol (.mk k n f s a c ks) = true
    · have hk3 : k = 3 ∧ (s = trueS ∨ s = falseS) := by simpa [isBol] using hbl
      obtain ⟨rfl, hs⟩ := hk3
      rcases hs with rfl | rfl
      · have NY : Hid (∀ W, Below w.heap.size w W → Calls Tryz.prog 12 #[.string ⟨#[110, 111, 116]⟩, .slice (some ⟨W.heap.size, 0, none⟩) 1 1] (W.alloc (.cells #[.int .i64 3, .int .i64 n, .float .f64 f, .string trueS, .slice a L c] 29)) fun e w' => (∃ a2 c2, e = .returned (.tuple #[.agg #[.int .i64 3, .int .i64 0, .float .f64 0, .string falseS, .slice a2 0 c2], .int .i64 0]) ∧ (Tr.mk 3 0 0 falseS a2 c2 []).In w' 0) ∧ Below W.heap.size W w') := hidb (fun W hW => by
          have h := not_yes (HAI.out W hW) hbl
          rw [show bolS (decide (trueS = falseS)) = falseS by kernel_rfl] at h
          refine h.mono ?_
          rintro e w' ⟨h1, h2⟩
          exact ⟨h1, (below_new W _).trans (h2.mono (by simp))⟩)
        have NZ : Hid (∀ W a2 c2, (Tr.mk 3 0 0 falseS a2 c2 []).In W 0 → Calls Tryz.prog 12 #[.string ⟨#[110, 111, 116]⟩, .slice (some ⟨W.heap.size, 0, none⟩) 1 1] (W.alloc (.cells #[.int .i64 3, .int .i64 0, .float .f64 0, .string falseS, .slice a2 0 c2] 29)) fun e w' => (∃ a5 c5, e = .returned (.tuple #[.agg #[.int .i64 3, .int .i64 0, .float .f64 0, .string trueS, .slice a5 0 c5], .int .i64 0])) ∧ Below W.heap.size W w') := hidb (fun W a2 c2 hW => by
          have h := not_yes (built_in W [.mk 3 0 0 falseS a2 c2 []] (fun u hu => by rw [List.mem_singleton.1 hu]; exact hW) 29 (by simp)) (by kernel_rfl)
          rw [show bolS (decide (falseS = falseS)) = trueS by kernel_rfl] at h
          refine h.mono ?_
          rintro e w' ⟨⟨a5, c5, h1, -⟩, h2⟩
          exact ⟨⟨a5, c5, h1⟩, (below_new W _).trans (h2.mono (by simp))⟩)
        go_wp2_with fail
        refine (NY.out w2 HB2.out).mono ?_
        rintro e w3 ⟨⟨a2, c2, rfl, hi3⟩, hw3⟩
        have HB3 := hidb (HB2.out.trans (hw3.mono HB2.out.size))
        obtain ⟨⟨x0, x1, x2, x3, x4⟩, -, xl⟩ := Box.six (HX2.out.keep hw3)
        have HX3 := hidb (HX2.out.keep hw3)
        have HI3 := hidb hi3
        clear hi3 hw3
        go_wp2_with fail
        have hj := NZ.out (w3.alloc (.cells #[.int .i64 3, .int .i64 0, .float .f64 0, .string falseS, .slice a2 0 c2] 29)) a2 c2 (in_below (below_new w3 _) HI3.out)
        rw [show (w3.alloc (.cells #[.int .i64 3, .int .i64 0, .float .f64 0, .string falseS, .slice a2 0 c2] 29)).heap.size = w3.heap.size + 1 from by simp] at hj
        refine hj.mono ?_
        clear hj
        rintro e w5 ⟨⟨a5, c5, rfl⟩, hb5⟩
        have hw5 : Below (w3.alloc (.cells #[.int .i64 3, .int .i64 0, .float .f64 0, .string falseS, .slice a2 0 c2] 29)).heap.size (w3.alloc (.cells #[.int .i64 3, .int .i64 0, .float .f64 0, .string falseS, .slice a2 0 c2] 29)) w5 := by simpa using hb5
        have HB5 := hidb ((HB3.out.alloc HB3.out.size (.cells #[.int .i64 3, .int .i64 0, .float .f64 0, .string falseS, .slice a2 0 c2] 29)).trans (hw5.mono (by have := HB3.out.size; simp; omega)))
        obtain ⟨⟨z0, z1, z2, z3, z4⟩, -, zl⟩ := Box.six ((Box.new w3 29 (.int .i64 3) (.int .i64 0) (.float .f64 0) (.string falseS) (.slice a2 0 c2)).keep hw5)
        have HX9 := hidb ((HX3.out.keep (below_new w3 (.cells #[.int .i64 3, .int .i64 0, .float .f64 0, .string falseS, .slice a2 0 c2] 29))).keep hw5)
        obtain ⟨⟨x0, x1, x2, x3, x4⟩, -, xl⟩ := Box.six HX9.out
        clear hb5 hw5
        go_wp2_with fail
        have HB8 := hidb (HB5.out.alloc HB5.out.size (.cells #[.int .i64 3, .int .i64 0, .float .f64 0, .string trueS, .slice a5 0 c5] 29))
        have hj := JN.out (by decide) (w5.alloc (.cells #[.int .i64 3, .int .i64 0, .float .f64 0, .string trueS, .slice a5 0 c5] 29)) HB8.out
        rw [show (w5.alloc (.cells #[.int .i64 3, .int .i64 0, .float .f64 0, .string trueS, .slice a5 0 c5] 29)).heap.size = w5.heap.size + 1 from by simp] at hj
        refine hj.mono ?_
        clear hj
        rintro e w9 ⟨rfl, hb9⟩
        have HB9 := hidb (HB8.out.trans (hb9.mono (by have := HB8.out.size; simp at this; omega)))
        obtain ⟨⟨x0, x1, x2, x3, x4⟩, -, xl⟩ := Box.six ((HX9.out.keep (below_new w5 (.cells #[.int .i64 3, .int .i64 0, .float .f64 0, .string trueS, .slice a5 0 c5] 29))).keep (by simpa using hb9))
        clear hb9
        go_wp2_with fail
        go_ret
        first
          | exact ⟨rfl, HB9.out⟩
          | exact ⟨rfl, HB9.out.alloc HB9.out.size _⟩
      · have NY : Hid (∀ W, Below w.heap.size w W → Calls Tryz.prog 12 #[.string ⟨#[110, 111, 116]⟩, .slice (some ⟨W.heap.size, 0, none⟩) 1 1] (W.alloc (.cells #[.int .i64 3, .int .i64 n, .float .f64 f, .string falseS, .slice a L c] 29)) fun e w' => (∃ a2 c2, e = .returned (.tuple #[.agg #[.int .i64 3, .int .i64 0, .float .f64 0, .string trueS, .slice a2 0 c2], .int .i64 0]) ∧ (Tr.mk 3 0 0 trueS a2 c2 []).In w' 0) ∧ Below W.heap.size W w') := hidb (fun W hW => by
          have h := not_yes (HAI.out W hW) hbl
          rw [show bolS (decide (falseS = falseS)) = trueS by kernel_rfl] at h
          refine h.mono ?_
          rintro e w' ⟨h1, h2⟩
          exact ⟨h1, (below_new W _).trans (h2.mono (by simp))⟩)
        have NZ : Hid (∀ W a2 c2, (Tr.mk 3 0 0 trueS a2 c2 []).In W 0 → Calls Tryz.prog 12 #[.string ⟨#[110, 111, 116]⟩, .slice (some ⟨W.heap.size, 0, none⟩) 1 1] (W.alloc (.cells #[.int .i64 3, .int .i64 0, .float .f64 0, .string trueS, .slice a2 0 c2] 29)) fun e w' => (∃ a5 c5, e = .returned (.tuple #[.agg #[.int .i64 3, .int .i64 0, .float .f64 0, .string falseS, .slice a5 0 c5], .int .i64 0])) ∧ Below W.heap.size W w') := hidb (fun W a2 c2 hW => by
          have h := not_yes (built_in W [.mk 3 0 0 trueS a2 c2 []] (fun u hu => by rw [List.mem_singleton.1 hu]; exact hW) 29 (by simp)) (by kernel_rfl)
          rw [show bolS (decide (trueS = falseS)) = falseS by kernel_rfl] at h
          refine h.mono ?_
          rintro e w' ⟨⟨a5, c5, h1, -⟩, h2⟩
          exact ⟨⟨a5, c5, h1⟩, (below_new W _).trans (h2.mono (by simp))⟩)
        go_wp2_with fail
        refine (NY.out w2 HB2.out).mono ?_
        rintro e w3 ⟨⟨a2, c2, rfl, hi3⟩, hw3⟩
        have HB3 := hidb (HB2.out.trans (hw3.mono HB2.out.size))
        obtain ⟨⟨x0, x1, x2, x3, x4⟩, -, xl⟩ := Box.six (HX2.out.keep hw3)
        have HX3 := hidb (HX2.out.keep hw3)
        have HI3 := hidb hi3
        clear hi3 hw3
        go_wp2_with fail
        have hj := NZ.out (w3.alloc (.cells #[.int .i64 3, .int .i64 0, .float .f64 0, .string trueS, .slice a2 0 c2] 29)) a2 c2 (in_below (below_new w3 _) HI3.out)
        rw [show (w3.alloc (.cells #[.int .i64 3, .int .i64 0, .float .f64 0, .string trueS, .slice a2 0 c2] 29)).heap.size = w3.heap.size + 1 from by simp] at hj
        refine hj.mono ?_
        clear hj
        rintro e w5 ⟨⟨a5, c5, rfl⟩, hb5⟩
        have hw5 : Below (w3.alloc (.cells #[.int .i64 3, .int .i64 0, .float .f64 0, .string trueS, .slice a2 0 c2] 29)).heap.size (w3.alloc (.cells #[.int .i64 3, .int .i64 0, .float .f64 0, .string trueS, .slice a2 0 c2] 29)) w5 := by simpa using hb5
        have HB5 := hidb ((HB3.out.alloc HB3.out.size (.cells #[.int .i64 3, .int .i64 0, .float .f64 0, .string trueS, .slice a2 0 c2] 29)).trans (hw5.mono (by have := HB3.out.size; simp; omega)))
        obtain ⟨⟨z0, z1, z2, z3, z4⟩, -, zl⟩ := Box.six ((Box.new w3 29 (.int .i64 3) (.int .i64 0) (.float .f64 0) (.string trueS) (.slice a2 0 c2)).keep hw5)
        have HX9 := hidb ((HX3.out.keep (below_new w3 (.cells #[.int .i64 3, .int .i64 0, .float .f64 0, .string trueS, .slice a2 0 c2] 29))).keep hw5)
        obtain ⟨⟨x0, x1, x2, x3, x4⟩, -, xl⟩ := Box.six HX9.out
        clear hb5 hw5
        go_wp2_with fail
        have HB8 := hidb (HB5.out.alloc HB5.out.size (.cells #[.int .i64 3, .int .i64 0, .float .f64 0, .string falseS, .slice a5 0 c5] 29))
        have hj := JN.out (by decide) (w5.alloc (.cells #[.int .i64 3, .int .i64 0, .float .f64 0, .string falseS, .slice a5 0 c5] 29)) HB8.out
        rw [show (w5.alloc (.cells #[.int .i64 3, .int .i64 0, .float .f64 0, .string falseS, .slice a5 0 c5] 29)).heap.size = w5.heap.size + 1 from by simp] at hj
        refine hj.mono ?_
        clear hj
        rintro e w9 ⟨rfl, hb9⟩
        have HB9 := hidb (HB8.out.trans (hb9.mono (by have := HB8.out.size; simp at this; omega)))
        obtain ⟨⟨x0, x1, x2, x3, x4⟩, -, xl⟩ := Box.six ((HX9.out.keep (below_new w5 (.cells #[.int .i64 3, .int .i64 0, .float .f64 0, .string falseS, .slice a5 0 c5] 29))).keep (by simpa using hb9))
        clear hb9
        go_wp2_with fail
        go_ret
        first
          | exact ⟨rfl, HB9.out⟩
          | exact ⟨rfl, HB9.out.alloc HB9.out.size _⟩
    · have hbf : isBol (.mk k n f s a c ks) = false := by simpa using hbl
      have NN : Hid (∀ W, Below w.heap.size w W → Calls Tryz.prog 12 #[.string ⟨#[110, 111, 116]⟩, .slice (some ⟨W.heap.size, 0, none⟩) 1 1] (W.alloc (.cells #[.int .i64 k, .int .i64 n, .float .f64 f, .string s, .slice a L c] 29)) fun e w' => e = .returned (.tuple #[zterm, .int .i64 13]) ∧ Below (W.alloc (.cells #[.int .i64 k, .int .i64 n, .float .f64 f, .string s, .slice a L c] 29)).heap.size (W.alloc (.cells #[.int .i64 k, .int .i64 n, .float .f64 f, .string s, .slice a L c] 29)) w') := hidb (fun W (hW : Below w.heap.size w W) => not_no (HAI.out W hW) hbf)
      by_cases hk : k = 3
      · subst hk
        have hs : s ≠ trueS ∧ s ≠ falseS := by
          refine ⟨?_, ?_⟩ <;> (rintro rfl; revert hbf; simp [isBol])
        obtain ⟨q1, q2⟩ := lit_ne (t := trueS) rfl hs.1
        obtain ⟨q3, q4⟩ := lit_ne (t := falseS) rfl hs.2
        go_wp2_with fail
        refine (NN.out w2 HB2.out).mono ?_
        rintro e w3 ⟨rfl, hb3⟩
        have hw3 := (below_new w2 _).trans (hb3.mono (by simp))
        have HB3 := hidb (HB2.out.trans (hw3.mono HB2.out.size))
        obtain ⟨⟨x0, x1, x2, x3, x4⟩, -, xl⟩ := Box.six (HX2.out.keep hw3)
        have HX9 := hidb (HX2.out.keep hw3)
        clear hb3 hw3
        go_wp2_with fail
        have HB8 := hidb (HB3.out.alloc HB3.out.size (.cells #[.int .i64 0, .int .i64 0, .float .f64 0, .string ⟨#[]⟩, .slice none 0 0] 29))
        have hj := JN.out (by decide) (w3.alloc (.cells #[.int .i64 0, .int .i64 0, .float .f64 0, .string ⟨#[]⟩, .slice none 0 0] 29)) HB8.out
        rw [show (w3.alloc (.cells #[.int .i64 0, .int .i64 0, .float .f64 0, .string ⟨#[]⟩, .slice none 0 0] 29)).heap.size = w3.heap.size + 1 from by simp] at hj
        refine hj.mono ?_
        clear hj
        rintro e w9 ⟨rfl, hb9⟩
        have HB9 := hidb (HB8.out.trans (hb9.mono (by have := HB8.out.size; simp at this; omega)))
        obtain ⟨⟨x0, x1, x2, x3, x4⟩, -, xl⟩ := Box.six ((HX9.out.keep (below_new w3 (.cells #[.int .i64 0, .int .i64 0, .float .f64 0, .string ⟨#[]⟩, .slice none 0 0] 29))).keep (by simpa using hb9))
        clear hb9
        go_wp2_with fail
        go_ret
        first
          | exact ⟨rfl, HB9.out⟩
          | exact ⟨rfl, HB9.out.alloc HB9.out.size _⟩
      · have hk' : (k == 3) = false := by simpa using hk
        by_cases h8 : k = 8
        · subst h8
          go_wp2_with fail
          refine (NN.out w2 HB2.out).mono ?_
          rintro e w3 ⟨rfl, hb3⟩
          have hw3 := (below_new w2 _).trans (hb3.mono (by simp))
          have HB3 := hidb (HB2.out.trans (hw3.mono HB2.out.size))
          obtain ⟨⟨x0, x1, x2, x3, x4⟩, -, xl⟩ := Box.six (HX2.out.keep hw3)
          have HX9 := hidb (HX2.out.keep hw3)
          clear hb3 hw3
          go_wp2_with fail
          have HB8 := hidb (HB3.out.alloc HB3.out.size (.cells #[.int .i64 0, .int .i64 0, .float .f64 0, .string ⟨#[]⟩, .slice none 0 0] 29))
          have hj := JY.out (by simp) (w3.alloc (.cells #[.int .i64 0, .int .i64 0, .float .f64 0, .string ⟨#[]⟩, .slice none 0 0] 29)) HB8.out
          rw [show (w3.alloc (.cells #[.int .i64 0, .int .i64 0, .float .f64 0, .string ⟨#[]⟩, .slice none 0 0] 29)).heap.size = w3.heap.size + 1 from by simp] at hj
          refine hj.mono ?_
          clear hj
          rintro e w9 ⟨⟨k2, n2, f2, s2, a2, l2, c2, rfl⟩, hb9⟩
          have HB9 := hidb (HB8.out.trans (hb9.mono (by have := HB8.out.size; simp at this; omega)))
          obtain ⟨⟨x0, x1, x2, x3, x4⟩, -, xl⟩ := Box.six ((HX9.out.keep (below_new w3 (.cells #[.int .i64 0, .int .i64 0, .float .f64 0, .string ⟨#[]⟩, .slice none 0 0] 29))).keep (by simpa using hb9))
          clear hb9
          go_wp2_with fail
          go_ret
          first
            | exact ⟨rfl, HB9.out⟩
            | exact ⟨rfl, HB9.out.alloc HB9.out.size _⟩
        · have h8' : (k == 8) = false := by simpa using h8
          go_wp2_with fail
          refine (NN.out w2 HB2.out).mono ?_
          rintro e w3 ⟨rfl, hb3⟩
          have hw3 := (below_new w2 _).trans (hb3.mono (by simp))
          have HB3 := hidb (HB2.out.trans (hw3.mono HB2.out.size))
          obtain ⟨⟨x0, x1, x2, x3, x4⟩, -, xl⟩ := Box.six (HX2.out.keep hw3)
          have HX9 := hidb (HX2.out.keep hw3)
          clear hb3 hw3
          go_wp2_with fail
          have HB8 := hidb (HB3.out.alloc HB3.out.size (.cells #[.int .i64 0, .int .i64 0, .float .f64 0, .string ⟨#[]⟩, .slice none 0 0] 29))
          have hj := JN.out h8 (w3.alloc (.cells #[.int .i64 0, .int .i64 0, .float .f64 0, .string ⟨#[]⟩, .slice none 0 0] 29)) HB8.out
          rw [show (w3.alloc (.cells #[.int .i64 0, .int .i64 0, .float .f64 0, .string ⟨#[]⟩, .slice none 0 0] 29)).heap.size = w3.heap.size + 1 from by simp] at hj
          refine hj.mono ?_
          clear hj
          rintro e w9 ⟨rfl, hb9⟩
          have HB9 := hidb (HB8.out.trans (hb9.mono (by have := HB8.out.size; simp at this; omega)))
          obtain ⟨⟨x0, x1, x2, x3, x4⟩, -, xl⟩ := Box.six ((HX9.out.keep (below_new w3 (.cells #[.int .i64 0, .int .i64 0, .float .f64 0, .string ⟨#[]⟩, .slice none 0 0] 29))).keep (by simpa using hb9))
          clear hb9
          go_wp2_with fail
          go_ret
          first
            | exact ⟨rfl, HB9.out⟩
            | exact ⟨rfl, HB9.out.alloc HB9.out.size _⟩
end Go.Proofs.YtjnijmnacogabaaGreatDoor


