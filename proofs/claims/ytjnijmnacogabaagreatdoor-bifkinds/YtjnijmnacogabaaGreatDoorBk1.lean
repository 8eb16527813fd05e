import Derived.Test.YtjnijmnacogabaaGreatDoorBk0
import Derived.Maps.AppendAt
import Derived.Test.YtjnijmnacogabaaGreatDoorG26
import Derived.OwnWalk
import Derived.Laws.OwnMore
/- BifKinds. -/
namespace Go.Proofs.YtjnijmnacogabaaGreatDoor
open Go.RowKit Go.Lib Go.Deep
attribute [local go_sem] store_float f64bits store_func store_nilFunc
attribute [local go_sem ↓] Go.wp_at_zero Go.wp_at_succ

def kNM : List ByteArray := [⟨#[105, 115, 95, 97, 116, 111, 109]⟩, ⟨#[105, 115, 95, 105, 110, 116, 101, 103, 101, 114]⟩, ⟨#[105, 115, 95, 102, 108, 111, 97, 116]⟩, ⟨#[105, 115, 95, 108, 105, 115, 116]⟩, ⟨#[105, 115, 95, 116, 117, 112, 108, 101]⟩, ⟨#[105, 115, 95, 112, 105, 100]⟩, ⟨#[105, 115, 95, 114, 101, 102, 101, 114, 101, 110, 99, 101]⟩, ⟨#[105, 115, 95, 102, 117, 110, 99, 116, 105, 111, 110]⟩]
def kKS : List Int := [3, 1, 2, 8, 7, 6, 4, 5]
def kvs (kd : Int) (i : Nat) : List Value := (kKS.take i).map fun q => .bool (decide (kd = q))
def kcn (kd : Int) (i : Nat) : Nat := ((kKS.take i).filter fun q => decide (kd = q)).length

theorem wpAnyD_twoL {P : Program} {md : Region.Mode} {Q : Exit → Act → World → Prop} {S : World → Prop} {D : List Nat} {l : List Oper} {i j : Nat} {oi oj : Oper} {fuel : Nat} {listed : Array Bool} {a : Act} {w : World} (hr : Region.ready md l.toArray listed = [i, j]) (hi : l[i]? = some oi) (hj : l[j]? = some oj)
    (h1 : ∀ K : Act → World → Prop, (∀ a' w', (i ∉ D → S w') → wpAnyD P md l.toArray Q S D fuel (listed.setIfInBounds i true) a' w' → K a' w') → if Region.wanted oi (yielded l.toArray a.tmps) = true then Oper.wp P oi a w K Q else K (a.put oi.dst undef) w)
    (h2 : ∀ K : Act → World → Prop, (∀ a' w', (j ∉ D → S w') → wpAnyD P md l.toArray Q S D fuel (listed.setIfInBounds j true) a' w' → K a' w') → if Region.wanted oj (yielded l.toArray a.tmps) = true then Oper.wp P oj a w K Q else K (a.put oj.dst undef) w) : wpAnyD P md l.toArray Q S D (fuel + 1) listed a w := by
  refine ⟨fun h0 => (by rw [hr] at h0; cases h0), fun k hk => ?_⟩
  rw [hr] at hk
  rcases List.mem_cons.1 hk with rfl | hk
  · have := h1 (fun a' w' => (k ∉ D → S w') ∧ wpAnyD P md l.toArray Q S D fuel (listed.setIfInBounds k true) a' w') (fun a' w' h1 h2 => ⟨h1, h2⟩)
    have hi' : l.toArray[k]? = some oi := by simpa using hi
    unfold wpOp
    simp only [hi']
    split
    · rename_i hw; rw [if_pos hw] at this; exact .inl this
    · rename_i hw; rw [if_neg hw] at this; exact this
  · obtain rfl : k = j := by simpa using hk
    have := h2 (fun a' w' => (k ∉ D → S w') ∧ wpAnyD P md l.toArray Q S D fuel (listed.setIfInBounds k true) a' w') (fun a' w' h1 h2 => ⟨h1, h2⟩)
    have hj' : l.toArray[k]? = some oj := by simpa using hj
    unfold wpOp
    simp only [hj']
    split
    · rename_i hw; rw [if_pos hw] at this; exact .inl this
    · rename_i hw; rw [if_neg hw] at this; exact this

theorem names_new (w : World) (t : TypeId) : ∀ (j : Nat) (nm : ByteArray), kNM[j]? = some nm → (w.alloc (.cells #[.string ⟨#[105, 115, 95, 97, 116, 111, 109]⟩, .string ⟨#[105, 115, 95, 105, 110, 116, 101, 103, 101, 114]⟩, .string ⟨#[105, 115, 95, 102, 108, 111, 97, 116]⟩, .string ⟨#[105, 115, 95, 108, 105, 115, 116]⟩, .string ⟨#[105, 115, 95, 116, 117, 112, 108, 101]⟩, .string ⟨#[105, 115, 95, 112, 105, 100]⟩, .string ⟨#[105, 115, 95, 114, 101, 102, 101, 114, 101, 110, 99, 101]⟩, .string ⟨#[105, 115, 95, 102, 117, 110, 99, 116, 105, 111, 110]⟩] t)).cell? ⟨w.heap.size, j, none⟩ = some (.string nm) := by
  intro j nm hj
  rw [World.cell?_alloc_new]
  have : (kNM.map Value.string).toArray[j]? = some (.string nm) := by simp [hj]
  exact this

theorem but_grown {w w2 : World} {row : Option Nat} (h : w.grownBy w2 row) : But (fun k => row = some k) w w2 := ⟨h.os, h.tape, h.output, h.size, fun k hk hn => h.block k hk (fun e => hn e.symm)⟩
theorem infoB : ∃ i0, Tryz.prog.info? 4 = some i0 ∧ i0.zero = some (.bool false) ∧ i0.size = 1 ∧ i0.bytes = 1 := info_parts (show (Tryz.prog.info? 4).map (fun i => (i.zero, i.size, i.bytes)) = some (some (.bool false), 1, 1) by kernel_rfl)
theorem err_kind {k n : Int} {f : Nat} {s : ByteArray} {a : Option Addr} {c : Nat} {ks : List Tr} (h : errT (.mk k n f s a c ks) = 0) : k = 1 ∨ k = 2 ∨ k = 3 ∨ k = 4 ∨ k = 5 ∨ k = 6 ∨ k = 7 ∨ k = 8 := by
  have h2 : goodT (.mk k n f s a c ks) = true := by
    unfold errT at h
    split at h
    · cases h
    · split at h
      · rename_i h3
        unfold allT at h3
        simp only [Bool.and_eq_true] at h3
        exact h3.1
      · cases h
  rw [goodT_gF] at h2
  by_cases e1 : k = 1
  · exact .inl e1
  by_cases e2 : k = 2
  · exact .inr (.inl e2)
  by_cases e3 : k = 3
  · omega
  by_cases e4 : k = 4
  · omega
  by_cases e5 : k = 5
  · omega
  by_cases e6 : k = 6
  · omega
  by_cases e7 : k = 7
  · omega
  by_cases e8 : k = 8
  · omega
  exact absurd h2 (by simp [gF, e1, e2, e3, e4, e5, e6, e7, e8])
theorem ent_lawcall : Ent 13 := by
  intro args w
  kernel_rfl
theorem kc_all : ∀ (i : Nat) (nm : ByteArray) (q : Int), kNM[i]? = some nm → kKS[i]? = some q → ∀ {W : World} {a : Option Addr} {c : Nat} {t : Tr}, ArgsIn W a c [t] → Calls Tryz.prog 16 #[.string nm, .slice a 1 c, noneF] W (ToldB (decide (t.kd = q)) W)
  | 0, nm, q, h1, h2, W, a, c, t, hin => by
    obtain rfl : _ = nm := Option.some.inj h1
    obtain rfl : (3 : Int) = q := Option.some.inj h2
    have := kc_0 hin
    simpa using this
  | 1, nm, q, h1, h2, W, a, c, t, hin => by
    obtain rfl : _ = nm := Option.some.inj h1
    obtain rfl : (1 : Int) = q := Option.some.inj h2
    have := kc_1 hin
    simpa using this
  | 2, nm, q, h1, h2, W, a, c, t, hin => by
    obtain rfl : _ = nm := Option.some.inj h1
    obtain rfl : (2 : Int) = q := Option.some.inj h2
    have := kc_2 hin
    simpa using this
  | 3, nm, q, h1, h2, W, a, c, t, hin => by
    obtain rfl : _ = nm := Option.some.inj h1
    obtain rfl : (8 : Int) = q := Option.some.inj h2
    have := kc_3 hin
    simpa using this
  | 4, nm, q, h1, h2, W, a, c, t, hin => by
    obtain rfl : _ = nm := Option.some.inj h1
    obtain rfl : (7 : Int) = q := Option.some.inj h2
    have := kc_4 hin
    simpa using this
  | 5, nm, q, h1, h2, W, a, c, t, hin => by
    obtain rfl : _ = nm := Option.some.inj h1
    obtain rfl : (6 : Int) = q := Option.some.inj h2
    have := kc_5 hin
    simpa using this
  | 6, nm, q, h1, h2, W, a, c, t, hin => by
    obtain rfl : _ = nm := Option.some.inj h1
    obtain rfl : (4 : Int) = q := Option.some.inj h2
    have := kc_6 hin
    simpa using this
  | 7, nm, q, h1, h2, W, a, c, t, hin => by
    obtain rfl : _ = nm := Option.some.inj h1
    obtain rfl : (5 : Int) = q := Option.some.inj h2
    have := kc_7 hin
    simpa using this
  | i + 8, nm, q, h1, _, _, _, _, _, _ => by simp [kNM] at h1

set_option maxHeartbeats 4000000 in
set_option maxRecDepth 100000 in
theorem BifKinds_of (k n : Int) (f : Nat) (s : ByteArray) (a : Option Addr) (c : Nat) (ks : List Tr) (w : World) (hin : (Tr.mk k n f s a c ks).In w 0) (hsw : SmallW (.mk k n f s a c ks)) :
    Calls Tryz.prog 5 #[.agg #[.int .i64 k, .int .i64 n, .float .f64 f, .string s, .slice a ks.length c]] w fun e w' => e = .returned (.bool true) ∧ Below w.heap.size w w' := by
  obtain ⟨t, ht⟩ : ∃ t, Tr.mk k n f s a c ks = t := ⟨_, rfl⟩
  have HIN := hidb hin
  have HSW := hidb hsw
  obtain ⟨L, hL⟩ : ∃ L, ks.length = L := ⟨_, rfl⟩
  have HL := hidb hL
  rw [hL]
  clear hin hsw hL
  have HX0 := hidb (Box.new w 29 (.int .i64 k) (.int .i64 n) (.float .f64 f) (.string s) (.slice a L c))
  go_enter Tryz.func5, Tryz.ntmps5
  go_wp2_with fail
  refine (known9_any _).mono ?_
  rintro e w1 ⟨rfl, hb1⟩
  have HX1 := hidb (HX0.out.keep hb1)
  have HB1 := hidb ((below_new w _).trans (hb1.mono (by simp)))
  obtain ⟨⟨x0, x1, x2, x3, x4⟩, -, xl⟩ := Box.six HX1.out
  clear hb1
  go_wp2_with fail
  have hai : ArgsIn (w1.alloc (.cells #[.int .i64 k, .int .i64 n, .float .f64 f, .string s, .slice a L c] 29)) (some ⟨w1.heap.size, 0, none⟩) 1 [.mk k n f s a c ks] := by
    have := built_in w1 [.mk k n f s a c ks] (fun u hu => by rw [List.mem_singleton.1 hu]; exact in_below HB1.out HIN.out) 29 (by simp)
    rw [← HL.out]
    exact this
  have RG := hidb (right9_any hai (fun u hu => by rw [List.mem_singleton.1 hu]; exact HSW.out) (by simp))
  obtain ⟨R, hR⟩ : ∃ R, rgt9 (some ⟨w1.heap.size, 0, none⟩) 1 [.mk k n f s a c ks] = R := ⟨_, rfl⟩
  have HR := hidb hR
  rw [hR] at RG
  clear hR hai
  refine RG.out.mono ?_
  rintro e w2 ⟨rfl, hb2⟩
  have HX2 := hidb ((HX1.out.keep (below_new _ _)).keep hb2)
  have HB2 := hidb (HB1.out.trans (((below_new w1 _).trans (hb2.mono (by simp))).mono HB1.out.size))
  clear hb2 x0 x1 x2 x3 x4 xl
  cases R
  · go_wp2_with fail
    go_ret
    exact ⟨rfl, HB2.out⟩
  · have HOK := hidb (rgt9_ok HR.out _ (List.mem_singleton.2 rfl))
    obtain ⟨V2, hV2⟩ : ∃ V2, w2.alloc (.cells #[.string ⟨#[105, 115, 95, 97, 116, 111, 109]⟩, .string ⟨#[105, 115, 95, 105, 110, 116, 101, 103, 101, 114]⟩, .string ⟨#[105, 115, 95, 102, 108, 111, 97, 116]⟩, .string ⟨#[105, 115, 95, 108, 105, 115, 116]⟩, .string ⟨#[105, 115, 95, 116, 117, 112, 108, 101]⟩, .string ⟨#[105, 115, 95, 112, 105, 100]⟩, .string ⟨#[105, 115, 95, 114, 101, 102, 101, 114, 101, 110, 99, 101]⟩, .string ⟨#[105, 115, 95, 102, 117, 110, 99, 116, 105, 111, 110]⟩] 9) = V2 := ⟨_, rfl⟩
    have HNM : Hid (∀ (j : Nat) (nm : ByteArray), kNM[j]? = some nm → V2.cell? ⟨w2.heap.size, j, none⟩ = some (.string nm)) := hidb (by rw [← hV2]; exact names_new w2 _)
    have HXV := hidb (show Box V2 w.heap.size (.int .i64 k) (.int .i64 n) (.float .f64 f) (.string s) (.slice a L c) by rw [← hV2]; exact HX2.out.keep (below_new _ _))
    have HBV : Hid (Below w.heap.size w V2) := hidb (by rw [← hV2]; exact HB2.out.alloc HB2.out.size _)
    have HZV : Hid (w2.heap.size < V2.heap.size) := hidb (by rw [← hV2]; simp)
    have HV2 := hidb hV2
    clear hV2 HX2 HB2
    obtain ⟨i0, hi, hz0, hz1, hz2⟩ := infoB
    go_wp2_with fail
    rw [HV2.out]
    go_loopw [4, 5, 6] (fun nv isv iv wr => ∃ i : Nat, i ≤ 8 ∧ iv = .int .i64 (i : Int) ∧ nv = .int .i64 (kcn k i : Int) ∧ wr.ownsRow V2.heap.size 4 1 isv i (kvs k i) ∧ Below V2.heap.size V2 wr) (fun _ _ iv _ => 8 - (RowKit.intOf iv).toNat)
    case atStart => exact ⟨0, by omega, rfl, rfl, World.ownsRow_nil _ _ _ _, Below.refl _ _⟩
    case round =>
    obtain ⟨i, hi8, rfl, rfl, hrow, hb⟩ := hrel
    have HB := hidb hb
    have HROW := hidb hrow
    obtain ⟨qa, ca, rfl⟩ := own_sl hrow
    have HI := hidb hi8
    clear hb hrow hi8
    by_cases hil : i < 8
    · obtain ⟨nm, hnm⟩ : ∃ nm, kNM[i]? = some nm := ⟨_, List.getElem?_eq_getElem (by simpa [kNM] using hil)⟩
      obtain ⟨q, hq⟩ : ∃ q, kKS[i]? = some q := ⟨_, List.getElem?_eq_getElem (by simpa [kKS] using hil)⟩
      have HSA : Hid (∀ W, Below V2.heap.size V2 W → (fun W9 => W9.cell? ⟨w2.heap.size, i, none⟩ = some (.string nm) ∧ W9.cell? ⟨w.heap.size, 0, none⟩ = some (.int .i64 k) ∧ W9.cell? ⟨w.heap.size, 1, none⟩ = some (.int .i64 n) ∧ W9.cell? ⟨w.heap.size, 2, none⟩ = some (.float .f64 f) ∧ W9.cell? ⟨w.heap.size, 3, none⟩ = some (.string s) ∧ W9.cell? ⟨w.heap.size, 4, none⟩ = some (.slice a L c)) W) := hidb (fun W hW => ⟨(hW.cell (p := ⟨w2.heap.size, i, none⟩) HZV.out).trans (HNM.out i nm hnm), (HXV.out.keep hW).c0, (HXV.out.keep hW).c1, (HXV.out.keep hW).c2, (HXV.out.keep hW).c3, (HXV.out.keep hW).c4⟩)
      have LC : Hid (∀ W, Below V2.heap.size V2 W → ∀ rb, ArgsIn W (some ⟨rb, 0, none⟩) 1 [.mk k n f s a c ks] → Calls Tryz.prog 13 #[.string nm, .slice (some ⟨rb, 0, none⟩) 1 1] W (LawB (decide (k = q)) W)) := hidb (fun W _ rb hA => lawcall (fun W1 hb1 => kc_all i nm q hnm hq (in_below hb1 hA)))
      have HAI : Hid (∀ W, Below V2.heap.size V2 W → ArgsIn (W.alloc (.cells #[.int .i64 k, .int .i64 n, .float .f64 f, .string s, .slice a L c] 29)) (some ⟨W.heap.size, 0, none⟩) 1 [.mk k n f s a c ks]) := hidb (fun W hW => by
        have := built_in W [.mk k n f s a c ks] (fun u hu => by rw [List.mem_singleton.1 hu]; exact in_below (HBV.out.trans (hW.mono HBV.out.size)) HIN.out) 29 (by simp)
        rw [← HL.out]
        exact this)
      have HQ := hidb hq
      have e1 : (i : Int) < 8 := by omega
      have e2 : (0 : Int) ≤ (i : Int) := by omega
      have HTK : Hid (kvs k i ++ [.bool (decide (k = q))] = kvs k (i + 1)) := hidb (by unfold kvs; rw [List.take_add_one, hq]; simp)
      have HCN : Hid (kcn k (i + 1) = kcn k i + (if decide (k = q) = true then 1 else 0) ∧ kcn k i ≤ 8) := hidb (by
        constructor
        · unfold kcn; rw [List.take_add_one, hq, Option.toList_some, List.filter_append, List.length_append]
          by_cases h : k = q <;> simp [h]
        · unfold kcn
          exact Nat.le_trans (List.length_filter_le _ _) (by rw [List.length_take]; simp [kKS]; omega))
      have HS0 := hidb (HSA.out wr.drew HB.out.drew)
      have HBd := hidb (show Below V2.heap.size V2 wr.drew from HB.out.drew)
      have HRd := hidb (show wr.drew.ownsRow V2.heap.size 4 1 (.slice qa i ca) i (kvs k i) from row_but HROW.out (But.of_below (S := fun _ => False) (Below.refl _ _).drew) (fun _ _ h => h))
      clear hnm hq
      obtain ⟨B, hB⟩ : ∃ B, decide (k = q) = B := ⟨_, rfl⟩
      rw [hB] at LC HTK HCN
      clear hB
      go_wp2_with fail
      refine wp_region_D (fun W9 => W9.cell? ⟨w2.heap.size, i, none⟩ = some (.string nm) ∧ W9.cell? ⟨w.heap.size, 0, none⟩ = some (.int .i64 k) ∧ W9.cell? ⟨w.heap.size, 1, none⟩ = some (.int .i64 n) ∧ W9.cell? ⟨w.heap.size, 2, none⟩ = some (.float .f64 f) ∧ W9.cell? ⟨w.heap.size, 3, none⟩ = some (.string s) ∧ W9.cell? ⟨w.heap.size, 4, none⟩ = some (.slice a L c)) [] (by kernel_rfl) ?_
      refine wpAnyD_takeL (i := 0) (v := ?vv0z) rfl (by kernel_rfl) (by kernel_rfl) (by kernel_rfl) (by kernel_rfl) (fun _ _ _ h => h) HS0.out rfl ?hy0z ?_
      case hy0z => intro wy hSw; obtain ⟨z0, z1, z2, z3, z4, z5⟩ := hSw; go_simp; try with_reducible rfl
      simp only [Act.put, List.setIfInBounds_toArray, List.set_cons_zero, List.set_cons_succ]
      refine wpAnyD_takeL (i := 1) (v := ?vv1z) rfl (by kernel_rfl) (by kernel_rfl) (by kernel_rfl) (by kernel_rfl) (fun _ _ _ h => h) HS0.out rfl ?hy1z ?_
      case hy1z => intro wy hSw; obtain ⟨z0, z1, z2, z3, z4, z5⟩ := hSw; go_simp; try with_reducible rfl
      simp only [Act.put, List.setIfInBounds_toArray, List.set_cons_zero, List.set_cons_succ]
      refine wpAnyD_takeL (i := 2) (v := ?vv2z) rfl (by kernel_rfl) (by kernel_rfl) (by kernel_rfl) (by kernel_rfl) (fun _ _ _ h => h) HS0.out rfl ?hy2z ?_
      case hy2z => intro wy hSw; obtain ⟨z0, z1, z2, z3, z4, z5⟩ := hSw; go_simp; try with_reducible rfl
      simp only [Act.put, List.setIfInBounds_toArray, List.set_cons_zero, List.set_cons_succ]
      refine wpAnyD_takeL (i := 3) (v := ?vv3z) rfl (by kernel_rfl) (by kernel_rfl) (by kernel_rfl) (by kernel_rfl) (fun _ _ _ h => h) HS0.out rfl ?hy3z ?_
      case hy3z => intro wy hSw; obtain ⟨z0, z1, z2, z3, z4, z5⟩ := hSw; go_simp; try with_reducible rfl
      simp only [Act.put, List.setIfInBounds_toArray, List.set_cons_zero, List.set_cons_succ]
      refine wpAnyD_takeL (i := 4) (v := ?vv4z) rfl (by kernel_rfl) (by kernel_rfl) (by kernel_rfl) (by kernel_rfl) (fun _ _ _ h => h) HS0.out rfl ?hy4z ?_
      case hy4z => intro wy hSw; obtain ⟨z0, z1, z2, z3, z4, z5⟩ := hSw; go_simp; try with_reducible rfl
      simp only [Act.put, List.setIfInBounds_toArray, List.set_cons_zero, List.set_cons_succ]
      refine wpAnyD_twoL (i := 5) (j := 10) (by kernel_rfl) rfl rfl (fun K hK => ?o5) (fun K hK => ?oA)
      case oA =>
        go_simp
        refine hK _ _ (fun _ => HSA.out _ (HB.out.alloc HB.out.size _).drew) ?_
        clear hK K HS0 HBd HRd
        obtain ⟨Wa, hWa⟩ : ∃ Wa, (wr.alloc (.cells #[.int .i64 0, .int .i64 0, .float .f64 0, .string ⟨#[]⟩, .slice none 0 0] 29)).drew = Wa := ⟨_, rfl⟩
        have HXBa : Hid (Box Wa wr.heap.size (.int .i64 0) (.int .i64 0) (.float .f64 0) (.string ⟨#[]⟩) (.slice none 0 0)) := hidb (by rw [← hWa]; exact (Box.new wr _ _ _ _ _ _).keep (Below.refl _ _).drew)
        have HBa : Hid (Below V2.heap.size V2 Wa) := hidb (by rw [← hWa]; exact (HB.out.alloc HB.out.size _).drew)
        have HRa : Hid (Wa.ownsRow V2.heap.size 4 1 (.slice qa i ca) i (kvs k i)) := hidb (by rw [← hWa]; exact row_but HROW.out (But.of_below (S := fun _ => False) (below_new wr _).drew) (fun _ _ h => h))
        have HXG : Hid (V2.heap.size ≤ wr.heap.size) := hidb HB.out.size
        have HXR : Hid (∀ g, (Value.slice qa i ca).ownBlock = some g → g = wr.heap.size → False) := hidb (fun g hg e => by have := (row_lt HROW.out g hg).1; omega)
        rw [hWa]
        clear hWa
        refine wpAnyD_stepL (i := 5) (by kernel_rfl) rfl (fun K hK => ?_)
        go_simp
        refine hK _ _ (fun _ => HSA.out _ (HBa.out.alloc HBa.out.size _)) ?_
        clear hK K
        obtain ⟨Ww, hWw⟩ : ∃ Ww, Wa.alloc (.cells #[.int .i64 k, .int .i64 n, .float .f64 f, .string s, .slice a L c] 29) = Ww := ⟨_, rfl⟩
        have HBw : Hid (Below V2.heap.size V2 Ww) := hidb (by rw [← hWw]; exact HBa.out.alloc HBa.out.size _)
        have HRw : Hid (Ww.ownsRow V2.heap.size 4 1 (.slice qa i ca) i (kvs k i)) := hidb (by rw [← hWw]; exact HRa.out.alloc _)
        have HXBw : Hid (Box Ww wr.heap.size (.int .i64 0) (.int .i64 0) (.float .f64 0) (.string ⟨#[]⟩) (.slice none 0 0)) := hidb (by rw [← hWw]; exact HXBa.out.keep (below_new _ _))
        have HAw : Hid (ArgsIn Ww (some ⟨Wa.heap.size, 0, none⟩) 1 [.mk k n f s a c ks]) := hidb (by rw [← hWw]; exact HAI.out Wa HBa.out)
        rw [hWw]
        clear hWw
        refine wpAnyD_stepL (i := 6) (by kernel_rfl) rfl (fun K hK => ?_)
        refine step_callB (by simp [Region.wanted]) (run_call ent_lawcall #[.tmp 30, .tmp 32] _ rfl #[.string nm, .slice (some ⟨Wa.heap.size, 0, none⟩) 1 1] rfl) (LC.out Ww HBw.out Wa.heap.size HAw.out) ?_
        rintro e w6 ⟨⟨a6, c6, rfl⟩, hb6⟩
        have HBc := hidb (HBw.out.trans (hb6.mono HBw.out.size))
        have HRc := hidb (row_but HRw.out (But.of_below (S := fun _ => False) hb6) (fun _ _ h => h))
        have HXB := hidb (HXBw.out.keep hb6)
        refine hK _ _ (fun _ => HSA.out _ HBc.out) ?_
        clear hK K hb6
        have HS0 := hidb (HSA.out w6 HBc.out)
        simp only [Act.put, List.setIfInBounds_toArray, List.set_cons_zero, List.set_cons_succ]
        refine wpAnyD_takeL (i := 7) (v := ?vv7a) rfl (by kernel_rfl) (by kernel_rfl) (by kernel_rfl) (by kernel_rfl) (fun _ _ _ h => h) HS0.out rfl ?hy7a ?_
        case hy7a => intro wy hSw; obtain ⟨z0, z1, z2, z3, z4, z5⟩ := hSw; go_simp; try with_reducible rfl
        simp only [Act.put, List.setIfInBounds_toArray, List.set_cons_zero, List.set_cons_succ]
        refine wpAnyD_takeL (i := 8) (v := ?vv8a) rfl (by kernel_rfl) (by kernel_rfl) (by kernel_rfl) (by kernel_rfl) (fun _ _ _ h => h) HS0.out rfl ?hy8a ?_
        case hy8a => intro wy hSw; obtain ⟨z0, z1, z2, z3, z4, z5⟩ := hSw; go_simp; try with_reducible rfl
        simp only [Act.put, List.setIfInBounds_toArray, List.set_cons_zero, List.set_cons_succ]
        refine wpAnyD_takeL (i := 9) (v := ?vv9a) rfl (by kernel_rfl) (by kernel_rfl) (by kernel_rfl) (by kernel_rfl) (fun _ _ _ h => h) HS0.out rfl ?hy9a ?_
        case hy9a => intro wy hSw; obtain ⟨z0, z1, z2, z3, z4, z5⟩ := hSw; go_simp; try with_reducible rfl
        simp only [Act.put, List.setIfInBounds_toArray, List.set_cons_zero, List.set_cons_succ]
        obtain ⟨⟨x0, x1, x2, x3, x4⟩, ⟨y0, y1, y2, y3, y4⟩, xl⟩ := Box.six HXB.out
        have hxv : V2.heap.size ≤ wr.heap.size := HXG.out
        refine wpAnyD_stepL (i := 11) (by kernel_rfl) rfl (fun K hK => ?_)
        go_simp
        refine hK _ _ (fun _ => HSA.out _ (((((HBc.out.setCell hxv _).setCell hxv _).setCell hxv _).setCell hxv _).setCell hxv _)) ?_
        clear hK K
        have HX9 := hidb (HXB.out.set (.int .i64 3) (.int .i64 0) (.float .f64 0) (.string (bolS B)) (.slice a6 0 c6))
        have HB9 := hidb (((((HBc.out.setCell (p := ⟨wr.heap.size, 0, none⟩) hxv (.int .i64 3)).setCell (p := ⟨wr.heap.size, 1, none⟩) hxv (.int .i64 0)).setCell (p := ⟨wr.heap.size, 2, none⟩) hxv (.float .f64 0)).setCell (p := ⟨wr.heap.size, 3, none⟩) hxv (.string (bolS B))).setCell (p := ⟨wr.heap.size, 4, none⟩) hxv (.slice a6 0 c6))
        have HR9 := hidb (row_but HRc.out ((((((But.refl (fun q => q = wr.heap.size) w6).setCell (p := ⟨wr.heap.size, 0, none⟩) (fun _ => rfl) (.int .i64 3)).setCell (p := ⟨wr.heap.size, 1, none⟩) (fun _ => rfl) (.int .i64 0)).setCell (p := ⟨wr.heap.size, 2, none⟩) (fun _ => rfl) (.float .f64 0)).setCell (p := ⟨wr.heap.size, 3, none⟩) (fun _ => rfl) (.string (bolS B))).setCell (p := ⟨wr.heap.size, 4, none⟩) (fun _ => rfl) (.slice a6 0 c6)) (fun g hg e => HXR.out g hg e))
        simp only [set5] at HX9
        generalize hW9 : (((((w6.setCell ⟨wr.heap.size, 0, none⟩ (.int .i64 3)).setCell ⟨wr.heap.size, 1, none⟩ (.int .i64 0)).setCell ⟨wr.heap.size, 2, none⟩ (.float .f64 0)).setCell ⟨wr.heap.size, 3, none⟩ (.string (bolS B))).setCell ⟨wr.heap.size, 4, none⟩ (.slice a6 0 c6)) = W9 at *
        clear hW9 x0 x1 x2 x3 x4 y0 y1 y2 y3 y4 xl HS0
        have HS0 := hidb (HSA.out W9 HB9.out)
        refine wpAnyD_takeL (i := 12) (v := ?vv12a) rfl (by kernel_rfl) (by kernel_rfl) (by kernel_rfl) (by kernel_rfl) (fun _ _ _ h => h) HS0.out rfl ?hy12a ?_
        case hy12a => intro wy hSw; obtain ⟨z0, z1, z2, z3, z4, z5⟩ := hSw; go_simp; try with_reducible rfl
        simp only [Act.put, List.setIfInBounds_toArray, List.set_cons_zero, List.set_cons_succ]
        refine wpAnyD_done (by kernel_rfl) ?_ _
        obtain ⟨⟨x0, x1, x2, x3, x4⟩, -, xl⟩ := Box.six HX9.out
        have hcn := HCN.out
        cases B
        · simp only [bolS, Bool.false_eq_true, if_false] at x3 ⊢
          have hw : wrap64 ((kcn k i : Int) + 1) = (kcn k i : Int) + 1 := by have := hcn.2; unfold wrap64; omega
          go_wp2_with (first
            | (at_builtin; refine wpList_append_own_at _ rfl _ _ 32 rfl V2.heap.size 4 i0 (.bool false) 1 1 Tryz.underlying32 hi hz0 hz1 hz2 rfl (by decide) (.slice qa i ca) i (kvs k i) rfl ?e1a0 ⟨W9.heap.size, 0, none⟩ 1 1 [.bool false] rfl rfl ?e6a0 ?e2a0 ?e3a0 ?e4a0 ?e5a0 ?_))
          case e1a0 => exact HR9.out.alloc _
          try (case e6a0 => exact World.news_of_block ((MapKept.heap_alloc W9 _).1))
          case e2a0 => simp [Value.oneCell']
          case e3a0 => unfold maxLen; omega
          case e4a0 => omega
          case e5a0 => have := HB9.out.size; simp; omega
          intro v' w4 hown' hgrow hnil hat
          have HB4 := hidb (grown_up (HB9.out.trans ((below_new W9 _).mono HB9.out.size)) hgrow (fun k hk => (row_lt HR9.out k hk).2))
          rw [HTK.out] at hown'
          have HR4 := hidb hown'
          obtain ⟨qa4, ca4, rfl⟩ := own_sl hown'
          have HX4 := hidb ((HX9.out.keep (below_new W9 _)).but (but_grown hgrow) (fun e => HXR.out _ e rfl))
          obtain ⟨⟨g0, g1, g2, g3, g4⟩, -, gl⟩ := Box.six HX4.out
          simp only [bolS, Bool.false_eq_true, if_false] at g3
          clear hown' hgrow hnil hat x0 x1 x2 x3 x4 xl
          go_wp2_with fail
          go_roundw
          case rel => exact ⟨i + 1, by omega, by rw [Int.natCast_add]; rfl, by rw [hcn.1]; simp, HR4.out, HB4.out⟩
          case measure => simp [RowKit.intOf]; omega
        · simp only [bolS, if_true] at x3 ⊢
          have hw : wrap64 ((kcn k i : Int) + 1) = (kcn k i : Int) + 1 := by have := hcn.2; unfold wrap64; omega
          go_wp2_with (first
            | (at_builtin; refine wpList_append_own_at _ rfl _ _ 32 rfl V2.heap.size 4 i0 (.bool false) 1 1 Tryz.underlying32 hi hz0 hz1 hz2 rfl (by decide) (.slice qa i ca) i (kvs k i) rfl ?e1a1 ⟨W9.heap.size, 0, none⟩ 1 1 [.bool true] rfl rfl ?e6a1 ?e2a1 ?e3a1 ?e4a1 ?e5a1 ?_))
          case e1a1 => exact HR9.out.alloc _
          try (case e6a1 => exact World.news_of_block ((MapKept.heap_alloc W9 _).1))
          case e2a1 => simp [Value.oneCell']
          case e3a1 => unfold maxLen; omega
          case e4a1 => omega
          case e5a1 => have := HB9.out.size; simp; omega
          intro v' w4 hown' hgrow hnil hat
          have HB4 := hidb (grown_up (HB9.out.trans ((below_new W9 _).mono HB9.out.size)) hgrow (fun k hk => (row_lt HR9.out k hk).2))
          rw [HTK.out] at hown'
          have HR4 := hidb hown'
          obtain ⟨qa4, ca4, rfl⟩ := own_sl hown'
          have HX4 := hidb ((HX9.out.keep (below_new W9 _)).but (but_grown hgrow) (fun e => HXR.out _ e rfl))
          obtain ⟨⟨g0, g1, g2, g3, g4⟩, -, gl⟩ := Box.six HX4.out
          simp only [bolS, if_true] at g3
          clear hown' hgrow hnil hat x0 x1 x2 x3 x4 xl
          go_wp2_with fail
          go_roundw
          case rel => exact ⟨i + 1, by omega, by rw [Int.natCast_add]; rfl, by rw [hcn.1]; simp, HR4.out, HB4.out⟩
          case measure => simp [RowKit.intOf]; omega
      case o5 =>
        go_simp
        refine hK _ _ (fun _ => HSA.out _ (HB.out.alloc HB.out.size _).drew) ?_
        clear hK K HS0 HBd HRd
        obtain ⟨Wa, hWa⟩ : ∃ Wa, (wr.alloc (.cells #[.int .i64 k, .int .i64 n, .float .f64 f, .string s, .slice a L c] 29)).drew = Wa := ⟨_, rfl⟩
        have HBw : Hid (Below V2.heap.size V2 Wa) := hidb (by rw [← hWa]; exact (HB.out.alloc HB.out.size _).drew)
        have HRw : Hid (Wa.ownsRow V2.heap.size 4 1 (.slice qa i ca) i (kvs k i)) := hidb (by rw [← hWa]; exact row_but HROW.out (But.of_below (S := fun _ => False) (below_new wr _).drew) (fun _ _ h => h))
        have HAw : Hid (ArgsIn Wa (some ⟨wr.heap.size, 0, none⟩) 1 [.mk k n f s a c ks]) := hidb (by rw [← hWa]; exact in_below (Below.refl _ _).drew (HAI.out wr HB.out))
        rw [hWa]
        clear hWa
        refine wpAnyD_twoL (i := 6) (j := 10) (by kernel_rfl) rfl rfl (fun K hK => ?o6) (fun K hK => ?oC)
        case o6 =>
          refine step_callB (by simp [Region.wanted]) (run_call ent_lawcall #[.tmp 30, .tmp 32] _ rfl #[.string nm, .slice (some ⟨wr.heap.size, 0, none⟩) 1 1] rfl) (LC.out Wa HBw.out wr.heap.size HAw.out) ?_
          rintro e w6 ⟨⟨a6, c6, rfl⟩, hb6⟩
          have HBc := hidb (HBw.out.trans (hb6.mono HBw.out.size))
          have HRc := hidb (row_but HRw.out (But.of_below (S := fun _ => False) hb6) (fun _ _ h => h))
          refine hK _ _ (fun _ => HSA.out _ HBc.out) ?_
          clear hK K hb6
          have HS0 := hidb (HSA.out w6 HBc.out)
          simp only [Act.put, List.setIfInBounds_toArray, List.set_cons_zero, List.set_cons_succ]
          refine wpAnyD_takeL (i := 7) (v := ?vv7b) rfl (by kernel_rfl) (by kernel_rfl) (by kernel_rfl) (by kernel_rfl) (fun _ _ _ h => h) HS0.out rfl ?hy7b ?_
          case hy7b => intro wy hSw; obtain ⟨z0, z1, z2, z3, z4, z5⟩ := hSw; go_simp; try with_reducible rfl
          simp only [Act.put, List.setIfInBounds_toArray, List.set_cons_zero, List.set_cons_succ]
          refine wpAnyD_takeL (i := 8) (v := ?vv8b) rfl (by kernel_rfl) (by kernel_rfl) (by kernel_rfl) (by kernel_rfl) (fun _ _ _ h => h) HS0.out rfl ?hy8b ?_
          case hy8b => intro wy hSw; obtain ⟨z0, z1, z2, z3, z4, z5⟩ := hSw; go_simp; try with_reducible rfl
          simp only [Act.put, List.setIfInBounds_toArray, List.set_cons_zero, List.set_cons_succ]
          refine wpAnyD_takeL (i := 9) (v := ?vv9b) rfl (by kernel_rfl) (by kernel_rfl) (by kernel_rfl) (by kernel_rfl) (fun _ _ _ h => h) HS0.out rfl ?hy9b ?_
          case hy9b => intro wy hSw; obtain ⟨z0, z1, z2, z3, z4, z5⟩ := hSw; go_simp; try with_reducible rfl
          simp only [Act.put, List.setIfInBounds_toArray, List.set_cons_zero, List.set_cons_succ]
          refine wpAnyD_stepL (i := 10) (by kernel_rfl) rfl (fun K hK => ?_)
          go_simp
          refine hK _ _ (fun _ => HSA.out _ (HBc.out.alloc HBc.out.size _)) ?_
          clear hK K HS0
          obtain ⟨Wc, hWc⟩ : ∃ Wc, w6.alloc (.cells #[.int .i64 0, .int .i64 0, .float .f64 0, .string ⟨#[]⟩, .slice none 0 0] 29) = Wc := ⟨_, rfl⟩
          have HXG : Hid (V2.heap.size ≤ w6.heap.size) := hidb HBc.out.size
          have HXR : Hid (∀ g, (Value.slice qa i ca).ownBlock = some g → g = w6.heap.size → False) := hidb (fun g hg e => by have := (row_lt HRc.out g hg).1; omega)
          have HXB : Hid (Box Wc w6.heap.size (.int .i64 0) (.int .i64 0) (.float .f64 0) (.string ⟨#[]⟩) (.slice none 0 0)) := hidb (by rw [← hWc]; exact Box.new w6 _ _ _ _ _ _)
          have HBc2 : Hid (Below V2.heap.size V2 Wc) := hidb (by rw [← hWc]; exact HBc.out.alloc HBc.out.size _)
          have HRc2 : Hid (Wc.ownsRow V2.heap.size 4 1 (.slice qa i ca) i (kvs k i)) := hidb (by rw [← hWc]; exact HRc.out.alloc _)
          rw [hWc]
          clear hWc HBc HRc
          have HBc := HBc2
          have HRc := HRc2
          have HS0 := hidb (HSA.out Wc HBc.out)
          obtain ⟨⟨x0, x1, x2, x3, x4⟩, ⟨y0, y1, y2, y3, y4⟩, xl⟩ := Box.six HXB.out
          have hxv : V2.heap.size ≤ w6.heap.size := HXG.out
          refine wpAnyD_stepL (i := 11) (by kernel_rfl) rfl (fun K hK => ?_)
          go_simp
          refine hK _ _ (fun _ => HSA.out _ (((((HBc.out.setCell hxv _).setCell hxv _).setCell hxv _).setCell hxv _).setCell hxv _)) ?_
          clear hK K
          have HX9 := hidb (HXB.out.set (.int .i64 3) (.int .i64 0) (.float .f64 0) (.string (bolS B)) (.slice a6 0 c6))
          have HB9 := hidb (((((HBc.out.setCell (p := ⟨w6.heap.size, 0, none⟩) hxv (.int .i64 3)).setCell (p := ⟨w6.heap.size, 1, none⟩) hxv (.int .i64 0)).setCell (p := ⟨w6.heap.size, 2, none⟩) hxv (.float .f64 0)).setCell (p := ⟨w6.heap.size, 3, none⟩) hxv (.string (bolS B))).setCell (p := ⟨w6.heap.size, 4, none⟩) hxv (.slice a6 0 c6))
          have HR9 := hidb (row_but HRc.out ((((((But.refl (fun q => q = w6.heap.size) Wc).setCell (p := ⟨w6.heap.size, 0, none⟩) (fun _ => rfl) (.int .i64 3)).setCell (p := ⟨w6.heap.size, 1, none⟩) (fun _ => rfl) (.int .i64 0)).setCell (p := ⟨w6.heap.size, 2, none⟩) (fun _ => rfl) (.float .f64 0)).setCell (p := ⟨w6.heap.size, 3, none⟩) (fun _ => rfl) (.string (bolS B))).setCell (p := ⟨w6.heap.size, 4, none⟩) (fun _ => rfl) (.slice a6 0 c6)) (fun g hg e => HXR.out g hg e))
          simp only [set5] at HX9
          generalize hW9 : (((((Wc.setCell ⟨w6.heap.size, 0, none⟩ (.int .i64 3)).setCell ⟨w6.heap.size, 1, none⟩ (.int .i64 0)).setCell ⟨w6.heap.size, 2, none⟩ (.float .f64 0)).setCell ⟨w6.heap.size, 3, none⟩ (.string (bolS B))).setCell ⟨w6.heap.size, 4, none⟩ (.slice a6 0 c6)) = W9 at *
          clear hW9 x0 x1 x2 x3 x4 y0 y1 y2 y3 y4 xl HS0
          have HS0 := hidb (HSA.out W9 HB9.out)
          refine wpAnyD_takeL (i := 12) (v := ?vv12b) rfl (by kernel_rfl) (by kernel_rfl) (by kernel_rfl) (by kernel_rfl) (fun _ _ _ h => h) HS0.out rfl ?hy12b ?_
          case hy12b => intro wy hSw; obtain ⟨z0, z1, z2, z3, z4, z5⟩ := hSw; go_simp; try with_reducible rfl
          simp only [Act.put, List.setIfInBounds_toArray, List.set_cons_zero, List.set_cons_succ]
          refine wpAnyD_done (by kernel_rfl) ?_ _
          obtain ⟨⟨x0, x1, x2, x3, x4⟩, -, xl⟩ := Box.six HX9.out
          have hcn := HCN.out
          cases B
          · simp only [bolS, Bool.false_eq_true, if_false] at x3 ⊢
            have hw : wrap64 ((kcn k i : Int) + 1) = (kcn k i : Int) + 1 := by have := hcn.2; unfold wrap64; omega
            go_wp2_with (first
              | (at_builtin; refine wpList_append_own_at _ rfl _ _ 32 rfl V2.heap.size 4 i0 (.bool false) 1 1 Tryz.underlying32 hi hz0 hz1 hz2 rfl (by decide) (.slice qa i ca) i (kvs k i) rfl ?e1b0 ⟨W9.heap.size, 0, none⟩ 1 1 [.bool false] rfl rfl ?e6b0 ?e2b0 ?e3b0 ?e4b0 ?e5b0 ?_))
            case e1b0 => exact HR9.out.alloc _
            try (case e6b0 => exact World.news_of_block ((MapKept.heap_alloc W9 _).1))
            case e2b0 => simp [Value.oneCell']
            case e3b0 => unfold maxLen; omega
            case e4b0 => omega
            case e5b0 => have := HB9.out.size; simp; omega
            intro v' w4 hown' hgrow hnil hat
            have HB4 := hidb (grown_up (HB9.out.trans ((below_new W9 _).mono HB9.out.size)) hgrow (fun k hk => (row_lt HR9.out k hk).2))
            rw [HTK.out] at hown'
            have HR4 := hidb hown'
            obtain ⟨qa4, ca4, rfl⟩ := own_sl hown'
            have HX4 := hidb ((HX9.out.keep (below_new W9 _)).but (but_grown hgrow) (fun e => HXR.out _ e rfl))
            obtain ⟨⟨g0, g1, g2, g3, g4⟩, -, gl⟩ := Box.six HX4.out
            simp only [bolS, Bool.false_eq_true, if_false] at g3
            clear hown' hgrow hnil hat x0 x1 x2 x3 x4 xl
            go_wp2_with fail
            go_roundw
            case rel => exact ⟨i + 1, by omega, by rw [Int.natCast_add]; rfl, by rw [hcn.1]; simp, HR4.out, HB4.out⟩
            case measure => simp [RowKit.intOf]; omega
          · simp only [bolS, if_true] at x3 ⊢
            have hw : wrap64 ((kcn k i : Int) + 1) = (kcn k i : Int) + 1 := by have := hcn.2; unfold wrap64; omega
            go_wp2_with (first
              | (at_builtin; refine wpList_append_own_at _ rfl _ _ 32 rfl V2.heap.size 4 i0 (.bool false) 1 1 Tryz.underlying32 hi hz0 hz1 hz2 rfl (by decide) (.slice qa i ca) i (kvs k i) rfl ?e1b1 ⟨W9.heap.size, 0, none⟩ 1 1 [.bool true] rfl rfl ?e6b1 ?e2b1 ?e3b1 ?e4b1 ?e5b1 ?_))
            case e1b1 => exact HR9.out.alloc _
            try (case e6b1 => exact World.news_of_block ((MapKept.heap_alloc W9 _).1))
            case e2b1 => simp [Value.oneCell']
            case e3b1 => unfold maxLen; omega
            case e4b1 => omega
            case e5b1 => have := HB9.out.size; simp; omega
            intro v' w4 hown' hgrow hnil hat
            have HB4 := hidb (grown_up (HB9.out.trans ((below_new W9 _).mono HB9.out.size)) hgrow (fun k hk => (row_lt HR9.out k hk).2))
            rw [HTK.out] at hown'
            have HR4 := hidb hown'
            obtain ⟨qa4, ca4, rfl⟩ := own_sl hown'
            have HX4 := hidb ((HX9.out.keep (below_new W9 _)).but (but_grown hgrow) (fun e => HXR.out _ e rfl))
            obtain ⟨⟨g0, g1, g2, g3, g4⟩, -, gl⟩ := Box.six HX4.out
            simp only [bolS, if_true] at g3
            clear hown' hgrow hnil hat x0 x1 x2 x3 x4 xl
            go_wp2_with fail
            go_roundw
            case rel => exact ⟨i + 1, by omega, by rw [Int.natCast_add]; rfl, by rw [hcn.1]; simp, HR4.out, HB4.out⟩
            case measure => simp [RowKit.intOf]; omega
        case oC =>
          go_simp
          refine hK _ _ (fun _ => HSA.out _ (HBw.out.alloc HBw.out.size _)) ?_
          clear hK K
          obtain ⟨Wb, hWb⟩ : ∃ Wb, Wa.alloc (.cells #[.int .i64 0, .int .i64 0, .float .f64 0, .string ⟨#[]⟩, .slice none 0 0] 29) = Wb := ⟨_, rfl⟩
          have HXG : Hid (V2.heap.size ≤ Wa.heap.size) := hidb HBw.out.size
          have HXR : Hid (∀ g, (Value.slice qa i ca).ownBlock = some g → g = Wa.heap.size → False) := hidb (fun g hg e => by have := (row_lt HRw.out g hg).1; omega)
          have HXBw : Hid (Box Wb Wa.heap.size (.int .i64 0) (.int .i64 0) (.float .f64 0) (.string ⟨#[]⟩) (.slice none 0 0)) := hidb (by rw [← hWb]; exact Box.new Wa _ _ _ _ _ _)
          have HBw2 : Hid (Below V2.heap.size V2 Wb) := hidb (by rw [← hWb]; exact HBw.out.alloc HBw.out.size _)
          have HRw2 : Hid (Wb.ownsRow V2.heap.size 4 1 (.slice qa i ca) i (kvs k i)) := hidb (by rw [← hWb]; exact HRw.out.alloc _)
          have HAw2 : Hid (ArgsIn Wb (some ⟨wr.heap.size, 0, none⟩) 1 [.mk k n f s a c ks]) := hidb (by rw [← hWb]; exact in_below (below_new _ _) HAw.out)
          rw [hWb]
          clear hWb HBw HRw HAw
          have HBw := HBw2
          have HRw := HRw2
          refine wpAnyD_stepL (i := 6) (by kernel_rfl) rfl (fun K hK => ?_)
          refine step_callB (by simp [Region.wanted]) (run_call ent_lawcall #[.tmp 30, .tmp 32] _ rfl #[.string nm, .slice (some ⟨wr.heap.size, 0, none⟩) 1 1] rfl) (LC.out Wb HBw.out wr.heap.size HAw2.out) ?_
          rintro e w6 ⟨⟨a6, c6, rfl⟩, hb6⟩
          have HBc := hidb (HBw.out.trans (hb6.mono HBw.out.size))
          have HRc := hidb (row_but HRw.out (But.of_below (S := fun _ => False) hb6) (fun _ _ h => h))
          have HXB := hidb (HXBw.out.keep hb6)
          refine hK _ _ (fun _ => HSA.out _ HBc.out) ?_
          clear hK K hb6
          have HS0 := hidb (HSA.out w6 HBc.out)
          simp only [Act.put, List.setIfInBounds_toArray, List.set_cons_zero, List.set_cons_succ]
          refine wpAnyD_takeL (i := 7) (v := ?vv7c) rfl (by kernel_rfl) (by kernel_rfl) (by kernel_rfl) (by kernel_rfl) (fun _ _ _ h => h) HS0.out rfl ?hy7c ?_
          case hy7c => intro wy hSw; obtain ⟨z0, z1, z2, z3, z4, z5⟩ := hSw; go_simp; try with_reducible rfl
          simp only [Act.put, List.setIfInBounds_toArray, List.set_cons_zero, List.set_cons_succ]
          refine wpAnyD_takeL (i := 8) (v := ?vv8c) rfl (by kernel_rfl) (by kernel_rfl) (by kernel_rfl) (by kernel_rfl) (fun _ _ _ h => h) HS0.out rfl ?hy8c ?_
          case hy8c => intro wy hSw; obtain ⟨z0, z1, z2, z3, z4, z5⟩ := hSw; go_simp; try with_reducible rfl
          simp only [Act.put, List.setIfInBounds_toArray, List.set_cons_zero, List.set_cons_succ]
          refine wpAnyD_takeL (i := 9) (v := ?vv9c) rfl (by kernel_rfl) (by kernel_rfl) (by kernel_rfl) (by kernel_rfl) (fun _ _ _ h => h) HS0.out rfl ?hy9c ?_
          case hy9c => intro wy hSw; obtain ⟨z0, z1, z2, z3, z4, z5⟩ := hSw; go_simp; try with_reducible rfl
          simp only [Act.put, List.setIfInBounds_toArray, List.set_cons_zero, List.set_cons_succ]
          obtain ⟨⟨x0, x1, x2, x3, x4⟩, ⟨y0, y1, y2, y3, y4⟩, xl⟩ := Box.six HXB.out
          have hxv : V2.heap.size ≤ Wa.heap.size := HXG.out
          refine wpAnyD_stepL (i := 11) (by kernel_rfl) rfl (fun K hK => ?_)
          go_simp
          refine hK _ _ (fun _ => HSA.out _ (((((HBc.out.setCell hxv _).setCell hxv _).setCell hxv _).setCell hxv _).setCell hxv _)) ?_
          clear hK K
          have HX9 := hidb (HXB.out.set (.int .i64 3) (.int .i64 0) (.float .f64 0) (.string (bolS B)) (.slice a6 0 c6))
          have HB9 := hidb (((((HBc.out.setCell (p := ⟨Wa.heap.size, 0, none⟩) hxv (.int .i64 3)).setCell (p := ⟨Wa.heap.size, 1, none⟩) hxv (.int .i64 0)).setCell (p := ⟨Wa.heap.size, 2, none⟩) hxv (.float .f64 0)).setCell (p := ⟨Wa.heap.size, 3, none⟩) hxv (.string (bolS B))).setCell (p := ⟨Wa.heap.size, 4, none⟩) hxv (.slice a6 0 c6))
          have HR9 := hidb (row_but HRc.out ((((((But.refl (fun q => q = Wa.heap.size) w6).setCell (p := ⟨Wa.heap.size, 0, none⟩) (fun _ => rfl) (.int .i64 3)).setCell (p := ⟨Wa.heap.size, 1, none⟩) (fun _ => rfl) (.int .i64 0)).setCell (p := ⟨Wa.heap.size, 2, none⟩) (fun _ => rfl) (.float .f64 0)).setCell (p := ⟨Wa.heap.size, 3, none⟩) (fun _ => rfl) (.string (bolS B))).setCell (p := ⟨Wa.heap.size, 4, none⟩) (fun _ => rfl) (.slice a6 0 c6)) (fun g hg e => HXR.out g hg e))
          simp only [set5] at HX9
          generalize hW9 : (((((w6.setCell ⟨Wa.heap.size, 0, none⟩ (.int .i64 3)).setCell ⟨Wa.heap.size, 1, none⟩ (.int .i64 0)).setCell ⟨Wa.heap.size, 2, none⟩ (.float .f64 0)).setCell ⟨Wa.heap.size, 3, none⟩ (.string (bolS B))).setCell ⟨Wa.heap.size, 4, none⟩ (.slice a6 0 c6)) = W9 at *
          clear hW9 x0 x1 x2 x3 x4 y0 y1 y2 y3 y4 xl HS0
          have HS0 := hidb (HSA.out W9 HB9.out)
          refine wpAnyD_takeL (i := 12) (v := ?vv12c) rfl (by kernel_rfl) (by kernel_rfl) (by kernel_rfl) (by kernel_rfl) (fun _ _ _ h => h) HS0.out rfl ?hy12c ?_
          case hy12c => intro wy hSw; obtain ⟨z0, z1, z2, z3, z4, z5⟩ := hSw; go_simp; try with_reducible rfl
          simp only [Act.put, List.setIfInBounds_toArray, List.set_cons_zero, List.set_cons_succ]
          refine wpAnyD_done (by kernel_rfl) ?_ _
          obtain ⟨⟨x0, x1, x2, x3, x4⟩, -, xl⟩ := Box.six HX9.out
          have hcn := HCN.out
          cases B
          · simp only [bolS, Bool.false_eq_true, if_false] at x3 ⊢
            have hw : wrap64 ((kcn k i : Int) + 1) = (kcn k i : Int) + 1 := by have := hcn.2; unfold wrap64; omega
            go_wp2_with (first
              | (at_builtin; refine wpList_append_own_at _ rfl _ _ 32 rfl V2.heap.size 4 i0 (.bool false) 1 1 Tryz.underlying32 hi hz0 hz1 hz2 rfl (by decide) (.slice qa i ca) i (kvs k i) rfl ?e1c0 ⟨W9.heap.size, 0, none⟩ 1 1 [.bool false] rfl rfl ?e6c0 ?e2c0 ?e3c0 ?e4c0 ?e5c0 ?_))
            case e1c0 => exact HR9.out.alloc _
            try (case e6c0 => exact World.news_of_block ((MapKept.heap_alloc W9 _).1))
            case e2c0 => simp [Value.oneCell']
            case e3c0 => unfold maxLen; omega
            case e4c0 => omega
            case e5c0 => have := HB9.out.size; simp; omega
            intro v' w4 hown' hgrow hnil hat
            have HB4 := hidb (grown_up (HB9.out.trans ((below_new W9 _).mono HB9.out.size)) hgrow (fun k hk => (row_lt HR9.out k hk).2))
            rw [HTK.out] at hown'
            have HR4 := hidb hown'
            obtain ⟨qa4, ca4, rfl⟩ := own_sl hown'
            have HX4 := hidb ((HX9.out.keep (below_new W9 _)).but (but_grown hgrow) (fun e => HXR.out _ e rfl))
            obtain ⟨⟨g0, g1, g2, g3, g4⟩, -, gl⟩ := Box.six HX4.out
            simp only [bolS, Bool.false_eq_true, if_false] at g3
            clear hown' hgrow hnil hat x0 x1 x2 x3 x4 xl
            go_wp2_with fail
            go_roundw
            case rel => exact ⟨i + 1, by omega, by rw [Int.natCast_add]; rfl, by rw [hcn.1]; simp, HR4.out, HB4.out⟩
            case measure => simp [RowKit.intOf]; omega
          · simp only [bolS, if_true] at x3 ⊢
            have hw : wrap64 ((kcn k i : Int) + 1) = (kcn k i : Int) + 1 := by have := hcn.2; unfold wrap64; omega
            go_wp2_with (first
              | (at_builtin; refine wpList_append_own_at _ rfl _ _ 32 rfl V2.heap.size 4 i0 (.bool false) 1 1 Tryz.underlying32 hi hz0 hz1 hz2 rfl (by decide) (.slice qa i ca) i (kvs k i) rfl ?e1c1 ⟨W9.heap.size, 0, none⟩ 1 1 [.bool true] rfl rfl ?e6c1 ?e2c1 ?e3c1 ?e4c1 ?e5c1 ?_))
            case e1c1 => exact HR9.out.alloc _
            try (case e6c1 => exact World.news_of_block ((MapKept.heap_alloc W9 _).1))
            case e2c1 => simp [Value.oneCell']
            case e3c1 => unfold maxLen; omega
            case e4c1 => omega
            case e5c1 => have := HB9.out.size; simp; omega
            intro v' w4 hown' hgrow hnil hat
            have HB4 := hidb (grown_up (HB9.out.trans ((below_new W9 _).mono HB9.out.size)) hgrow (fun k hk => (row_lt HR9.out k hk).2))
            rw [HTK.out] at hown'
            have HR4 := hidb hown'
            obtain ⟨qa4, ca4, rfl⟩ := own_sl hown'
            have HX4 := hidb ((HX9.out.keep (below_new W9 _)).but (but_grown hgrow) (fun e => HXR.out _ e rfl))
            obtain ⟨⟨g0, g1, g2, g3, g4⟩, -, gl⟩ := Box.six HX4.out
            simp only [bolS, if_true] at g3
            clear hown' hgrow hnil hat x0 x1 x2 x3 x4 xl
            go_wp2_with fail
            go_roundw
            case rel => exact ⟨i + 1, by omega, by rw [Int.natCast_add]; rfl, by rw [hcn.1]; simp, HR4.out, HB4.out⟩
            case measure => simp [RowKit.intOf]; omega
    · have e1 : ¬ (i : Int) < 8 := by omega
      obtain rfl : i = 8 := by have := HI.out; omega
      obtain ⟨⟨x0, x1, x2, x3, x4⟩, -, xl⟩ := Box.six (HXV.out.keep HB.out)
      obtain ⟨g, cg, hqa⟩ : ∃ g cg, Value.slice qa 8 ca = .slice (some ⟨g, 0, none⟩) 8 cg := by
        rcases HROW.out.2 with ⟨h0, _⟩ | ⟨g, cap, cur, h0, _⟩
        · cases h0
        · exact ⟨g, cap, h0⟩
      obtain ⟨rfl, rfl⟩ : qa = some ⟨g, 0, none⟩ ∧ ca = cg := by simpa using hqa
      have HAI : Hid (∀ W, Below V2.heap.size V2 W → ArgsIn (W.alloc (.cells #[.int .i64 k, .int .i64 n, .float .f64 f, .string s, .slice a L c] 29)) (some ⟨W.heap.size, 0, none⟩) 1 [.mk k n f s a c ks]) := hidb (fun W hW => by
        have := built_in W [.mk k n f s a c ks] (fun u hu => by rw [List.mem_singleton.1 hu]; exact in_below (HBV.out.trans (hW.mono HBV.out.size)) HIN.out) 29 (by simp)
        rw [← HL.out]
        exact this)
      have hkk := err_kind HOK.out.1
      clear hqa e1 HNM HI
      rcases hkk with rfl | rfl | rfl | rfl | rfl | rfl | rfl | rfl
      · have HCN : Hid (kcn 1 8 = 1) := hidb (by kernel_rfl)
        have hv0 : wr.cell? ⟨g, 0, none⟩ = some (.bool false) := (HROW.out.cellAt 0 (by omega)).trans rfl
        have hv1 : wr.cell? ⟨g, 1, none⟩ = some (.bool true) := (HROW.out.cellAt 1 (by omega)).trans rfl
        have hv2 : wr.cell? ⟨g, 2, none⟩ = some (.bool false) := (HROW.out.cellAt 2 (by omega)).trans rfl
        have hgl : g < wr.heap.size := World.block_lt_of_cell? _ _ hv0
        rw [HCN.out]
        have LN : Hid (∀ W, Below V2.heap.size V2 W → ∀ rb, ArgsIn W (some ⟨rb, 0, none⟩) 1 [.mk 1 n f s a c ks] → Calls Tryz.prog 13 #[.string ⟨#[105, 115, 95, 110, 117, 109, 98, 101, 114]⟩, .slice (some ⟨rb, 0, none⟩) 1 1] W (LawB true W)) := hidb (fun W _ rb hA => lawcall (fun W1 hb1 => kc_8 (in_below hb1 hA)))
        have LB : Hid (∀ W, Below V2.heap.size V2 W → ∀ rb, ArgsIn W (some ⟨rb, 0, none⟩) 1 [.mk 1 n f s a c ks] → Calls Tryz.prog 13 #[.string ⟨#[105, 115, 95, 98, 111, 111, 108, 101, 97, 110]⟩, .slice (some ⟨rb, 0, none⟩) 1 1] W (LawB false W)) := hidb (fun W _ rb hA => lawcall (fun W1 hb1 => by have := kc_b (in_below hb1 hA); rw [show isBol (.mk 1 n f s a c ks) = false by simp [isBol]] at this; exact this))
        go_wp2_with fail
        refine (LN.out _ (HB.out.alloc HB.out.size _) _ (HAI.out wr HB.out)).mono ?_
        rintro e w5 ⟨⟨a5, c5, rfl⟩, hb5⟩
        have HB5 : Hid (Below V2.heap.size V2 w5) := hidb ((HB.out.alloc HB.out.size _).trans (hb5.mono (by have := HB.out.size; simp; omega)))
        have hw5 := (below_new wr _).trans (hb5.mono (by simp))
        have hv0 := (hw5.cell (p := ⟨g, 0, none⟩) hgl).trans hv0
        have hv1 := (hw5.cell (p := ⟨g, 1, none⟩) hgl).trans hv1
        have hv2 := (hw5.cell (p := ⟨g, 2, none⟩) hgl).trans hv2
        have hgl : g < w5.heap.size := World.block_lt_of_cell? _ _ hv0
        obtain ⟨⟨x0, x1, x2, x3, x4⟩, -, xl⟩ := Box.six (HXV.out.keep HB5.out)
        clear hb5 hw5
        simp only [bolS, if_true]
        go_wp2_with fail
        refine (LB.out _ ((HB5.out.alloc HB5.out.size _).alloc (by have := HB5.out.size; simp; omega) _) _ (by have := HAI.out _ (HB5.out.alloc HB5.out.size (.cells #[.int .i64 3, .int .i64 0, .float .f64 0, .string trueS, .slice a5 0 c5] 29)); simpa using this)).mono ?_
        rintro e w7 ⟨⟨a7, c7, rfl⟩, hb7⟩
        have hw7 := ((below_new w5 (.cells #[.int .i64 3, .int .i64 0, .float .f64 0, .string trueS, .slice a5 0 c5] 29)).alloc (by simp) (.cells #[.int .i64 1, .int .i64 n, .float .f64 f, .string s, .slice a L c] 29)).trans (hb7.mono (by simp; omega))
        have HNB := hidb (((Box.new w5 29 (.int .i64 3) (.int .i64 0) (.float .f64 0) (.string trueS) (.slice a5 0 c5)).keep (below_new _ _)).keep hb7)
        have hv0 := (hw7.cell (p := ⟨g, 0, none⟩) hgl).trans hv0
        have hv1 := (hw7.cell (p := ⟨g, 1, none⟩) hgl).trans hv1
        have hv2 := (hw7.cell (p := ⟨g, 2, none⟩) hgl).trans hv2
        have HB7 : Hid (Below V2.heap.size V2 w7) := hidb (HB5.out.trans (hw7.mono HB5.out.size))
        obtain ⟨⟨x0, x1, x2, x3, x4⟩, -, xl⟩ := Box.six (HXV.out.keep HB7.out)
        obtain ⟨⟨y0, y1, y2, y3, y4⟩, -, yl⟩ := Box.six HNB.out
        have hgl : g < w7.heap.size := World.block_lt_of_cell? _ _ hv0
        clear hb7 hw7
        simp only [bolS, Bool.false_eq_true, if_false]
        go_wp2_with fail
        go_big_quiet (fail)
        go_wp2_with fail
        go_ret
        exact ⟨rfl, below_drewN ((HBV.out.trans (HB7.out.mono HBV.out.size)).alloc (by have := (HBV.out.trans (HB7.out.mono HBV.out.size)).size; omega) _) _⟩
      · have HCN : Hid (kcn 2 8 = 1) := hidb (by kernel_rfl)
        have hv0 : wr.cell? ⟨g, 0, none⟩ = some (.bool false) := (HROW.out.cellAt 0 (by omega)).trans rfl
        have hv1 : wr.cell? ⟨g, 1, none⟩ = some (.bool false) := (HROW.out.cellAt 1 (by omega)).trans rfl
        have hv2 : wr.cell? ⟨g, 2, none⟩ = some (.bool true) := (HROW.out.cellAt 2 (by omega)).trans rfl
        have hgl : g < wr.heap.size := World.block_lt_of_cell? _ _ hv0
        rw [HCN.out]
        have LN : Hid (∀ W, Below V2.heap.size V2 W → ∀ rb, ArgsIn W (some ⟨rb, 0, none⟩) 1 [.mk 2 n f s a c ks] → Calls Tryz.prog 13 #[.string ⟨#[105, 115, 95, 110, 117, 109, 98, 101, 114]⟩, .slice (some ⟨rb, 0, none⟩) 1 1] W (LawB true W)) := hidb (fun W _ rb hA => lawcall (fun W1 hb1 => kc_8 (in_below hb1 hA)))
        have LB : Hid (∀ W, Below V2.heap.size V2 W → ∀ rb, ArgsIn W (some ⟨rb, 0, none⟩) 1 [.mk 2 n f s a c ks] → Calls Tryz.prog 13 #[.string ⟨#[105, 115, 95, 98, 111, 111, 108, 101, 97, 110]⟩, .slice (some ⟨rb, 0, none⟩) 1 1] W (LawB false W)) := hidb (fun W _ rb hA => lawcall (fun W1 hb1 => by have := kc_b (in_below hb1 hA); rw [show isBol (.mk 2 n f s a c ks) = false by simp [isBol]] at this; exact this))
        go_wp2_with fail
        refine (LN.out _ (HB.out.alloc HB.out.size _) _ (HAI.out wr HB.out)).mono ?_
        rintro e w5 ⟨⟨a5, c5, rfl⟩, hb5⟩
        have HB5 : Hid (Below V2.heap.size V2 w5) := hidb ((HB.out.alloc HB.out.size _).trans (hb5.mono (by have := HB.out.size; simp; omega)))
        have hw5 := (below_new wr _).trans (hb5.mono (by simp))
        have hv0 := (hw5.cell (p := ⟨g, 0, none⟩) hgl).trans hv0
        have hv1 := (hw5.cell (p := ⟨g, 1, none⟩) hgl).trans hv1
        have hv2 := (hw5.cell (p := ⟨g, 2, none⟩) hgl).trans hv2
        have hgl : g < w5.heap.size := World.block_lt_of_cell? _ _ hv0
        obtain ⟨⟨x0, x1, x2, x3, x4⟩, -, xl⟩ := Box.six (HXV.out.keep HB5.out)
        clear hb5 hw5
        simp only [bolS, if_true]
        go_wp2_with fail
        refine (LB.out _ ((HB5.out.alloc HB5.out.size _).alloc (by have := HB5.out.size; simp; omega) _) _ (by have := HAI.out _ (HB5.out.alloc HB5.out.size (.cells #[.int .i64 3, .int .i64 0, .float .f64 0, .string trueS, .slice a5 0 c5] 29)); simpa using this)).mono ?_
        rintro e w7 ⟨⟨a7, c7, rfl⟩, hb7⟩
        have hw7 := ((below_new w5 (.cells #[.int .i64 3, .int .i64 0, .float .f64 0, .string trueS, .slice a5 0 c5] 29)).alloc (by simp) (.cells #[.int .i64 2, .int .i64 n, .float .f64 f, .string s, .slice a L c] 29)).trans (hb7.mono (by simp; omega))
        have HNB := hidb (((Box.new w5 29 (.int .i64 3) (.int .i64 0) (.float .f64 0) (.string trueS) (.slice a5 0 c5)).keep (below_new _ _)).keep hb7)
        have hv0 := (hw7.cell (p := ⟨g, 0, none⟩) hgl).trans hv0
        have hv1 := (hw7.cell (p := ⟨g, 1, none⟩) hgl).trans hv1
        have hv2 := (hw7.cell (p := ⟨g, 2, none⟩) hgl).trans hv2
        have HB7 : Hid (Below V2.heap.size V2 w7) := hidb (HB5.out.trans (hw7.mono HB5.out.size))
        obtain ⟨⟨x0, x1, x2, x3, x4⟩, -, xl⟩ := Box.six (HXV.out.keep HB7.out)
        obtain ⟨⟨y0, y1, y2, y3, y4⟩, -, yl⟩ := Box.six HNB.out
        have hgl : g < w7.heap.size := World.block_lt_of_cell? _ _ hv0
        clear hb7 hw7
        simp only [bolS, Bool.false_eq_true, if_false]
        go_wp2_with fail
        go_big_quiet (fail)
        go_wp2_with fail
        go_ret
        exact ⟨rfl, below_drewN ((HBV.out.trans (HB7.out.mono HBV.out.size)).alloc (by have := (HBV.out.trans (HB7.out.mono HBV.out.size)).size; omega) _) _⟩
      · by_cases h1 : s = trueS
        · subst h1
          have HCN : Hid (kcn 3 8 = 1) := hidb (by kernel_rfl)
          have hv0 : wr.cell? ⟨g, 0, none⟩ = some (.bool true) := (HROW.out.cellAt 0 (by omega)).trans rfl
          have hv1 : wr.cell? ⟨g, 1, none⟩ = some (.bool false) := (HROW.out.cellAt 1 (by omega)).trans rfl
          have hv2 : wr.cell? ⟨g, 2, none⟩ = some (.bool false) := (HROW.out.cellAt 2 (by omega)).trans rfl
          have hgl : g < wr.heap.size := World.block_lt_of_cell? _ _ hv0
          rw [HCN.out]
          have LN : Hid (∀ W, Below V2.heap.size V2 W → ∀ rb, ArgsIn W (some ⟨rb, 0, none⟩) 1 [.mk 3 n f trueS a c ks] → Calls Tryz.prog 13 #[.string ⟨#[105, 115, 95, 110, 117, 109, 98, 101, 114]⟩, .slice (some ⟨rb, 0, none⟩) 1 1] W (LawB false W)) := hidb (fun W _ rb hA => lawcall (fun W1 hb1 => kc_8 (in_below hb1 hA)))
          have LB : Hid (∀ W, Below V2.heap.size V2 W → ∀ rb, ArgsIn W (some ⟨rb, 0, none⟩) 1 [.mk 3 n f trueS a c ks] → Calls Tryz.prog 13 #[.string ⟨#[105, 115, 95, 98, 111, 111, 108, 101, 97, 110]⟩, .slice (some ⟨rb, 0, none⟩) 1 1] W (LawB true W)) := hidb (fun W _ rb hA => lawcall (fun W1 hb1 => by have := kc_b (in_below hb1 hA); rw [show isBol (.mk 3 n f trueS a c ks) = true by simp [isBol]] at this; exact this))
          go_wp2_with fail
          refine (LN.out _ (HB.out.alloc HB.out.size _) _ (HAI.out wr HB.out)).mono ?_
          rintro e w5 ⟨⟨a5, c5, rfl⟩, hb5⟩
          have HB5 : Hid (Below V2.heap.size V2 w5) := hidb ((HB.out.alloc HB.out.size _).trans (hb5.mono (by have := HB.out.size; simp; omega)))
          have hw5 := (below_new wr _).trans (hb5.mono (by simp))
          have hv0 := (hw5.cell (p := ⟨g, 0, none⟩) hgl).trans hv0
          have hv1 := (hw5.cell (p := ⟨g, 1, none⟩) hgl).trans hv1
          have hv2 := (hw5.cell (p := ⟨g, 2, none⟩) hgl).trans hv2
          have hgl : g < w5.heap.size := World.block_lt_of_cell? _ _ hv0
          obtain ⟨⟨x0, x1, x2, x3, x4⟩, -, xl⟩ := Box.six (HXV.out.keep HB5.out)
          clear hb5 hw5
          simp only [bolS, Bool.false_eq_true, if_false]
          go_wp2_with fail
          refine (LB.out _ ((HB5.out.alloc HB5.out.size _).alloc (by have := HB5.out.size; simp; omega) _) _ (by have := HAI.out _ (HB5.out.alloc HB5.out.size (.cells #[.int .i64 3, .int .i64 0, .float .f64 0, .string falseS, .slice a5 0 c5] 29)); simpa using this)).mono ?_
          rintro e w7 ⟨⟨a7, c7, rfl⟩, hb7⟩
          have hw7 := ((below_new w5 (.cells #[.int .i64 3, .int .i64 0, .float .f64 0, .string falseS, .slice a5 0 c5] 29)).alloc (by simp) (.cells #[.int .i64 3, .int .i64 n, .float .f64 f, .string trueS, .slice a L c] 29)).trans (hb7.mono (by simp; omega))
          have HNB := hidb (((Box.new w5 29 (.int .i64 3) (.int .i64 0) (.float .f64 0) (.string falseS) (.slice a5 0 c5)).keep (below_new _ _)).keep hb7)
          have hv0 := (hw7.cell (p := ⟨g, 0, none⟩) hgl).trans hv0
          have hv1 := (hw7.cell (p := ⟨g, 1, none⟩) hgl).trans hv1
          have hv2 := (hw7.cell (p := ⟨g, 2, none⟩) hgl).trans hv2
          have HB7 : Hid (Below V2.heap.size V2 w7) := hidb (HB5.out.trans (hw7.mono HB5.out.size))
          obtain ⟨⟨x0, x1, x2, x3, x4⟩, -, xl⟩ := Box.six (HXV.out.keep HB7.out)
          obtain ⟨⟨y0, y1, y2, y3, y4⟩, -, yl⟩ := Box.six HNB.out
          have hgl : g < w7.heap.size := World.block_lt_of_cell? _ _ hv0
          clear hb7 hw7
          simp only [bolS, if_true]
          go_wp2_with fail
          go_big_quiet (fail)
          go_wp2_with fail
          go_ret
          exact ⟨rfl, below_drewN ((HBV.out.trans (HB7.out.mono HBV.out.size)).alloc (by have := (HBV.out.trans (HB7.out.mono HBV.out.size)).size; omega) _) _⟩
        · by_cases h2 : s = falseS
          · subst h2
            have HCN : Hid (kcn 3 8 = 1) := hidb (by kernel_rfl)
            have hv0 : wr.cell? ⟨g, 0, none⟩ = some (.bool true) := (HROW.out.cellAt 0 (by omega)).trans rfl
            have hv1 : wr.cell? ⟨g, 1, none⟩ = some (.bool false) := (HROW.out.cellAt 1 (by omega)).trans rfl
            have hv2 : wr.cell? ⟨g, 2, none⟩ = some (.bool false) := (HROW.out.cellAt 2 (by omega)).trans rfl
            have hgl : g < wr.heap.size := World.block_lt_of_cell? _ _ hv0
            rw [HCN.out]
            have LN : Hid (∀ W, Below V2.heap.size V2 W → ∀ rb, ArgsIn W (some ⟨rb, 0, none⟩) 1 [.mk 3 n f falseS a c ks] → Calls Tryz.prog 13 #[.string ⟨#[105, 115, 95, 110, 117, 109, 98, 101, 114]⟩, .slice (some ⟨rb, 0, none⟩) 1 1] W (LawB false W)) := hidb (fun W _ rb hA => lawcall (fun W1 hb1 => kc_8 (in_below hb1 hA)))
            have LB : Hid (∀ W, Below V2.heap.size V2 W → ∀ rb, ArgsIn W (some ⟨rb, 0, none⟩) 1 [.mk 3 n f falseS a c ks] → Calls Tryz.prog 13 #[.string ⟨#[105, 115, 95, 98, 111, 111, 108, 101, 97, 110]⟩, .slice (some ⟨rb, 0, none⟩) 1 1] W (LawB true W)) := hidb (fun W _ rb hA => lawcall (fun W1 hb1 => by have := kc_b (in_below hb1 hA); rw [show isBol (.mk 3 n f falseS a c ks) = true by simp [isBol]] at this; exact this))
            go_wp2_with fail
            refine (LN.out _ (HB.out.alloc HB.out.size _) _ (HAI.out wr HB.out)).mono ?_
            rintro e w5 ⟨⟨a5, c5, rfl⟩, hb5⟩
            have HB5 : Hid (Below V2.heap.size V2 w5) := hidb ((HB.out.alloc HB.out.size _).trans (hb5.mono (by have := HB.out.size; simp; omega)))
            have hw5 := (below_new wr _).trans (hb5.mono (by simp))
            have hv0 := (hw5.cell (p := ⟨g, 0, none⟩) hgl).trans hv0
            have hv1 := (hw5.cell (p := ⟨g, 1, none⟩) hgl).trans hv1
            have hv2 := (hw5.cell (p := ⟨g, 2, none⟩) hgl).trans hv2
            have hgl : g < w5.heap.size := World.block_lt_of_cell? _ _ hv0
            obtain ⟨⟨x0, x1, x2, x3, x4⟩, -, xl⟩ := Box.six (HXV.out.keep HB5.out)
            clear hb5 hw5
            simp only [bolS, Bool.false_eq_true, if_false]
            go_wp2_with fail
            refine (LB.out _ ((HB5.out.alloc HB5.out.size _).alloc (by have := HB5.out.size; simp; omega) _) _ (by have := HAI.out _ (HB5.out.alloc HB5.out.size (.cells #[.int .i64 3, .int .i64 0, .float .f64 0, .string falseS, .slice a5 0 c5] 29)); simpa using this)).mono ?_
            rintro e w7 ⟨⟨a7, c7, rfl⟩, hb7⟩
            have hw7 := ((below_new w5 (.cells #[.int .i64 3, .int .i64 0, .float .f64 0, .string falseS, .slice a5 0 c5] 29)).alloc (by simp) (.cells #[.int .i64 3, .int .i64 n, .float .f64 f, .string falseS, .slice a L c] 29)).trans (hb7.mono (by simp; omega))
            have HNB := hidb (((Box.new w5 29 (.int .i64 3) (.int .i64 0) (.float .f64 0) (.string falseS) (.slice a5 0 c5)).keep (below_new _ _)).keep hb7)
            have hv0 := (hw7.cell (p := ⟨g, 0, none⟩) hgl).trans hv0
            have hv1 := (hw7.cell (p := ⟨g, 1, none⟩) hgl).trans hv1
            have hv2 := (hw7.cell (p := ⟨g, 2, none⟩) hgl).trans hv2
            have HB7 : Hid (Below V2.heap.size V2 w7) := hidb (HB5.out.trans (hw7.mono HB5.out.size))
            obtain ⟨⟨x0, x1, x2, x3, x4⟩, -, xl⟩ := Box.six (HXV.out.keep HB7.out)
            obtain ⟨⟨y0, y1, y2, y3, y4⟩, -, yl⟩ := Box.six HNB.out
            have hgl : g < w7.heap.size := World.block_lt_of_cell? _ _ hv0
            clear hb7 hw7
            simp only [bolS, if_true]
            go_wp2_with fail
            go_big_quiet (fail)
            go_wp2_with fail
            go_ret
            exact ⟨rfl, below_drewN ((HBV.out.trans (HB7.out.mono HBV.out.size)).alloc (by have := (HBV.out.trans (HB7.out.mono HBV.out.size)).size; omega) _) _⟩
          · obtain ⟨q1, q2⟩ := lit_ne (t := trueS) rfl h1
            obtain ⟨q3, q4⟩ := lit_ne (t := falseS) rfl h2
            have HCN : Hid (kcn 3 8 = 1) := hidb (by kernel_rfl)
            have hv0 : wr.cell? ⟨g, 0, none⟩ = some (.bool true) := (HROW.out.cellAt 0 (by omega)).trans rfl
            have hv1 : wr.cell? ⟨g, 1, none⟩ = some (.bool false) := (HROW.out.cellAt 1 (by omega)).trans rfl
            have hv2 : wr.cell? ⟨g, 2, none⟩ = some (.bool false) := (HROW.out.cellAt 2 (by omega)).trans rfl
            have hgl : g < wr.heap.size := World.block_lt_of_cell? _ _ hv0
            rw [HCN.out]
            have LN : Hid (∀ W, Below V2.heap.size V2 W → ∀ rb, ArgsIn W (some ⟨rb, 0, none⟩) 1 [.mk 3 n f s a c ks] → Calls Tryz.prog 13 #[.string ⟨#[105, 115, 95, 110, 117, 109, 98, 101, 114]⟩, .slice (some ⟨rb, 0, none⟩) 1 1] W (LawB false W)) := hidb (fun W _ rb hA => lawcall (fun W1 hb1 => kc_8 (in_below hb1 hA)))
            have LB : Hid (∀ W, Below V2.heap.size V2 W → ∀ rb, ArgsIn W (some ⟨rb, 0, none⟩) 1 [.mk 3 n f s a c ks] → Calls Tryz.prog 13 #[.string ⟨#[105, 115, 95, 98, 111, 111, 108, 101, 97, 110]⟩, .slice (some ⟨rb, 0, none⟩) 1 1] W (LawB false W)) := hidb (fun W _ rb hA => lawcall (fun W1 hb1 => by have := kc_b (in_below hb1 hA); rw [show isBol (.mk 3 n f s a c ks) = false by simp [isBol, h1, h2]] at this; exact this))
            go_wp2_with fail
            refine (LN.out _ (HB.out.alloc HB.out.size _) _ (HAI.out wr HB.out)).mono ?_
            rintro e w5 ⟨⟨a5, c5, rfl⟩, hb5⟩
            have HB5 : Hid (Below V2.heap.size V2 w5) := hidb ((HB.out.alloc HB.out.size _).trans (hb5.mono (by have := HB.out.size; simp; omega)))
            have hw5 := (below_new wr _).trans (hb5.mono (by simp))
            have hv0 := (hw5.cell (p := ⟨g, 0, none⟩) hgl).trans hv0
            have hv1 := (hw5.cell (p := ⟨g, 1, none⟩) hgl).trans hv1
            have hv2 := (hw5.cell (p := ⟨g, 2, none⟩) hgl).trans hv2
            have hgl : g < w5.heap.size := World.block_lt_of_cell? _ _ hv0
            obtain ⟨⟨x0, x1, x2, x3, x4⟩, -, xl⟩ := Box.six (HXV.out.keep HB5.out)
            clear hb5 hw5
            simp only [bolS, Bool.false_eq_true, if_false]
            go_wp2_with fail
            refine (LB.out _ ((HB5.out.alloc HB5.out.size _).alloc (by have := HB5.out.size; simp; omega) _) _ (by have := HAI.out _ (HB5.out.alloc HB5.out.size (.cells #[.int .i64 3, .int .i64 0, .float .f64 0, .string falseS, .slice a5 0 c5] 29)); simpa using this)).mono ?_
            rintro e w7 ⟨⟨a7, c7, rfl⟩, hb7⟩
            have hw7 := ((below_new w5 (.cells #[.int .i64 3, .int .i64 0, .float .f64 0, .string falseS, .slice a5 0 c5] 29)).alloc (by simp) (.cells #[.int .i64 3, .int .i64 n, .float .f64 f, .string s, .slice a L c] 29)).trans (hb7.mono (by simp; omega))
            have HNB := hidb (((Box.new w5 29 (.int .i64 3) (.int .i64 0) (.float .f64 0) (.string falseS) (.slice a5 0 c5)).keep (below_new _ _)).keep hb7)
            have hv0 := (hw7.cell (p := ⟨g, 0, none⟩) hgl).trans hv0
            have hv1 := (hw7.cell (p := ⟨g, 1, none⟩) hgl).trans hv1
            have hv2 := (hw7.cell (p := ⟨g, 2, none⟩) hgl).trans hv2
            have HB7 : Hid (Below V2.heap.size V2 w7) := hidb (HB5.out.trans (hw7.mono HB5.out.size))
            obtain ⟨⟨x0, x1, x2, x3, x4⟩, -, xl⟩ := Box.six (HXV.out.keep HB7.out)
            obtain ⟨⟨y0, y1, y2, y3, y4⟩, -, yl⟩ := Box.six HNB.out
            have hgl : g < w7.heap.size := World.block_lt_of_cell? _ _ hv0
            clear hb7 hw7
            simp only [bolS, Bool.false_eq_true, if_false]
            go_wp2_with fail
            go_big_quiet (fail)
            go_wp2_with fail
            go_ret
            exact ⟨rfl, below_drewN ((HBV.out.trans (HB7.out.mono HBV.out.size)).alloc (by have := (HBV.out.trans (HB7.out.mono HBV.out.size)).size; omega) _) _⟩
      · have HCN : Hid (kcn 4 8 = 1) := hidb (by kernel_rfl)
        have hv0 : wr.cell? ⟨g, 0, none⟩ = some (.bool false) := (HROW.out.cellAt 0 (by omega)).trans rfl
        have hv1 : wr.cell? ⟨g, 1, none⟩ = some (.bool false) := (HROW.out.cellAt 1 (by omega)).trans rfl
        have hv2 : wr.cell? ⟨g, 2, none⟩ = some (.bool false) := (HROW.out.cellAt 2 (by omega)).trans rfl
        have hgl : g < wr.heap.size := World.block_lt_of_cell? _ _ hv0
        rw [HCN.out]
        have LN : Hid (∀ W, Below V2.heap.size V2 W → ∀ rb, ArgsIn W (some ⟨rb, 0, none⟩) 1 [.mk 4 n f s a c ks] → Calls Tryz.prog 13 #[.string ⟨#[105, 115, 95, 110, 117, 109, 98, 101, 114]⟩, .slice (some ⟨rb, 0, none⟩) 1 1] W (LawB false W)) := hidb (fun W _ rb hA => lawcall (fun W1 hb1 => kc_8 (in_below hb1 hA)))
        have LB : Hid (∀ W, Below V2.heap.size V2 W → ∀ rb, ArgsIn W (some ⟨rb, 0, none⟩) 1 [.mk 4 n f s a c ks] → Calls Tryz.prog 13 #[.string ⟨#[105, 115, 95, 98, 111, 111, 108, 101, 97, 110]⟩, .slice (some ⟨rb, 0, none⟩) 1 1] W (LawB false W)) := hidb (fun W _ rb hA => lawcall (fun W1 hb1 => by have := kc_b (in_below hb1 hA); rw [show isBol (.mk 4 n f s a c ks) = false by simp [isBol]] at this; exact this))
        go_wp2_with fail
        refine (LN.out _ (HB.out.alloc HB.out.size _) _ (HAI.out wr HB.out)).mono ?_
        rintro e w5 ⟨⟨a5, c5, rfl⟩, hb5⟩
        have HB5 : Hid (Below V2.heap.size V2 w5) := hidb ((HB.out.alloc HB.out.size _).trans (hb5.mono (by have := HB.out.size; simp; omega)))
        have hw5 := (below_new wr _).trans (hb5.mono (by simp))
        have hv0 := (hw5.cell (p := ⟨g, 0, none⟩) hgl).trans hv0
        have hv1 := (hw5.cell (p := ⟨g, 1, none⟩) hgl).trans hv1
        have hv2 := (hw5.cell (p := ⟨g, 2, none⟩) hgl).trans hv2
        have hgl : g < w5.heap.size := World.block_lt_of_cell? _ _ hv0
        obtain ⟨⟨x0, x1, x2, x3, x4⟩, -, xl⟩ := Box.six (HXV.out.keep HB5.out)
        clear hb5 hw5
        simp only [bolS, Bool.false_eq_true, if_false]
        go_wp2_with fail
        refine (LB.out _ ((HB5.out.alloc HB5.out.size _).alloc (by have := HB5.out.size; simp; omega) _) _ (by have := HAI.out _ (HB5.out.alloc HB5.out.size (.cells #[.int .i64 3, .int .i64 0, .float .f64 0, .string falseS, .slice a5 0 c5] 29)); simpa using this)).mono ?_
        rintro e w7 ⟨⟨a7, c7, rfl⟩, hb7⟩
        have hw7 := ((below_new w5 (.cells #[.int .i64 3, .int .i64 0, .float .f64 0, .string falseS, .slice a5 0 c5] 29)).alloc (by simp) (.cells #[.int .i64 4, .int .i64 n, .float .f64 f, .string s, .slice a L c] 29)).trans (hb7.mono (by simp; omega))
        have HNB := hidb (((Box.new w5 29 (.int .i64 3) (.int .i64 0) (.float .f64 0) (.string falseS) (.slice a5 0 c5)).keep (below_new _ _)).keep hb7)
        have hv0 := (hw7.cell (p := ⟨g, 0, none⟩) hgl).trans hv0
        have hv1 := (hw7.cell (p := ⟨g, 1, none⟩) hgl).trans hv1
        have hv2 := (hw7.cell (p := ⟨g, 2, none⟩) hgl).trans hv2
        have HB7 : Hid (Below V2.heap.size V2 w7) := hidb (HB5.out.trans (hw7.mono HB5.out.size))
        obtain ⟨⟨x0, x1, x2, x3, x4⟩, -, xl⟩ := Box.six (HXV.out.keep HB7.out)
        obtain ⟨⟨y0, y1, y2, y3, y4⟩, -, yl⟩ := Box.six HNB.out
        have hgl : g < w7.heap.size := World.block_lt_of_cell? _ _ hv0
        clear hb7 hw7
        simp only [bolS, Bool.false_eq_true, if_false]
        go_wp2_with fail
        go_big_quiet (fail)
        go_wp2_with fail
        go_ret
        exact ⟨rfl, below_drewN ((HBV.out.trans (HB7.out.mono HBV.out.size)).alloc (by have := (HBV.out.trans (HB7.out.mono HBV.out.size)).size; omega) _) _⟩
      · have HCN : Hid (kcn 5 8 = 1) := hidb (by kernel_rfl)
        have hv0 : wr.cell? ⟨g, 0, none⟩ = some (.bool false) := (HROW.out.cellAt 0 (by omega)).trans rfl
        have hv1 : wr.cell? ⟨g, 1, none⟩ = some (.bool false) := (HROW.out.cellAt 1 (by omega)).trans rfl
        have hv2 : wr.cell? ⟨g, 2, none⟩ = some (.bool false) := (HROW.out.cellAt 2 (by omega)).trans rfl
        have hgl : g < wr.heap.size := World.block_lt_of_cell? _ _ hv0
        rw [HCN.out]
        have LN : Hid (∀ W, Below V2.heap.size V2 W → ∀ rb, ArgsIn W (some ⟨rb, 0, none⟩) 1 [.mk 5 n f s a c ks] → Calls Tryz.prog 13 #[.string ⟨#[105, 115, 95, 110, 117, 109, 98, 101, 114]⟩, .slice (some ⟨rb, 0, none⟩) 1 1] W (LawB false W)) := hidb (fun W _ rb hA => lawcall (fun W1 hb1 => kc_8 (in_below hb1 hA)))
        have LB : Hid (∀ W, Below V2.heap.size V2 W → ∀ rb, ArgsIn W (some ⟨rb, 0, none⟩) 1 [.mk 5 n f s a c ks] → Calls Tryz.prog 13 #[.string ⟨#[105, 115, 95, 98, 111, 111, 108, 101, 97, 110]⟩, .slice (some ⟨rb, 0, none⟩) 1 1] W (LawB false W)) := hidb (fun W _ rb hA => lawcall (fun W1 hb1 => by have := kc_b (in_below hb1 hA); rw [show isBol (.mk 5 n f s a c ks) = false by simp [isBol]] at this; exact this))
        go_wp2_with fail
        refine (LN.out _ (HB.out.alloc HB.out.size _) _ (HAI.out wr HB.out)).mono ?_
        rintro e w5 ⟨⟨a5, c5, rfl⟩, hb5⟩
        have HB5 : Hid (Below V2.heap.size V2 w5) := hidb ((HB.out.alloc HB.out.size _).trans (hb5.mono (by have := HB.out.size; simp; omega)))
        have hw5 := (below_new wr _).trans (hb5.mono (by simp))
        have hv0 := (hw5.cell (p := ⟨g, 0, none⟩) hgl).trans hv0
        have hv1 := (hw5.cell (p := ⟨g, 1, none⟩) hgl).trans hv1
        have hv2 := (hw5.cell (p := ⟨g, 2, none⟩) hgl).trans hv2
        have hgl : g < w5.heap.size := World.block_lt_of_cell? _ _ hv0
        obtain ⟨⟨x0, x1, x2, x3, x4⟩, -, xl⟩ := Box.six (HXV.out.keep HB5.out)
        clear hb5 hw5
        simp only [bolS, Bool.false_eq_true, if_false]
        go_wp2_with fail
        refine (LB.out _ ((HB5.out.alloc HB5.out.size _).alloc (by have := HB5.out.size; simp; omega) _) _ (by have := HAI.out _ (HB5.out.alloc HB5.out.size (.cells #[.int .i64 3, .int .i64 0, .float .f64 0, .string falseS, .slice a5 0 c5] 29)); simpa using this)).mono ?_
        rintro e w7 ⟨⟨a7, c7, rfl⟩, hb7⟩
        have hw7 := ((below_new w5 (.cells #[.int .i64 3, .int .i64 0, .float .f64 0, .string falseS, .slice a5 0 c5] 29)).alloc (by simp) (.cells #[.int .i64 5, .int .i64 n, .float .f64 f, .string s, .slice a L c] 29)).trans (hb7.mono (by simp; omega))
        have HNB := hidb (((Box.new w5 29 (.int .i64 3) (.int .i64 0) (.float .f64 0) (.string falseS) (.slice a5 0 c5)).keep (below_new _ _)).keep hb7)
        have hv0 := (hw7.cell (p := ⟨g, 0, none⟩) hgl).trans hv0
        have hv1 := (hw7.cell (p := ⟨g, 1, none⟩) hgl).trans hv1
        have hv2 := (hw7.cell (p := ⟨g, 2, none⟩) hgl).trans hv2
        have HB7 : Hid (Below V2.heap.size V2 w7) := hidb (HB5.out.trans (hw7.mono HB5.out.size))
        obtain ⟨⟨x0, x1, x2, x3, x4⟩, -, xl⟩ := Box.six (HXV.out.keep HB7.out)
        obtain ⟨⟨y0, y1, y2, y3, y4⟩, -, yl⟩ := Box.six HNB.out
        have hgl : g < w7.heap.size := World.block_lt_of_cell? _ _ hv0
        clear hb7 hw7
        simp only [bolS, Bool.false_eq_true, if_false]
        go_wp2_with fail
        go_big_quiet (fail)
        go_wp2_with fail
        go_ret
        exact ⟨rfl, below_drewN ((HBV.out.trans (HB7.out.mono HBV.out.size)).alloc (by have := (HBV.out.trans (HB7.out.mono HBV.out.size)).size; omega) _) _⟩
      · have HCN : Hid (kcn 6 8 = 1) := hidb (by kernel_rfl)
        have hv0 : wr.cell? ⟨g, 0, none⟩ = some (.bool false) := (HROW.out.cellAt 0 (by omega)).trans rfl
        have hv1 : wr.cell? ⟨g, 1, none⟩ = some (.bool false) := (HROW.out.cellAt 1 (by omega)).trans rfl
        have hv2 : wr.cell? ⟨g, 2, none⟩ = some (.bool false) := (HROW.out.cellAt 2 (by omega)).trans rfl
        have hgl : g < wr.heap.size := World.block_lt_of_cell? _ _ hv0
        rw [HCN.out]
        have LN : Hid (∀ W, Below V2.heap.size V2 W → ∀ rb, ArgsIn W (some ⟨rb, 0, none⟩) 1 [.mk 6 n f s a c ks] → Calls Tryz.prog 13 #[.string ⟨#[105, 115, 95, 110, 117, 109, 98, 101, 114]⟩, .slice (some ⟨rb, 0, none⟩) 1 1] W (LawB false W)) := hidb (fun W _ rb hA => lawcall (fun W1 hb1 => kc_8 (in_below hb1 hA)))
        have LB : Hid (∀ W, Below V2.heap.size V2 W → ∀ rb, ArgsIn W (some ⟨rb, 0, none⟩) 1 [.mk 6 n f s a c ks] → Calls Tryz.prog 13 #[.string ⟨#[105, 115, 95, 98, 111, 111, 108, 101, 97, 110]⟩, .slice (some ⟨rb, 0, none⟩) 1 1] W (LawB false W)) := hidb (fun W _ rb hA => lawcall (fun W1 hb1 => by have := kc_b (in_below hb1 hA); rw [show isBol (.mk 6 n f s a c ks) = false by simp [isBol]] at this; exact this))
        go_wp2_with fail
        refine (LN.out _ (HB.out.alloc HB.out.size _) _ (HAI.out wr HB.out)).mono ?_
        rintro e w5 ⟨⟨a5, c5, rfl⟩, hb5⟩
        have HB5 : Hid (Below V2.heap.size V2 w5) := hidb ((HB.out.alloc HB.out.size _).trans (hb5.mono (by have := HB.out.size; simp; omega)))
        have hw5 := (below_new wr _).trans (hb5.mono (by simp))
        have hv0 := (hw5.cell (p := ⟨g, 0, none⟩) hgl).trans hv0
        have hv1 := (hw5.cell (p := ⟨g, 1, none⟩) hgl).trans hv1
        have hv2 := (hw5.cell (p := ⟨g, 2, none⟩) hgl).trans hv2
        have hgl : g < w5.heap.size := World.block_lt_of_cell? _ _ hv0
        obtain ⟨⟨x0, x1, x2, x3, x4⟩, -, xl⟩ := Box.six (HXV.out.keep HB5.out)
        clear hb5 hw5
        simp only [bolS, Bool.false_eq_true, if_false]
        go_wp2_with fail
        refine (LB.out _ ((HB5.out.alloc HB5.out.size _).alloc (by have := HB5.out.size; simp; omega) _) _ (by have := HAI.out _ (HB5.out.alloc HB5.out.size (.cells #[.int .i64 3, .int .i64 0, .float .f64 0, .string falseS, .slice a5 0 c5] 29)); simpa using this)).mono ?_
        rintro e w7 ⟨⟨a7, c7, rfl⟩, hb7⟩
        have hw7 := ((below_new w5 (.cells #[.int .i64 3, .int .i64 0, .float .f64 0, .string falseS, .slice a5 0 c5] 29)).alloc (by simp) (.cells #[.int .i64 6, .int .i64 n, .float .f64 f, .string s, .slice a L c] 29)).trans (hb7.mono (by simp; omega))
        have HNB := hidb (((Box.new w5 29 (.int .i64 3) (.int .i64 0) (.float .f64 0) (.string falseS) (.slice a5 0 c5)).keep (below_new _ _)).keep hb7)
        have hv0 := (hw7.cell (p := ⟨g, 0, none⟩) hgl).trans hv0
        have hv1 := (hw7.cell (p := ⟨g, 1, none⟩) hgl).trans hv1
        have hv2 := (hw7.cell (p := ⟨g, 2, none⟩) hgl).trans hv2
        have HB7 : Hid (Below V2.heap.size V2 w7) := hidb (HB5.out.trans (hw7.mono HB5.out.size))
        obtain ⟨⟨x0, x1, x2, x3, x4⟩, -, xl⟩ := Box.six (HXV.out.keep HB7.out)
        obtain ⟨⟨y0, y1, y2, y3, y4⟩, -, yl⟩ := Box.six HNB.out
        have hgl : g < w7.heap.size := World.block_lt_of_cell? _ _ hv0
        clear hb7 hw7
        simp only [bolS, Bool.false_eq_true, if_false]
        go_wp2_with fail
        go_big_quiet (fail)
        go_wp2_with fail
        go_ret
        exact ⟨rfl, below_drewN ((HBV.out.trans (HB7.out.mono HBV.out.size)).alloc (by have := (HBV.out.trans (HB7.out.mono HBV.out.size)).size; omega) _) _⟩
      · have HCN : Hid (kcn 7 8 = 1) := hidb (by kernel_rfl)
        have hv0 : wr.cell? ⟨g, 0, none⟩ = some (.bool false) := (HROW.out.cellAt 0 (by omega)).trans rfl
        have hv1 : wr.cell? ⟨g, 1, none⟩ = some (.bool false) := (HROW.out.cellAt 1 (by omega)).trans rfl
        have hv2 : wr.cell? ⟨g, 2, none⟩ = some (.bool false) := (HROW.out.cellAt 2 (by omega)).trans rfl
        have hgl : g < wr.heap.size := World.block_lt_of_cell? _ _ hv0
        rw [HCN.out]
        have LN : Hid (∀ W, Below V2.heap.size V2 W → ∀ rb, ArgsIn W (some ⟨rb, 0, none⟩) 1 [.mk 7 n f s a c ks] → Calls Tryz.prog 13 #[.string ⟨#[105, 115, 95, 110, 117, 109, 98, 101, 114]⟩, .slice (some ⟨rb, 0, none⟩) 1 1] W (LawB false W)) := hidb (fun W _ rb hA => lawcall (fun W1 hb1 => kc_8 (in_below hb1 hA)))
        have LB : Hid (∀ W, Below V2.heap.size V2 W → ∀ rb, ArgsIn W (some ⟨rb, 0, none⟩) 1 [.mk 7 n f s a c ks] → Calls Tryz.prog 13 #[.string ⟨#[105, 115, 95, 98, 111, 111, 108, 101, 97, 110]⟩, .slice (some ⟨rb, 0, none⟩) 1 1] W (LawB false W)) := hidb (fun W _ rb hA => lawcall (fun W1 hb1 => by have := kc_b (in_below hb1 hA); rw [show isBol (.mk 7 n f s a c ks) = false by simp [isBol]] at this; exact this))
        go_wp2_with fail
        refine (LN.out _ (HB.out.alloc HB.out.size _) _ (HAI.out wr HB.out)).mono ?_
        rintro e w5 ⟨⟨a5, c5, rfl⟩, hb5⟩
        have HB5 : Hid (Below V2.heap.size V2 w5) := hidb ((HB.out.alloc HB.out.size _).trans (hb5.mono (by have := HB.out.size; simp; omega)))
        have hw5 := (below_new wr _).trans (hb5.mono (by simp))
        have hv0 := (hw5.cell (p := ⟨g, 0, none⟩) hgl).trans hv0
        have hv1 := (hw5.cell (p := ⟨g, 1, none⟩) hgl).trans hv1
        have hv2 := (hw5.cell (p := ⟨g, 2, none⟩) hgl).trans hv2
        have hgl : g < w5.heap.size := World.block_lt_of_cell? _ _ hv0
        obtain ⟨⟨x0, x1, x2, x3, x4⟩, -, xl⟩ := Box.six (HXV.out.keep HB5.out)
        clear hb5 hw5
        simp only [bolS, Bool.false_eq_true, if_false]
        go_wp2_with fail
        refine (LB.out _ ((HB5.out.alloc HB5.out.size _).alloc (by have := HB5.out.size; simp; omega) _) _ (by have := HAI.out _ (HB5.out.alloc HB5.out.size (.cells #[.int .i64 3, .int .i64 0, .float .f64 0, .string falseS, .slice a5 0 c5] 29)); simpa using this)).mono ?_
        rintro e w7 ⟨⟨a7, c7, rfl⟩, hb7⟩
        have hw7 := ((below_new w5 (.cells #[.int .i64 3, .int .i64 0, .float .f64 0, .string falseS, .slice a5 0 c5] 29)).alloc (by simp) (.cells #[.int .i64 7, .int .i64 n, .float .f64 f, .string s, .slice a L c] 29)).trans (hb7.mono (by simp; omega))
        have HNB := hidb (((Box.new w5 29 (.int .i64 3) (.int .i64 0) (.float .f64 0) (.string falseS) (.slice a5 0 c5)).keep (below_new _ _)).keep hb7)
        have hv0 := (hw7.cell (p := ⟨g, 0, none⟩) hgl).trans hv0
        have hv1 := (hw7.cell (p := ⟨g, 1, none⟩) hgl).trans hv1
        have hv2 := (hw7.cell (p := ⟨g, 2, none⟩) hgl).trans hv2
        have HB7 : Hid (Below V2.heap.size V2 w7) := hidb (HB5.out.trans (hw7.mono HB5.out.size))
        obtain ⟨⟨x0, x1, x2, x3, x4⟩, -, xl⟩ := Box.six (HXV.out.keep HB7.out)
        obtain ⟨⟨y0, y1, y2, y3, y4⟩, -, yl⟩ := Box.six HNB.out
        have hgl : g < w7.heap.size := World.block_lt_of_cell? _ _ hv0
        clear hb7 hw7
        simp only [bolS, Bool.false_eq_true, if_false]
        go_wp2_with fail
        go_big_quiet (fail)
        go_wp2_with fail
        go_ret
        exact ⟨rfl, below_drewN ((HBV.out.trans (HB7.out.mono HBV.out.size)).alloc (by have := (HBV.out.trans (HB7.out.mono HBV.out.size)).size; omega) _) _⟩
      · have HCN : Hid (kcn 8 8 = 1) := hidb (by kernel_rfl)
        have hv0 : wr.cell? ⟨g, 0, none⟩ = some (.bool false) := (HROW.out.cellAt 0 (by omega)).trans rfl
        have hv1 : wr.cell? ⟨g, 1, none⟩ = some (.bool false) := (HROW.out.cellAt 1 (by omega)).trans rfl
        have hv2 : wr.cell? ⟨g, 2, none⟩ = some (.bool false) := (HROW.out.cellAt 2 (by omega)).trans rfl
        have hgl : g < wr.heap.size := World.block_lt_of_cell? _ _ hv0
        rw [HCN.out]
        have LN : Hid (∀ W, Below V2.heap.size V2 W → ∀ rb, ArgsIn W (some ⟨rb, 0, none⟩) 1 [.mk 8 n f s a c ks] → Calls Tryz.prog 13 #[.string ⟨#[105, 115, 95, 110, 117, 109, 98, 101, 114]⟩, .slice (some ⟨rb, 0, none⟩) 1 1] W (LawB false W)) := hidb (fun W _ rb hA => lawcall (fun W1 hb1 => kc_8 (in_below hb1 hA)))
        have LB : Hid (∀ W, Below V2.heap.size V2 W → ∀ rb, ArgsIn W (some ⟨rb, 0, none⟩) 1 [.mk 8 n f s a c ks] → Calls Tryz.prog 13 #[.string ⟨#[105, 115, 95, 98, 111, 111, 108, 101, 97, 110]⟩, .slice (some ⟨rb, 0, none⟩) 1 1] W (LawB false W)) := hidb (fun W _ rb hA => lawcall (fun W1 hb1 => by have := kc_b (in_below hb1 hA); rw [show isBol (.mk 8 n f s a c ks) = false by simp [isBol]] at this; exact this))
        go_wp2_with fail
        refine (LN.out _ (HB.out.alloc HB.out.size _) _ (HAI.out wr HB.out)).mono ?_
        rintro e w5 ⟨⟨a5, c5, rfl⟩, hb5⟩
        have HB5 : Hid (Below V2.heap.size V2 w5) := hidb ((HB.out.alloc HB.out.size _).trans (hb5.mono (by have := HB.out.size; simp; omega)))
        have hw5 := (below_new wr _).trans (hb5.mono (by simp))
        have hv0 := (hw5.cell (p := ⟨g, 0, none⟩) hgl).trans hv0
        have hv1 := (hw5.cell (p := ⟨g, 1, none⟩) hgl).trans hv1
        have hv2 := (hw5.cell (p := ⟨g, 2, none⟩) hgl).trans hv2
        have hgl : g < w5.heap.size := World.block_lt_of_cell? _ _ hv0
        obtain ⟨⟨x0, x1, x2, x3, x4⟩, -, xl⟩ := Box.six (HXV.out.keep HB5.out)
        clear hb5 hw5
        simp only [bolS, Bool.false_eq_true, if_false]
        go_wp2_with fail
        refine (LB.out _ ((HB5.out.alloc HB5.out.size _).alloc (by have := HB5.out.size; simp; omega) _) _ (by have := HAI.out _ (HB5.out.alloc HB5.out.size (.cells #[.int .i64 3, .int .i64 0, .float .f64 0, .string falseS, .slice a5 0 c5] 29)); simpa using this)).mono ?_
        rintro e w7 ⟨⟨a7, c7, rfl⟩, hb7⟩
        have hw7 := ((below_new w5 (.cells #[.int .i64 3, .int .i64 0, .float .f64 0, .string falseS, .slice a5 0 c5] 29)).alloc (by simp) (.cells #[.int .i64 8, .int .i64 n, .float .f64 f, .string s, .slice a L c] 29)).trans (hb7.mono (by simp; omega))
        have HNB := hidb (((Box.new w5 29 (.int .i64 3) (.int .i64 0) (.float .f64 0) (.string falseS) (.slice a5 0 c5)).keep (below_new _ _)).keep hb7)
        have hv0 := (hw7.cell (p := ⟨g, 0, none⟩) hgl).trans hv0
        have hv1 := (hw7.cell (p := ⟨g, 1, none⟩) hgl).trans hv1
        have hv2 := (hw7.cell (p := ⟨g, 2, none⟩) hgl).trans hv2
        have HB7 : Hid (Below V2.heap.size V2 w7) := hidb (HB5.out.trans (hw7.mono HB5.out.size))
        obtain ⟨⟨x0, x1, x2, x3, x4⟩, -, xl⟩ := Box.six (HXV.out.keep HB7.out)
        obtain ⟨⟨y0, y1, y2, y3, y4⟩, -, yl⟩ := Box.six HNB.out
        have hgl : g < w7.heap.size := World.block_lt_of_cell? _ _ hv0
        clear hb7 hw7
        simp only [bolS, Bool.false_eq_true, if_false]
        go_wp2_with fail
        go_big_quiet (fail)
        go_wp2_with fail
        go_ret
        exact ⟨rfl, below_drewN ((HBV.out.trans (HB7.out.mono HBV.out.size)).alloc (by have := (HBV.out.trans (HB7.out.mono HBV.out.size)).size; omega) _) _⟩
end Go.Proofs.YtjnijmnacogabaaGreatDoor


