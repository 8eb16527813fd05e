import Derived.Test.YtajadhkpadkikaaGreatDoorG04
import Derived.Shelf.Abstract
import Derived.Test.YtajadhkpadkikaaGreatDoorG37
import Derived.Test.YtajadhkpadkikaaGreatDoorG35
import Derived.Maps.AppendAt
import Derived.OwnWalk
import Derived.Laws.OwnMore
import Derived.Laws.AppendOwnNone
/- A loop of few rounds, unrolled: each round may leave what it likes (temps, marks of ranges). -/
namespace Go.Proofs.YtajadhkpadkikaaGreatDoor
open Go.RowKit Go.Shelf

/-- At most n rounds, each after the other. -/
def Un (P : Program) (c : Code) (Q : Exit → Act → World → Prop) : Nat → Act → World → Prop
  | 0 => fun _ _ => False
  | n + 1 => fun a w => c.wp P (Exit.then (Un P c Q n) Q) a w

theorem least_of {p : Nat → Prop} : ∀ n, p n → ∃ m, p m ∧ ∀ k, p k → m ≤ k := by
  intro n
  induction n using Nat.strongRecOn with
  | _ n ih =>
    intro hn
    by_cases h : ∃ k, k < n ∧ p k
    · obtain ⟨k, hk, hp⟩ := h
      exact ih k hk hp
    · exact ⟨n, hn, fun k hp => Nat.le_of_not_lt (fun hk => h ⟨k, hk, hp⟩)⟩

open Classical in
theorem wp_loop_times {P : Program} {c : Code} {Q : Exit → Act → World → Prop} {a : Act} {w : World} (n : Nat) (h : Un P c Q n a w) : (Code.loop c).wp P Q a w := by
  have hl : ∀ a w, (∃ n, Un P c Q n a w) → ∃ m, Un P c Q m a w ∧ ∀ k, Un P c Q k a w → m ≤ k := fun a w ⟨n, h⟩ => least_of (p := fun n => Un P c Q n a w) n h
  refine wp_loop (fun a w => ∃ n, Un P c Q n a w) (fun a w => if h : ∃ n, Un P c Q n a w then Classical.choose (hl a w h) else 0) ⟨n, h⟩ ?_
  intro a w hI
  have hf := (Classical.choose_spec (hl a w hI)).1
  have hm : ∀ a' w' m, Un P c Q m a' w' → (if h : ∃ n, Un P c Q n a' w' then Classical.choose (hl a' w' h) else 0) ≤ m := fun a' w' m hu => by
    rw [dif_pos ⟨m, hu⟩]; exact (Classical.choose_spec (hl a' w' ⟨m, hu⟩)).2 m hu
  rw [dif_pos hI]
  generalize Classical.choose (hl a w hI) = k at *
  cases k with
  | zero => exact hf.elim
  | succ k =>
    refine Code.wp_mono (fun e a' w' q => ?_) hf
    cases e <;> first | exact ⟨⟨k, q⟩, Nat.lt_succ_of_le (hm _ _ _ q)⟩ | exact q
end Go.Proofs.YtajadhkpadkikaaGreatDoor


/- slices.Concat of a row of terms and of nothing. -/
namespace Go.Proofs.YtajadhkpadkikaaGreatDoor
open Go.RowKit Go.Lib Go.Deep
attribute [local go_sem] store_float f64bits store_func store_nilFunc
attribute [local go_sem ↓] Go.wp_at_zero Go.wp_at_succ

theorem infoT5' : ∃ i0, Tryz.prog.info? 25 = some i0 ∧ i0.zero = some (.agg #[.int .i64 0, .int .i64 0, .float .f64 0, .string ⟨#[]⟩, .slice none 0 0]) ∧ i0.size = 5 ∧ i0.bytes = 64 := info_parts infoT5
set_option maxHeartbeats 4000000 in
set_option maxRecDepth 100000 in
theorem concat_one {W : World} {rb : Nat} {a1 : Option Addr} {c1 : Nat} {kids : List Tr} (hin : ArgsIn W a1 c1 kids) (h0 : W.cell? ⟨rb, 0, none⟩ = some (.slice a1 kids.length c1)) (h1 : W.cell? ⟨rb, 1, none⟩ = some (.slice none 0 0)) (hl : kids.length ≤ 65536) :
    Calls Tryz.prog 95 #[.slice (some ⟨rb, 0, none⟩) 2 2] W fun e w' => ∃ v', e = .returned v' ∧ w'.ownsRow W.heap.size 25 5 v' kids.length (kids.flatMap Tr.cells) ∧ Below W.heap.size W w' := by
  have GR := hidb (fun W1 (hb : W.heap.size ≤ W1.heap.size) => grow_terms W.heap.size (.slice none 0 0) 0 kids.length [] W1 (World.ownsRow_nil _ _ _ _) hl (by omega) hb)
  have HIN := hidb hin
  obtain ⟨N, hN⟩ : ∃ N, kids.length = N := ⟨_, rfl⟩
  have HN := hidb hN
  rw [hN] at h0 GR hl ⊢
  obtain ⟨XS, hXS⟩ : ∃ XS, kids.flatMap Tr.cells = XS := ⟨_, rfl⟩
  have HXS := hidb hXS
  rw [hXS]
  clear hXS
  have w1 : wrap64 (0 + (N : Int)) = (N : Int) := by unfold wrap64; omega
  have w2 : wrap64 ((N : Int) + 0) = (N : Int) := by unfold wrap64; omega
  have w3 : wrap64 (N : Int) = (N : Int) := by unfold wrap64; omega
  have w4 : ¬ (N : Int) < 0 := by omega
  have hrl : rb < W.heap.size := World.block_lt_of_cell? _ _ h0
  have HL := hidb hl
  clear hin hN hl
  go_enter Tryz.func95, Tryz.ntmps95
  go_wp2_with fail
  refine wp_loop_times 3 ?_
  unfold Un
  go_wp2_with fail
  unfold Un
  go_wp2_with fail
  unfold Un
  go_wp2_with fail
  refine (GR.out W (Nat.le_refl _)).mono ?_
  rintro e w5 ⟨v5, rfl, hown5, hblk5, hb5⟩
  obtain ⟨q5, c5, rfl⟩ := own_sl hown5
  have HO5 := hidb hown5
  have HB5 := hidb hb5
  have k0 := (hb5.cell (p := ⟨rb, 0, none⟩) hrl).trans h0
  have k1 := (hb5.cell (p := ⟨rb, 1, none⟩) hrl).trans h1
  clear hown5 hblk5 hb5
  obtain ⟨i0, hi, hz0, hs0, hb0⟩ := infoT5'
  cases a1 with
  | none =>
    have hin := HIN.out
    unfold Tr.In at hin
    obtain rfl : c1 = 0 := hin.1.2.2.2.2.2.2 rfl
    have hk0 : kids.length ≤ 0 := hin.1.2.2.2.2.1
    obtain rfl : N = 0 := by have := HN.out; omega
    have hk1 : kids = [] := List.length_eq_zero_iff.1 (by omega)
    clear hin hk0
    subst hk1
    obtain rfl : [] = XS := HXS.out
    have M1 := trivial
    have M2 := trivial
    go_wp2_with fail
    refine wp_loop_times 3 ?_
    unfold Un
    go_wp2_with (at_builtin; clear M1; refine wpList_append_own_none rfl _ _ 23 rfl W.heap.size 25 i0 5 Tryz.underlying23 hi (.slice q5 0 c5) 0 [] rfl HO5.out rfl ?_)
    unfold Un
    go_wp2_with (at_builtin; clear M2; refine wpList_append_own_none rfl _ _ 23 rfl W.heap.size 25 i0 5 Tryz.underlying23 hi (.slice q5 0 c5) 0 [] rfl HO5.out rfl ?_)
    unfold Un
    go_wp2_with fail
    go_ret
    exact ⟨_, rfl, HO5.out, HB5.out⟩
  | some ad =>
    have hnews : ∀ (j : Nat) (u : Value), (kids.flatMap Tr.cells)[j]? = some u → w5.cell? (ad.add j) = some u := by
      intro j u hj
      have hjl := (List.getElem?_eq_some_iff.1 hj).1
      rw [flat_len] at hjl
      obtain ⟨b, o, he, hat⟩ := kid_at (in_below HB5.out HIN.out) (by omega)
      obtain rfl : ad = ⟨b, o, none⟩ := by simpa using he
      have hd : j = j / 5 * 5 + j % 5 := by omega
      obtain ⟨k1, n1, f1, s1, a1, c1', ks1, hu1, -, v0, v1, v2, v3, v4⟩ := hat (j / 5) (by omega)
      have hg := flat5_get kids (j / 5) _ hu1 (j % 5) (by omega)
      rw [← hd, hj] at hg
      have e1 : (⟨b, o, none⟩ : Addr).add j = ⟨b, o + j, none⟩ := by clear hd hg hat v0 v1 v2 v3 v4; unfold Addr.add; split <;> simp_all
      rw [e1, hg, show o + j = o + j / 5 * 5 + j % 5 by omega]
      have h5 : j % 5 < 5 := by omega
      generalize j % 5 = r at *
      match r, h5 with
      | 0, _ => exact v0
      | 1, _ => exact v1
      | 2, _ => exact v2
      | 3, _ => exact v3
      | 4, _ => exact v4
    have hone : ∀ u ∈ kids.flatMap Tr.cells, u.oneCell' = true := by
      intro u hu
      obtain ⟨t, -, ht⟩ := List.mem_flatMap.1 hu
      exact tr_one t u ht
    have hxl : (kids.flatMap Tr.cells).length = N * 5 := by rw [flat_len, HN.out]
    rw [HXS.out] at hnews hone hxl
    have HNW := hidb hnews
    have HON := hidb hone
    have HXL := hidb hxl
    clear hnews hone hxl
    have M1 := trivial
    have M2 := trivial
    go_wp2_with fail
    refine wp_loop_times 3 ?_
    unfold Un
    go_wp2_with (at_builtin; clear M1; refine wpList_append_own_at _ rfl _ _ 23 rfl W.heap.size 25 i0 (.agg #[.int .i64 0, .int .i64 0, .float .f64 0, .string ⟨#[]⟩, .slice none 0 0]) 5 64 Tryz.underlying23 hi hz0 hs0 hb0 rfl (by decide) (.slice q5 0 c5) 0 [] rfl HO5.out ad N c1 XS rfl HXL.out HNW.out HON.out ?e3 ?e4 ?e5 ?_)
    case e3 => have := HL.out; unfold maxLen; omega
    case e4 => have := HL.out; omega
    case e5 => exact HB5.out.size
    intro v6 w6 hown6 hgrow6 hnil6 hat6
    have HB6 := hidb (grown_up HB5.out hgrow6 (fun k hk => (row_lt HO5.out k hk).2))
    (try simp only [List.nil_append, Nat.zero_add] at hown6)
    have HO6 := hidb hown6
    obtain ⟨q6, c6, rfl⟩ := own_sl hown6
    have k1 := (HB6.out.cell (p := ⟨rb, 1, none⟩) hrl).trans h1
    clear hown6 hgrow6 hnil6 hat6 k0
    go_wp2_with fail
    unfold Un
    go_wp2_with (at_builtin; clear M2; refine wpList_append_own_none rfl _ _ 23 rfl W.heap.size 25 i0 5 Tryz.underlying23 hi (.slice q6 N c6) N XS rfl HO6.out rfl ?_)
    unfold Un
    go_wp2_with fail
    go_ret
    exact ⟨_, rfl, HO6.out, HB6.out⟩
end Go.Proofs.YtajadhkpadkikaaGreatDoor


