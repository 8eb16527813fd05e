import Derived.Test.YtggpbfmdhenjdaaLIT
import Derived.Test.YtggpbfmdhenjdaaG28
import Derived.Test.YtggpbfmdhenjdaaG33
import Derived.Test.YtggpbfmdhenjdaaG34
import Derived.Test.YtggpbfmdhenjdaaG35
import Derived.Deep.DeepAppendWide
import Derived.Test.YtggpbfmdhenjdaaG23
import Derived.Test.YtggpbfmdhenjdaaG04
import Derived.SizedLaws
import Derived.WalkLawsBesides
import Derived.LaidMore
import Derived.OpenShut
import Derived.Stop.Joined
import Derived.ChangeAt
import Derived.ChangeSame
/- InboxOwn. -/
namespace Go.Proofs.Ytggpbfmdhenjdaa
open Go.RowKit Go.Deep
attribute [local go_sem] store_float f64bits
attribute [local go_sem ↓] Go.wp_at_zero Go.wp_at_succ

theorem out_cell {A : Nat} {w5 W' : World} {u v : Value} (kr : w5.cell? ⟨A + 1 + 1, 0, none⟩ = some u) (hb : But (fun k => k ∈ ([] : List Nat)) (w5.setCell ⟨A + 1 + 1, 0, none⟩ v) W') : W'.cell? ⟨A + 1 + 1, 0, none⟩ = some v :=
  (hb.cell (p := ⟨A + 1 + 1, 0, none⟩) (by simpa using World.block_lt_of_cell? _ _ kr) (by simp)).trans (World.cell?_setCell_same _ _ _ kr)
theorem out_bel {A : Nat} {w w5 W' : World} {u v : Value} (kr : w5.cell? ⟨A + 1 + 1, 0, none⟩ = some u) (h : Below A w w5) (hb : But (fun k => k ∈ ([] : List Nat)) (w5.setCell ⟨A + 1 + 1, 0, none⟩ v) W') : Below A w W' :=
  have h1 : Below A w (w5.setCell ⟨A + 1 + 1, 0, none⟩ v) := h.setCell (by simp; omega) v
  h1.trans (hb.below (by have := World.block_lt_of_cell? _ _ kr; simp at this ⊢; omega) (fun k hk => by cases hk))

theorem GK.but {S : Nat → Prop} {nv gr cap : Nat} {ms : List Msg} {w w' : World} (h : GK nv gr cap ms w) (hb : But S w w') (h1 : ¬ S nv) (h2 : ms ≠ [] → ¬ S gr) : GK nv gr cap ms w' :=
  ⟨(hb.cell (p := ⟨nv, 0, none⟩) (World.block_lt_of_cell? _ _ h.1) h1).trans h.1, fun j u hu => (hb.cell (p := ⟨gr, j, none⟩) (World.block_lt_of_cell? _ _ (h.2 j u hu)) (h2 (fun e => by subst e; simp [mcs] at hu))).trans (h.2 j u hu)⟩
theorem gk_of {w : World} {base nv gr cap : Nat} {ms : List Msg} (h1 : w.cell? ⟨nv, 0, none⟩ = some (.slice (some ⟨gr, 0, none⟩) ms.length cap)) (h2 : w.ownsRow base 27 5 (.slice (some ⟨gr, 0, none⟩) ms.length cap) ms.length (mcs ms)) : GK nv gr cap ms w :=
  ⟨h1, fun j u hu => (h2.cellAt j (by have := mcs_len ms; have := (List.getElem?_eq_some_iff.1 hu).1; omega)).trans hu⟩

set_option maxHeartbeats 40000000 in
set_option maxRecDepth 100000 in
theorem inboxOwn_of (a : Option Addr) (c : Nat) (kids : List Tr) (n0 : Int) (w : World) (hin : (Tr.mk 0 0 0 ⟨#[]⟩ a c kids).In w 0) (hsw : ∀ t, t ∈ kids → SmallW t) (hlen : kids.length ≤ 2199023255552) :
    Calls Try.prog 4 #[.slice a kids.length c, .int .i64 n0] w fun e w' => e = .returned (.bool true) ∧ Below w.heap.size w w' := by
  have HIN := hidb hin
  have HSW := hidb hsw
  have KN := hidb (known12_any)
  obtain ⟨i0, hi, hz0, hz1, hz2⟩ := infoA
  clear hin hsw
  refine calls_marks Try.func4 rfl ?_
  simp only [Try.ntmps4, List.size_toArray, List.length_cons, List.length_nil, Nat.reduceAdd, Nat.reduceSub, Array.replicate_succ, Array.replicate_zero, List.push_toArray, List.append_toArray, List.nil_append, List.cons_append]
  have HBN : Hid (Below w.heap.size w (((w.alloc (.cells #[.slice a kids.length c] 22)).alloc (.cells #[.int .i64 n0] 3)).alloc (.cells #[.bool false] 4))) := hidb (((below_new w _).alloc (by simp) _).alloc (by simp; omega) _)
  have HCN : Hid ((((w.alloc (.cells #[.slice a kids.length c] 22)).alloc (.cells #[.int .i64 n0] 3)).alloc (.cells #[.bool false] 4)).cell? ⟨w.heap.size, 0, none⟩ = some (.slice a kids.length c) ∧ (((w.alloc (.cells #[.slice a kids.length c] 22)).alloc (.cells #[.int .i64 n0] 3)).alloc (.cells #[.bool false] 4)).cell? ⟨w.heap.size + 1, 0, none⟩ = some (.int .i64 n0) ∧ ((((w.alloc (.cells #[.slice a kids.length c] 22)).alloc (.cells #[.int .i64 n0] 3)).alloc (.cells #[.bool false] 4)).cell? ⟨w.heap.size + 1 + 1, 0, none⟩ = some (.bool false) ∧ (((w.alloc (.cells #[.slice a kids.length c] 22)).alloc (.cells #[.int .i64 n0] 3)).alloc (.cells #[.bool false] 4)).frozen? ⟨w.heap.size + 1 + 1, 0, none⟩ = false) ∧ w.heap.size < (((w.alloc (.cells #[.slice a kids.length c] 22)).alloc (.cells #[.int .i64 n0] 3)).alloc (.cells #[.bool false] 4)).heap.size ∧ (((w.alloc (.cells #[.slice a kids.length c] 22)).alloc (.cells #[.int .i64 n0] 3)).alloc (.cells #[.bool false] 4)).heap.size = w.heap.size + 3) := hidb (by refine ⟨?_, ?_, ⟨?_, ?_⟩, ?_, ?_⟩ <;> first | simp [go_sem] | (simp; omega))
  go_wp2_with (first
    | (go_at_call 5; refine (KN.out _).mono ?_; rintro e w1 ⟨rfl, hb1⟩; have HB1 := hidb hb1; clear hb1))
  obtain ⟨W0, hW0⟩ : ∃ W0, ((w.alloc (.cells #[.slice a kids.length c] 22)).alloc (.cells #[.int .i64 n0] 3)).alloc (.cells #[.bool false] 4) = W0 := ⟨_, rfl⟩
  rw [hW0] at HB1 HBN HCN
  have HC := HCN
  clear HCN hW0
  have HIN0 := hidb (in_below HBN.out HIN.out)
  clear HIN
  have HIN := HIN0
  clear HIN0
  generalize hA : w.heap.size = A at *
  have HA := hidb hA
  clear hA
  have hmw0 : ∀ m : Nat, m ≤ 3000000000000 → IntKind.i64.wrap ((m : Int) + 1) = (m : Int) + 1 := fun m h => by rw [IntKind.wrap_i64]; omega
  have HMW := hidb hmw0
  clear hmw0
  go_loopw [5, 6] (fun av iv wr => ∃ (m : Nat), m ≤ kids.length ∧ iv = .int .i64 m ∧ wr.ownsRow W0.heap.size AT 6 av m (acs (kids.take m)) ∧ (∀ (i : Nat) (t : Tr), i < m → kids[i]? = some t → errT t = 0) ∧ Below W0.heap.size W0 wr) (fun _ iv _ => kids.length - (RowKit.intOf iv).toNat)
  case atStart => exact ⟨0, by omega, rfl, World.ownsRow_nil _ _ _ _, fun i t h => by omega, HB1.out⟩
  case round =>
  obtain ⟨m, hm, rfl, hrow, hok, hb⟩ := hrel
  have HB := hidb hb
  have HOK := hidb hok
  have HROW := hidb hrow
  obtain ⟨qa, ca, rfl⟩ := own_sl hrow
  have kl := (HB.out.cell (p := ⟨A, 0, none⟩) HC.out.2.2.2.1).trans HC.out.1
  have hmw := HMW.out m (by omega)
  clear hb hok hrow
  by_cases hml : m < kids.length
  · have hmb : (m : Int) < (kids.length : Int) := by omega
    have hmz : (0 : Int) ≤ (m : Int) := by omega
    obtain ⟨b, o, rfl, hat⟩ := kid_at HIN.out (by omega)
    obtain ⟨k', n', f', s', a', c', kids', hu, hin', d0, d1, d2, d3, d4⟩ := hat m hml
    have HU := hidb hu
    have HI' := hidb hin'
    have hbl : b < W0.heap.size := World.block_lt_of_cell? _ _ d0
    have c0 := (HB.out.cell hbl).trans d0
    have c1 := (HB.out.cell hbl).trans d1
    have c2 := (HB.out.cell hbl).trans d2
    have c3 := (HB.out.cell hbl).trans d3
    have c4 := (HB.out.cell hbl).trans d4
    have HCC := hidb (And.intro d0 (And.intro d1 (And.intro d2 (And.intro d3 d4))))
    have RT := hidb (fun W hb => rright_t (.mk k' n' f' s' a' c' kids') W (in_below (w := W0) hb hin') (HSW.out _ (List.mem_of_getElem? hu)))
    simp only [Tr.val, Tr.cells] at RT
    have HTK : Hid (acs (kids.take m) ++ [.int .i64 0, .int .i64 k', .int .i64 n', .float .f64 f', .string s', .slice a' kids'.length c'] = acs (kids.take (m + 1))) := hidb (by rw [List.take_add_one, hu, acs_append]; rfl)
    clear hat hu hin' d0 d1 d2 d3 d4
    go_wp2_with (first
      | (at_builtin; refine wpList_append_own_wide _ rfl _ _ 24 rfl W0.heap.size AT i0 (.agg #[.int .i64 0, .int .i64 0, .int .i64 0, .float .f64 0, .string ⟨#[]⟩, .slice none 0 0]) 6 72 Try.underlying24 hi hz0 hz1 hz2 rfl (by decide) (.slice qa m ca) m (acs (kids.take m)) rfl ?e1 ⟨wr.heap.size, 0, none⟩ 1 1 [.int .i64 0, .int .i64 k', .int .i64 n', .float .f64 f', .string s', .slice a' kids'.length c'] rfl rfl ?e6 ?e2 ?e3 ?e4 ?e5 ?_))
    case e1 => exact HROW.out.alloc _
    case e6 => exact World.news_of_block ((MapKept.heap_alloc wr _).1)
    case e2 => simp [Value.oneCell']
    case e3 => unfold maxLen; omega
    case e4 => omega
    case e5 => have := HB.out.size; simp; omega
    intro v' w4 hown' hgrow hnil
    have HB4 := hidb (grown_up (HB.out.trans ((below_new wr _).mono HB.out.size)) hgrow (fun k hk => (row_lt HROW.out k hk).2))
    rw [HTK.out] at hown'
    have HR4 := hidb hown'
    obtain ⟨qa4, ca4, rfl⟩ := own_sl hown'
    clear hown' hgrow hnil c0 c1 c2 c3 c4 kl
    have kl := (HB4.out.cell (p := ⟨A, 0, none⟩) HC.out.2.2.2.1).trans HC.out.1
    have c0 := (HB4.out.cell hbl).trans HCC.out.1
    have c1 := (HB4.out.cell hbl).trans HCC.out.2.1
    have c2 := (HB4.out.cell hbl).trans HCC.out.2.2.1
    have c3 := (HB4.out.cell hbl).trans HCC.out.2.2.2.1
    have c4 := (HB4.out.cell hbl).trans HCC.out.2.2.2.2
    by_cases he : errT (.mk k' n' f' s' a' c' kids') = 0
    · have HE := hidb he
      rw [he] at RT
      clear he
      go_wp2_with (first
        | (go_at_call 6; refine (RT.out _ HB4.out).mono ?_; rintro e w5 ⟨rfl, hb5⟩; have HB5 := hidb (HB4.out.trans (hb5.mono HB4.out.size)); have HR5 := hidb (row_but HR4.out (But.of_below (S := fun _ => False) hb5) (fun _ _ h => h)); clear hb5))
      go_roundw
      case rel => exact ⟨m + 1, by omega, by go_num, HR5.out, fun i t hi ht => by
        by_cases e : i = m
        · subst e; rw [HU.out] at ht; cases ht; exact HE.out
        · exact HOK.out i t (by omega) ht, HB5.out⟩
      case measure => simp [RowKit.intOf]; omega
    · have he2 : (errT (.mk k' n' f' s' a' c' kids') == 0) = false := by simpa using he
      rw [he2] at RT
      clear he he2
      go_wp2_with (first
        | (go_at_call 6; refine (RT.out _ HB4.out).mono ?_; rintro e w5 ⟨rfl, hb5⟩; have HB5 := hidb (HB4.out.trans (hb5.mono HB4.out.size)); have kr := (HB5.out.cell (p := ⟨A + 1 + 1, 0, none⟩) (show A + 1 + 1 < W0.heap.size by have := HC.out.2.2.2.2; omega)).trans HC.out.2.2.1.1; have fr := (HB5.out.frozen (p := ⟨A + 1 + 1, 0, none⟩) (show A + 1 + 1 < W0.heap.size by have := HC.out.2.2.2.2; omega)).trans HC.out.2.2.1.2; clear hb5))
      refine retM [] rfl (by simp) (by simp) (fun W' hb => ?_)
      have kr2 := out_cell kr hb
      exact ⟨.bool true, by simp [results, Try.results4, go_sem, kr2], rfl, HA.out ▸ out_bel kr (HBN.out.trans (HB5.out.mono (by have := HC.out.2.2.2.2; omega))) hb⟩
  obtain rfl : m = kids.length := by omega
  have hmn : ¬ (kids.length : Int) < (kids.length : Int) := by omega
  rw [List.take_length] at HROW
  have FW := hidb (fun W (hb : Below wr.heap.size wr W) => few12_any qa ca kids W ((actRow_of HROW.out (fun t ht => by
    obtain ⟨i, hi⟩ := List.getElem?_of_mem ht
    have hl := (List.getElem?_eq_some_iff.1 hi).1
    obtain ⟨b, o, e, hat⟩ := kid_at HIN.out (by omega)
    obtain ⟨k', n', f', s', a', c', kids', hu, hin', _⟩ := hat i hl
    rw [hi] at hu
    cases hu
    exact in_below HB.out hin')).keep hb) (by omega))
  by_cases hfew : kids.length ≤ 400 ∧ 0 ≤ fewAll kids 60000 1000
  · have hF : (decide (kids.length ≤ 400) && decide (0 ≤ fewAll kids 60000 1000)) = true := by simpa using hfew
    rw [hF] at FW
    have HEA := hidb (fun (t : Tr) (ht : t ∈ kids) => few_each hfew.2 ht)
    clear hF hfew
    by_cases h60 : 60 < kids.length
    · have h60i : (60 : Int) < (kids.length : Int) := by omega
      clear h60
      go_wp2_with (first
        | (go_at_call 7; refine (newB _ (by decide) (by decide) _).mono ?_; rintro e w3 ⟨rfl, rfl⟩)
        | (go_at_call 8; refine (FW.out _ (below_new wr _)).mono ?_; rintro e w4 ⟨rfl, hb4⟩; have HB4 := hidb (HB.out.trans (((below_new wr _).trans (hb4.mono (by simp))).mono HB.out.size)); have kl4 := (HB4.out.cell (p := ⟨A, 0, none⟩) HC.out.2.2.2.1).trans HC.out.1; have kr := (HB4.out.cell (p := ⟨A + 1 + 1, 0, none⟩) (show A + 1 + 1 < W0.heap.size by have := HC.out.2.2.2.2; omega)).trans HC.out.2.2.1.1; have fr := (HB4.out.frozen (p := ⟨A + 1 + 1, 0, none⟩) (show A + 1 + 1 < W0.heap.size by have := HC.out.2.2.2.2; omega)).trans HC.out.2.2.1.2; clear hb4))
      refine retM [] rfl (by simp) (by simp) (fun W' hb => ?_)
      have kr2 := out_cell kr hb
      exact ⟨.bool true, by simp [results, Try.results4, go_sem, kr2], rfl, HA.out ▸ out_bel kr (HBN.out.trans (HB4.out.mono (by have := HC.out.2.2.2.2; omega))) hb⟩
    have h60i : ¬ (60 : Int) < (kids.length : Int) := by omega
    have HL := hidb (Nat.le_of_not_lt h60)
    have HT0 := hidb (show TI W0 (wr.alloc (.cells #[.pointer none, .pointer none, .pointer none, .int .i64 0, .int .i64 0, .int .i64 16777216, .int .i64 0] BT)) wr.heap.size [] [] 0 0 (fun _ => False) from ⟨bx_new wr 16777216 _ rfl, rfl, fun i m t h => by simp at h, fun m h => by simp at h, by
      rintro q (e | ⟨x, hx, _⟩)
      · have := HB.out.size; omega
      · simp at hx, HB.out.trans ((below_new wr _).mono HB.out.size)⟩)
    clear h60
    go_wp2_with (first
      | (go_at_call 7; refine (newB _ (by decide) (by decide) _).mono ?_; rintro e w3 ⟨rfl, rfl⟩)
      | (go_at_call 8; refine (FW.out _ (below_new wr _)).mono ?_; rintro e w4 ⟨rfl, hb4⟩; have HB4 := hidb (HB.out.trans (((below_new wr _).trans (hb4.mono (by simp))).mono HB.out.size)); have kl4 := (HB4.out.cell (p := ⟨A, 0, none⟩) HC.out.2.2.2.1).trans HC.out.1; have kr := (HB4.out.cell (p := ⟨A + 1 + 1, 0, none⟩) (show A + 1 + 1 < W0.heap.size by have := HC.out.2.2.2.2; omega)).trans HC.out.2.2.1.1; have fr := (HB4.out.frozen (p := ⟨A + 1 + 1, 0, none⟩) (show A + 1 + 1 < W0.heap.size by have := HC.out.2.2.2.2; omega)).trans HC.out.2.2.1.2; have HT4 := hidb (HT0.out.keep hb4); clear hb4))
    generalize wr.heap.size = bb at *
    clear HB HROW FW hml h60i kr fr kl4 HB4 HT0 kl
    go_loopw [9] (fun iv wz => ∃ (k : Nat) (ms : List Msg) (R : Nat → Prop), k ≤ kids.length ∧ iv = .int .i64 k ∧ TI W0 wz bb ms (kids.take k) 0 k R ∧ ∀ m : Msg, m ∈ ms → m.num ≤ k) (fun iv _ => kids.length - (RowKit.intOf iv).toNat)
    case atStart => exact ⟨0, [], _, by omega, rfl, HT4.out, fun m h => by simp at h⟩
    case round =>
    obtain ⟨k, ms, R, hk, rfl, hT, hnm⟩ := hrel
    have HNM := hidb hnm
    clear hnm
    have HT := hidb hT
    clear hT HT4
    have hkw := HMW.out k (by omega)
    have kl := (HT.out.bel.cell (p := ⟨A, 0, none⟩) HC.out.2.2.2.1).trans HC.out.1
    by_cases hkl : k < kids.length
    · have hkb : (k : Int) < (kids.length : Int) := by omega
      have hkz : (0 : Int) ≤ (k : Int) := by omega
      obtain ⟨b, o, rfl, hat⟩ := kid_at HIN.out (by omega)
      obtain ⟨k', n', f', s', a', c', kids', hu, hin', d0, d1, d2, d3, d4⟩ := hat k hkl
      have hbl : b < W0.heap.size := World.block_lt_of_cell? _ _ d0
      have c0 := (HT.out.bel.cell hbl).trans d0
      have c1 := (HT.out.bel.cell hbl).trans d1
      have c2 := (HT.out.bel.cell hbl).trans d2
      have c3 := (HT.out.bel.cell hbl).trans d3
      have c4 := (HT.out.bel.cell hbl).trans d4
      obtain ⟨e1, e2⟩ := HEA.out _ (List.mem_of_getElem? hu)
      have hms : ms.length = k := by have := HT.out.len; rw [List.length_take] at this; omega
      have RC := hidb (rcopy_sp (.mk k' n' f' s' a' c' kids') wr (in_below HT.out.bel hin') e1)
      simp only [Tr.val, Tr.cells] at RC
      have PT := hidb (fun (w6 : World) (hb : Below wr.heap.size wr w6) (t' : Tr) (hsm : Sm (.mk k' n' f' s' a' c' kids') t') (hin : t'.In w6 wr.heap.size) => ownPut HT.out hb hsm hin e1 e2 (HOK.out k _ hkl hu) (by have := HL.out; omega) (by have := HL.out; omega))
      have HTK : Hid (kids.take k ++ [Tr.mk k' n' f' s' a' c' kids'] = kids.take (k + 1)) := hidb (by rw [List.take_add_one, hu]; rfl)
      rw [HTK.out] at PT
      have HBL : Hid (∀ q, BS bb ms q → q < wr.heap.size) := hidb (by
        rintro q (e | ⟨m, hm, e⟩)
        · rw [e]; exact HT.out.bx.box.2
        · obtain ⟨i, hi⟩ := List.getElem?_of_mem hm
          rw [e]; exact (HT.out.bx.msg i m hi).2)
      clear hat hu hin' d0 d1 d2 d3 d4 e1 e2 hms
      go_wp2_with (first
        | (go_at_call 14; refine RC.out.mono ?_; rintro e w5 ⟨⟨k2, n2, f2, s2, a2, c2', kids2⟩, rfl, hsm, hti, hb5, H5, hsp⟩
           have P6 := hidb (PT.out (w5.alloc (.cells #[.int .i64 k2, .int .i64 n2, .float .f64 f2, .string s2, .slice a2 kids2.length c2'] 27)) (hb5.trans ((below_new w5 _).mono hb5.size)) _ hsm (in_below (below_new w5 _) hti))
           simp only [Tr.val, Tr.cells] at P6
           have HS6 : Hid (SpH (NewS wr w5) (w5.alloc (.cells #[.int .i64 k2, .int .i64 n2, .float .f64 f2, .string s2, .slice a2 kids2.length c2'] 27)) H5 (.slice a2 kids2.length c2')) := hidb (SpH.but (But.of_below (S := fun _ => False) (below_new w5 _)) (fun _ _ => id) hsp)
           have BX6 := hidb (Box.new w5 27 (.int .i64 k2) (.int .i64 n2) (.float .f64 f2) (.string s2) (.slice a2 kids2.length c2'))
           have HZ5 := hidb hb5.size
           clear hsm hti hb5 hsp RC PT))
      refine P6.out.mono ?_; rintro e w7 ⟨rfl, m7, R7, h7, hb7, hm7, hR7, hn7⟩
      have hx : ∀ (i : Nat), w7.cell? ⟨w5.heap.size, i, none⟩ = (w5.alloc (.cells #[.int .i64 k2, .int .i64 n2, .float .f64 f2, .string s2, .slice a2 kids2.length c2'] 27)).cell? ⟨w5.heap.size, i, none⟩ := fun i => hb7.cell (p := ⟨w5.heap.size, i, none⟩) (by simp) (fun hq => by have h9 : w5.heap.size < wr.heap.size := HBL.out _ hq; have := HZ5.out; omega)
      have x0 := (hx 0).trans BX6.out.c0
      have x1 := (hx 1).trans BX6.out.c1
      have x2 := (hx 2).trans BX6.out.c2
      have x3 := (hx 3).trans BX6.out.c3
      have x4 := (hx 4).trans BX6.out.c4
      have HS7 := hidb (SpH.but hb7 (fun q hq hbs => by have := HBL.out _ hbs; have := hq.1; omega) HS6.out)
      have HN7 := hidb hn7
      have H7 := hidb (And.intro h7 (And.intro hb7.size (And.intro hm7 hR7)))
      clear h7 hb7 hm7 hR7 hx P6 hn7
      go_wp2_with fail
      refine (spoil_any H5 _ _ _ _ _ w7 (fun q hq => by have := H7.out.2.1; have := hq.2; simp at *; omega) HS7.out).mono ?_; rintro e w8 ⟨rfl, hb8, -⟩
      have H8 := hidb (TI.spoilt H7.out.1 hb8 (by
        intro q hq hs
        rcases bs_snoc hq with e | e
        · have := HBL.out _ e; have := hs.1; omega
        · have := H7.out.2.2.1; have := hs.2; simp at *; omega) (by
        intro q hq hs
        rcases H7.out.2.2.2 q hq with e | e
        · have := (HT.out.bx.far q e).1; have := hs.1; omega
        · have := hs.2; simp at *; omega) (fun q hq => by have := hq.1; have := HT.out.bel.size; omega))
      clear hb8
      go_wp2_with fail
      go_roundw
      case rel => exact ⟨k + 1, _, _, by omega, by go_num, H8.out, fun m hm => by
        rcases List.mem_append.1 hm with hm | hm
        · have := HNM.out m hm; omega
        · simp at hm; subst hm; have := HN7.out; omega⟩
      case measure => simp [RowKit.intOf]; omega
    obtain rfl : k = kids.length := by omega
    rw [List.take_length] at HT
    have hkb : ¬ (kids.length : Int) < (kids.length : Int) := by omega
    have hml : ms.length = kids.length := HT.out.len
    go_wp2_with fail
    refine (all_any HT.out.bx (by have := HL.out; omega) HNM.out).mono ?_
    rintro e w2 ⟨nv, gr, cap, rfl, hb2, hnv, hgr, hng, hcn, hrw⟩
    have HT2 := hidb (HT.out.keep hb2)
    have HBL : Hid (∀ q, BS bb ms q → q < wr.heap.size) := hidb (by
      rintro q (e | ⟨m, hm, e⟩)
      · rw [e]; exact HT.out.bx.box.2
      · obtain ⟨i, hi⟩ := List.getElem?_of_mem hm
        rw [e]; exact (HT.out.bx.msg i m hi).2)
    have HNV := hidb (And.intro hnv (And.intro hgr hng))
    have HGK := hidb (gk_of hcn hrw)
    have HGL := hidb (And.intro (World.block_lt_of_cell? _ _ hcn) (hrw.lt gr rfl).2)
    clear hb2 hnv hgr hng hcn hrw
    go_wp2_with fail
    refine (iNum_any 77 w2).mono ?_
    rintro e w3 ⟨rfl, hb3⟩
    have HT3 := hidb (HT2.out.keep hb3)
    have HG3 := hidb (HGK.out.but (But.of_below (S := fun _ => False) hb3) id (fun _ => id))
    have HZ3 := hidb hb3.size
    clear hb3 HT2 HGK
    have PT := hidb (ownPut (t := numT 77) (t' := numT 77) HT3.out (Below.refl _ _) (by simp [numT, Sm, SmA]) ⟨(numT_in 77 (by decide) (by decide) w3).1, fun ad h => by cases h⟩ (numT_small 77) (by simp [numT, cnT, cnA]) (numT_err 77 (by decide) (by decide)).1 (by have := HL.out; omega) (by have := HL.out; omega))
    simp only [numT, Tr.val, Tr.cells, List.length_nil] at PT
    go_wp2_with fail
    refine PT.out.mono ?_
    rintro e w4 ⟨rfl, m4, R4, h4, hb4, hm4, -, -⟩
    have HG4 := hidb (HG3.out.but hb4 (fun hq => by have := HBL.out _ hq; have := HNV.out.1; omega) (fun _ hq => by have := HBL.out _ hq; have := HNV.out.2.1; omega))
    have HNB : Hid (∀ q, BS bb (ms ++ [m4]) q → q ≠ nv ∧ q ≠ gr) := hidb (fun q hq => by
      have h1 := HNV.out
      have h2 : nv < w2.heap.size := HGL.out.1
      have h3 := HGL.out.2
      have h5 := HZ3.out
      rcases bs_snoc hq with e | e
      · have := HBL.out _ e; omega
      · omega)
    have HT4 := hidb h4
    have HGZ : Hid (gr < w4.heap.size) := hidb (by have := HGL.out.2; have := HZ3.out; have := hb4.size; omega)
    clear h4 hb4 PT HT3 HG3
    go_wp2_with fail
    have HSM : Hid (∀ t : Tr, t ∈ kids ++ [numT 77] → Small t ∧ cnT t ≤ 60001) := hidb (fun t ht => by
      rcases List.mem_append.1 ht with h | h
      · exact HEA.out t h
      · simp at h; subst h; exact ⟨numT_small 77, by simp [numT, cnT, cnA]⟩)
    clear kl hkb hkw hkl hk
    go_loopg [] (ms.length + 2) (fun gk wz => ∃ (place : Nat), place ≤ ms.length + 1 ∧ ms.length + 2 - place ≤ gk ∧ TI W0 wz bb (ms ++ [m4]) (kids ++ [numT 77]) place (kids.length + 1) R4 ∧ GK nv gr cap ms wz ∧ gr < wz.heap.size)
    case atStart => exact ⟨0, by omega, by omega, HT4.out, HG4.out, HGZ.out⟩
    case round =>
    obtain ⟨place, hpl, hgk, hT5, hG5, hgz⟩ := hrel
    have HGZ5 := hidb hgz
    have HT5 := hidb hT5
    have HG5 := hidb hG5
    have HPL := hidb (And.intro hpl hgk)
    clear hT5 hG5 hpl hgk HT4 HG4 hgz
    by_cases hpm : place < ms.length + 1
    · obtain ⟨m5, hm5⟩ : ∃ m5, (ms ++ [m4])[place]? = some m5 := ⟨_, List.getElem?_eq_getElem (by simp; omega)⟩
      obtain ⟨t5, ht5⟩ : ∃ t5, (kids ++ [numT 77])[place]? = some t5 := ⟨_, List.getElem?_eq_getElem (by simp; omega)⟩
      have hs5 := sm_small t5 m5.t (HT5.out.sm place m5 t5 hm5 ht5)
      have hs6 := HSM.out t5 (List.mem_of_getElem? ht5)
      have NX := hidb (nextB_sp HT5.out.bx hm5 (hs5.1 hs6.1) (by omega))
      clear hs5 hs6 hm5 ht5
      go_wp2_with fail
      refine NX.out.mono ?_
      rintro e w5 ⟨k2, n2, f2, s2, a2, c2, kids2, rfl, -, -, hx5, hb5, H5, hsp5⟩
      have HT6 := hidb (HT5.out.turn hx5 hb5)
      have HSP := hidb hsp5
      have HB5 := hidb hb5
      clear hx5 hb5 hsp5 NX
      have HGN : Hid (nv < wr.heap.size ∧ (ms ≠ [] → gr < wr.heap.size)) := hidb ⟨World.block_lt_of_cell? _ _ HG5.out.1, fun hne => by
        have : 0 < ms.length := List.length_pos_iff.2 hne
        exact World.block_lt_of_cell? _ _ (HG5.out.2 0 _ (List.getElem?_eq_getElem (by rw [mcs_len]; omega)))⟩
      go_wp2_with fail
      refine (spoil_any (S := NewS wr w5) H5 _ _ _ _ _ _ (fun q hq => by have := hq.2; simp; omega) (SpH.but (But.of_below (S := fun _ => False) (below_new w5 _)) (fun _ _ => id) HSP.out)).mono ?_
      rintro e w7 ⟨rfl, hb7, -⟩
      have HT7 := hidb (TI.spoilt (HT6.out.keep (below_new w5 _)) hb7 (fun q hq hs => by
        have : q < wr.heap.size := by
          rcases hq with rfl | ⟨m, hm, rfl⟩
          · exact HT5.out.bx.box.2
          · obtain ⟨i, hi⟩ := List.getElem?_of_mem hm
            exact (HT5.out.bx.msg i m hi).2
        have := hs.1; omega) (fun q hq hs => by have := (HT5.out.bx.far q hq).1; have := hs.1; omega) (fun q hq => by have := hq.1; have := HT5.out.bel.size; omega))
      have HG7 := hidb (((HG5.out.but HB5.out (fun h => (HNB.out _ h).1 rfl) (fun _ h => (HNB.out _ h).2 rfl)).but (But.of_below (S := fun _ => False) (below_new w5 _)) id (fun _ => id)).but hb7 (fun h => by have := h.1; have := HGN.out.1; omega) (fun hne h => by have := h.1; have := HGN.out.2 hne; omega))
      have HGZ7 : Hid (gr < w7.heap.size) := hidb (by have := HGZ5.out; have := HB5.out.size; have := hb7.size; simp at this; omega)
      clear hb7
      go_wp2_with fail
      go_roundg (ms.length + 2 - (place + 1))
      case measure => have := HPL.out; omega
      case rel => exact ⟨place + 1, by omega, by omega, HT7.out, HG7.out, HGZ7.out⟩
    · have NX := hidb (nextB_none HT5.out.bx (by simp; have := HPL.out; omega))
      clear hpm
      go_wp2_with fail
      refine NX.out.mono ?_
      rintro e w5 ⟨rfl, hb5⟩
      have HT6 := hidb (HT5.out.keep hb5)
      have HG6 := hidb (HG5.out.but (But.of_below (S := fun _ => False) hb5) id (fun _ => id))
      have HGR : Hid (gr < w5.heap.size) := hidb (by have := HGZ5.out; have := hb5.size; omega)
      clear hb5 NX HT5 HG5
      have kl5 := (HT6.out.bel.cell (p := ⟨A, 0, none⟩) HC.out.2.2.2.1).trans HC.out.1
      have ks5 := (HT6.out.bel.cell (p := ⟨A + 1, 0, none⟩) (show A + 1 < W0.heap.size by have := HC.out.2.2.2.2; omega)).trans HC.out.2.1
      go_wp2_with fail
      refine wp_loop_times 3 ?_
      unfold Un
      have kr5 := (HT6.out.bel.cell (p := ⟨A + 1 + 1, 0, none⟩) (show A + 1 + 1 < W0.heap.size by have := HC.out.2.2.2.2; omega)).trans HC.out.2.2.1.1
      have fr5 := (HT6.out.bel.frozen (p := ⟨A + 1 + 1, 0, none⟩) (show A + 1 + 1 < W0.heap.size by have := HC.out.2.2.2.2; omega)).trans HC.out.2.2.1.2
      go_wp2_with fail
      have BQ : Hid (Bq w5 A nv gr cap a c n0 ms kids) := hidb ⟨kl5, ks5, HG6.out, HGR.out, ⟨fun t ht => by
          obtain ⟨m, hm, rfl⟩ := List.mem_map.1 ht
          exact (HT6.out.bx.tr m (List.mem_append_left _ hm)).1, in_below (HT6.out.bel) HIN.out⟩, hml, HL.out, fun i m t hm ht => HT6.out.sm i m t (by rw [List.getElem?_append_left (List.getElem?_eq_some_iff.1 hm).1]; exact hm) (by rw [List.getElem?_append_left (List.getElem?_eq_some_iff.1 ht).1]; exact ht), fun t ht => by
          obtain ⟨m, hm, rfl⟩ := List.mem_map.1 ht
          obtain ⟨i, hi⟩ := List.getElem?_of_mem hm
          obtain ⟨t, ht⟩ : ∃ t, kids[i]? = some t := ⟨_, List.getElem?_eq_getElem (by have := (List.getElem?_eq_some_iff.1 hi).1; omega)⟩
          have h1 := sm_small t m.t (HT6.out.sm i m t (by rw [List.getElem?_append_left (List.getElem?_eq_some_iff.1 hi).1]; exact hi) (by rw [List.getElem?_append_left (List.getElem?_eq_some_iff.1 ht).1]; exact ht))
          have h2 := HEA.out t (List.mem_of_getElem? ht)
          exact ⟨h1.1 h2.1, by omega⟩⟩
      refine ioLoop (A := A) (T := w5.heap.size + 1) (B := w5.heap.size + 1 + 1) (nv := nv) (tv := 0) (BQ.out.lq (T := w5.heap.size + 1) (B := w5.heap.size + 1 + 1) (((below_new w5 _).alloc (by simp) _).alloc (by simp; omega) _) (by omega) (by omega) (by simp [go_sem]) (by simp [go_sem]) (by simp [go_sem])) ?h1 ?h2
      case h1 =>
        intro De W hDe hKe hBe hne
        have kt : W.cell? ⟨w5.heap.size + 1, 0, none⟩ = some (.int .i64 0) := (hBe.cell (p := ⟨w5.heap.size + 1, 0, none⟩) (by simp) (by simp)).trans (by simp [go_sem])
        have HW : Hid (Below w5.heap.size w5 W) := hidb ((((below_new w5 _).alloc (by simp) _).alloc (by simp; omega) _).trans (hBe.below (by simp; omega) (fun k hk => by omega)))
        have HKe := hidb (And.intro hDe (And.intro hKe hne))
        clear hDe hKe hBe hne
        go_wp2_with fail
        unfold Un
        go_wp2_with fail
        refine ioLoop (A := A) (T := W.heap.size) (B := W.heap.size + 1) (nv := nv) (tv := 1) (BQ.out.lq (T := W.heap.size) (B := W.heap.size + 1) ((HW.out.alloc HW.out.size _).alloc (by have := HW.out.size; simp; omega) _) (by have := HW.out.size; omega) (by omega) (by simp [go_sem]) (by simp [go_sem]) (by simp [go_sem])) ?h3 (fun h => absurd h (by decide))
        intro Df W2 hDf hKf hBf hnf
        have kt2 : W2.cell? ⟨W.heap.size, 0, none⟩ = some (.int .i64 1) := (hBf.cell (p := ⟨W.heap.size, 0, none⟩) (by simp; omega) (by simp)).trans (by simp [go_sem])
        have HW2 : Hid (Below w5.heap.size w5 W2) := hidb (((HW.out.alloc HW.out.size _).alloc (by have := HW.out.size; simp; omega) _).trans (hBf.below (by have := HW.out.size; simp; omega) (fun k hk => by have := HW.out.size; omega)))
        have kl2 := (HW2.out.cell (p := ⟨A, 0, none⟩) (World.block_lt_of_cell? _ _ kl5)).trans kl5
        have HKE := hidb (show W2.heap[De]? = some (.deferred (some [])) from (hBf.block De (by have := (Array.getElem?_eq_some_iff.1 HKe.out.2.1).1; simp; omega) (by have := (Array.getElem?_eq_some_iff.1 HKe.out.2.1).1; omega)).trans (((below_new W _).alloc (by simp) _).block De (Array.getElem?_eq_some_iff.1 HKe.out.2.1).1 |>.trans HKe.out.2.1))
        have HKf := hidb (And.intro hDf hKf)
        clear hBf hDf hKf
        go_wp2_with fail
        unfold Un
        go_wp2_with fail
        obtain ⟨W3, hW3⟩ : ∃ W3, W2.alloc (.cells #[.int .i64 2] 3) = W3 := ⟨_, rfl⟩
        have HW3 : Hid (Below w5.heap.size w5 W3) := hidb (by rw [← hW3]; exact HW2.out.alloc HW2.out.size _)
        have HKE3 : Hid (W3.heap[De]? = some (.deferred (some [])) ∧ W3.heap[Df]? = some (.deferred (some []))) := hidb (by rw [← hW3]; exact ⟨((below_new W2 _).block De (Array.getElem?_eq_some_iff.1 HKE.out).1).trans HKE.out, ((below_new W2 _).block Df (Array.getElem?_eq_some_iff.1 HKf.out.2).1).trans HKf.out.2⟩)
        rw [hW3]
        clear hW3 kt kt2 hnf
        have kl3 := (HW3.out.cell (p := ⟨A, 0, none⟩) (World.block_lt_of_cell? _ _ kl5)).trans kl5
        have kr3 := (HW3.out.cell (p := ⟨A + 1 + 1, 0, none⟩) (World.block_lt_of_cell? _ _ kr5)).trans kr5
        have fr3 := (HW3.out.frozen (p := ⟨A + 1 + 1, 0, none⟩) (World.block_lt_of_cell? _ _ kr5)).trans fr5
        have HT3 := hidb (lenB (HT6.out.keep (HW3.out.trans (((Below.refl _ W3).drew).mono HW3.out.size))).bx)
        simp only [List.length_append, List.length_cons, List.length_nil, hml] at HT3
        have HS0 : Hid (W3.drew.cell? ⟨A, 0, none⟩ = some (.slice a kids.length c)) := hidb kl3
        have sl : IntKind.i64.wrap ((kids.length : Int) + 1) = (kids.length : Int) + 1 := HMW.out kids.length (by have := HL.out; omega)
        clear kl2 kl5 kl3
        refine wp_region_N (fun Wz => Wz.cell? ⟨A, 0, none⟩ = some (.slice a kids.length c)) [6] (by kernel_rfl) ?_
        refine wpAnyD_takeL (i := 0) (v := ?vv0a) rfl (by kernel_rfl) (by kernel_rfl) (by kernel_rfl) (by kernel_rfl) (fun _ _ _ h => by cases h.1) HS0.out rfl ?hy0a ?_
        case hy0a => intro wy hSw; go_simp; try with_reducible rfl
        simp only [Act.put, List.setIfInBounds_toArray, List.set_cons_zero, List.set_cons_succ]
        refine wpAnyD_takeL (i := 2) (v := ?vv2a) rfl (by kernel_rfl) (by kernel_rfl) (by kernel_rfl) (by kernel_rfl) (fun _ _ _ h => by cases h.1) HS0.out rfl ?hy2a ?_
        case hy2a => intro wy hSw; go_simp; try with_reducible rfl
        simp only [Act.put, List.setIfInBounds_toArray, List.set_cons_zero, List.set_cons_succ]
        refine wpAnyD_takeL (i := 3) (v := ?vv3a) rfl (by kernel_rfl) (by kernel_rfl) (by kernel_rfl) (by kernel_rfl) (fun _ _ _ h => by cases h.1) HS0.out rfl ?hy3a ?_
        case hy3a => intro wy hSw; go_simp; try with_reducible rfl
        simp only [Act.put, List.setIfInBounds_toArray, List.set_cons_zero, List.set_cons_succ]
        refine wpAnyD_takeL (i := 4) (v := ?vv4a) rfl (by kernel_rfl) (by kernel_rfl) (by kernel_rfl) (by kernel_rfl) (fun _ _ _ h => by cases h.1) HS0.out rfl ?hy4a ?_
        case hy4a => intro wy hSw; go_simp; try with_reducible rfl
        simp only [Act.put, List.setIfInBounds_toArray, List.set_cons_zero, List.set_cons_succ]
        refine wpAnyD_stepL (i := 1) (by kernel_rfl) rfl (fun K hK => ?_)
        refine step_callG (by simp [Region.wanted]) (run_call ent_len #[.tmp 131] _ rfl #[.pointer (some ⟨bb, 0, none⟩)] rfl) HT3.out ?_
        rintro e W5 ⟨rfl, rfl⟩
        refine hK _ _ (fun _ => HS0.out) ?_
        clear hK K
        simp only [Act.put, List.setIfInBounds_toArray, List.set_cons_zero, List.set_cons_succ]
        refine wpAnyD_takeL (i := 5) (v := ?vv5a) rfl (by kernel_rfl) (by kernel_rfl) (by kernel_rfl) (by kernel_rfl) (fun _ _ _ h => by cases h.1) HS0.out rfl ?hy5a ?_
        case hy5a => intro wy hSw; go_simp; try with_reducible rfl
        simp only [Act.put, List.setIfInBounds_toArray, List.set_cons_zero, List.set_cons_succ]
        refine wpAnyD_stepL (i := 6) (by kernel_rfl) rfl (fun K hK => ?_)
        go_simp
        refine hK _ _ (fun h => absurd (List.mem_singleton.2 rfl) h) ?_
        clear hK K
        refine wpAnyD_done (by kernel_rfl) ?_ _
        refine ⟨rfl, ?_⟩
        go_wp2_with fail
        have hset : But (fun k => k = A + 1 + 1) W3 (W3.setCell ⟨A + 1 + 1, 0, none⟩ (.bool true)).drew := ((But.refl (fun k => k = A + 1 + 1) W3).setCell (p := ⟨A + 1 + 1, 0, none⟩) (fun _ => rfl) (.bool true)).drew
        have hA5 : A + 1 + 1 < w5.heap.size := World.block_lt_of_cell? _ _ kr5
        have hdf : De < W.heap.size ∧ W.heap.size + 2 ≤ Df ∧ w5.heap.size ≤ De := ⟨(Array.getElem?_eq_some_iff.1 HKe.out.2.1).1, by have := HKf.out.1; simp at this; omega, by have := HKe.out.1; simp at this; omega⟩
        have hw5 : w5.heap.size ≤ W.heap.size := HW.out.size
        have hlt1 := (Array.getElem?_eq_some_iff.1 HKE3.out.1).1
        have hlt2 := (Array.getElem?_eq_some_iff.1 HKE3.out.2).1
        refine retM [Df, De] rfl (fun D hD => ?_) (by simp; omega) (fun W' hb => ?_)
        · rcases List.mem_cons.1 hD with e | hD
          · subst e; exact (hset.block D hlt2 (by omega)).trans HKE3.out.2
          · obtain rfl : D = De := by simpa using hD
            exact (hset.block D hlt1 (by omega)).trans HKE3.out.1
        · have kr6 : W'.cell? ⟨A + 1 + 1, 0, none⟩ = some (.bool true) := (hb.cell (p := ⟨A + 1 + 1, 0, none⟩) (by have := World.block_lt_of_cell? _ _ kr3; simpa using this) (by simp; omega)).trans (World.cell?_setCell_same _ _ _ kr3)
          refine ⟨.bool true, by simp [results, Try.results4, go_sem, kr6], rfl, ?_⟩
          rw [HA.out]
          have hw3 : Below A w W3 := HBN.out.trans ((HT6.out.bel.trans (HW3.out.mono HT6.out.bel.size)).mono (by have := HC.out.2.2.2.2; omega))
          have h1 : Below A w (W3.setCell ⟨A + 1 + 1, 0, none⟩ (.bool true)).drew := (hw3.setCell (by simp; omega) _).drew
          exact h1.trans (hb.below (by have := h1.size; have := HA.out; omega) (fun k hk => by
            rcases List.mem_cons.1 hk with e | hk
            · omega
            · have : k = De := by simpa using hk
              omega))
      case h2 =>
        intro _ De W hDe hKe hBe hne
        have kt : W.cell? ⟨w5.heap.size + 1, 0, none⟩ = some (.int .i64 0) := (hBe.cell (p := ⟨w5.heap.size + 1, 0, none⟩) (by simp) (by simp)).trans (by simp [go_sem])
        have HW : Hid (Below w5.heap.size w5 W) := hidb ((((below_new w5 _).alloc (by simp) _).alloc (by simp; omega) _).trans (hBe.below (by simp; omega) (fun k hk => by omega)))
        have HKe := hidb (And.intro hDe (And.intro hKe hne))
        clear hDe hKe hBe hne
        go_wp2_with fail
        unfold Un
        go_wp2_with fail
        refine ioLoop (A := A) (T := W.heap.size) (B := W.heap.size + 1) (nv := nv) (tv := 1) (BQ.out.lq (T := W.heap.size) (B := W.heap.size + 1) ((HW.out.alloc HW.out.size _).alloc (by have := HW.out.size; simp; omega) _) (by have := HW.out.size; omega) (by omega) (by simp [go_sem]) (by simp [go_sem]) (by simp [go_sem])) ?h4 (fun h => absurd h (by decide))
        intro Df W2 hDf hKf hBf hnf
        have kt2 : W2.cell? ⟨W.heap.size, 0, none⟩ = some (.int .i64 1) := (hBf.cell (p := ⟨W.heap.size, 0, none⟩) (by simp; omega) (by simp)).trans (by simp [go_sem])
        have HW2 : Hid (Below w5.heap.size w5 W2) := hidb (((HW.out.alloc HW.out.size _).alloc (by have := HW.out.size; simp; omega) _).trans (hBf.below (by have := HW.out.size; simp; omega) (fun k hk => by have := HW.out.size; omega)))
        have kl2 := (HW2.out.cell (p := ⟨A, 0, none⟩) (World.block_lt_of_cell? _ _ kl5)).trans kl5
        have HKE := hidb (show W2.heap[De]? = some (.deferred (some [])) from (hBf.block De (by have := (Array.getElem?_eq_some_iff.1 HKe.out.2.1).1; simp; omega) (by have := (Array.getElem?_eq_some_iff.1 HKe.out.2.1).1; omega)).trans (((below_new W _).alloc (by simp) _).block De (Array.getElem?_eq_some_iff.1 HKe.out.2.1).1 |>.trans HKe.out.2.1))
        have HKf := hidb (And.intro hDf hKf)
        clear hBf hDf hKf
        go_wp2_with fail
        unfold Un
        go_wp2_with fail
        obtain ⟨W3, hW3⟩ : ∃ W3, W2.alloc (.cells #[.int .i64 2] 3) = W3 := ⟨_, rfl⟩
        have HW3 : Hid (Below w5.heap.size w5 W3) := hidb (by rw [← hW3]; exact HW2.out.alloc HW2.out.size _)
        have HKE3 : Hid (W3.heap[De]? = some (.deferred (some [])) ∧ W3.heap[Df]? = some (.deferred (some []))) := hidb (by rw [← hW3]; exact ⟨((below_new W2 _).block De (Array.getElem?_eq_some_iff.1 HKE.out).1).trans HKE.out, ((below_new W2 _).block Df (Array.getElem?_eq_some_iff.1 HKf.out.2).1).trans HKf.out.2⟩)
        rw [hW3]
        clear hW3 kt kt2 hnf
        have kl3 := (HW3.out.cell (p := ⟨A, 0, none⟩) (World.block_lt_of_cell? _ _ kl5)).trans kl5
        have kr3 := (HW3.out.cell (p := ⟨A + 1 + 1, 0, none⟩) (World.block_lt_of_cell? _ _ kr5)).trans kr5
        have fr3 := (HW3.out.frozen (p := ⟨A + 1 + 1, 0, none⟩) (World.block_lt_of_cell? _ _ kr5)).trans fr5
        have HT3 := hidb (lenB (HT6.out.keep (HW3.out.trans (((Below.refl _ W3).drew).mono HW3.out.size))).bx)
        simp only [List.length_append, List.length_cons, List.length_nil, hml] at HT3
        have HS0 : Hid (W3.drew.cell? ⟨A, 0, none⟩ = some (.slice a kids.length c)) := hidb kl3
        have sl : IntKind.i64.wrap ((kids.length : Int) + 1) = (kids.length : Int) + 1 := HMW.out kids.length (by have := HL.out; omega)
        clear kl2 kl5 kl3
        refine wp_region_N (fun Wz => Wz.cell? ⟨A, 0, none⟩ = some (.slice a kids.length c)) [6] (by kernel_rfl) ?_
        refine wpAnyD_takeL (i := 0) (v := ?vv0b) rfl (by kernel_rfl) (by kernel_rfl) (by kernel_rfl) (by kernel_rfl) (fun _ _ _ h => by cases h.1) HS0.out rfl ?hy0b ?_
        case hy0b => intro wy hSw; go_simp; try with_reducible rfl
        simp only [Act.put, List.setIfInBounds_toArray, List.set_cons_zero, List.set_cons_succ]
        refine wpAnyD_takeL (i := 2) (v := ?vv2b) rfl (by kernel_rfl) (by kernel_rfl) (by kernel_rfl) (by kernel_rfl) (fun _ _ _ h => by cases h.1) HS0.out rfl ?hy2b ?_
        case hy2b => intro wy hSw; go_simp; try with_reducible rfl
        simp only [Act.put, List.setIfInBounds_toArray, List.set_cons_zero, List.set_cons_succ]
        refine wpAnyD_takeL (i := 3) (v := ?vv3b) rfl (by kernel_rfl) (by kernel_rfl) (by kernel_rfl) (by kernel_rfl) (fun _ _ _ h => by cases h.1) HS0.out rfl ?hy3b ?_
        case hy3b => intro wy hSw; go_simp; try with_reducible rfl
        simp only [Act.put, List.setIfInBounds_toArray, List.set_cons_zero, List.set_cons_succ]
        refine wpAnyD_takeL (i := 4) (v := ?vv4b) rfl (by kernel_rfl) (by kernel_rfl) (by kernel_rfl) (by kernel_rfl) (fun _ _ _ h => by cases h.1) HS0.out rfl ?hy4b ?_
        case hy4b => intro wy hSw; go_simp; try with_reducible rfl
        simp only [Act.put, List.setIfInBounds_toArray, List.set_cons_zero, List.set_cons_succ]
        refine wpAnyD_stepL (i := 1) (by kernel_rfl) rfl (fun K hK => ?_)
        refine step_callG (by simp [Region.wanted]) (run_call ent_len #[.tmp 131] _ rfl #[.pointer (some ⟨bb, 0, none⟩)] rfl) HT3.out ?_
        rintro e W5 ⟨rfl, rfl⟩
        refine hK _ _ (fun _ => HS0.out) ?_
        clear hK K
        simp only [Act.put, List.setIfInBounds_toArray, List.set_cons_zero, List.set_cons_succ]
        refine wpAnyD_takeL (i := 5) (v := ?vv5b) rfl (by kernel_rfl) (by kernel_rfl) (by kernel_rfl) (by kernel_rfl) (fun _ _ _ h => by cases h.1) HS0.out rfl ?hy5b ?_
        case hy5b => intro wy hSw; go_simp; try with_reducible rfl
        simp only [Act.put, List.setIfInBounds_toArray, List.set_cons_zero, List.set_cons_succ]
        refine wpAnyD_stepL (i := 6) (by kernel_rfl) rfl (fun K hK => ?_)
        go_simp
        refine hK _ _ (fun h => absurd (List.mem_singleton.2 rfl) h) ?_
        clear hK K
        refine wpAnyD_done (by kernel_rfl) ?_ _
        refine ⟨rfl, ?_⟩
        go_wp2_with fail
        have hset : But (fun k => k = A + 1 + 1) W3 (W3.setCell ⟨A + 1 + 1, 0, none⟩ (.bool true)).drew := ((But.refl (fun k => k = A + 1 + 1) W3).setCell (p := ⟨A + 1 + 1, 0, none⟩) (fun _ => rfl) (.bool true)).drew
        have hA5 : A + 1 + 1 < w5.heap.size := World.block_lt_of_cell? _ _ kr5
        have hdf : De < W.heap.size ∧ W.heap.size + 2 ≤ Df ∧ w5.heap.size ≤ De := ⟨(Array.getElem?_eq_some_iff.1 HKe.out.2.1).1, by have := HKf.out.1; simp at this; omega, by have := HKe.out.1; simp at this; omega⟩
        have hw5 : w5.heap.size ≤ W.heap.size := HW.out.size
        have hlt1 := (Array.getElem?_eq_some_iff.1 HKE3.out.1).1
        have hlt2 := (Array.getElem?_eq_some_iff.1 HKE3.out.2).1
        refine retM [Df, De] rfl (fun D hD => ?_) (by simp; omega) (fun W' hb => ?_)
        · rcases List.mem_cons.1 hD with e | hD
          · subst e; exact (hset.block D hlt2 (by omega)).trans HKE3.out.2
          · obtain rfl : D = De := by simpa using hD
            exact (hset.block D hlt1 (by omega)).trans HKE3.out.1
        · have kr6 : W'.cell? ⟨A + 1 + 1, 0, none⟩ = some (.bool true) := (hb.cell (p := ⟨A + 1 + 1, 0, none⟩) (by have := World.block_lt_of_cell? _ _ kr3; simpa using this) (by simp; omega)).trans (World.cell?_setCell_same _ _ _ kr3)
          refine ⟨.bool true, by simp [results, Try.results4, go_sem, kr6], rfl, ?_⟩
          rw [HA.out]
          have hw3 : Below A w W3 := HBN.out.trans ((HT6.out.bel.trans (HW3.out.mono HT6.out.bel.size)).mono (by have := HC.out.2.2.2.2; omega))
          have h1 : Below A w (W3.setCell ⟨A + 1 + 1, 0, none⟩ (.bool true)).drew := (hw3.setCell (by simp; omega) _).drew
          exact h1.trans (hb.below (by have := h1.size; have := HA.out; omega) (fun k hk => by
            rcases List.mem_cons.1 hk with e | hk
            · omega
            · have : k = De := by simpa using hk
              omega))
  · have hF : (decide (kids.length ≤ 400) && decide (0 ≤ fewAll kids 60000 1000)) = false := by simpa using hfew
    rw [hF] at FW
    clear hF hfew
    go_wp2_with (first
      | (go_at_call 7; refine (newB _ (by decide) (by decide) _).mono ?_; rintro e w3 ⟨rfl, rfl⟩)
      | (go_at_call 8; refine (FW.out _ (below_new wr _)).mono ?_; rintro e w4 ⟨rfl, hb4⟩; have HB4 := hidb (HB.out.trans (((below_new wr _).trans (hb4.mono (by simp))).mono HB.out.size)); have kl4 := (HB4.out.cell (p := ⟨A, 0, none⟩) HC.out.2.2.2.1).trans HC.out.1; have kr := (HB4.out.cell (p := ⟨A + 1 + 1, 0, none⟩) (show A + 1 + 1 < W0.heap.size by have := HC.out.2.2.2.2; omega)).trans HC.out.2.2.1.1; have fr := (HB4.out.frozen (p := ⟨A + 1 + 1, 0, none⟩) (show A + 1 + 1 < W0.heap.size by have := HC.out.2.2.2.2; omega)).trans HC.out.2.2.1.2; clear hb4))
    refine retM [] rfl (by simp) (by simp) (fun W' hb => ?_)
    have kr2 := out_cell kr hb
    exact ⟨.bool true, by simp [results, Try.results4, go_sem, kr2], rfl, HA.out ▸ out_bel kr (HBN.out.trans (HB4.out.mono (by have := HC.out.2.2.2.2; omega))) hb⟩
end Go.Proofs.Ytggpbfmdhenjdaa


/- A term that is handed in, opened: a tree whose rows are no longer than the reading's reach. -/
namespace Go.Proofs.Ytggpbfmdhenjdaa
open Go.Deep Go.ChangeShapes Go.WideShapes

theorem smallWAll_of {kids : List Tr} (h : ∀ t, t ∈ kids → SmallW t) : SmallWAll kids := by
  induction kids with
  | nil => simp [SmallWAll]
  | cons u r ih => simp only [SmallWAll]; exact ⟨h u (by simp), ih (fun t ht => h t (by simp [ht]))⟩

section
variable {H : Type} {enc : TypeId × Value → H} {P : Program} {w : World} {base : Nat} {spare : Nat → Bool} {held : Bool}

theorem weightsAll_mem {e : TypeId} : ∀ {l : List (DataW H)} {d : DataW H}, d ∈ l → ∀ x, x ∈ d.weights P e → x ∈ DataW.weightsAll P e l
  | [], _, h, _, _ => by simp at h
  | u :: r, d, h, x, hx => by
    unfold DataW.weightsAll
    rcases List.mem_cons.1 h with rfl | h
    · exact List.mem_append_left _ hx
    · exact List.mem_append_right _ (weightsAll_mem h x hx)

theorem open_sized {e : TypeId} (T : TermType P e) (hby : 1 ≤ P.bytesOf e) : ∀ (fuel : Nat) (cs : List Value) (x : DataW H × List MemPlace), DataW.trod enc P w base spare held fuel e cs = some x →
    ∃ t : Tr, cs = t.cells ∧ t.In w base ∧ ((∀ q, q ∈ x.1.weights P e → q ≤ reachBytes) → SmallW t) := by
  intro fuel
  induction fuel using Nat.strongRecOn with
  | ind fuel ih =>
  intro cs x h
  obtain ⟨xs, n, hn, hx, hlen, hxl, hf⟩ := DataW.trod_struct T.under h
  rw [T.size] at hlen
  match xs, hxl, cs, hlen with
  | [y0, y1, y2, y3, y4], _, [v0, v1, v2, v3, v4], _ =>
    have g0 := hf 0 T.f0 rfl
    have g1 := hf 1 T.f1 rfl
    have g2 := hf 2 T.f2 rfl
    have g3 := hf 3 T.f3 rfl
    have g4 := hf 4 T.f4 rfl
    simp [T.o0, T.o1, T.o2, T.o3, T.o4, T.c0, T.c1, T.c2, T.c3, T.c4] at g0 g1 g2 g3 g4
    obtain ⟨k, e0, _, w0⟩ := DataW.trod_int T.u0 g0
    obtain ⟨m, e1, _, w1⟩ := DataW.trod_int T.u1 g1
    obtain ⟨f, e2, _, w2⟩ := trod_float T.u2 g2
    obtain ⟨s, e3, _, w3⟩ := DataW.trod_string T.u3 g3
    obtain rfl : v0 = .int .i64 k := by simpa using e0
    obtain rfl : v1 = .int .i64 m := by simpa using e1
    obtain rfl : v2 = .float .f64 f := by simpa using e2
    obtain rfl : v3 = .string s := by simpa using e3
    have hsub : ∀ q, q ∈ y4.1.weights P T.f4.type → q ∈ x.1.weights P e := by
      intro q hq
      rw [hx]
      simp only [DataW.weights, T.under, List.map_cons, List.map_nil, DataW.weightsEach, List.mem_append]
      simp [hq]
    rcases DataW.trod_slice T.u4 g4 with ⟨e4, _⟩ | ⟨a, len, cap, elems, rest, q, hq, e4, hy4, hb, hl, hm, hel, hx4, _, _⟩
    · obtain rfl : v4 = .slice none 0 0 := by simpa using e4
      refine ⟨.mk k m f s none 0 [], rfl, ?_, fun _ => by simp [SmallW, SmallWAll]⟩
      unfold Tr.In
      exact ⟨⟨w0, w1, w2, w3, Nat.le_refl _, Nat.zero_le _, fun _ => rfl⟩, fun ad h => by simp at h⟩
    · obtain rfl : v4 = .slice (some a) len cap := by simpa using e4
      have each : ∀ i, i < len → ∃ t : Tr, (∀ j, j < 5 → w.cell? ((a.add (i * 5)).add j) = t.cells[j]?) ∧ t.In w base ∧ ((∀ q, q ∈ x.1.weights P e → q ≤ reachBytes) → SmallW t) := by
        intro i hi
        have hb := hx4 i hi
        have hsome : elems[i]? = some (elems[i]'(by omega)) := List.getElem?_eq_getElem (by omega)
        rw [hsome, T.size, Option.bind_eq_some_iff] at hb
        obtain ⟨cs', hc, ht⟩ := hb
        obtain ⟨t, ht1, ht2, ht3⟩ := ih q (by omega) cs' _ ht
        refine ⟨t, fun j hj => ?_, ht2, fun hall => ht3 (fun z hz => hall z (hsub z ?_))⟩
        · have := (World.cells?_some hc).2.2 j hj
          rw [this, ht1]
        · rw [hy4]
          simp only [DataW.weights, T.u4, List.mem_cons, List.mem_append]
          exact .inr (.inl (weightsAll_mem (List.mem_map_of_mem (List.getElem_mem _)) z hz))
      obtain ⟨tf, htf⟩ : ∃ tf : Nat → Tr, ∀ i, i < len → (∀ j, j < 5 → w.cell? ((a.add (i * 5)).add j) = (tf i).cells[j]?) ∧ (tf i).In w base ∧ ((∀ q, q ∈ x.1.weights P e → q ≤ reachBytes) → SmallW (tf i)) := by
        refine ⟨fun i => if h : i < len then Classical.choose (each i h) else .mk 0 0 0 ⟨#[]⟩ none 0 [], fun i hi => ?_⟩
        simp only [hi, dif_pos]
        exact Classical.choose_spec (each i hi)
      refine ⟨.mk k m f s (some a) cap ((List.range len).map tf), by simp [Tr.cells], ?_, fun hall => ?_⟩
      · unfold Tr.In
        refine ⟨⟨w0, w1, w2, w3, by simpa using hl, hm, fun h => by simp at h⟩, fun ad had => ?_⟩
        obtain rfl : a = ad := by simpa using had
        refine ⟨hb, inAll_of fun j t hj => ?_⟩
        have hj' : j < len := by
          rcases Nat.lt_or_ge j len with h | h
          · exact h
          · rw [List.getElem?_eq_none (by simpa using h)] at hj; simp at hj
        rw [List.getElem?_map, List.getElem?_range hj'] at hj
        obtain rfl : tf j = t := by simpa using hj
        exact ⟨(htf j hj').1, (htf j hj').2.1⟩
      · simp only [SmallW]
        refine ⟨?_, smallWAll_of fun t ht => ?_⟩
        · have h9 := hall ((elems.length + rest.length) * P.bytesOf e) (hsub _ (by
            rw [hy4]
            simp only [DataW.weights, T.u4, List.mem_cons, List.length_map]
            exact .inl trivial))
          have h8 : elems.length + rest.length ≤ (elems.length + rest.length) * P.bytesOf e := Nat.le_mul_of_pos_right _ hby
          have h7 : reachBytes = 140737488351232 := rfl
          rw [List.length_map, List.length_range]
          omega
        · obtain ⟨i, hi, rfl⟩ := List.mem_map.1 ht
          exact (htf i (by simpa using hi)).2.2 hall
end
end Go.Proofs.Ytggpbfmdhenjdaa
namespace Go.Proofs.Ytggpbfmdhenjdaa
open Go.ChangeShapes Go.WideShapes Go.ChangeAt Go.WideMaps Go.WideElems Go.RowKit

set_option maxRecDepth 100000
theorem laidOut : laidOutB Try.prog = true := by kernel_rfl
theorem termCells : Try.prog.cellTypes Try.prog.depth 27 = some [3, 2, 25, 9, 22] := by kernel_rfl
theorem termSize : Try.prog.cellsOf 27 = 5 := by kernel_rfl

theorem value_of_cell {P : Program} {W : World} {r : Reach} {base : Nat} {t : TypeId} {d : TypeDesc} {v : Value} (hd : P.underlying t = some d) (h1 : ∀ fs, d ≠ .struct fs) (h2 : ∀ n e, d ≠ .array n e) (h : Cell.okWide P W r base t v) : Value.okWide P W r base t v := by
  unfold Value.okWide
  rw [hd]
  cases d <;> first | exact h | exact absurd rfl (h1 _) | exact absurd rfl (h2 _ _)

theorem float_lt {P : Program} {W : World} {r : Reach} {base : Nat} {t : TypeId} {f : Nat} (ht : P.underlying t = some (.float .f64)) (h : Value.okWide P W r base t (.float .f64 f)) : f < 2 ^ 64 := by
  simp only [Value.okWide, ht, Cell.okWide, Cell.ok] at h
  simpa [FloatKind.has] using h

theorem term_form {W : World} {base : Nat} {v : Value} (h : Value.okWide Try.prog W .any base 27 v) :
    ∃ (k n : Int) (f : Nat) (s : ByteArray) (a : Option Addr) (l c : Nat), v = .agg #[.int .i64 k, .int .i64 n, .float .f64 f, .string s, .slice a l c] ∧ f < 18446744073709551616 := by
  simp only [Value.okWide, Try.underlying27] at h
  obtain ⟨cs, rfl, hsz, ts, hts, _, hc⟩ := h
  obtain rfl := Option.some.inj (termCells.symm.trans hts)
  rw [termSize] at hsz
  obtain ⟨l⟩ := cs
  match l, hsz with
  | [c0, c1, c2, c3, c4], _ =>
    obtain ⟨u0, e0, g0⟩ := hc 0 c0 rfl
    obtain ⟨u1, e1, g1⟩ := hc 1 c1 rfl
    obtain ⟨u2, e2, g2⟩ := hc 2 c2 rfl
    obtain ⟨u3, e3, g3⟩ := hc 3 c3 rfl
    obtain ⟨u4, e4, g4⟩ := hc 4 c4 rfl
    obtain rfl : 3 = u0 := Option.some.inj e0
    obtain rfl : 2 = u1 := Option.some.inj e1
    obtain rfl : 25 = u2 := Option.some.inj e2
    obtain rfl : 9 = u3 := Option.some.inj e3
    obtain rfl : 22 = u4 := Option.some.inj e4
    have v0 : Value.okWide Try.prog W .any base 3 c0 := value_of_cell Try.underlying3 (by simp) (by simp) g0
    have v1 : Value.okWide Try.prog W .any base 2 c1 := value_of_cell Try.underlying2 (by simp) (by simp) g1
    have v2 : Value.okWide Try.prog W .any base 25 c2 := value_of_cell Try.underlying25 (by simp) (by simp) g2
    have v3 : Value.okWide Try.prog W .any base 9 c3 := value_of_cell Try.underlying9 (by simp) (by simp) g3
    have v4 : Value.okWide Try.prog W .any base 22 c4 := value_of_cell Try.underlying22 (by simp) (by simp) g4
    obtain ⟨k, rfl⟩ := okWide_int Try.underlying3 v0
    obtain ⟨n, rfl⟩ := okWide_int Try.underlying2 v1
    obtain ⟨f, rfl⟩ := okWide_float Try.underlying25 v2
    obtain ⟨s, rfl⟩ := okWide_string Try.underlying9 v3
    obtain ⟨a, l, c, rfl⟩ := okWide_slice Try.underlying22 v4
    exact ⟨k, n, f, s, a, l, c, rfl, float_lt Try.underlying25 v2⟩


theorem open_val {H : Type} {enc : TypeId × Value → H} {W : World} {base : Nat} {v : Value} {d : DataW H} {ps : List MemPlace} (hv : Value.okWide Try.prog W .any base 27 v) (h : DataW.Trod enc Try.prog W 0 (fun _ => true) true 27 v d ps) :
    ∃ t : Tr, v = t.val ∧ t.In W 0 ∧ ((∀ q, q ∈ d.weights Try.prog 27 → q ≤ reachBytes) → SmallW t) := by
  obtain ⟨k, n, f, s, a, l, c, rfl, _⟩ := term_form hv
  obtain ⟨fuel, hf⟩ := h
  obtain ⟨t, h1, h2, h3⟩ := open_sized termType (of_decide_eq_true (by kernel_rfl)) fuel _ _ hf
  refine ⟨t, ?_, h2, h3⟩
  unfold Tr.val
  rw [← h1]
  rfl
end Go.Proofs.Ytggpbfmdhenjdaa


