import Derived.Test.YtmijabhnbmmmfaaGreatG37
import Derived.Test.YtmijabhnbmmmfaaGreatG41
import Derived.Test.YtmijabhnbmmmfaaGreatG42
import Derived.Test.YtmijabhnbmmmfaaGreatG25
import Derived.ProofKit
import Derived.OpenShut
/- HeapForged. -/
namespace Go.Proofs.YtmijabhnbmmmfaaGreat
open Go.RowKit Go.Deep
attribute [local go_sem] store_float f64bits f64frombits
attribute [local go_sem ↓] Go.wp_at_zero Go.wp_at_succ

/-- A row of words that was handed in. -/
structure Wds (w : World) (a : Option Addr) (xs : List Int) : Prop where
  r64 : ∀ x, x ∈ xs → In64 x
  at_ : 0 < xs.length → ∃ b o, a = some ⟨b, o, none⟩ ∧ b < w.heap.size ∧ ∀ (j : Nat) (x : Int), xs[j]? = some x → w.cell? ⟨b, o + j, none⟩ = some (.int .u64 x)

theorem fine_4 (w : World) : Calls Tryz.prog 20 #[.int .i64 4] w fun en w' => en = .returned (.bool false) ∧ w' = w := fine_any 4 w
theorem fine_0 (w : World) : Calls Tryz.prog 20 #[.int .i64 0] w fun en w' => en = .returned (.bool true) ∧ w' = w := fine_any 0 w

theorem twin_zero (w : World) : Calls Tryz.prog 21 #[.agg #[.int .i64 0, .int .i64 0, .float .f64 0, .string ⟨#[]⟩, .slice none 0 0], .agg #[.int .i64 0, .int .i64 0, .float .f64 0, .string ⟨#[]⟩, .slice none 0 0]] w fun e w' => e = .returned (.bool true) ∧ Below w.heap.size w w' :=
  twin_same (.mk 0 0 0 ⟨#[]⟩ none 0 []) (.mk 0 0 0 ⟨#[]⟩ none 0 []) (by unfold Same SameAll; exact ⟨rfl, rfl, rfl, rfl, trivial⟩) w (leaf_in w 0 0 0 ⟨#[]⟩ (by decide) (by decide) (by decide) (Nat.zero_le _)) (leaf_in w 0 0 0 ⟨#[]⟩ (by decide) (by decide) (by decide) (Nat.zero_le _))

set_option maxHeartbeats 2000000 in
set_option maxRecDepth 100000 in
theorem heapForged_any (a : Option Addr) (c : Nat) (kids : List Tr) (a' : Option Addr) (c' : Nat) (xs : List Int) (w : World) (hin : (Tr.mk 0 0 0 ⟨#[]⟩ a c kids).In w 0) (hx : Wds w a' xs) :
    Calls Tryz.prog 7 #[.slice a kids.length c, .slice a' xs.length c'] w fun e w' => e = .returned (.bool true) ∧ Below w.heap.size w w' := by
  have KN := hidb known4_any
  have RR := hidb (fun w' (hb : Below w.heap.size w w') => right_row a c kids w' (in_below hb hin))
  obtain ⟨R, hR⟩ : ∃ R, (decide (kids.length ≤ 40) && decide (0 ≤ fewT (.mk 0 0 0 ⟨#[]⟩ a c kids) 60000 1000) && allOk kids) = R := ⟨_, rfl⟩
  rw [hR] at RR
  cases R with
  | false =>
    clear hR hin hx
    go_enter Tryz.func7, Tryz.ntmps7
    go_wp2_with (first
      | (go_at_call 8; refine (KN.out _).mono ?_; rintro e w1 ⟨rfl, hb1⟩; have HB1 := hidb hb1; clear hb1)
      | (go_at_call 16; refine (RR.out _ HB1.out).mono ?_; rintro e w2 ⟨rfl, hb2⟩; have HB2 := hidb (HB1.out.trans (hb2.mono HB1.out.size)); clear hb2))
    go_ret
    exact ⟨rfl, HB2.out⟩
  | true =>
  simp only [Bool.and_eq_true, decide_eq_true_eq] at hR
  obtain ⟨⟨h40, hfew⟩, hall⟩ := hR
  have CX := hidb (show FullCx w a c kids from ⟨hin, (few_small _ _ _ (by omega) hfew).1, h40, by have := few_cnt _ _ _ hfew; simp only [cntT] at this; have := (fewT_le (.mk 0 0 0 ⟨#[]⟩ a c kids) 60000 1000 (by omega)).1; omega, hall⟩)
  have HX := hidb hx
  clear hin hfew hall hx
  by_cases h100 : 100 < xs.length
  · have hz : (100 : Int) < (xs.length : Int) := by omega
    clear h100
    go_enter Tryz.func7, Tryz.ntmps7
    go_wp2_with (first
      | (go_at_call 8; refine (KN.out _).mono ?_; rintro e w1 ⟨rfl, hb1⟩; have HB1 := hidb hb1; clear hb1)
      | (go_at_call 16; refine (RR.out _ HB1.out).mono ?_; rintro e w2 ⟨rfl, hb2⟩; have HB2 := hidb (HB1.out.trans (hb2.mono HB1.out.size)); clear hb2))
    go_ret
    exact ⟨rfl, HB2.out⟩
  have hz : ¬ (100 : Int) < (xs.length : Int) := by omega
  go_enter Tryz.func7, Tryz.ntmps7
  go_wp2_with (first
    | (go_at_call 8; refine (KN.out _).mono ?_; rintro e w1 ⟨rfl, hb1⟩; have HB1 := hidb hb1; clear hb1)
    | (go_at_call 16; refine (RR.out _ HB1.out).mono ?_; rintro e w2 ⟨rfl, hb2⟩; have HB2 := hidb (HB1.out.trans (hb2.mono HB1.out.size)); clear hb2)
    | (go_at_call 17; refine (stored_any CX.out HB2.out).mono ?_; rintro e w3 ⟨hb, ab, ws, L, F, a2, c2, us, vo, rfl, hst, -⟩; have HST := hidb hst; clear hst))
  clear RR KN HB1 HB2 hz
  have HLL := hidb (show L.length ≤ 100000 by have := HST.out.ll; have := cntAll_take_le kids kids.length; have := CX.out.cnt; omega)
  go_loopw [7] (fun iv wr => ∃ (m : Nat), m ≤ xs.length ∧ iv = .int .i64 m ∧ Below w3.heap.size w3 wr) (fun iv _ => xs.length - (intOf iv).toNat)
  case atStart => exact ⟨0, by omega, rfl, Below.refl _ _⟩
  case round =>
  obtain ⟨m, hm, rfl, hby⟩ := hrel
  have HBY := hidb hby
  have HBW := hidb (HST.out.be.trans (hby.mono HST.out.be.size))
  clear hby
  by_cases hml : m < xs.length
  · have hmb : (m : Int) < (xs.length : Int) := by omega
    have hmz : (0 : Int) ≤ (m : Int) := by omega
    obtain ⟨b, o, rfl, hbl, hcell⟩ := HX.out.at_ (by omega)
    obtain ⟨x, hxm⟩ : ∃ x, xs[m]? = some x := ⟨_, List.getElem?_eq_getElem hml⟩
    have v0 := (HBW.out.cell (p := ⟨b, o + m, none⟩) hbl).trans (hcell m x hxm)
    obtain ⟨x0, x1⟩ := HX.out.r64 x (List.mem_of_getElem? hxm)
    have LD := hidb (load_any wr x (HST.out.hp.keep HBY.out) HLL.out (fun i s hi => HST.out.tx s (List.mem_of_getElem? hi)) (fun i y hi => HST.out.w64 y (List.mem_of_getElem? hi)) x0 x1)
    clear hcell hxm hbl
    go_wp2_with fail
    refine LD.out.mono ?_
    rintro e w5 ⟨hb5, rfl | ⟨⟨k, n, f, s, a3, c3, ks⟩, rfl, hin5, he5, hs5⟩⟩
    · have HB5 := hidb (HBY.out.trans (hb5.mono HBY.out.size))
      clear hb5 LD v0
      go_wp2_with (first
        | (go_at_call 20; refine (fine_4 _).mono ?_; rintro e w' ⟨rfl, hw'⟩; obtain rfl := hw'.symm)
        | (go_at_call 21; refine (twin_zero _).mono ?_; rintro e w7 ⟨rfl, hb7⟩; have HB7 := hidb (HB5.out.trans ((below_in hb7).mono HB5.out.size)); clear hb7))
      go_roundw
      case rel => exact ⟨m + 1, by omega, by go_num, HB7.out⟩
      case measure => simp [intOf]; omega
    · have HB5 := hidb (HBY.out.trans (hb5.mono HBY.out.size))
      have CK := hidb (fun w' (hb' : Below w5.heap.size w5 w') => check_t (.mk k n f s a3 c3 ks) w' (in_below hb' (in_mono (Nat.zero_le _) _ hin5)) hs5)
      rw [he5] at CK
      clear hb5 LD v0 hin5 he5 hs5
      simp only [Tr.val, Tr.cells] at CK ⊢
      go_wp2_with (first
        | (go_at_call 20; refine (fine_0 _).mono ?_; rintro e w' ⟨rfl, hw'⟩; obtain rfl := hw'.symm)
        | (go_at_call 27; refine (CK.out _ (below_new _ _)).mono ?_; rintro e w7 ⟨rfl, hb7⟩; have HB7 := hidb (HB5.out.trans ((below_in hb7).mono HB5.out.size)); clear hb7))
      go_roundw
      case rel => exact ⟨m + 1, by omega, by go_num, HB7.out⟩
      case measure => simp [intOf]; omega
  · have hmn : ¬ (m : Int) < (xs.length : Int) := by omega
    go_wp2_with fail
    go_ret
    exact ⟨rfl, HBW.out⟩
end Go.Proofs.YtmijabhnbmmmfaaGreat


/- A row of terms that is handed in, opened. -/
namespace Go.Proofs.YtmijabhnbmmmfaaGreat
open Go.ChangeShapes Go.WideShapes Go.ChangeAt Go.WideMaps Go.WideElems Go.RowKit

theorem open_row {H : Type} {enc : TypeId × Value → H} {P : Program} {w : World} {base : Nat} {spare : Nat → Bool} {held : Bool} {e u : TypeId} (T : TermType P e) (hu : P.underlying u = some (.slice e)) {fuel : Nat} {cs : List Value} {x : DataW H × List MemPlace} (h : DataW.trod enc P w base spare held fuel u cs = some x) :
    ∃ (a : Option Addr) (c : Nat) (kids : List Tr), cs = [.slice a kids.length c] ∧ (Tr.mk 0 0 0 ⟨#[]⟩ a c kids).In w base := by
  rcases DataW.trod_slice hu h with ⟨e4, _⟩ | ⟨a, len, cap, elems, rest, q, hq, e4, _, hb, hl, hm, hel, hx4, _, _⟩
  · refine ⟨none, 0, [], e4, ?_⟩
    unfold Tr.In
    exact ⟨⟨by decide, by decide, by decide, by show (0 : Nat) ≤ maxLen; exact Nat.zero_le _, Nat.le_refl _, Nat.zero_le _, fun _ => rfl⟩, fun ad h => by simp at h⟩
  · have each : ∀ i, i < len → ∃ t : Tr, (∀ j, j < 5 → w.cell? ((a.add (i * 5)).add j) = t.cells[j]?) ∧ t.In w base := by
      intro i hi
      have hb := hx4 i hi
      have hsome : elems[i]? = some (elems[i]'(by omega)) := List.getElem?_eq_getElem (by omega)
      rw [hsome, T.size, Option.bind_eq_some_iff] at hb
      obtain ⟨cs', hc, ht⟩ := hb
      obtain ⟨t, ht1, ht2⟩ := open_term T q cs' _ ht
      refine ⟨t, fun j hj => ?_, ht2⟩
      have := (World.cells?_some hc).2.2 j hj
      rw [this, ht1]
    obtain ⟨tf, htf⟩ : ∃ tf : Nat → Tr, ∀ i, i < len → (∀ j, j < 5 → w.cell? ((a.add (i * 5)).add j) = (tf i).cells[j]?) ∧ (tf i).In w base := by
      refine ⟨fun i => if h : i < len then Classical.choose (each i h) else .mk 0 0 0 ⟨#[]⟩ none 0 [], fun i hi => ?_⟩
      simp only [hi, dif_pos]
      exact Classical.choose_spec (each i hi)
    refine ⟨some a, cap, (List.range len).map tf, by rw [e4]; simp, ?_⟩
    unfold Tr.In
    refine ⟨⟨by decide, by decide, by decide, by show (0 : Nat) ≤ maxLen; exact Nat.zero_le _, by simpa using hl, hm, fun h => by simp at h⟩, fun ad had => ?_⟩
    obtain rfl : a = ad := by simpa using had
    refine ⟨hb, inAll_of fun j t hj => ?_⟩
    have hj' : j < len := by
      rcases Nat.lt_or_ge j len with h | h
      · exact h
      · rw [List.getElem?_eq_none (by simpa using h)] at hj; simp at hj
    rw [List.getElem?_map, List.getElem?_range hj'] at hj
    obtain rfl : tf j = t := by simpa using hj
    exact htf j hj'

end Go.Proofs.YtmijabhnbmmmfaaGreat


