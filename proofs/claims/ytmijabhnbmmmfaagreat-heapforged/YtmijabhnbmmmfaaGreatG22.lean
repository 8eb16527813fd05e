import Derived.Test.YtmijabhnbmmmfaaGreatG21
import Derived.Lib.AppendZerosOnto
import Derived.Lib.AppendZeros
import Derived.Laws.Append
import Derived.Laws.AppendOwn
import Derived.Lib.SliceRun
import Derived.Lib.Walk
/- The words that are measured are those that are laid; Grow; the table. -/
namespace Go.Proofs.YtmijabhnbmmmfaaGreat
open Go.RowKit Go.Deep
attribute [local go_sem] store_float f64bits
attribute [local go_sem ↓] Go.wp_at_zero Go.wp_at_succ

theorem meas_words : ∀ (t : Tr), allT goodT t = true → ∀ d most : Int, 0 ≤ meas t d most → meas t d most = wN t := by
  refine Tr.ind fun k n f s a c kids hk hg d most hm => ?_
  simp only [allT, Bool.and_eq_true] at hg
  obtain ⟨hg1, hg2⟩ := hg
  have hall : ∀ (l : List Tr), (∀ t, t ∈ l → t ∈ kids) → ∀ d most n : Int, 0 ≤ measAll l d most n → measAll l d most n = n + wAll l := by
    intro l
    induction l with
    | nil => intro _ d most n _; simp [measAll, wAll]
    | cons t r ih =>
      intro hl d most n h
      simp only [measAll] at h ⊢
      by_cases hn : meas t d (most - n) < 0
      · rw [if_pos hn] at h; omega
      · rw [if_neg hn] at h ⊢
        have e := hk t (hl t (List.mem_cons_self ..)) (good_kids hg2 (hl t (List.mem_cons_self ..))) d (most - n) (by omega)
        rw [ih (fun u hu => hl u (List.mem_cons_of_mem _ hu)) _ _ _ h, e]
        simp only [wAll]
        omega
  simp only [meas] at hm ⊢
  by_cases hc : d < 1 ∨ own k kids.length > most
  · rw [if_pos hc] at hm; omega
  rw [if_neg hc] at hm ⊢
  rw [hall kids (fun t h => h) _ _ _ hm]
  simp only [wN]
  by_cases h1 : k = 1
  · have e0 : kids = [] := by
      subst h1; simp [goodT] at hg1; exact List.length_eq_zero_iff.1 (rightB_cases0 hg1).2.1
    simp [h1, e0, own, wAll]
  by_cases h6 : k = 6
  · have e0 : kids = [] := by subst h6; simp [goodT] at hg1; exact hg1.2.2
    simp [h6, e0, own, wAll]
  by_cases h3 : k = 3
  · have e0 : kids = [] := by subst h3; simp [goodT] at hg1; exact hg1.2.2
    simp [h3, e0, own, wAll]
  by_cases h8 : k = 8
  · subst h8; simp [own]
  by_cases h2 : k = 2
  · have e0 : kids = [] := by
      subst h2; simp [goodT] at hg1; exact List.length_eq_zero_iff.1 (rightB_cases0 hg1).2.1
    subst h2; subst e0; simp [own, wAll, front]
  by_cases h4 : k = 4
  · have e0 : kids = [] := by subst h4; simp [goodT] at hg1; exact hg1.2.2
    subst h4; subst e0; simp [own, wAll, front]
  by_cases h5 : k = 5
  · subst h5; simp [own, front]
  simp only [own, front, h1, h2, h3, h4, h5, h6, h8, if_false, or_self, List.length_cons, List.length_nil]
  omega

/-- A right term: what it is measured at is what is laid. -/
theorem words_right {t : Tr} (h : errT t = 0) : allT goodT t = true ∧ wordsT t = wN t ∧ wN t ≤ 65536 := by
  have h' := h
  unfold errT at h'
  by_cases hm : meas t 200 65536 < 0
  · rw [if_pos hm] at h'; omega
  rw [if_neg hm] at h'
  have hg : allT goodT t = true := by
    cases hq : allT goodT t with
    | true => rfl
    | false => rw [hq] at h'; simp at h'
  have e := meas_words t hg 200 65536 (by omega)
  refine ⟨hg, ?_, ?_⟩
  · unfold wordsT; rw [if_pos h, e]
  · rcases agree_start goodT t with ⟨q, _⟩ | ⟨_, q, _⟩ <;> omega

theorem infoW : (Tryz.prog.info? 51).map (fun i => (i.zero, i.size, i.bytes)) = some (some (.int .u64 0), 1, 8) := by kernel_rfl

set_option maxHeartbeats 2000000 in
set_option maxRecDepth 100000 in
theorem grow_room (base : Option Addr) (l c n : Nat) (w : World) (hlc : l ≤ c) (hc63 : c ≤ 9223372036854775807) (hn : n ≤ 65536) (hroom : l + n ≤ c) :
    Calls Tryz.prog 41 #[.slice base l c, .int .i64 n] w fun e w' => e = .returned (.slice base l c) ∧ w' = w := by
  have h1 : ¬ ((n : Int) < 0) := by omega
  have h4 : ¬ ((n : Int) - ((c : Int) - (l : Int)) > 0) := by omega
  go_enter Tryz.func41, Tryz.ntmps41
  go_wp2
  go_ret
  exact ⟨rfl, rfl⟩

set_option maxHeartbeats 4000000 in
set_option maxRecDepth 100000 in
theorem grow_grow (base : Option Addr) (l c n : Nat) (cs : List Value) (w : World) (hlc : l ≤ c) (hn : n ≤ 65536) (hl : l ≤ 16777216) (hroom : c < l + n) (hcl : cs.length = c) (hnil : base = none → c = 0) (hcs : ∀ a, base = some a → ∀ j v, cs[j]? = some v → w.cell? (a.add j) = some v) :
    Calls Tryz.prog 41 #[.slice base l c, .int .i64 n] w fun e w' => ∃ G, l + n ≤ G ∧ G ≤ 9223372036854775807 ∧ e = .returned (.slice (some ⟨w.heap.size, 0, none⟩) l G) ∧
      w' = w.drew.alloc (.cells (cs.toArray ++ Builtin.zeroCells #[.int .u64 0] (l + n - c) ++ Builtin.zeroCells #[.int .u64 0] (G - (l + n))) 51) := by
  obtain ⟨i0, hi0, hz0, hs0, hb0⟩ : ∃ i0, Tryz.prog.info? 51 = some i0 ∧ i0.zero = some (.int .u64 0) ∧ i0.size = 1 ∧ i0.bytes = 8 := by
    cases h : Tryz.prog.info? 51 with
    | none => have := infoW; rw [h] at this; simp at this
    | some i => have := infoW; rw [h] at this; simp at this; exact ⟨i, rfl, this⟩
  have hck : c + (l + n - c) = l + n := by omega
  have hold : (Builtin.firstCells i0.size c (.slice base c c)).run Tryz.prog w.drew = .ok cs.toArray w.drew := by
    cases base with
    | none =>
      have h0 := hnil rfl
      subst h0
      have hc0 : cs = [] := List.length_eq_zero_iff.1 hcl
      rw [hc0]
      exact run_firstCells_none w.drew i0.size 0 0 0
    | some a => exact run_firstCells_some w.drew i0.size c a c c cs (by rw [hs0, Nat.mul_one]; exact hcl) (fun j v hj => hcs a rfl j v hj)
  have hrz : ∀ ty, (Builtin.append_ #[59, 3] ty #[.slice base c c, .int .i64 ((n : Int) - ((c : Int) - (l : Int)))]).run Tryz.prog w =
      .ok (.slice (some ⟨w.heap.size, 0, none⟩) (l + n) (grownCap w (l + n) c 51)) (w.drew.alloc (.cells (cs.toArray ++ Builtin.zeroCells #[.int .u64 0] (l + n - c) ++ Builtin.zeroCells #[.int .u64 0] (grownCap w (l + n) c 51 - (l + n))) 51)) := fun ty => by
    have h := Lib.run_append_grow_zeros w 59 3 ty 51 i0 (.int .u64 0) .i64 .i64 Tryz.underlying59 Tryz.underlying3 hi0 hz0 base c c cs hold (l + n - c) (by omega) (by omega) (by omega) (by omega)
      (by rw [hb0]; omega) (by rw [hck, hb0]; exact growslice_fits hroom (by omega))
    rw [hck] at h
    rw [show (n : Int) - ((c : Int) - (l : Int)) = ((l + n - c : Nat) : Int) by omega]
    exact h
  have hGn : l + n ≤ grownCap w (l + n) c 51 := grownCap_ge w _ _ _
  have hG63 : grownCap w (l + n) c 51 ≤ 9223372036854775807 := by
    have := grownCap_le_maxLen w (l + n) c 51 (by unfold maxLen; omega)
    unfold maxLen at this
    omega
  generalize grownCap w (l + n) c 51 = G at hrz hGn hG63
  have h1 : ¬ ((n : Int) < 0) := by omega
  have h4 : (n : Int) - ((c : Int) - (l : Int)) > 0 := by omega
  clear hold hck hcs hcl hi0 hz0 hs0 hb0
  go_enter Tryz.func41, Tryz.ntmps41
  cases base with
  | none =>
    have h0 := hnil rfl
    subst h0
    obtain rfl : l = 0 := by omega
    go_wp2_with (at_builtin; refine Lib.wpList_append_run _ rfl _ _ _ _ rfl _ _ rfl rfl _ _ (hrz _) ?_)
    all_goals (go_ret; exact ⟨G, by omega, hG63, rfl, by simp⟩)
  | some a =>
    obtain ⟨ab, ao, asp⟩ := a
    go_wp2_with (at_builtin; refine Lib.wpList_append_run _ rfl _ _ _ _ rfl _ _ rfl rfl _ _ (hrz _) ?_)
    all_goals (go_ret; exact ⟨G, hGn, hG63, rfl, rfl⟩)
end Go.Proofs.YtmijabhnbmmmfaaGreat


/- Store: a term laid behind what there is. -/
namespace Go.Proofs.YtmijabhnbmmmfaaGreat
open Go.RowKit Go.Deep
attribute [local go_sem] store_float f64bits
attribute [local go_sem ↓] Go.wp_at_zero Go.wp_at_succ

/-- A heap's words, as they lie behind its slice. -/
def RowAt (w : World) (a : Option Addr) (c : Nat) (ws : List Int) : Prop :=
  (a = none ∧ c = 0 ∧ ws = []) ∨ ∃ g cs, a = some ⟨g, 0, none⟩ ∧ Cells w g c cs ∧ ws.length ≤ c ∧ (∀ i x, ws[i]? = some x → cs i = x) ∧ g < w.heap.size

theorem RowAt.le {w : World} {a : Option Addr} {c : Nat} {ws : List Int} (h : RowAt w a c ws) : ws.length ≤ c := by
  rcases h with ⟨_, rfl, rfl⟩ | ⟨g, cs, _, _, h, _⟩
  · simp
  · exact h

theorem zeroCells_one (v : Value) : ∀ n, Builtin.zeroCells #[v] n = Array.replicate n v := by
  intro n
  unfold Builtin.zeroCells
  apply Array.ext'
  simp [Nat.mod_one, List.eq_replicate_iff]

/-- Grow, whatever there was: enough room behind the same words. -/
theorem grow_any (a : Option Addr) (c n : Nat) (ws : List Int) (w : World) (h : RowAt w a c ws) (hc : c ≤ 9223372036854775807) (hn0 : 0 < n) (hn : n ≤ 65536) (hl : ws.length ≤ 16777216) :
    Calls Tryz.prog 41 #[.slice a ws.length c, .int .i64 n] w fun e w' => ∃ g C cs, e = .returned (.slice (some ⟨g, 0, none⟩) ws.length C) ∧ ws.length + n ≤ C ∧ C ≤ 9223372036854775807 ∧ Cells w' g C cs ∧ (∀ i x, ws[i]? = some x → cs i = x) ∧ g < w'.heap.size ∧ (a = some ⟨g, 0, none⟩ ∨ g = w.heap.size) ∧ Below w.heap.size w w' := by
  by_cases hr : ws.length + n ≤ c
  · rcases h with ⟨_, rfl, rfl⟩ | ⟨g, cs, rfl, h1, h2, h3, h4⟩
    · simp at hr; omega
    · refine (grow_room _ _ c n w h2 hc hn hr).mono ?_
      rintro e w' ⟨rfl, rfl⟩
      exact ⟨g, c, cs, rfl, hr, hc, h1, h3, h4, Or.inl rfl, Below.refl _ _⟩
  · have hle := h.le
    obtain ⟨vs, hvl, hva, hvs, hvp⟩ : ∃ vs : List Int, vs.length = c ∧ (a = none → c = 0) ∧ (∀ ad, a = some ad → ∀ (j : Nat) (x : Value), (vs.map (Value.int .u64))[j]? = some x → w.cell? (ad.add j) = some x) ∧ (∀ i x, ws[i]? = some x → vs[i]? = some x) := by
      rcases h with ⟨rfl, rfl, rfl⟩ | ⟨g, cs, rfl, h1, h2, h3, h4⟩
      · exact ⟨[], rfl, fun _ => rfl, fun ad h => by simp at h, fun i x h => h⟩
      · refine ⟨(List.range c).map cs, by simp, fun h => by simp at h, fun ad had j x hx => ?_, fun i x hi => ?_⟩
        · obtain rfl : (⟨g, 0, none⟩ : Addr) = ad := by simpa using had
          have hj : j < c := by
            rcases Nat.lt_or_ge j c with h | h
            · exact h
            · rw [List.getElem?_eq_none (by simpa using h)] at hx; simp at hx
          rw [List.getElem?_map, List.getElem?_map, List.getElem?_range hj] at hx
          obtain rfl : Value.int .u64 (cs j) = x := by simpa using hx
          have e : (⟨g, 0, none⟩ : Addr).add j = ⟨g, j, none⟩ := by unfold Addr.add; split <;> simp_all
          rw [e]
          exact (h1 j hj).1
        · have hi' : i < ws.length := by
            rcases Nat.lt_or_ge i ws.length with h | h
            · exact h
            · rw [List.getElem?_eq_none h] at hi; simp at hi
          rw [List.getElem?_map, List.getElem?_range (by omega)]
          simp [h3 i x hi]
    refine (grow_grow a ws.length c n (vs.map (Value.int .u64)) w hle hn hl (by omega) (by simpa using hvl) hva hvs).mono ?_
    rintro e w' ⟨G, hG1, hG2, rfl, rfl⟩
    have e0 : w.drew.heap.size = w.heap.size := rfl
    refine ⟨w.heap.size, G, fun j => (vs ++ List.replicate (G - c) 0).getD j 0, rfl, hG1, hG2, ?_, ?_, by simp [e0], Or.inr rfl, (Below.refl _ _).drew.alloc (Nat.le_refl _) _⟩
    · intro j hj
      have hcells : (vs.map (Value.int .u64)).toArray ++ Builtin.zeroCells #[Value.int .u64 0] (ws.length + n - c) ++ Builtin.zeroCells #[Value.int .u64 0] (G - (ws.length + n)) = ((vs ++ List.replicate (G - c) 0).map (Value.int .u64)).toArray := by
        rw [zeroCells_one, zeroCells_one]
        apply Array.ext'
        have : G - c = (ws.length + n - c) + (G - (ws.length + n)) := by omega
        rw [this, ← List.replicate_append_replicate]
        simp
      rw [hcells]
      have hlen : j < (vs ++ List.replicate (G - c) 0).length := by simp; omega
      refine ⟨?_, ?_⟩
      · rw [← e0, World.cell?_alloc_new]
        generalize vs ++ List.replicate (G - c) 0 = us at hlen ⊢
        simp [List.getElem?_eq_getElem hlen]
      · rw [← e0]; exact World.frozen?_alloc_new _ _ _ _
    · intro i x hi
      have := hvp i x hi
      have hi' : i < vs.length := by
        rcases Nat.lt_or_ge i vs.length with h | h
        · exact h
        · rw [List.getElem?_eq_none h] at this; simp at this
      show (vs ++ List.replicate (G - c) 0).getD i 0 = x
      rw [List.getD_eq_getElem?_getD, List.getElem?_append_left hi', this]
      rfl
end Go.Proofs.YtmijabhnbmmmfaaGreat


