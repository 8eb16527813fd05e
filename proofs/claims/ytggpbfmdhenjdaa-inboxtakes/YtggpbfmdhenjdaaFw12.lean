import Derived.Test.YtggpbfmdhenjdaaG21
import Derived.Test.YtggpbfmdhenjdaaG23
/- Are acts few? -/
namespace Go.Proofs.Ytggpbfmdhenjdaa
open Go.RowKit Go.Deep
attribute [local go_sem] store_float f64bits
attribute [local go_sem ↓] Go.wp_at_zero Go.wp_at_succ

theorem few_cn : ∀ (t : Tr) (left deep : Int), 0 ≤ fewT t left deep → fewT t left deep = left - cnT t := by
  refine Tr.ind fun k n f s a c kids hk => ?_
  have hall : ∀ left deep, 0 ≤ fewAll kids left deep → fewAll kids left deep = left - cnA kids := by
    induction kids with
    | nil => intro left deep h0; simp [fewAll, cnA]
    | cons t r ih =>
      intro left deep h0
      simp only [fewAll] at h0 ⊢
      by_cases hl : left < 0
      · rw [if_pos hl] at h0; omega
      · rw [if_neg hl] at h0 ⊢
        have hn : 0 ≤ fewT t left deep := by
          by_cases hz : fewT t left deep < 0
          · rw [fewAll_stop _ _ _ hz] at h0; omega
          · omega
        have g := hk t (List.mem_cons_self ..) left deep hn
        have q := ih (fun u hu => hk u (List.mem_cons_of_mem _ hu)) (fewT t left deep) deep h0
        rw [q, g]
        simp only [cnA]
        omega
  intro left deep h0
  simp only [fewT] at h0 ⊢
  by_cases hc : left < 0 ∨ deep < 0
  · rw [if_pos hc] at h0; omega
  · rw [if_neg hc] at h0 ⊢
    rw [hall (left - 1) (deep - 1) h0]
    simp only [cnT]
    omega

theorem few_range : ∀ (t : Tr) (left deep : Int), 0 ≤ left → -1 ≤ fewT t left deep ∧ fewT t left deep ≤ left := by
  refine Tr.ind fun k n f s a c kids hk => ?_
  have hall : ∀ left deep, -1 ≤ left → -1 ≤ fewAll kids left deep ∧ fewAll kids left deep ≤ left := by
    induction kids with
    | nil => intro left deep h; simp [fewAll]; omega
    | cons t r ih =>
      intro left deep h
      simp only [fewAll]
      by_cases hl : left < 0
      · rw [if_pos hl]; omega
      · rw [if_neg hl]
        have g := hk t (List.mem_cons_self ..) left deep (by omega)
        have q := ih (fun u hu => hk u (List.mem_cons_of_mem _ hu)) (fewT t left deep) deep g.1
        omega
  intro left deep h
  simp only [fewT]
  by_cases hc : left < 0 ∨ deep < 0
  · rw [if_pos hc]; omega
  · rw [if_neg hc]
    have := hall (left - 1) (deep - 1) (by omega)
    omega

/-- What few says of each. -/
theorem few_each {ts : List Tr} (h : 0 ≤ fewAll ts 60000 1000) {t : Tr} (ht : t ∈ ts) : Small t ∧ cnT t ≤ 60001 := by
  have e : fewT (.mk 0 0 0 ⟨#[]⟩ none 0 ts) 60001 1001 = fewAll ts 60000 1000 := by simp [fewT]
  have h1 := (few_small (.mk 0 0 0 ⟨#[]⟩ none 0 ts) 60001 1001 (by omega) (by rw [e]; exact h)).1
  have h2 := few_cn (.mk 0 0 0 ⟨#[]⟩ none 0 ts) 60001 1001 (by rw [e]; exact h)
  rw [e] at h2
  simp only [Small] at h1
  refine ⟨smallAll_get h1.2 ht, ?_⟩
  have h3 : ∀ l : List Tr, t ∈ l → cnT t ≤ cnA l := by
    intro l
    induction l with
    | nil => intro h; simp at h
    | cons u r ih =>
      intro h
      simp only [cnA]
      rcases List.mem_cons.1 h with rfl | h
      · omega
      · have := ih h; omega
  have := h3 ts ht
  simp only [cnT] at h2
  omega

/-- A row of acts that only put. -/
def ActRow (w : World) (q : Option Addr) (ts : List Tr) : Prop := ∀ (k : Nat) (t : Tr), ts[k]? = some t → ∃ g, q = some ⟨g, 0, none⟩ ∧ (∀ j, j < 5 → w.cell? ⟨g, k * 6 + 1 + j, none⟩ = t.cells[j]?) ∧ t.In w 0

theorem ActRow.keep {w w' : World} {q : Option Addr} {ts : List Tr} (h : ActRow w q ts) (hb : Below w.heap.size w w') : ActRow w' q ts := by
  intro k t ht
  obtain ⟨g, e, hc, hin⟩ := h k t ht
  refine ⟨g, e, fun j hj => ?_, in_below hb hin⟩
  obtain ⟨k', n', f', s', a', c', kids'⟩ := t
  have hc0 := hc 0 (by omega)
  have hlt : g < w.heap.size := World.block_lt_of_cell? w ⟨g, k * 6 + 1 + 0, none⟩ (hc0.trans rfl)
  exact (hb.cell (p := ⟨g, k * 6 + 1 + j, none⟩) hlt).trans (hc j hj)

theorem fewAll_drop {ts : List Tr} {k : Nat} {t : Tr} (h : ts[k]? = some t) {left : Int} (hl : ¬ left < 0) : fewAll (ts.drop k) left 1000 = fewAll (ts.drop (k + 1)) (fewT t left 1000) 1000 := by
  rw [drop_one h]
  simp only [fewAll]
  rw [if_neg hl]

set_option maxHeartbeats 1000000 in
set_option maxRecDepth 100000 in
theorem few12_any (q : Option Addr) (c : Nat) (ts : List Tr) (w : World) (h : ActRow w q ts) (hl : ts.length ≤ 3000000000000) : Calls Try.prog 8 #[.slice q ts.length c] w fun e w' => e = .returned (.bool (decide (ts.length ≤ 400) && decide (0 ≤ fewAll ts 60000 1000))) ∧ Below w.heap.size w w' := by
  have HA := hidb h
  have HF := hidb (fun (t : Tr) (left : Int) W (hin : t.In W 0) h1 h2 => few_any t left 1000 W hin h1 h2 (by decide) (by decide))
  clear h
  go_enter Try.func8, Try.ntmps8
  go_wp2_with fail
  go_loopw [3, 4] (fun lv iv wr => ∃ (k : Nat) (left : Int), k ≤ ts.length ∧ iv = .int .i64 k ∧ lv = .int .i64 left ∧ -1 ≤ left ∧ left ≤ 60000 ∧ fewAll ts 60000 1000 = fewAll (ts.drop k) left 1000 ∧ Below w.heap.size w wr) (fun _ iv _ => ts.length - (RowKit.intOf iv).toNat)
  case atStart => exact ⟨0, 60000, by omega, rfl, rfl, by omega, by omega, rfl, Below.refl _ _⟩
  case round =>
  obtain ⟨k, left, hk, rfl, rfl, hl1, hl2, he, hb⟩ := hrel
  have HB := hidb hb
  have HE := hidb he
  clear he hb
  have hkw : IntKind.i64.wrap ((k : Int) + 1) = (k : Int) + 1 := by rw [IntKind.wrap_i64]; omega
  by_cases hlt : left < 0
  · have hln : ¬ (0 : Int) ≤ left := by omega
    have HFd : Hid (decide (0 ≤ fewAll ts 60000 1000) = false) := hidb (by rw [HE.out, fewAll_stop _ _ _ hlt]; simp; omega)
    by_cases hkl : k < ts.length
    · have hkb : (k : Int) < (ts.length : Int) := by omega
      go_wp2_with fail
      all_goals go_ret
      all_goals (refine ⟨?_, HB.out⟩; rw [HFd.out]; first | (simp; done) | (simp; omega))
    · have hkb : ¬ (k : Int) < (ts.length : Int) := by omega
      go_wp2_with fail
      all_goals go_ret
      all_goals (refine ⟨?_, HB.out⟩; rw [HFd.out]; first | (simp; done) | (simp; omega))
  have hl0 : (0 : Int) ≤ left := by omega
  by_cases hkl : k < ts.length
  · have hkb : (k : Int) < (ts.length : Int) := by omega
    have hkz : (0 : Int) ≤ (k : Int) := by omega
    obtain ⟨t, ht⟩ : ∃ t, ts[k]? = some t := ⟨_, List.getElem?_eq_getElem hkl⟩
    obtain ⟨g, rfl, hc, hin⟩ := HA.out.keep HB.out k t ht
    obtain ⟨fb1, fb2⟩ := few_range t left 1000 hl0
    have HD := hidb (fewAll_drop ht hlt)
    have FC := hidb (HF.out t left wr hin (by omega) (by omega))
    have FC2 := hidb (HF.out t left wr.drew (in_below ((Below.refl _ _).drew) hin) (by omega) (by omega))
    generalize fewT t left 1000 = L2 at *
    obtain ⟨k', n', f', s', a', c', kids'⟩ := t
    have c0 : wr.cell? ⟨g, k * 6 + 1, none⟩ = some (.int .i64 k') := hc 0 (by omega)
    have c1 : wr.cell? ⟨g, k * 6 + 1 + 1, none⟩ = some (.int .i64 n') := hc 1 (by omega)
    have c2 : wr.cell? ⟨g, k * 6 + 1 + 2, none⟩ = some (.float .f64 f') := hc 2 (by omega)
    have c3 : wr.cell? ⟨g, k * 6 + 1 + 3, none⟩ = some (.string s') := hc 3 (by omega)
    have c4 : wr.cell? ⟨g, k * 6 + 1 + 4, none⟩ = some (.slice a' kids'.length c') := hc 4 (by omega)
    simp only [Tr.val, Tr.cells] at FC FC2
    clear hc hin ht hlt
    go_wp2_with (first
      | (go_at_call 20; refine FC.out.mono ?_; rintro e w2 ⟨rfl, hb2⟩; have HB2 := hidb (HB.out.trans (hb2.mono HB.out.size)); clear hb2))
    go_roundw
    case rel => exact ⟨k + 1, L2, by omega, by go_num, rfl, fb1, by omega, by rw [HE.out, HD.out], HB2.out⟩
    case measure => simp [RowKit.intOf]; omega
  · have hkb : ¬ (k : Int) < (ts.length : Int) := by omega
    have HFd : Hid (decide (0 ≤ fewAll ts 60000 1000) = true) := hidb (by
      have e : fewAll ts 60000 1000 = left := by rw [HE.out, List.drop_of_length_le (by omega)]; rfl
      rw [e]
      exact decide_eq_true hl0)
    go_wp2_with fail
    all_goals go_ret
    all_goals (refine ⟨?_, HB.out⟩; rw [HFd.out]; first | (simp; done) | (simp; omega))
end Go.Proofs.Ytggpbfmdhenjdaa


