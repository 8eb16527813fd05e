import Derived.Test.YtmijabhnbmmmfaaGreatG23
import Derived.Test.YtmijabhnbmmmfaaGreatG12
/- The heap: New, Used, At; the small functions of reading. -/
namespace Go.Proofs.YtmijabhnbmmmfaaGreat
open Go.RowKit Go.Deep
attribute [local go_sem] store_float f64bits
attribute [local go_sem ↓] Go.wp_at_zero Go.wp_at_succ

/-- Store of any right term that fits. -/
theorem store_good (P : Nat → Prop) (t : Tr) (w : World) (hb ab most : Nat) (ws : List Int) (L : List ByteArray) (F : List Nat) (a' : Option Addr) (c' : Nat) (hp : HP w hb ab most ws L F a' c') (hin : t.In w 0) (hon : t.On P) (hs : Small t) (he : errT t = 0) (hf : ws.length + wN t ≤ most)
    (pl : ∀ k, P k → k < w.heap.size) (ph : ¬ P hb) (pg : ∀ g, a' = some ⟨g, 0, none⟩ → ¬ P g) (pF : ∀ k, k ∈ F → ¬ P k) (hL : L.length + cntT t ≤ 100000) :
    Calls Tryz.prog 26 #[.pointer (some ⟨hb, 0, none⟩), t.val] w fun e w' => e = .returned (.tuple #[.int .u64 (layT t ws.length L).1, .int .i64 0]) ∧
      ∃ a'' c'' F', HP w' hb ab most (ws ++ (layT t ws.length L).2.1) (layT t ws.length L).2.2 F' a'' c'' ∧ (∀ k, k ∈ F' → k ∈ F ∨ w.heap.size ≤ k) ∧ (∀ g, a'' = some ⟨g, 0, none⟩ → a' = some ⟨g, 0, none⟩ ∨ w.heap.size ≤ g) ∧ Kept (hb :: gOf a' ++ F) w w' := by
  by_cases h0 : wN t = 0
  · exact store_zero t w hb ab most ws L F a' c' hp hin hs he hf h0 hL
  · exact store_ok P t w hb ab most ws L F a' c' hp hin hon hs he hf (by omega) pl ph pg pF hL

set_option maxHeartbeats 1000000 in
theorem new_heap (most ab : Nat) (F : List Nat) (w : World) (ht : Tab w ab [] F) (h1 : 1 ≤ most) (h2 : most ≤ 16777216) :
    Calls Tryz.prog 10 #[.int .i64 most, .pointer (some ⟨ab, 0, none⟩)] w fun e w' => ∃ hb, e = .returned (.tuple #[.pointer (some ⟨hb, 0, none⟩), .int .i64 0]) ∧ w.heap.size ≤ hb ∧ HP w' hb ab most [] [] F none 0 ∧ Below w.heap.size w w' := by
  have HTB := hidb ht
  clear ht
  have q1 : ¬ (most : Int) < 1 := by omega
  have q2 : ¬ (16777216 : Int) < (most : Int) := by omega
  go_enter Tryz.func10, Tryz.ntmps10
  go_wp2
  refine bodyPost_ret (v := .tuple #[.pointer (some ⟨w.heap.size, 0, none⟩), .int .i64 0]) (by simp [results, Tryz.results10, go_sem]) rfl ⟨w.heap.size, rfl, Nat.le_refl _, ?_, below_new w _⟩
  have hlt := HTB.out.lt
  exact ⟨Tri.new w _ _ _ _, HTB.out.kept (Kept.of_below (F := []) (below_new w _)) (fun _ _ => by simp), Or.inl ⟨rfl, rfl, rfl⟩, fun h => absurd (hlt _ h) (Nat.lt_irrefl _), fun g h => by simp at h, by omega, by simp, h2, fun ad h => by simp at h⟩

theorem used_any {w : World} {hb ab most : Nat} {ws : List Int} {L : List ByteArray} {F : List Nat} {a : Option Addr} {c : Nat} (h : HP w hb ab most ws L F a c) :
    Calls Tryz.prog 22 #[.pointer (some ⟨hb, 0, none⟩)] w fun e w' => e = .returned (.int .i64 ws.length) ∧ w' = w := by
  obtain ⟨c0, c1, c2, f0, f1, f2, hlt⟩ := h.tri
  clear h
  go_enter Tryz.func22, Tryz.ntmps22
  go_wp2
  go_ret
  exact ⟨rfl, rfl⟩

set_option maxHeartbeats 1000000 in
theorem at_in {w : World} {hb ab most : Nat} {ws : List Int} {L : List ByteArray} {F : List Nat} {a : Option Addr} {c : Nat} (h : HP w hb ab most ws L F a c) (n : Nat) (x : Int) (hx : ws[n]? = some x) :
    Calls Tryz.prog 14 #[.pointer (some ⟨hb, 0, none⟩), .int .i64 n] w fun e w' => e = .returned (.tuple #[.int .u64 x, .bool true]) ∧ w' = w := by
  have hn : n < ws.length := by
    rcases Nat.lt_or_ge n ws.length with h | h
    · exact h
    · rw [List.getElem?_eq_none h] at hx; simp at hx
  obtain ⟨c0, c1, c2, f0, f1, f2, hlt⟩ := h.tri
  rcases h.row with ⟨_, _, rfl⟩ | ⟨g, cs, rfl, h1, h2, h3, h4⟩
  · simp at hn
  have hc := (h1 n (by omega)).1
  rw [h3 n x hx] at hc
  have q1 : ¬ (n : Int) < 0 := by omega
  have q2 : (n : Int) < (ws.length : Int) := by omega
  clear h h1 h3 hx
  go_enter Tryz.func14, Tryz.ntmps14
  go_wp2
  exact bodyPost_ret (v := .tuple #[.int .u64 x, .bool true]) (by simp [results, Tryz.results14, go_sem]) rfl ⟨rfl, rfl⟩

set_option maxHeartbeats 1000000 in
theorem hcut_in {w : World} {hb ab most : Nat} {ws : List Int} {L : List ByteArray} {F : List Nat} {a : Option Addr} {c : Nat} (h : HP w hb ab most ws L F a c) (g : Nat) (ha : a = some ⟨g, 0, none⟩) (p n : Nat) (h0 : 0 < n) (hn : p + n ≤ ws.length) :
    Calls Tryz.prog 97 #[.pointer (some ⟨hb, 0, none⟩), .int .i64 p, .int .i64 n] w fun e w' => e = .returned (.tuple #[.slice (some ⟨g, p, none⟩) n n, .bool true]) ∧ w' = w := by
  obtain ⟨c0, c1, c2, f0, f1, f2, hlt⟩ := h.tri
  subst ha
  have hsm := h.small
  have hft := h.fits
  have hle := h.row.le
  clear h
  have hN0 : ¬ n = 0 := by omega
  have q1 : ¬ (ws.length : Int) - (n : Int) < (p : Int) := by omega
  have q2 : (p : Int) + (n : Int) ≤ (c : Int) := by omega
  have q3 : (0 : Int) ≤ (p : Int) + (n : Int) := by omega
  have q4 : ((p : Int) + (n : Int)).toNat = p + n := by omega
  have q5 : (p : Int).toNat = p := by omega
  go_enter Tryz.func97, Tryz.ntmps97
  go_wp2
  exact bodyPost_ret (v := .tuple #[.slice (some ⟨g, p, none⟩) n n, .bool true]) (by simp [results, Tryz.results97, go_sem]) rfl ⟨rfl, rfl⟩
end Go.Proofs.YtmijabhnbmmmfaaGreat


/- What few parts come to; the words of a row. -/
namespace Go.Proofs.YtmijabhnbmmmfaaGreat
open Go.RowKit Go.Deep

theorem few_cnt : ∀ (t : Tr) (left deep : Int), 0 ≤ fewT t left deep → fewT t left deep ≤ left - (cntT t : Int) := by
  refine Tr.ind fun k n f s a c kids hk => ?_
  have hall : ∀ l : List Tr, (∀ t, t ∈ l → t ∈ kids) → ∀ left deep, 0 ≤ fewAll l left deep → fewAll l left deep ≤ left - (cntAll l : Int) := by
    intro l
    induction l with
    | nil => intro _ left deep _; simp only [fewAll, cntAll]; omega
    | cons t r ih =>
      intro hl left deep h
      simp only [fewAll, cntAll] at h ⊢
      split at h
      · omega
      rename_i h0
      rw [if_neg h0]
      have h1 : 0 ≤ fewT t left deep := by
        rcases Int.lt_or_le (fewT t left deep) 0 with q | q
        · rw [fewAll_stop r deep _ q] at h; exact h
        · exact q
      have g1 := hk t (hl t (List.mem_cons_self ..)) left deep h1
      have g2 := ih (fun u hu => hl u (List.mem_cons_of_mem _ hu)) _ deep h
      omega
  intro left deep h
  simp only [fewT, cntT] at h ⊢
  split at h
  · omega
  rename_i h0
  rw [if_neg h0]
  have := hall kids (fun t h => h) _ _ h
  omega

theorem allOk_get {kids : List Tr} (h : allOk kids = true) {m : Nat} {t : Tr} (ht : kids[m]? = some t) : errT t = 0 := by
  unfold allOk at h
  have := List.all_eq_true.1 h t (List.mem_of_getElem? ht)
  simpa using this

theorem wAll_take {kids : List Tr} {m : Nat} {t : Tr} (ht : kids[m]? = some t) : wAll (kids.take (m + 1)) = wAll (kids.take m) + wN t := by
  have hw : ∀ l : List Tr, wAll (l ++ [t]) = wAll l + wN t := by
    intro l
    induction l with
    | nil => simp [wAll]
    | cons v r ih => simp only [List.cons_append, wAll, ih]; omega
  rw [List.take_add_one, ht]
  exact hw _

theorem cntAll_take {kids : List Tr} {m : Nat} {t : Tr} (ht : kids[m]? = some t) : cntAll (kids.take (m + 1)) = cntAll (kids.take m) + cntT t := by
  rw [List.take_add_one, ht]
  exact cntAll_snoc _ t

theorem wAll_le {kids : List Tr} (h : allOk kids = true) : wAll kids ≤ kids.length * 65536 := by
  unfold allOk at h
  induction kids with
  | nil => simp [wAll]
  | cons t r ih =>
    simp only [List.all_cons, Bool.and_eq_true] at h
    have h1 := (words_right (t := t) (by simpa using h.1)).2.2
    have h2 := ih h.2
    simp only [wAll, List.length_cons]
    omega

end Go.Proofs.YtmijabhnbmmmfaaGreat


