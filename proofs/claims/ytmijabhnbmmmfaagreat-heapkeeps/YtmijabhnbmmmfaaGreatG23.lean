import Derived.Test.YtmijabhnbmmmfaaGreatG22
/- Store of a term that has no words. -/
namespace Go.Proofs.YtmijabhnbmmmfaaGreat
open Go.RowKit Go.Deep
attribute [local go_sem] store_float f64bits
attribute [local go_sem ↓] Go.wp_at_zero Go.wp_at_succ

set_option maxHeartbeats 1600000 in
set_option maxRecDepth 100000 in
theorem lay_zero {t : Tr} {lb ab g ro : Nat} {p : Nat} {L : List ByteArray} {F : List Nat} {w : World} (h : LS w lb ab p g ro 0 L F) (hg : allT goodT t = true) (h0 : wN t = 0) (hL : L.length + cntT t ≤ 100000) :
    Calls Tryz.prog 43 #[.pointer (some ⟨lb, 0, none⟩), t.val] w fun e w' => e = .returned (.int .u64 (layT t p L).1) ∧ ∃ F', LS w' lb ab p g ro 0 (layT t p L).2.2 F' ∧ (∀ k, k ∈ F' → k ∈ F ∨ w.heap.size ≤ k) ∧ Kept (lb :: F) w w' := by
  obtain ⟨k, n, f, s, a, c, kids⟩ := t
  have hg1 : goodT (.mk k n f s a c kids) = true := by simp only [allT, Bool.and_eq_true] at hg; exact hg.1
  have HLS := hidb h
  clear h hg
  show Calls Tryz.prog 43 #[.pointer (some ⟨lb, 0, none⟩), .agg #[.int .i64 k, .int .i64 n, .float .f64 f, .string s, .slice a kids.length c]] w _
  by_cases h1 : k = 1
  · subst h1
    simp only [layT, if_true]
    clear hL hg1 h0
    go_enter Tryz.func43, Tryz.ntmps43
    go_wp2_with (go_at_call 58; refine (hof_any 1 n (by omega) _).mono ?_; rintro e w' ⟨rfl, rfl⟩)
    go_ret
    exact ⟨rfl, F, HLS.out.kept (Kept.of_below (F := []) (below_new w _)) (by simp) (fun _ _ => by simp), fun k hk => Or.inl hk, Kept.of_below (below_new w _)⟩
  by_cases h6 : k = 6
  · subst h6
    simp only [layT, if_true, if_neg h1]
    clear hL hg1 h0
    go_enter Tryz.func43, Tryz.ntmps43
    go_wp2_with (go_at_call 58; refine (hof_any 3 n (by omega) _).mono ?_; rintro e w' ⟨rfl, rfl⟩)
    go_ret
    exact ⟨rfl, F, HLS.out.kept (Kept.of_below (F := []) (below_new w _)) (by simp) (fun _ _ => by simp), fun k hk => Or.inl hk, Kept.of_below (below_new w _)⟩
  by_cases h3 : k = 3
  · subst h3
    simp only [layT, if_true, if_neg h1, if_neg h6]
    have hs : s.size ≤ 64 := by simp [goodT] at hg1; exact hg1.1
    have hl1 : L.length ≤ 100000 := by omega
    have AT := hidb (atom_any (s := s) (HLS.out.kept (Kept.of_below (F := []) (below_new w (.cells #[.int .i64 3, .int .i64 n, .float .f64 f, .string s, .slice a kids.length c] 44))) (by simp) (fun _ _ => by simp)) hs hl1)
    clear hL hg1 hs hl1 h0
    go_enter Tryz.func43, Tryz.ntmps43
    go_wp2_with fail
    refine AT.out.mono ?_
    rintro e w1 ⟨rfl, F', hls, hF, hk⟩
    have A1 := hidb hls
    have A2 := hidb hF
    have A3 := hidb hk
    clear hls hF hk AT
    go_wp2
    go_ret
    exact ⟨rfl, F', A1.out, sub_box A2.out, kept_box A3.out⟩
  by_cases h8 : k = 8
  · subst h8
    simp only [wN, if_neg h1, if_neg h6, if_neg h3, if_true] at h0
    have e0 : kids = [] := List.length_eq_zero_iff.1 (by omega)
    subst e0
    simp only [layT, if_neg h1, if_neg h6, if_neg h3, if_true, List.length_nil, layAll]
    clear hL hg1 h0
    go_enter Tryz.func43, Tryz.ntmps43
    go_wp2_with (go_at_call 60; refine (list_0 lb c a _).mono ?_; rintro e w' ⟨rfl, rfl⟩)
    go_ret
    exact ⟨rfl, F, HLS.out.kept (Kept.of_below (F := []) (below_new w _)) (by simp) (fun _ _ => by simp), fun k hk => Or.inl hk, Kept.of_below (below_new w _)⟩
  · simp only [wN, if_neg h1, if_neg h6, if_neg h3, if_neg h8] at h0
    unfold front at h0
    split at h0
    · simp at h0
    split at h0
    · simp at h0
    split at h0
    · simp at h0
    · simp at h0

theorem lay_none {t : Tr} (h0 : wN t = 0) (p : Nat) (L : List ByteArray) : (layT t p L).2.1 = [] := List.length_eq_zero_iff.1 (by rw [lay_len]; exact h0)

set_option maxHeartbeats 1600000 in
set_option maxRecDepth 100000 in
theorem store_zero (t : Tr) (w : World) (hb ab most : Nat) (ws : List Int) (L : List ByteArray) (F : List Nat) (a' : Option Addr) (c' : Nat) (hp : HP w hb ab most ws L F a' c') (hin : t.In w 0) (hs : Small t) (he : errT t = 0) (hf : ws.length + wN t ≤ most) (h0 : wN t = 0)
    (hL : L.length + cntT t ≤ 100000) :
    Calls Tryz.prog 26 #[.pointer (some ⟨hb, 0, none⟩), t.val] w fun e w' => e = .returned (.tuple #[.int .u64 (layT t ws.length L).1, .int .i64 0]) ∧
      ∃ a'' c'' F', HP w' hb ab most (ws ++ (layT t ws.length L).2.1) (layT t ws.length L).2.2 F' a'' c'' ∧ (∀ k, k ∈ F' → k ∈ F ∨ w.heap.size ≤ k) ∧ (∀ g, a'' = some ⟨g, 0, none⟩ → a' = some ⟨g, 0, none⟩ ∨ w.heap.size ≤ g) ∧ Kept (hb :: gOf a' ++ F) w w' := by
  have M := hidb fun w' hw => words_t t w' (in_below (w := w) hw hin) hs
  obtain ⟨hgd, hw1, hw2⟩ := words_right he
  rw [he, hw1] at M
  have LAY := hidb (fun lb g w' (h : LS w' lb ab ws.length g ws.length 0 L F) => lay_zero h hgd h0 hL)
  have HNIL := hidb (lay_none h0 ws.length L)
  rw [h0] at M
  have hlen := lay_len t ws.length L
  have HLN := hidb hlen
  generalize hX : layT t ws.length L = X at *
  obtain ⟨k, n, f, s, a, c, kids⟩ := t
  have HPP := hidb hp
  have hfits := hp.fits
  have hsmall := hp.small
  have HX := hidb hX
  clear hin hs hp he hw1 hgd hlen hL hX h0 hw2 hf
  show Calls Tryz.prog 26 #[.pointer (some ⟨hb, 0, none⟩), .agg #[.int .i64 k, .int .i64 n, .float .f64 f, .string s, .slice a kids.length c]] w _
  go_enter Tryz.func26, Tryz.ntmps26
  go_wp2_with fail
  refine (M.out _ (below_new w _)).mono ?_
  rintro e w1 ⟨rfl, hb1⟩
  have HB := hidb (below_in hb1)
  have HP1 := hidb (HPP.out.keep (below_in hb1))
  have HT1 := hidb ((Box.new w 44 (.int .i64 k) (.int .i64 n) (.float .f64 f) (.string s) (.slice a kids.length c)).keep hb1)
  obtain ⟨c0, c1, c2, f0, f1, f2, hlt⟩ := HP1.out.tri
  clear hb1 M
  have hgt : ¬ (most : Int) < (ws.length : Int) := by omega
  have hcap := HP1.out.cap
  have hle := HP1.out.row.le
  have HRW := hidb HP1.out.row
  have u3 : (ws.length : Int) ≤ (c' : Int) := by omega
  have T1 := hidb (table_any (w := w1.drew) (HP1.out.tri.at rfl (Nat.le_refl _)))
  have T2 := hidb (fun o => table_any (w := (w1.alloc o).drew) ((HP1.out.tri.keep (below_new w1 o)).at rfl (Nat.le_refl _)))
  have hwr : IntKind.i64.wrap (ws.length : Int) = (ws.length : Int) := by rw [IntKind.wrap_i64]; omega
  have u4 : ((ws.length : Int)).toNat = ws.length := by omega
  go_wp2_with (go_at_call 41; refine (grow_room a' ws.length c' 0 w1 hle hcap (by omega) (by omega)).mono ?_; rintro e w' ⟨rfl, hw'⟩; obtain rfl := hw'.symm)
  go_cut [10] from 12 (fun x wc => ∃ lb, x = .pointer (some ⟨lb, 0, none⟩) ∧ w1.heap.size ≤ lb ∧ Quad wc lb (.pointer (some ⟨ab, 0, none⟩)) (.int .i64 ws.length) (.slice a' 0 0) (.int .i64 0) ∧ Below w1.heap.size w1 wc)
  case first =>
    go_region_with (go_at_call 42; (first | with_reducible refine Calls.mono T1.out ?_ | with_reducible refine Calls.mono (T2.out _) ?_); rintro e w' ⟨rfl, rfl⟩)
    all_goals go_wp2_with fail
    all_goals go_meet
    all_goals
      refine ⟨w1.heap.size, rfl, Nat.le_refl _, (Quad.new w1 111 _ _ _ _).at rfl (Nat.le_refl _), ((Below.refl _ _).alloc (Nat.le_refl _) _).drew⟩
  case rest =>
  obtain ⟨lb, rfl, hlb, hq, hbc⟩ := hcut
  have HQ := hidb hq
  have HBC := hidb hbc
  have HP3 := hidb (HP1.out.keep hbc)
  obtain ⟨z0, z1, z2, z3, z4, y0, y1, y2, y3, y4, ltr2⟩ := HT1.out.keep hbc
  clear hq hbc T1 T2 c0 c1 c2 f0 f1 f2
  have hFlt : ∀ k, k ∈ F → k < w1.heap.size := HP1.out.tab.lt
  have hszw : w.heap.size ≤ w1.heap.size := HB.out.size
  have hsz3 := HBC.out.size
  have hLS : ∃ g, LS wc lb ab ws.length g ws.length 0 L F := by
    have hh := HP1.out.tri.lt
    rcases HRW.out with ⟨rfl, _, _⟩ | ⟨g, cs, rfl, _, _, _, hgl⟩
    · exact ⟨hb, ⟨⟨_, HQ.out, Or.inr ⟨rfl, rfl⟩⟩, HP3.out.tab, fun h => by have := hFlt lb h; omega, HP1.out.nh, by omega, by omega⟩⟩
    · exact ⟨g, ⟨⟨_, HQ.out, Or.inl ⟨0, rfl, fun h => absurd h (by omega)⟩⟩, HP3.out.tab, fun h => by have := hFlt lb h; omega, (HP1.out.ng g rfl).1, by omega, by omega⟩⟩
  obtain ⟨g, hls⟩ := hLS
  have LC := hidb (LAY.out lb g wc hls)
  clear hls
  go_wp2_with fail
  refine LC.out.mono ?_
  rintro e wz ⟨rfl, F', hlz, hF', hkz⟩
  have H1 := hidb hlz
  have H2 := hidb hF'
  have H3 := hidb hkz
  obtain ⟨v, hqz, _⟩ := hlz.quad
  obtain ⟨_, _, _, e3, _, _, _, _, _⟩ := hqz
  have hhb : hb ∉ lb :: F := by
    have h1 := HP1.out.tri.lt
    simp only [List.mem_cons, not_or]
    exact ⟨by omega, HP1.out.nh⟩
  have hTz := HP3.out.tri.at (hkz.block hb HP3.out.tri.lt hhb) hkz.size
  have HTZ := hidb hTz
  obtain ⟨c0, c1, c2, f0, f1, f2, hltz⟩ := hTz
  clear hlz hF' hkz LC z0 z1 z2 z3 z4 y0 y1 y2 y3 y4 ltr2 hhb
  go_wp2
  refine bodyPost_ret (v := .tuple #[.int .u64 X.1, .int .i64 0]) (by simp [results, Tryz.results26, go_sem]) rfl ⟨rfl, a', c', F', ?_, ?_, fun _ h => Or.inl h, ?_⟩
  · rw [HNIL.out, List.append_nil]
    have h1 := HP1.out.tri.lt
    have hhF : hb ∉ F' := by
      intro h
      rcases H2.out hb h with h | h
      · exact HP1.out.nh h
      · omega
    refine ⟨HTZ.out.set0 _, H1.out.tab.set hhF _, ?_, hhF, ?_, HP1.out.cap, HP1.out.fits, HP1.out.small, HP1.out.pos⟩
    · rcases HP3.out.row with h | ⟨g', cs, e', q1, q2, q3, q4⟩
      · exact Or.inl h
      · have hg' := HP1.out.ng g' e'
        have hgl : g' < w1.heap.size := by
          rcases HRW.out with ⟨h, _, _⟩ | ⟨g2, _, h, _, _, _, h2⟩
          · rw [h] at e'; simp at e'
          · rw [h] at e'; obtain rfl : g2 = g' := by simpa using e'
            exact h2
        refine Or.inr ⟨g', cs, e', (q1.at (H3.out.block g' q4 ?_)).at (Below.heap_setCell _ _ _ _ hg'.2), q2, q3, by have := H3.out.size; simp [World.setCell]; omega⟩
        simp only [List.mem_cons, not_or]
        exact ⟨by omega, hg'.1⟩
    · intro g' hg'
      refine ⟨fun h => ?_, (HP1.out.ng g' hg').2⟩
      have hgl : g' < w1.heap.size := by
        rcases HRW.out with ⟨h, _, _⟩ | ⟨g2, _, h, _, _, _, h2⟩
        · rw [h] at hg'; simp at hg'
        · rw [h] at hg'; obtain rfl : g2 = g' := by simpa using hg'
          exact h2
      rcases H2.out g' h with h | h
      · exact (HP1.out.ng g' hg').1 h
      · omega
  · intro x hx
    rcases H2.out x hx with h | h
    · exact Or.inl h
    · right; omega
  · have hB := HB.out.trans (HBC.out.mono hszw)
    have hK : Kept (hb :: (gOf a' ++ F)) w wz := (Kept.of_below hB).after H3.out (fun x hx => by
      simp only [List.mem_cons, List.mem_append] at hx ⊢
      rcases hx with h | h
      · right; omega
      · exact Or.inl (Or.inr (Or.inr h)))
    exact hK.sets _ _ (by simp)
end Go.Proofs.YtmijabhnbmmmfaaGreat


/- The heap: New, Used, At; the small functions of reading. -/
namespace Go.Proofs.YtmijabhnbmmmfaaGreat
open Go.RowKit Go.Deep
attribute [local go_sem] store_float f64bits
attribute [local go_sem ↓] Go.wp_at_zero Go.wp_at_succ

/-- Store of any right term that fits. -/
theorem store_good (P : Nat → Prop) (t : Tr) (w : World) (hb ab most : Nat) (ws : List Int) (L : List ByteArray) (F : List Nat) (a' : Option Addr) (c' : Nat) (hp : HP w hb ab most ws L F a' c') (hin : t.In w 0) (hon : t.On P) (hs : Small t) (he : errT t = 0) (hf : ws.length + wN t ≤ most)
    (pl : ∀ k, P k → k < w.heap.size) (ph : ¬ P hb) (pg : ∀ g, a' = some ⟨g, 0, none⟩ → ¬ P g) (pF : ∀ k, k ∈ F → ¬ P k) (hL : L.length + cntT t ≤ 100000) :
    Calls Tryz.prog 26 #[.pointer (some ⟨hb, 0, none⟩), t.val] w fun e w' => e = .returned (.tuple #[.int .u64 (layT t ws.length L).1, .int .i64 0]) ∧
      ∃ a'' c'' F', HP w' hb ab most (ws ++ (layT t ws.length L).2.1) (layT t ws.length L).2.2 F' a'' c'' ∧ (∀ k, k ∈ F' → k ∈ F ∨ w.heap.size ≤ k) ∧ (∀ g, a'' = some ⟨g, 0, none⟩ → a' = some ⟨g, 0, none⟩ ∨ w.heap.size ≤ g) ∧ Kept (hb :: gOf a' ++ F) w w' := by
  by_cases h0 : wN t = 0
  · exact store_zero t w hb ab most ws L F a' c' hp hin hs he hf h0 hL
  · exact store_ok P t w hb ab most ws L F a' c' hp hin hon hs he hf (by omega) pl ph pg pF hL

set_option maxHeartbeats 1000000 in
theorem new_heap (most ab : Nat) (F : List Nat) (w : World) (ht : Tab w ab [] F) (h1 : 1 ≤ most) (h2 : most ≤ 16777216) :
    Calls Tryz.prog 10 #[.int .i64 most, .pointer (some ⟨ab, 0, none⟩)] w fun e w' => ∃ hb, e = .returned (.tuple #[.pointer (some ⟨hb, 0, none⟩), .int .i64 0]) ∧ w.heap.size ≤ hb ∧ HP w' hb ab most [] [] F none 0 ∧ Below w.heap.size w w' := by
  have HTB := hidb ht
  clear ht
  have q1 : ¬ (most : Int) < 1 := by omega
  have q2 : ¬ (16777216 : Int) < (most : Int) := by omega
  go_enter Tryz.func10, Tryz.ntmps10
  go_wp2
  refine bodyPost_ret (v := .tuple #[.pointer (some ⟨w.heap.size, 0, none⟩), .int .i64 0]) (by simp [results, Tryz.results10, go_sem]) rfl ⟨w.heap.size, rfl, Nat.le_refl _, ?_, below_new w _⟩
  have hlt := HTB.out.lt
  exact ⟨Tri.new w _ _ _ _, HTB.out.kept (Kept.of_below (F := []) (below_new w _)) (fun _ _ => by simp), Or.inl ⟨rfl, rfl, rfl⟩, fun h => absurd (hlt _ h) (Nat.lt_irrefl _), fun g h => by simp at h, by omega, by simp, h2, fun ad h => by simp at h⟩

theorem used_any {w : World} {hb ab most : Nat} {ws : List Int} {L : List ByteArray} {F : List Nat} {a : Option Addr} {c : Nat} (h : HP w hb ab most ws L F a c) :
    Calls Tryz.prog 22 #[.pointer (some ⟨hb, 0, none⟩)] w fun e w' => e = .returned (.int .i64 ws.length) ∧ w' = w := by
  obtain ⟨c0, c1, c2, f0, f1, f2, hlt⟩ := h.tri
  clear h
  go_enter Tryz.func22, Tryz.ntmps22
  go_wp2
  go_ret
  exact ⟨rfl, rfl⟩

set_option maxHeartbeats 1000000 in
theorem at_in {w : World} {hb ab most : Nat} {ws : List Int} {L : List ByteArray} {F : List Nat} {a : Option Addr} {c : Nat} (h : HP w hb ab most ws L F a c) (n : Nat) (x : Int) (hx : ws[n]? = some x) :
    Calls Tryz.prog 14 #[.pointer (some ⟨hb, 0, none⟩), .int .i64 n] w fun e w' => e = .returned (.tuple #[.int .u64 x, .bool true]) ∧ w' = w := by
  have hn : n < ws.length := by
    rcases Nat.lt_or_ge n ws.length with h | h
    · exact h
    · rw [List.getElem?_eq_none h] at hx; simp at hx
  obtain ⟨c0, c1, c2, f0, f1, f2, hlt⟩ := h.tri
  rcases h.row with ⟨_, _, rfl⟩ | ⟨g, cs, rfl, h1, h2, h3, h4⟩
  · simp at hn
  have hc := (h1 n (by omega)).1
  rw [h3 n x hx] at hc
  have q1 : ¬ (n : Int) < 0 := by omega
  have q2 : (n : Int) < (ws.length : Int) := by omega
  clear h h1 h3 hx
  go_enter Tryz.func14, Tryz.ntmps14
  go_wp2
  exact bodyPost_ret (v := .tuple #[.int .u64 x, .bool true]) (by simp [results, Tryz.results14, go_sem]) rfl ⟨rfl, rfl⟩

set_option maxHeartbeats 1000000 in
theorem hcut_in {w : World} {hb ab most : Nat} {ws : List Int} {L : List ByteArray} {F : List Nat} {a : Option Addr} {c : Nat} (h : HP w hb ab most ws L F a c) (g : Nat) (ha : a = some ⟨g, 0, none⟩) (p n : Nat) (h0 : 0 < n) (hn : p + n ≤ ws.length) :
    Calls Tryz.prog 97 #[.pointer (some ⟨hb, 0, none⟩), .int .i64 p, .int .i64 n] w fun e w' => e = .returned (.tuple #[.slice (some ⟨g, p, none⟩) n n, .bool true]) ∧ w' = w := by
  obtain ⟨c0, c1, c2, f0, f1, f2, hlt⟩ := h.tri
  subst ha
  have hsm := h.small
  have hft := h.fits
  have hle := h.row.le
  clear h
  have hN0 : ¬ n = 0 := by omega
  have q1 : ¬ (ws.length : Int) - (n : Int) < (p : Int) := by omega
  have q2 : (p : Int) + (n : Int) ≤ (c : Int) := by omega
  have q3 : (0 : Int) ≤ (p : Int) + (n : Int) := by omega
  have q4 : ((p : Int) + (n : Int)).toNat = p + n := by omega
  have q5 : (p : Int).toNat = p := by omega
  go_enter Tryz.func97, Tryz.ntmps97
  go_wp2
  exact bodyPost_ret (v := .tuple #[.slice (some ⟨g, p, none⟩) n n, .bool true]) (by simp [results, Tryz.results97, go_sem]) rfl ⟨rfl, rfl⟩
end Go.Proofs.YtmijabhnbmmmfaaGreat


