import Derived.Test.YtmijabhnbmmmfaaGreatG22
import Derived.Deep.RegionWith
import Derived.Deep.Cut
/- Store, walked. -/
namespace Go.Proofs.YtmijabhnbmmmfaaGreat
open Go.RowKit Go.Deep
attribute [local go_sem] store_float f64bits
attribute [local go_sem ↓] Go.wp_at_zero Go.wp_at_succ

theorem table_any {w : World} {hb ab : Nat} {v m : Value} (h : Tri w hb v m (.pointer (some ⟨ab, 0, none⟩))) : Calls Tryz.prog 42 #[.pointer (some ⟨hb, 0, none⟩)] w fun e w' => e = .returned (.pointer (some ⟨ab, 0, none⟩)) ∧ w' = w := by
  obtain ⟨c0, c1, c2, f0, f1, f2, hlt⟩ := h
  go_enter Tryz.func42, Tryz.ntmps42
  go_wp2
  go_ret
  exact ⟨rfl, rfl⟩

/-- A heap: its words, how many there may be, its atoms. -/
structure HP (w : World) (hb ab : Nat) (most : Nat) (ws : List Int) (L : List ByteArray) (F : List Nat) (a : Option Addr) (c : Nat) : Prop where
  tri : Tri w hb (.slice a ws.length c) (.int .i64 most) (.pointer (some ⟨ab, 0, none⟩))
  tab : Tab w ab L F
  row : RowAt w a c ws
  nh : hb ∉ F
  ng : ∀ g, a = some ⟨g, 0, none⟩ → g ∉ F ∧ g ≠ hb
  cap : c ≤ 9223372036854775807
  fits : ws.length ≤ most
  small : most ≤ 16777216
  pos : ∀ ad, a = some ad → 0 < c

theorem Tri.at {w w' : World} {b : Nat} {v0 v1 v2 : Value} (h : Tri w b v0 v1 v2) (e : w'.heap[b]? = w.heap[b]?) (hs : w.heap.size ≤ w'.heap.size) : Tri w' b v0 v1 v2 :=
  ⟨(World.cell?_of_block (w := w) e).trans h.c0, (World.cell?_of_block (w := w) e).trans h.c1, (World.cell?_of_block (w := w) e).trans h.c2, (World.frozen?_of_block (w := w) e).trans h.f0, (World.frozen?_of_block (w := w) e).trans h.f1, (World.frozen?_of_block (w := w) e).trans h.f2, Nat.lt_of_lt_of_le h.lt hs⟩

theorem RowAt.keep {w w' : World} {a : Option Addr} {c : Nat} {ws : List Int} (h : RowAt w a c ws) (hb : Below w.heap.size w w') : RowAt w' a c ws := by
  rcases h with h | ⟨g, cs, e, h1, h2, h3, h4⟩
  · exact Or.inl h
  · exact Or.inr ⟨g, cs, e, h1.at (hb.block g h4), h2, h3, Nat.lt_of_lt_of_le h4 hb.size⟩

theorem HP.keep {w w' : World} {hb ab most : Nat} {ws : List Int} {L : List ByteArray} {F : List Nat} {a : Option Addr} {c : Nat} (h : HP w hb ab most ws L F a c) (k : Below w.heap.size w w') : HP w' hb ab most ws L F a c :=
  ⟨h.tri.keep k, h.tab.kept (Kept.of_below (F := []) k) (fun _ _ => by simp), h.row.keep k, h.nh, h.ng, h.cap, h.fits, h.small, h.pos⟩

set_option maxHeartbeats 1600000 in
set_option maxRecDepth 100000 in
theorem store_bad (t : Tr) (w0 w : World) (hb : Nat) (hin : t.In w0 0) (h0 : Below w0.heap.size w0 w) (hs : Small t) (he : errT t ≠ 0) :
    Calls Tryz.prog 26 #[.pointer (some ⟨hb, 0, none⟩), t.val] w fun e w' => e = .returned (.tuple #[.int .u64 0, .int .i64 (errT t)]) ∧ Below w.heap.size w w' := by
  have M := hidb fun w' hw => words_t t w' (in_below (w := w0) hw hin) hs
  generalize wordsT t = W at *
  generalize errT t = E at *
  obtain ⟨k, n, f, s, a, c, kids⟩ := t
  have H0 := hidb h0
  clear hin hs h0
  show Calls Tryz.prog 26 #[.pointer (some ⟨hb, 0, none⟩), .agg #[.int .i64 k, .int .i64 n, .float .f64 f, .string s, .slice a kids.length c]] w _
  go_enter Tryz.func26, Tryz.ntmps26
  go_wp2_with fail
  refine (M.out _ (H0.out.alloc H0.out.size _)).mono ?_
  rintro e w1 ⟨rfl, hb1⟩
  have HB := hidb (below_in hb1)
  clear hb1 M
  go_wp2
  exact bodyPost_ret (v := .tuple #[.int .u64 0, .int .i64 E]) (by simp [results, Tryz.results26, go_sem]) rfl ⟨rfl, HB.out⟩

set_option maxHeartbeats 1600000 in
set_option maxRecDepth 100000 in
theorem store_full (t : Tr) (w0 w : World) (hb ab most : Nat) (ws : List Int) (L : List ByteArray) (F : List Nat) (a' : Option Addr) (c' : Nat) (hp : HP w hb ab most ws L F a' c') (hin : t.In w0 0) (h0 : Below w0.heap.size w0 w) (hs : Small t) (he : errT t = 0) (hf : most < ws.length + wN t) :
    Calls Tryz.prog 26 #[.pointer (some ⟨hb, 0, none⟩), t.val] w fun e w' => e = .returned (.tuple #[.int .u64 0, .int .i64 12]) ∧ Below w.heap.size w w' := by
  have M := hidb fun w' hw => words_t t w' (in_below (w := w0) hw hin) hs
  obtain ⟨_, hw1, hw2⟩ := words_right he
  rw [he, hw1] at M
  generalize wN t = N at *
  obtain ⟨k, n, f, s, a, c, kids⟩ := t
  have H0 := hidb h0
  have HPP := hidb hp
  have hfits := hp.fits
  have hsmall := hp.small
  clear hin hs h0 hp he hw1
  show Calls Tryz.prog 26 #[.pointer (some ⟨hb, 0, none⟩), .agg #[.int .i64 k, .int .i64 n, .float .f64 f, .string s, .slice a kids.length c]] w _
  go_enter Tryz.func26, Tryz.ntmps26
  go_wp2_with fail
  refine (M.out _ (H0.out.alloc H0.out.size _)).mono ?_
  rintro e w1 ⟨rfl, hb1⟩
  have HB := hidb (below_in hb1)
  obtain ⟨c0, c1, c2, f0, f1, f2, hlt⟩ := (HPP.out.keep (below_in hb1)).tri
  clear hb1 M
  have hgt : (most : Int) < (ws.length : Int) + (N : Int) := by omega
  go_wp2
  exact bodyPost_ret (v := .tuple #[.int .u64 0, .int .i64 12]) (by simp [results, Tryz.results26, go_sem]) rfl ⟨rfl, HB.out⟩

/-- The block of a slice. -/
def gOf (a : Option Addr) : List Nat := (a.map (·.block)).toList

set_option maxHeartbeats 1600000 in
set_option maxRecDepth 100000 in
theorem store_ok (P : Nat → Prop) (t : Tr) (w : World) (hb ab most : Nat) (ws : List Int) (L : List ByteArray) (F : List Nat) (a' : Option Addr) (c' : Nat) (hp : HP w hb ab most ws L F a' c') (hin : t.In w 0) (hon : t.On P) (hs : Small t) (he : errT t = 0) (hf : ws.length + wN t ≤ most) (h0 : 0 < wN t)
    (pl : ∀ k, P k → k < w.heap.size) (ph : ¬ P hb) (pg : ∀ g, a' = some ⟨g, 0, none⟩ → ¬ P g) (pF : ∀ k, k ∈ F → ¬ P k) (hL : L.length + cntT t ≤ 100000) :
    Calls Tryz.prog 26 #[.pointer (some ⟨hb, 0, none⟩), t.val] w fun e w' => e = .returned (.tuple #[.int .u64 (layT t ws.length L).1, .int .i64 0]) ∧
      ∃ a'' c'' F', HP w' hb ab most (ws ++ (layT t ws.length L).2.1) (layT t ws.length L).2.2 F' a'' c'' ∧ (∀ k, k ∈ F' → k ∈ F ∨ w.heap.size ≤ k) ∧ (∀ g, a'' = some ⟨g, 0, none⟩ → a' = some ⟨g, 0, none⟩ ∨ w.heap.size ≤ g) ∧ Kept (hb :: gOf a' ++ F) w w' := by
  have M := hidb fun w' hw => words_t t w' (in_below (w := w) hw hin) hs
  obtain ⟨hgd, hw1, hw2⟩ := words_right he
  rw [he, hw1] at M
  have LAY := hidb (lay_any P w t hin hon hgd)
  have hlen := lay_len t ws.length L
  have HLN := hidb hlen
  have HL0 := hidb hL
  unfold LayOk at LAY
  generalize hN : wN t = N at *
  generalize hX : layT t ws.length L = X at *
  obtain ⟨k, n, f, s, a, c, kids⟩ := t
  have HPP := hidb hp
  have PL := hidb pl
  have PG := hidb pg
  have PF := hidb pF
  have PH := hidb ph
  have hfits := hp.fits
  have hsmall := hp.small
  have HX := hidb hX
  clear hin hs hp he hw1 hon hgd pl pg pF ph hlen hL hX
  show Calls Tryz.prog 26 #[.pointer (some ⟨hb, 0, none⟩), .agg #[.int .i64 k, .int .i64 n, .float .f64 f, .string s, .slice a kids.length c]] w _
  go_enter Tryz.func26, Tryz.ntmps26
  go_wp2_with fail
  refine (M.out _ (below_new w _)).mono ?_
  rintro e w1 ⟨rfl, hb1⟩
  have HB := hidb (below_in hb1)
  have HP1 := hidb (HPP.out.keep (below_in hb1))
  have HT1 := hidb ((Box.new w 44 (.int .i64 k) (.int .i64 n) (.float .f64 f) (.string s) (.slice a kids.length c)).keep hb1)
  obtain ⟨c0, c1, c2, f0, f1, f2, hlt⟩ := HP1.out.tri
  clear hb1 M
  have hgt : ¬ (most : Int) < (ws.length : Int) + (N : Int) := by omega
  go_wp2_with fail
  have GR := grow_any a' c' N ws w1 HP1.out.row HP1.out.cap h0 (by omega) (by omega)
  refine GR.mono ?_
  rintro e w2 ⟨g, C, cs, rfl, hC1, hC2, hcl, hpre, hgl, hga, hb2⟩
  have HB2 := hidb hb2
  have HCL := hidb hcl
  have HPR := hidb hpre
  have HGA := hidb hga
  clear GR hcl hpre hga c0 c1 c2 f0 f1 f2 hlt
  have HP2 := hidb (HP1.out.keep hb2)
  have HT2 := hidb (HT1.out.keep hb2)
  obtain ⟨c0, c1, c2, f0, f1, f2, hlt⟩ := HP2.out.tri
  clear hb2
  have u0 : (0 : Int) ≤ (ws.length : Int) + (N : Int) := by omega
  have u1 : (ws.length : Int) + (N : Int) ≤ (C : Int) := by omega
  have u2 : ((ws.length : Int) + (N : Int)).toNat = ws.length + N := by omega
  have u3 : (ws.length : Int) ≤ (ws.length : Int) + (N : Int) := by omega
  have hN0 : ¬ N = 0 := by omega
  have hwr : IntKind.i64.wrap ((ws.length : Int) + (N : Int)) = (ws.length : Int) + (N : Int) := by rw [IntKind.wrap_i64]; omega
  have u4 : ((ws.length : Int)).toNat = ws.length := by omega
  have u5 : ws.length + N ≤ C := hC1
  have u6 : ws.length ≤ ws.length + N := by omega
  have T1 := hidb (table_any (w := w2.drew) (HP2.out.tri.at rfl (Nat.le_refl _)))
  have T2 := hidb (fun o => table_any (w := (w2.alloc o).drew) ((HP2.out.tri.keep (below_new w2 o)).at rfl (Nat.le_refl _)))
  go_wp2_with fail
  go_cut [10] from 12 (fun x wc => ∃ lb, x = .pointer (some ⟨lb, 0, none⟩) ∧ w2.heap.size ≤ lb ∧ Quad wc lb (.pointer (some ⟨ab, 0, none⟩)) (.int .i64 ws.length) (.slice (some ⟨g, ws.length, none⟩) N N) (.int .i64 0) ∧ Below w2.heap.size w2 wc)
  case first =>
    go_region_with (go_at_call 42; (first | with_reducible refine Calls.mono T1.out ?_ | with_reducible refine Calls.mono (T2.out _) ?_); rintro e w' ⟨rfl, rfl⟩)
    all_goals go_wp2_with fail
    all_goals go_meet
    all_goals
      refine ⟨w2.heap.size, rfl, Nat.le_refl _, (Quad.new w2 111 _ _ _ _).at rfl (Nat.le_refl _), ((Below.refl _ _).alloc (Nat.le_refl _) _).drew⟩
  case rest =>
  obtain ⟨lb, rfl, hlb, hq, hbc⟩ := hcut
  have HQ := hidb hq
  have HBC := hidb hbc
  have HP3 := hidb (HP2.out.keep hbc)
  obtain ⟨z0, z1, z2, z3, z4, y0, y1, y2, y3, y4, ltr2⟩ := HT2.out.keep hbc
  clear hq hbc T1 T2 c0 c1 c2 f0 f1 f2
  have hFlt : ∀ k, k ∈ F → k < w1.heap.size := HP1.out.tab.lt
  have hszw : w.heap.size ≤ w1.heap.size := HB.out.size
  have hsz2 := HB2.out.size
  have hgF : g ∉ F := by
    rcases HGA.out with h | h
    · exact (HP1.out.ng g h).1
    · intro hk; have := hFlt g hk; omega
  have hPg : ¬ P g := by
    rcases HGA.out with h | h
    · exact PG.out g h
    · intro hk; have := PL.out g hk; omega
  have LWC : LW P w wc lb ab ws.length g ws.length N L F C cs := by
    refine ⟨⟨⟨_, HQ.out, Or.inl ⟨ws.length, rfl, fun _ => rfl⟩⟩, HP3.out.tab, fun h => by have := hFlt lb h; omega, hgF, by omega, by have := HBC.out.size; omega⟩, HCL.out.at (HBC.out.block g hgl), ?_, fun h => by have := PL.out lb h; omega, hPg, PF.out, PL.out, hC1, by omega⟩
    have hB := (HB.out.trans (HB2.out.mono hszw)).trans (HBC.out.mono (by omega))
    exact ⟨hB.size, fun k hk _ => hB.block k hk⟩
  have LC := hidb (LAY.out lb ab ws.length g ws.length N L F C cs wc LWC (Nat.le_refl _) HL0.out)
  rw [HX.out] at LC
  clear LWC
  go_wp2_with fail
  refine LC.out.mono ?_
  rintro e wz ⟨rfl, F', cs', hlw, hF', hkz, hput⟩
  have H1 := hidb hlw
  have H2 := hidb hF'
  have H3 := hidb hkz
  have H4 := hidb hput
  obtain ⟨v, hqz, _⟩ := hlw.ls.quad
  obtain ⟨_, _, _, e3, _, _, _, _, _⟩ := hqz
  have hhb : hb ∉ lb :: g :: F := by
    have h1 := HP1.out.tri.lt
    simp only [List.mem_cons, not_or]
    refine ⟨by omega, ?_, HP1.out.nh⟩
    rcases HGA.out with h | h
    · exact fun e => (HP1.out.ng g h).2 e.symm
    · omega
  have hTz := HP3.out.tri.at (hkz.block hb HP3.out.tri.lt hhb) hkz.size
  have HTZ := hidb hTz
  obtain ⟨c0, c1, c2, f0, f1, f2, hltz⟩ := hTz
  clear hlw hF' hkz hput LC z0 z1 z2 z3 z4 y0 y1 y2 y3 y4 ltr2 hhb
  go_wp2
  refine bodyPost_ret (v := .tuple #[.int .u64 X.1, .int .i64 0]) (by simp [results, Tryz.results26, go_sem]) rfl ⟨rfl, some ⟨g, 0, none⟩, C, F', ?_, ?_, ?_, ?_⟩
  · have hl : (ws ++ X.2.1).length = ws.length + N := by rw [List.length_append, HLN.out]
    have hhF : hb ∉ F' := by
      intro h
      have h1 := HP1.out.tri.lt
      have h2 := HBC.out.size
      rcases H2.out hb h with h | h
      · exact HP1.out.nh h
      · omega
    have hgb : g ≠ hb := by
      have h1 := HP1.out.tri.lt
      rcases HGA.out with h | h
      · exact (HP1.out.ng g h).2
      · omega
    refine ⟨by rw [hl]; exact HTZ.out.set0 _, H1.out.ls.tab.set hhF _, Or.inr ⟨g, cs', rfl, H1.out.cells.at (Below.heap_setCell _ _ _ _ hgb), by rw [hl]; exact hC1, ?_, by simp [World.setCell]; exact H1.out.ls.gl⟩, hhF, ?_, hC2, by rw [hl]; omega, hsmall, fun _ _ => by omega⟩
    · intro i x hi
      by_cases hil : i < ws.length
      · rw [List.getElem?_append_left hil] at hi
        rw [H4.out.1 i (Or.inl hil)]
        exact HPR.out i x hi
      · rw [List.getElem?_append_right (by omega)] at hi
        have := H4.out.2 _ x hi
        rw [← this]; congr 1; omega
    · intro g' hg'
      obtain rfl : g = g' := by simpa using hg'
      exact ⟨H1.out.ls.ng, hgb⟩
  · intro x hx
    rcases H2.out x hx with h | h
    · exact Or.inl h
    · right; have h2 := HBC.out.size; omega
  · intro g' hg'
    obtain rfl : g = g' := by simpa using hg'
    rcases HGA.out with h | h
    · exact Or.inl h
    · right; omega
  · have hB := (HB.out.trans (HB2.out.mono hszw)).trans (HBC.out.mono (by omega))
    have hK : Kept (hb :: (gOf a' ++ F)) w wz := (Kept.of_below hB).after H3.out (fun x hx => by
      simp only [List.mem_cons, List.mem_append] at hx ⊢
      rcases hx with h | h | h
      · right; omega
      · rcases HGA.out with q | q
        · left; right; left; rw [h, q]; simp [gOf]
        · right; omega
      · exact Or.inl (Or.inr (Or.inr h)))
    exact hK.sets _ _ (by simp)
end Go.Proofs.YtmijabhnbmmmfaaGreat


/- Store of a term that has no words. -/
namespace Go.Proofs.YtmijabhnbmmmfaaGreat
open Go.RowKit Go.Deep
attribute [local go_sem] store_float f64bits
attribute [local go_sem ↓] Go.wp_at_zero Go.wp_at_succ

set_option maxHeartbeats 1600000 in
set_option maxRecDepth 100000 in
theorem lay_zero {t : Tr} {lb ab g ro : Nat} {p : Nat} {L : List ByteArray} {F : List Nat} {w : World} (h : LS w lb ab p g ro 0 L F) (hg : allT goodT t = true) (h0 : wN t = 0) (hL : L.length + cntT t ≤ 100000) :
    Calls Tryz.prog 43 #[.pointer (some ⟨lb, 0, none⟩), t.val] w fun e w' => e = .returned (.int .u64 (layT t p L).1) ∧ ∃ F', LS w' lb ab p g ro 0 (layT t p L).2.2 F' ∧ (∀ k, k ∈ F' → k ∈ F ∨ w.heap.size ≤ k) ∧ Kept (lb :: F) w w' := by
  obtain ⟨k, n, f, s, a, c, kids⟩ := t
  have hg1 : goodT (.mk k n f s a c kids) = true := by simp only [allT, Bool.and_eq_true] at hg; exact hg.1
  have HLS := hidb h
  clear h hg
  show Calls Tryz.prog 43 #[.pointer (some ⟨lb, 0, none⟩), .agg #[.int .i64 k, .int .i64 n, .float .f64 f, .string s, .slice a kids.length c]] w _
  by_cases h1 : k = 1
  · subst h1
    simp only [layT, if_true]
    clear hL hg1 h0
    go_enter Tryz.func43, Tryz.ntmps43
    go_wp2_with (go_at_call 58; refine (hof_any 1 n (by omega) _).mono ?_; rintro e w' ⟨rfl, rfl⟩)
    go_ret
    exact ⟨rfl, F, HLS.out.kept (Kept.of_below (F := []) (below_new w _)) (by simp) (fun _ _ => by simp), fun k hk => Or.inl hk, Kept.of_below (below_new w _)⟩
  by_cases h6 : k = 6
  · subst h6
    simp only [layT, if_true, if_neg h1]
    clear hL hg1 h0
    go_enter Tryz.func43, Tryz.ntmps43
    go_wp2_with (go_at_call 58; refine (hof_any 3 n (by omega) _).mono ?_; rintro e w' ⟨rfl, rfl⟩)
    go_ret
    exact ⟨rfl, F, HLS.out.kept (Kept.of_below (F := []) (below_new w _)) (by simp) (fun _ _ => by simp), fun k hk => Or.inl hk, Kept.of_below (below_new w _)⟩
  by_cases h3 : k = 3
  · subst h3
    simp only [layT, if_true, if_neg h1, if_neg h6]
    have hs : s.size ≤ 64 := by simp [goodT] at hg1; exact hg1.1
    have hl1 : L.length ≤ 100000 := by omega
    have AT := hidb (atom_any (s := s) (HLS.out.kept (Kept.of_below (F := []) (below_new w (.cells #[.int .i64 3, .int .i64 n, .float .f64 f, .string s, .slice a kids.length c] 44))) (by simp) (fun _ _ => by simp)) hs hl1)
    clear hL hg1 hs hl1 h0
    go_enter Tryz.func43, Tryz.ntmps43
    go_wp2_with fail
    refine AT.out.mono ?_
    rintro e w1 ⟨rfl, F', hls, hF, hk⟩
    have A1 := hidb hls
    have A2 := hidb hF
    have A3 := hidb hk
    clear hls hF hk AT
    go_wp2
    go_ret
    exact ⟨rfl, F', A1.out, sub_box A2.out, kept_box A3.out⟩
  by_cases h8 : k = 8
  · subst h8
    simp only [wN, if_neg h1, if_neg h6, if_neg h3, if_true] at h0
    have e0 : kids = [] := List.length_eq_zero_iff.1 (by omega)
    subst e0
    simp only [layT, if_neg h1, if_neg h6, if_neg h3, if_true, List.length_nil, layAll]
    clear hL hg1 h0
    go_enter Tryz.func43, Tryz.ntmps43
    go_wp2_with (go_at_call 60; refine (list_0 lb c a _).mono ?_; rintro e w' ⟨rfl, rfl⟩)
    go_ret
    exact ⟨rfl, F, HLS.out.kept (Kept.of_below (F := []) (below_new w _)) (by simp) (fun _ _ => by simp), fun k hk => Or.inl hk, Kept.of_below (below_new w _)⟩
  · simp only [wN, if_neg h1, if_neg h6, if_neg h3, if_neg h8] at h0
    unfold front at h0
    split at h0
    · simp at h0
    split at h0
    · simp at h0
    split at h0
    · simp at h0
    · simp at h0

theorem lay_none {t : Tr} (h0 : wN t = 0) (p : Nat) (L : List ByteArray) : (layT t p L).2.1 = [] := List.length_eq_zero_iff.1 (by rw [lay_len]; exact h0)

set_option maxHeartbeats 1600000 in
set_option maxRecDepth 100000 in
theorem store_zero (t : Tr) (w : World) (hb ab most : Nat) (ws : List Int) (L : List ByteArray) (F : List Nat) (a' : Option Addr) (c' : Nat) (hp : HP w hb ab most ws L F a' c') (hin : t.In w 0) (hs : Small t) (he : errT t = 0) (hf : ws.length + wN t ≤ most) (h0 : wN t = 0)
    (hL : L.length + cntT t ≤ 100000) :
    Calls Tryz.prog 26 #[.pointer (some ⟨hb, 0, none⟩), t.val] w fun e w' => e = .returned (.tuple #[.int .u64 (layT t ws.length L).1, .int .i64 0]) ∧
      ∃ a'' c'' F', HP w' hb ab most (ws ++ (layT t ws.length L).2.1) (layT t ws.length L).2.2 F' a'' c'' ∧ (∀ k, k ∈ F' → k ∈ F ∨ w.heap.size ≤ k) ∧ (∀ g, a'' = some ⟨g, 0, none⟩ → a' = some ⟨g, 0, none⟩ ∨ w.heap.size ≤ g) ∧ Kept (hb :: gOf a' ++ F) w w' := by
  have M := hidb fun w' hw => words_t t w' (in_below (w := w) hw hin) hs
  obtain ⟨hgd, hw1, hw2⟩ := words_right he
  rw [he, hw1] at M
  have LAY := hidb (fun lb g w' (h : LS w' lb ab ws.length g ws.length 0 L F) => lay_zero h hgd h0 hL)
  have HNIL := hidb (lay_none h0 ws.length L)
  rw [h0] at M
  have hlen := lay_len t ws.length L
  have HLN := hidb hlen
  generalize hX : layT t ws.length L = X at *
  obtain ⟨k, n, f, s, a, c, kids⟩ := t
  have HPP := hidb hp
  have hfits := hp.fits
  have hsmall := hp.small
  have HX := hidb hX
  clear hin hs hp he hw1 hgd hlen hL hX h0 hw2 hf
  show Calls Tryz.prog 26 #[.pointer (some ⟨hb, 0, none⟩), .agg #[.int .i64 k, .int .i64 n, .float .f64 f, .string s, .slice a kids.length c]] w _
  go_enter Tryz.func26, Tryz.ntmps26
  go_wp2_with fail
  refine (M.out _ (below_new w _)).mono ?_
  rintro e w1 ⟨rfl, hb1⟩
  have HB := hidb (below_in hb1)
  have HP1 := hidb (HPP.out.keep (below_in hb1))
  have HT1 := hidb ((Box.new w 44 (.int .i64 k) (.int .i64 n) (.float .f64 f) (.string s) (.slice a kids.length c)).keep hb1)
  obtain ⟨c0, c1, c2, f0, f1, f2, hlt⟩ := HP1.out.tri
  clear hb1 M
  have hgt : ¬ (most : Int) < (ws.length : Int) := by omega
  have hcap := HP1.out.cap
  have hle := HP1.out.row.le
  have HRW := hidb HP1.out.row
  have u3 : (ws.length : Int) ≤ (c' : Int) := by omega
  have T1 := hidb (table_any (w := w1.drew) (HP1.out.tri.at rfl (Nat.le_refl _)))
  have T2 := hidb (fun o => table_any (w := (w1.alloc o).drew) ((HP1.out.tri.keep (below_new w1 o)).at rfl (Nat.le_refl _)))
  have hwr : IntKind.i64.wrap (ws.length : Int) = (ws.length : Int) := by rw [IntKind.wrap_i64]; omega
  have u4 : ((ws.length : Int)).toNat = ws.length := by omega
  go_wp2_with (go_at_call 41; refine (grow_room a' ws.length c' 0 w1 hle hcap (by omega) (by omega)).mono ?_; rintro e w' ⟨rfl, hw'⟩; obtain rfl := hw'.symm)
  go_cut [10] from 12 (fun x wc => ∃ lb, x = .pointer (some ⟨lb, 0, none⟩) ∧ w1.heap.size ≤ lb ∧ Quad wc lb (.pointer (some ⟨ab, 0, none⟩)) (.int .i64 ws.length) (.slice a' 0 0) (.int .i64 0) ∧ Below w1.heap.size w1 wc)
  case first =>
    go_region_with (go_at_call 42; (first | with_reducible refine Calls.mono T1.out ?_ | with_reducible refine Calls.mono (T2.out _) ?_); rintro e w' ⟨rfl, rfl⟩)
    all_goals go_wp2_with fail
    all_goals go_meet
    all_goals
      refine ⟨w1.heap.size, rfl, Nat.le_refl _, (Quad.new w1 111 _ _ _ _).at rfl (Nat.le_refl _), ((Below.refl _ _).alloc (Nat.le_refl _) _).drew⟩
  case rest =>
  obtain ⟨lb, rfl, hlb, hq, hbc⟩ := hcut
  have HQ := hidb hq
  have HBC := hidb hbc
  have HP3 := hidb (HP1.out.keep hbc)
  obtain ⟨z0, z1, z2, z3, z4, y0, y1, y2, y3, y4, ltr2⟩ := HT1.out.keep hbc
  clear hq hbc T1 T2 c0 c1 c2 f0 f1 f2
  have hFlt : ∀ k, k ∈ F → k < w1.heap.size := HP1.out.tab.lt
  have hszw : w.heap.size ≤ w1.heap.size := HB.out.size
  have hsz3 := HBC.out.size
  have hLS : ∃ g, LS wc lb ab ws.length g ws.length 0 L F := by
    have hh := HP1.out.tri.lt
    rcases HRW.out with ⟨rfl, _, _⟩ | ⟨g, cs, rfl, _, _, _, hgl⟩
    · exact ⟨hb, ⟨⟨_, HQ.out, Or.inr ⟨rfl, rfl⟩⟩, HP3.out.tab, fun h => by have := hFlt lb h; omega, HP1.out.nh, by omega, by omega⟩⟩
    · exact ⟨g, ⟨⟨_, HQ.out, Or.inl ⟨0, rfl, fun h => absurd h (by omega)⟩⟩, HP3.out.tab, fun h => by have := hFlt lb h; omega, (HP1.out.ng g rfl).1, by omega, by omega⟩⟩
  obtain ⟨g, hls⟩ := hLS
  have LC := hidb (LAY.out lb g wc hls)
  clear hls
  go_wp2_with fail
  refine LC.out.mono ?_
  rintro e wz ⟨rfl, F', hlz, hF', hkz⟩
  have H1 := hidb hlz
  have H2 := hidb hF'
  have H3 := hidb hkz
  obtain ⟨v, hqz, _⟩ := hlz.quad
  obtain ⟨_, _, _, e3, _, _, _, _, _⟩ := hqz
  have hhb : hb ∉ lb :: F := by
    have h1 := HP1.out.tri.lt
    simp only [List.mem_cons, not_or]
    exact ⟨by omega, HP1.out.nh⟩
  have hTz := HP3.out.tri.at (hkz.block hb HP3.out.tri.lt hhb) hkz.size
  have HTZ := hidb hTz
  obtain ⟨c0, c1, c2, f0, f1, f2, hltz⟩ := hTz
  clear hlz hF' hkz LC z0 z1 z2 z3 z4 y0 y1 y2 y3 y4 ltr2 hhb
  go_wp2
  refine bodyPost_ret (v := .tuple #[.int .u64 X.1, .int .i64 0]) (by simp [results, Tryz.results26, go_sem]) rfl ⟨rfl, a', c', F', ?_, ?_, fun _ h => Or.inl h, ?_⟩
  · rw [HNIL.out, List.append_nil]
    have h1 := HP1.out.tri.lt
    have hhF : hb ∉ F' := by
      intro h
      rcases H2.out hb h with h | h
      · exact HP1.out.nh h
      · omega
    refine ⟨HTZ.out.set0 _, H1.out.tab.set hhF _, ?_, hhF, ?_, HP1.out.cap, HP1.out.fits, HP1.out.small, HP1.out.pos⟩
    · rcases HP3.out.row with h | ⟨g', cs, e', q1, q2, q3, q4⟩
      · exact Or.inl h
      · have hg' := HP1.out.ng g' e'
        have hgl : g' < w1.heap.size := by
          rcases HRW.out with ⟨h, _, _⟩ | ⟨g2, _, h, _, _, _, h2⟩
          · rw [h] at e'; simp at e'
          · rw [h] at e'; obtain rfl : g2 = g' := by simpa using e'
            exact h2
        refine Or.inr ⟨g', cs, e', (q1.at (H3.out.block g' q4 ?_)).at (Below.heap_setCell _ _ _ _ hg'.2), q2, q3, by have := H3.out.size; simp [World.setCell]; omega⟩
        simp only [List.mem_cons, not_or]
        exact ⟨by omega, hg'.1⟩
    · intro g' hg'
      refine ⟨fun h => ?_, (HP1.out.ng g' hg').2⟩
      have hgl : g' < w1.heap.size := by
        rcases HRW.out with ⟨h, _, _⟩ | ⟨g2, _, h, _, _, _, h2⟩
        · rw [h] at hg'; simp at hg'
        · rw [h] at hg'; obtain rfl : g2 = g' := by simpa using hg'
          exact h2
      rcases H2.out g' h with h | h
      · exact (HP1.out.ng g' hg').1 h
      · omega
  · intro x hx
    rcases H2.out x hx with h | h
    · exact Or.inl h
    · right; omega
  · have hB := HB.out.trans (HBC.out.mono hszw)
    have hK : Kept (hb :: (gOf a' ++ F)) w wz := (Kept.of_below hB).after H3.out (fun x hx => by
      simp only [List.mem_cons, List.mem_append] at hx ⊢
      rcases hx with h | h
      · right; omega
      · exact Or.inl (Or.inr (Or.inr h)))
    exact hK.sets _ _ (by simp)
end Go.Proofs.YtmijabhnbmmmfaaGreat


