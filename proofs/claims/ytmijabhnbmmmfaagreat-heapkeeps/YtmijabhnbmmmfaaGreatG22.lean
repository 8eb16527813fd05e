import Derived.Test.YtmijabhnbmmmfaaGreatG21
import Derived.Deep.RegionWith
import Derived.Deep.Cut
/- Store: a term laid behind what there is. -/
namespace Go.Proofs.YtmijabhnbmmmfaaGreat
open Go.RowKit Go.Deep
attribute [local go_sem] store_float f64bits
attribute [local go_sem ↓] Go.wp_at_zero Go.wp_at_succ

/-- A heap's words, as they lie behind its slice. -/
def RowAt (w : World) (a : Option Addr) (c : Nat) (ws : List Int) : Prop :=
  (a = none ∧ c = 0 ∧ ws = []) ∨ ∃ g cs, a = some ⟨g, 0, none⟩ ∧ Cells w g c cs ∧ ws.length ≤ c ∧ (∀ i x, ws[i]? = some x → cs i = x) ∧ g < w.heap.size

theorem RowAt.le {w : World} {a : Option Addr} {c : Nat} {ws : List Int} (h : RowAt w a c ws) : ws.length ≤ c := by
  rcases h with ⟨_, rfl, rfl⟩ | ⟨g, cs, _, _, h, _⟩
  · simp
  · exact h

theorem zeroCells_one (v : Value) : ∀ n, Builtin.zeroCells #[v] n = Array.replicate n v := by
  intro n
  unfold Builtin.zeroCells
  apply Array.ext'
  simp [Nat.mod_one, List.eq_replicate_iff]

/-- Grow, whatever there was: enough room behind the same words. -/
theorem grow_any (a : Option Addr) (c n : Nat) (ws : List Int) (w : World) (h : RowAt w a c ws) (hc : c ≤ 9223372036854775807) (hn0 : 0 < n) (hn : n ≤ 65536) (hl : ws.length ≤ 16777216) :
    Calls Tryz.prog 41 #[.slice a ws.length c, .int .i64 n] w fun e w' => ∃ g C cs, e = .returned (.slice (some ⟨g, 0, none⟩) ws.length C) ∧ ws.length + n ≤ C ∧ C ≤ 9223372036854775807 ∧ Cells w' g C cs ∧ (∀ i x, ws[i]? = some x → cs i = x) ∧ g < w'.heap.size ∧ (a = some ⟨g, 0, none⟩ ∨ g = w.heap.size) ∧ Below w.heap.size w w' := by
  by_cases hr : ws.length + n ≤ c
  · rcases h with ⟨_, rfl, rfl⟩ | ⟨g, cs, rfl, h1, h2, h3, h4⟩
    · simp at hr; omega
    · refine (grow_room _ _ c n w h2 hc hn hr).mono ?_
      rintro e w' ⟨rfl, rfl⟩
      exact ⟨g, c, cs, rfl, hr, hc, h1, h3, h4, Or.inl rfl, Below.refl _ _⟩
  · have hle := h.le
    obtain ⟨vs, hvl, hva, hvs, hvp⟩ : ∃ vs : List Int, vs.length = c ∧ (a = none → c = 0) ∧ (∀ ad, a = some ad → ∀ (j : Nat) (x : Value), (vs.map (Value.int .u64))[j]? = some x → w.cell? (ad.add j) = some x) ∧ (∀ i x, ws[i]? = some x → vs[i]? = some x) := by
      rcases h with ⟨rfl, rfl, rfl⟩ | ⟨g, cs, rfl, h1, h2, h3, h4⟩
      · exact ⟨[], rfl, fun _ => rfl, fun ad h => by simp at h, fun i x h => h⟩
      · refine ⟨(List.range c).map cs, by simp, fun h => by simp at h, fun ad had j x hx => ?_, fun i x hi => ?_⟩
        · obtain rfl : (⟨g, 0, none⟩ : Addr) = ad := by simpa using had
          have hj : j < c := by
            rcases Nat.lt_or_ge j c with h | h
            · exact h
            · rw [List.getElem?_eq_none (by simpa using h)] at hx; simp at hx
          rw [List.getElem?_map, List.getElem?_map, List.getElem?_range hj] at hx
          obtain rfl : Value.int .u64 (cs j) = x := by simpa using hx
          have e : (⟨g, 0, none⟩ : Addr).add j = ⟨g, j, none⟩ := by unfold Addr.add; split <;> simp_all
          rw [e]
          exact (h1 j hj).1
        · have hi' : i < ws.length := by
            rcases Nat.lt_or_ge i ws.length with h | h
            · exact h
            · rw [List.getElem?_eq_none h] at hi; simp at hi
          rw [List.getElem?_map, List.getElem?_range (by omega)]
          simp [h3 i x hi]
    refine (grow_grow a ws.length c n (vs.map (Value.int .u64)) w hle hn hl (by omega) (by simpa using hvl) hva hvs).mono ?_
    rintro e w' ⟨G, hG1, hG2, rfl, rfl⟩
    have e0 : w.drew.heap.size = w.heap.size := rfl
    refine ⟨w.heap.size, G, fun j => (vs ++ List.replicate (G - c) 0).getD j 0, rfl, hG1, hG2, ?_, ?_, by simp [e0], Or.inr rfl, (Below.refl _ _).drew.alloc (Nat.le_refl _) _⟩
    · intro j hj
      have hcells : (vs.map (Value.int .u64)).toArray ++ Builtin.zeroCells #[Value.int .u64 0] (ws.length + n - c) ++ Builtin.zeroCells #[Value.int .u64 0] (G - (ws.length + n)) = ((vs ++ List.replicate (G - c) 0).map (Value.int .u64)).toArray := by
        rw [zeroCells_one, zeroCells_one]
        apply Array.ext'
        have : G - c = (ws.length + n - c) + (G - (ws.length + n)) := by omega
        rw [this, ← List.replicate_append_replicate]
        simp
      rw [hcells]
      have hlen : j < (vs ++ List.replicate (G - c) 0).length := by simp; omega
      refine ⟨?_, ?_⟩
      · rw [← e0, World.cell?_alloc_new]
        generalize vs ++ List.replicate (G - c) 0 = us at hlen ⊢
        simp [List.getElem?_eq_getElem hlen]
      · rw [← e0]; exact World.frozen?_alloc_new _ _ _ _
    · intro i x hi
      have := hvp i x hi
      have hi' : i < vs.length := by
        rcases Nat.lt_or_ge i vs.length with h | h
        · exact h
        · rw [List.getElem?_eq_none h] at this; simp at this
      show (vs ++ List.replicate (G - c) 0).getD i 0 = x
      rw [List.getD_eq_getElem?_getD, List.getElem?_append_left hi', this]
      rfl
end Go.Proofs.YtmijabhnbmmmfaaGreat


/- Store, walked. -/
namespace Go.Proofs.YtmijabhnbmmmfaaGreat
open Go.RowKit Go.Deep
attribute [local go_sem] store_float f64bits
attribute [local go_sem ↓] Go.wp_at_zero Go.wp_at_succ

theorem table_any {w : World} {hb ab : Nat} {v m : Value} (h : Tri w hb v m (.pointer (some ⟨ab, 0, none⟩))) : Calls Tryz.prog 42 #[.pointer (some ⟨hb, 0, none⟩)] w fun e w' => e = .returned (.pointer (some ⟨ab, 0, none⟩)) ∧ w' = w := by
  obtain ⟨c0, c1, c2, f0, f1, f2, hlt⟩ := h
  go_enter Tryz.func42, Tryz.ntmps42
  go_wp2
  go_ret
  exact ⟨rfl, rfl⟩

/-- A heap: its words, how many there may be, its atoms. -/
structure HP (w : World) (hb ab : Nat) (most : Nat) (ws : List Int) (L : List ByteArray) (F : List Nat) (a : Option Addr) (c : Nat) : Prop where
  tri : Tri w hb (.slice a ws.length c) (.int .i64 most) (.pointer (some ⟨ab, 0, none⟩))
  tab : Tab w ab L F
  row : RowAt w a c ws
  nh : hb ∉ F
  ng : ∀ g, a = some ⟨g, 0, none⟩ → g ∉ F ∧ g ≠ hb
  cap : c ≤ 9223372036854775807
  fits : ws.length ≤ most
  small : most ≤ 16777216
  pos : ∀ ad, a = some ad → 0 < c

theorem Tri.at {w w' : World} {b : Nat} {v0 v1 v2 : Value} (h : Tri w b v0 v1 v2) (e : w'.heap[b]? = w.heap[b]?) (hs : w.heap.size ≤ w'.heap.size) : Tri w' b v0 v1 v2 :=
  ⟨(World.cell?_of_block (w := w) e).trans h.c0, (World.cell?_of_block (w := w) e).trans h.c1, (World.cell?_of_block (w := w) e).trans h.c2, (World.frozen?_of_block (w := w) e).trans h.f0, (World.frozen?_of_block (w := w) e).trans h.f1, (World.frozen?_of_block (w := w) e).trans h.f2, Nat.lt_of_lt_of_le h.lt hs⟩

theorem RowAt.keep {w w' : World} {a : Option Addr} {c : Nat} {ws : List Int} (h : RowAt w a c ws) (hb : Below w.heap.size w w') : RowAt w' a c ws := by
  rcases h with h | ⟨g, cs, e, h1, h2, h3, h4⟩
  · exact Or.inl h
  · exact Or.inr ⟨g, cs, e, h1.at (hb.block g h4), h2, h3, Nat.lt_of_lt_of_le h4 hb.size⟩

theorem HP.keep {w w' : World} {hb ab most : Nat} {ws : List Int} {L : List ByteArray} {F : List Nat} {a : Option Addr} {c : Nat} (h : HP w hb ab most ws L F a c) (k : Below w.heap.size w w') : HP w' hb ab most ws L F a c :=
  ⟨h.tri.keep k, h.tab.kept (Kept.of_below (F := []) k) (fun _ _ => by simp), h.row.keep k, h.nh, h.ng, h.cap, h.fits, h.small, h.pos⟩

set_option maxHeartbeats 1600000 in
set_option maxRecDepth 100000 in
theorem store_bad (t : Tr) (w0 w : World) (hb : Nat) (hin : t.In w0 0) (h0 : Below w0.heap.size w0 w) (hs : Small t) (he : errT t ≠ 0) :
    Calls Tryz.prog 26 #[.pointer (some ⟨hb, 0, none⟩), t.val] w fun e w' => e = .returned (.tuple #[.int .u64 0, .int .i64 (errT t)]) ∧ Below w.heap.size w w' := by
  have M := hidb fun w' hw => words_t t w' (in_below (w := w0) hw hin) hs
  generalize wordsT t = W at *
  generalize errT t = E at *
  obtain ⟨k, n, f, s, a, c, kids⟩ := t
  have H0 := hidb h0
  clear hin hs h0
  show Calls Tryz.prog 26 #[.pointer (some ⟨hb, 0, none⟩), .agg #[.int .i64 k, .int .i64 n, .float .f64 f, .string s, .slice a kids.length c]] w _
  go_enter Tryz.func26, Tryz.ntmps26
  go_wp2_with fail
  refine (M.out _ (H0.out.alloc H0.out.size _)).mono ?_
  rintro e w1 ⟨rfl, hb1⟩
  have HB := hidb (below_in hb1)
  clear hb1 M
  go_wp2
  exact bodyPost_ret (v := .tuple #[.int .u64 0, .int .i64 E]) (by simp [results, Tryz.results26, go_sem]) rfl ⟨rfl, HB.out⟩

set_option maxHeartbeats 1600000 in
set_option maxRecDepth 100000 in
theorem store_full (t : Tr) (w0 w : World) (hb ab most : Nat) (ws : List Int) (L : List ByteArray) (F : List Nat) (a' : Option Addr) (c' : Nat) (hp : HP w hb ab most ws L F a' c') (hin : t.In w0 0) (h0 : Below w0.heap.size w0 w) (hs : Small t) (he : errT t = 0) (hf : most < ws.length + wN t) :
    Calls Tryz.prog 26 #[.pointer (some ⟨hb, 0, none⟩), t.val] w fun e w' => e = .returned (.tuple #[.int .u64 0, .int .i64 12]) ∧ Below w.heap.size w w' := by
  have M := hidb fun w' hw => words_t t w' (in_below (w := w0) hw hin) hs
  obtain ⟨_, hw1, hw2⟩ := words_right he
  rw [he, hw1] at M
  generalize wN t = N at *
  obtain ⟨k, n, f, s, a, c, kids⟩ := t
  have H0 := hidb h0
  have HPP := hidb hp
  have hfits := hp.fits
  have hsmall := hp.small
  clear hin hs h0 hp he hw1
  show Calls Tryz.prog 26 #[.pointer (some ⟨hb, 0, none⟩), .agg #[.int .i64 k, .int .i64 n, .float .f64 f, .string s, .slice a kids.length c]] w _
  go_enter Tryz.func26, Tryz.ntmps26
  go_wp2_with fail
  refine (M.out _ (H0.out.alloc H0.out.size _)).mono ?_
  rintro e w1 ⟨rfl, hb1⟩
  have HB := hidb (below_in hb1)
  obtain ⟨c0, c1, c2, f0, f1, f2, hlt⟩ := (HPP.out.keep (below_in hb1)).tri
  clear hb1 M
  have hgt : (most : Int) < (ws.length : Int) + (N : Int) := by omega
  go_wp2
  exact bodyPost_ret (v := .tuple #[.int .u64 0, .int .i64 12]) (by simp [results, Tryz.results26, go_sem]) rfl ⟨rfl, HB.out⟩

/-- The block of a slice. -/
def gOf (a : Option Addr) : List Nat := (a.map (·.block)).toList

set_option maxHeartbeats 1600000 in
set_option maxRecDepth 100000 in
theorem store_ok (P : Nat → Prop) (t : Tr) (w : World) (hb ab most : Nat) (ws : List Int) (L : List ByteArray) (F : List Nat) (a' : Option Addr) (c' : Nat) (hp : HP w hb ab most ws L F a' c') (hin : t.In w 0) (hon : t.On P) (hs : Small t) (he : errT t = 0) (hf : ws.length + wN t ≤ most) (h0 : 0 < wN t)
    (pl : ∀ k, P k → k < w.heap.size) (ph : ¬ P hb) (pg : ∀ g, a' = some ⟨g, 0, none⟩ → ¬ P g) (pF : ∀ k, k ∈ F → ¬ P k) (hL : L.length + cntT t ≤ 100000) :
    Calls Tryz.prog 26 #[.pointer (some ⟨hb, 0, none⟩), t.val] w fun e w' => e = .returned (.tuple #[.int .u64 (layT t ws.length L).1, .int .i64 0]) ∧
      ∃ a'' c'' F', HP w' hb ab most (ws ++ (layT t ws.length L).2.1) (layT t ws.length L).2.2 F' a'' c'' ∧ (∀ k, k ∈ F' → k ∈ F ∨ w.heap.size ≤ k) ∧ (∀ g, a'' = some ⟨g, 0, none⟩ → a' = some ⟨g, 0, none⟩ ∨ w.heap.size ≤ g) ∧ Kept (hb :: gOf a' ++ F) w w' := by
  have M := hidb fun w' hw => words_t t w' (in_below (w := w) hw hin) hs
  obtain ⟨hgd, hw1, hw2⟩ := words_right he
  rw [he, hw1] at M
  have LAY := hidb (lay_any P w t hin hon hgd)
  have hlen := lay_len t ws.length L
  have HLN := hidb hlen
  have HL0 := hidb hL
  unfold LayOk at LAY
  generalize hN : wN t = N at *
  generalize hX : layT t ws.length L = X at *
  obtain ⟨k, n, f, s, a, c, kids⟩ := t
  have HPP := hidb hp
  have PL := hidb pl
  have PG := hidb pg
  have PF := hidb pF
  have PH := hidb ph
  have hfits := hp.fits
  have hsmall := hp.small
  have HX := hidb hX
  clear hin hs hp he hw1 hon hgd pl pg pF ph hlen hL hX
  show Calls Tryz.prog 26 #[.pointer (some ⟨hb, 0, none⟩), .agg #[.int .i64 k, .int .i64 n, .float .f64 f, .string s, .slice a kids.length c]] w _
  go_enter Tryz.func26, Tryz.ntmps26
  go_wp2_with fail
  refine (M.out _ (below_new w _)).mono ?_
  rintro e w1 ⟨rfl, hb1⟩
  have HB := hidb (below_in hb1)
  have HP1 := hidb (HPP.out.keep (below_in hb1))
  have HT1 := hidb ((Box.new w 44 (.int .i64 k) (.int .i64 n) (.float .f64 f) (.string s) (.slice a kids.length c)).keep hb1)
  obtain ⟨c0, c1, c2, f0, f1, f2, hlt⟩ := HP1.out.tri
  clear hb1 M
  have hgt : ¬ (most : Int) < (ws.length : Int) + (N : Int) := by omega
  go_wp2_with fail
  have GR := grow_any a' c' N ws w1 HP1.out.row HP1.out.cap h0 (by omega) (by omega)
  refine GR.mono ?_
  rintro e w2 ⟨g, C, cs, rfl, hC1, hC2, hcl, hpre, hgl, hga, hb2⟩
  have HB2 := hidb hb2
  have HCL := hidb hcl
  have HPR := hidb hpre
  have HGA := hidb hga
  clear GR hcl hpre hga c0 c1 c2 f0 f1 f2 hlt
  have HP2 := hidb (HP1.out.keep hb2)
  have HT2 := hidb (HT1.out.keep hb2)
  obtain ⟨c0, c1, c2, f0, f1, f2, hlt⟩ := HP2.out.tri
  clear hb2
  have u0 : (0 : Int) ≤ (ws.length : Int) + (N : Int) := by omega
  have u1 : (ws.length : Int) + (N : Int) ≤ (C : Int) := by omega
  have u2 : ((ws.length : Int) + (N : Int)).toNat = ws.length + N := by omega
  have u3 : (ws.length : Int) ≤ (ws.length : Int) + (N : Int) := by omega
  have hN0 : ¬ N = 0 := by omega
  have hwr : IntKind.i64.wrap ((ws.length : Int) + (N : Int)) = (ws.length : Int) + (N : Int) := by rw [IntKind.wrap_i64]; omega
  have u4 : ((ws.length : Int)).toNat = ws.length := by omega
  have u5 : ws.length + N ≤ C := hC1
  have u6 : ws.length ≤ ws.length + N := by omega
  have T1 := hidb (table_any (w := w2.drew) (HP2.out.tri.at rfl (Nat.le_refl _)))
  have T2 := hidb (fun o => table_any (w := (w2.alloc o).drew) ((HP2.out.tri.keep (below_new w2 o)).at rfl (Nat.le_refl _)))
  go_wp2_with fail
  go_cut [10] from 12 (fun x wc => ∃ lb, x = .pointer (some ⟨lb, 0, none⟩) ∧ w2.heap.size ≤ lb ∧ Quad wc lb (.pointer (some ⟨ab, 0, none⟩)) (.int .i64 ws.length) (.slice (some ⟨g, ws.length, none⟩) N N) (.int .i64 0) ∧ Below w2.heap.size w2 wc)
  case first =>
    go_region_with (go_at_call 42; (first | with_reducible refine Calls.mono T1.out ?_ | with_reducible refine Calls.mono (T2.out _) ?_); rintro e w' ⟨rfl, rfl⟩)
    all_goals go_wp2_with fail
    all_goals go_meet
    all_goals
      refine ⟨w2.heap.size, rfl, Nat.le_refl _, (Quad.new w2 111 _ _ _ _).at rfl (Nat.le_refl _), ((Below.refl _ _).alloc (Nat.le_refl _) _).drew⟩
  case rest =>
  obtain ⟨lb, rfl, hlb, hq, hbc⟩ := hcut
  have HQ := hidb hq
  have HBC := hidb hbc
  have HP3 := hidb (HP2.out.keep hbc)
  obtain ⟨z0, z1, z2, z3, z4, y0, y1, y2, y3, y4, ltr2⟩ := HT2.out.keep hbc
  clear hq hbc T1 T2 c0 c1 c2 f0 f1 f2
  have hFlt : ∀ k, k ∈ F → k < w1.heap.size := HP1.out.tab.lt
  have hszw : w.heap.size ≤ w1.heap.size := HB.out.size
  have hsz2 := HB2.out.size
  have hgF : g ∉ F := by
    rcases HGA.out with h | h
    · exact (HP1.out.ng g h).1
    · intro hk; have := hFlt g hk; omega
  have hPg : ¬ P g := by
    rcases HGA.out with h | h
    · exact PG.out g h
    · intro hk; have := PL.out g hk; omega
  have LWC : LW P w wc lb ab ws.length g ws.length N L F C cs := by
    refine ⟨⟨⟨_, HQ.out, Or.inl ⟨ws.length, rfl, fun _ => rfl⟩⟩, HP3.out.tab, fun h => by have := hFlt lb h; omega, hgF, by omega, by have := HBC.out.size; omega⟩, HCL.out.at (HBC.out.block g hgl), ?_, fun h => by have := PL.out lb h; omega, hPg, PF.out, PL.out, hC1, by omega⟩
    have hB := (HB.out.trans (HB2.out.mono hszw)).trans (HBC.out.mono (by omega))
    exact ⟨hB.size, fun k hk _ => hB.block k hk⟩
  have LC := hidb (LAY.out lb ab ws.length g ws.length N L F C cs wc LWC (Nat.le_refl _) HL0.out)
  rw [HX.out] at LC
  clear LWC
  go_wp2_with fail
  refine LC.out.mono ?_
  rintro e wz ⟨rfl, F', cs', hlw, hF', hkz, hput⟩
  have H1 := hidb hlw
  have H2 := hidb hF'
  have H3 := hidb hkz
  have H4 := hidb hput
  obtain ⟨v, hqz, _⟩ := hlw.ls.quad
  obtain ⟨_, _, _, e3, _, _, _, _, _⟩ := hqz
  have hhb : hb ∉ lb :: g :: F := by
    have h1 := HP1.out.tri.lt
    simp only [List.mem_cons, not_or]
    refine ⟨by omega, ?_, HP1.out.nh⟩
    rcases HGA.out with h | h
    · exact fun e => (HP1.out.ng g h).2 e.symm
    · omega
  have hTz := HP3.out.tri.at (hkz.block hb HP3.out.tri.lt hhb) hkz.size
  have HTZ := hidb hTz
  obtain ⟨c0, c1, c2, f0, f1, f2, hltz⟩ := hTz
  clear hlw hF' hkz hput LC z0 z1 z2 z3 z4 y0 y1 y2 y3 y4 ltr2 hhb
  go_wp2
  refine bodyPost_ret (v := .tuple #[.int .u64 X.1, .int .i64 0]) (by simp [results, Tryz.results26, go_sem]) rfl ⟨rfl, some ⟨g, 0, none⟩, C, F', ?_, ?_, ?_, ?_⟩
  · have hl : (ws ++ X.2.1).length = ws.length + N := by rw [List.length_append, HLN.out]
    have hhF : hb ∉ F' := by
      intro h
      have h1 := HP1.out.tri.lt
      have h2 := HBC.out.size
      rcases H2.out hb h with h | h
      · exact HP1.out.nh h
      · omega
    have hgb : g ≠ hb := by
      have h1 := HP1.out.tri.lt
      rcases HGA.out with h | h
      · exact (HP1.out.ng g h).2
      · omega
    refine ⟨by rw [hl]; exact HTZ.out.set0 _, H1.out.ls.tab.set hhF _, Or.inr ⟨g, cs', rfl, H1.out.cells.at (Below.heap_setCell _ _ _ _ hgb), by rw [hl]; exact hC1, ?_, by simp [World.setCell]; exact H1.out.ls.gl⟩, hhF, ?_, hC2, by rw [hl]; omega, hsmall, fun _ _ => by omega⟩
    · intro i x hi
      by_cases hil : i < ws.length
      · rw [List.getElem?_append_left hil] at hi
        rw [H4.out.1 i (Or.inl hil)]
        exact HPR.out i x hi
      · rw [List.getElem?_append_right (by omega)] at hi
        have := H4.out.2 _ x hi
        rw [← this]; congr 1; omega
    · intro g' hg'
      obtain rfl : g = g' := by simpa using hg'
      exact ⟨H1.out.ls.ng, hgb⟩
  · intro x hx
    rcases H2.out x hx with h | h
    · exact Or.inl h
    · right; have h2 := HBC.out.size; omega
  · intro g' hg'
    obtain rfl : g = g' := by simpa using hg'
    rcases HGA.out with h | h
    · exact Or.inl h
    · right; omega
  · have hB := (HB.out.trans (HB2.out.mono hszw)).trans (HBC.out.mono (by omega))
    have hK : Kept (hb :: (gOf a' ++ F)) w wz := (Kept.of_below hB).after H3.out (fun x hx => by
      simp only [List.mem_cons, List.mem_append] at hx ⊢
      rcases hx with h | h | h
      · right; omega
      · rcases HGA.out with q | q
        · left; right; left; rw [h, q]; simp [gOf]
        · right; omega
      · exact Or.inl (Or.inr (Or.inr h)))
    exact hK.sets _ _ (by simp)
end Go.Proofs.YtmijabhnbmmmfaaGreat


