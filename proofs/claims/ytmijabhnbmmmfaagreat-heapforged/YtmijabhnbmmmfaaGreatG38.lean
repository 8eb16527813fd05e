import Derived.Test.YtmijabhnbmmmfaaGreatG31
import Derived.Test.YtmijabhnbmmmfaaGreatG37
/- Blocks, whatever words lie there. -/
namespace Go.Proofs.YtmijabhnbmmmfaaGreat
open Go.RowKit Go.Deep
attribute [local go_sem] store_float f64bits f64frombits
attribute [local go_sem ↓] Go.wp_at_zero Go.wp_at_succ

set_option maxHeartbeats 1600000 in
set_option maxRecDepth 100000 in
theorem alone_no {w : World} {hb : Nat} (u : Int) (h0 : 0 ≤ u) (h1 : u ≤ 18446744073709551615) (hr : wRightB u = false ∨ ¬ (tagI u = 1 ∨ tagI u = 2 ∨ tagI u = 3 ∨ tagI u = 4)) :
    Calls Tryz.prog 52 #[.pointer (some ⟨hb, 0, none⟩), .int .u64 u] w fun e w' => e = .returned (.tuple #[.agg #[.int .i64 0, .int .i64 0, .float .f64 0, .string ⟨#[]⟩, .slice none 0 0], .bool false]) ∧ Below w.heap.size w w' := by
  have RT := hidb (right_any u h0 h1)
  have TG := hidb (tag_any u h0 h1)
  generalize wRightB u = R at *
  generalize tagI u = T at *
  cases R with
  | false =>
    clear hr
    go_enter Tryz.func52, Tryz.ntmps52
    go_wp2_with (first | (go_at_call 82; refine (RT.out _).mono ?_; rintro e w' ⟨rfl, rfl⟩) | (go_at_call 81; refine (TG.out _).mono ?_; rintro e w' ⟨rfl, rfl⟩))
    exact bodyPost_ret (v := .tuple #[.agg #[.int .i64 0, .int .i64 0, .float .f64 0, .string ⟨#[]⟩, .slice none 0 0], .bool false]) (by simp [results, Tryz.results52, go_sem]) rfl ⟨rfl, below_new w _⟩
  | true =>
    have hn : ¬ (T = 1 ∨ T = 2 ∨ T = 3 ∨ T = 4) := by
      rcases hr with h | h
      · cases h
      · exact h
    have n1 : ¬ T = 1 := fun h => hn (.inl h)
    have n2 : ¬ T = 2 := fun h => hn (.inr (.inl h))
    have n3 : ¬ T = 3 := fun h => hn (.inr (.inr (.inl h)))
    have n4 : ¬ T = 4 := fun h => hn (.inr (.inr (.inr h)))
    clear hr hn
    go_enter Tryz.func52, Tryz.ntmps52
    go_wp2_with (first | (go_at_call 82; refine (RT.out _).mono ?_; rintro e w' ⟨rfl, rfl⟩) | (go_at_call 81; refine (TG.out _).mono ?_; rintro e w' ⟨rfl, rfl⟩))
    exact bodyPost_ret (v := .tuple #[.agg #[.int .i64 0, .int .i64 0, .float .f64 0, .string ⟨#[]⟩, .slice none 0 0], .bool false]) (by simp [results, Tryz.results52, go_sem]) rfl ⟨rfl, below_new w _⟩

set_option maxHeartbeats 1000000 in
theorem hcut_no {w : World} {hb ab most : Nat} {ws : List Int} {L : List ByteArray} {F : List Nat} {a : Option Addr} {c : Nat} (h : HP w hb ab most ws L F a c) (p : Int) (n : Nat) (hp : p ≤ 1152921504606846976) (hn : n ≤ 100000) (hl : (ws.length : Int) - (n : Int) < p) :
    Calls Tryz.prog 97 #[.pointer (some ⟨hb, 0, none⟩), .int .i64 p, .int .i64 n] w fun e w' => e = .returned (.tuple #[.slice none 0 0, .bool false]) ∧ w' = w := by
  obtain ⟨c0, c1, c2, f0, f1, f2, hlt⟩ := h.tri
  have hsm := h.small
  have hft := h.fits
  clear h
  have hw : IntKind.i64.wrap ((ws.length : Int) - (n : Int)) = (ws.length : Int) - (n : Int) := by rw [IntKind.wrap_i64]; omega
  go_enter Tryz.func97, Tryz.ntmps97
  go_wp2
  exact bodyPost_ret (v := .tuple #[.slice none 0 0, .bool false]) (by simp [results, Tryz.results97, go_sem]) rfl ⟨rfl, rfl⟩

set_option maxHeartbeats 1600000 in
set_option maxRecDepth 100000 in
theorem block_gen (hb : Nat) (u : Int) (p : Int) (A B : Option Addr) (n n' m c f : Nat) (k N y : Int) (is : Bool) (h0 : 0 ≤ u) (h1 : u ≤ 18446744073709551615) (hB : bodyI u = p) (w : World)
    (h : (tagI u = 6 ∧ ∀ w', Below w.heap.size w w' → Calls Tryz.prog 84 #[.pointer (some ⟨hb, 0, none⟩), .int .i64 p] w' fun e w'' => e = .returned (.tuple #[.agg #[.slice A n n', .int .i64 k, .int .i64 N, .float .f64 f, .string ⟨#[]⟩, .slice none 0 0, .slice B m c, .int .u64 y], .bool is]) ∧ Below w'.heap.size w' w'') ∨
      (tagI u = 5 ∧ ∀ w', Below w.heap.size w w' → Calls Tryz.prog 85 #[.pointer (some ⟨hb, 0, none⟩), .int .i64 p] w' fun e w'' => e = .returned (.tuple #[.agg #[.slice A n n', .int .i64 k, .int .i64 N, .float .f64 f, .string ⟨#[]⟩, .slice none 0 0, .slice B m c, .int .u64 y], .bool is]) ∧ Below w'.heap.size w' w'')) :
    Calls Tryz.prog 53 #[.pointer (some ⟨hb, 0, none⟩), .int .u64 u] w fun e w' => e = .returned (.tuple #[.agg #[.slice A n n', .int .i64 k, .int .i64 N, .float .f64 f, .string ⟨#[]⟩, .slice none 0 0, .slice B m c, .int .u64 y], .bool is]) ∧ Below w.heap.size w w' := by
  have TG := hidb (tag_any u h0 h1)
  have BD := hidb (body_any u h0 h1)
  rw [hB] at BD
  clear hB
  rcases h with ⟨ht, h⟩ | ⟨ht, h⟩
  · skip
    have H := hidb h
    rw [ht] at TG
    clear h ht
    go_enter Tryz.func53, Tryz.ntmps53
    go_wp2_with (first | (go_at_call 81; refine (TG.out _).mono ?_; rintro e w' ⟨rfl, rfl⟩) | (go_at_call 78; refine (BD.out _).mono ?_; rintro e w' ⟨rfl, rfl⟩) | (go_at_call 84; refine (H.out _ (below_new w _)).mono ?_; rintro e w1 ⟨rfl, hb1⟩; have HB := hidb (below_in hb1); obtain ⟨o0, o1, o2, o3, o4, o5, o6, o7, s0, s1, s2, s3, s4, s5, s6, s7, _⟩ := (Oct.new w 129 (.slice none 0 0) (.int .i64 0) (.int .i64 0) (.float .f64 0) (.string ⟨#[]⟩) (.slice none 0 0) (.slice none 0 0) (.int .u64 0)).keep hb1))
    exact bodyPost_ret (v := .tuple #[.agg #[.slice A n n', .int .i64 k, .int .i64 N, .float .f64 f, .string ⟨#[]⟩, .slice none 0 0, .slice B m c, .int .u64 y], .bool is]) (by simp [results, Tryz.results53, go_sem, o0, o1, o2, o3, o4, o5, o6, o7]) rfl
      ⟨rfl, (((((((HB.out.setCell (Nat.le_refl _) _).setCell (Nat.le_refl _) _).setCell (Nat.le_refl _) _).setCell (Nat.le_refl _) _).setCell (Nat.le_refl _) _).setCell (Nat.le_refl _) _).setCell (Nat.le_refl _) _).setCell (Nat.le_refl _) _⟩
  · skip
    have H := hidb h
    rw [ht] at TG
    clear h ht
    go_enter Tryz.func53, Tryz.ntmps53
    go_wp2_with (first | (go_at_call 81; refine (TG.out _).mono ?_; rintro e w' ⟨rfl, rfl⟩) | (go_at_call 78; refine (BD.out _).mono ?_; rintro e w' ⟨rfl, rfl⟩) | (go_at_call 85; refine (H.out _ (below_new w _)).mono ?_; rintro e w1 ⟨rfl, hb1⟩; have HB := hidb (below_in hb1); obtain ⟨o0, o1, o2, o3, o4, o5, o6, o7, s0, s1, s2, s3, s4, s5, s6, s7, _⟩ := (Oct.new w 129 (.slice none 0 0) (.int .i64 0) (.int .i64 0) (.float .f64 0) (.string ⟨#[]⟩) (.slice none 0 0) (.slice none 0 0) (.int .u64 0)).keep hb1))
    exact bodyPost_ret (v := .tuple #[.agg #[.slice A n n', .int .i64 k, .int .i64 N, .float .f64 f, .string ⟨#[]⟩, .slice none 0 0, .slice B m c, .int .u64 y], .bool is]) (by simp [results, Tryz.results53, go_sem, o0, o1, o2, o3, o4, o5, o6, o7]) rfl
      ⟨rfl, (((((((HB.out.setCell (Nat.le_refl _) _).setCell (Nat.le_refl _) _).setCell (Nat.le_refl _) _).setCell (Nat.le_refl _) _).setCell (Nat.le_refl _) _).setCell (Nat.le_refl _) _).setCell (Nat.le_refl _) _).setCell (Nat.le_refl _) _⟩
set_option maxHeartbeats 1600000 in
set_option maxRecDepth 100000 in
theorem box_gen {w : World} {hb ab most : Nat} {ws : List Int} {L : List ByteArray} {F : List Nat} {a : Option Addr} {c : Nat} (h : HP w hb ab most ws L F a c) (g : Nat) (ha : a = some ⟨g, 0, none⟩) (p n sz : Nat) (hd k N : Int) (f : Nat)
    (hw : ws[p]? = some hd) (d0 : 0 ≤ hd) (d1 : hd ≤ 18446744073709551615) (hB : isB hd = true) (hk : hkI hd = k) (hs : hsI hd = sz) (hl : lnN k sz = n) (hlb : lnB k sz = true) (hn : p + n ≤ ws.length) (hfn : frN k ≤ n) (hszl : sz ≤ 65536)
    (hf : f < 18446744073709551616) (hNw : (Lit.int .i64 N).wf = true) (hkw : (Lit.int .i64 k).wf = true)
    (hbr : ∀ w', Below w.heap.size w w' → Calls Tryz.prog 99 #[.int .i64 k, .slice (some ⟨g, p, none⟩) n n] w' fun e w'' => e = .returned (.agg #[.int .i64 (k), .int .i64 (N), .float .f64 (f), .string ⟨#[]⟩, .slice none 0 0]) ∧ Below w'.heap.size w' w'') :
    Calls Tryz.prog 85 #[.pointer (some ⟨hb, 0, none⟩), .int .i64 p] w fun e w' => e = .returned (.tuple #[blkV g p n (frN k) k N f, .bool (errT (.mk k N f ⟨#[]⟩ none 0 []) == 0)]) ∧ Below w.heap.size w w' := by
  have hfr : frN k = 1 ∨ frN k = 2 := by unfold frN; split <;> simp
  have hszw := h.tri.lt
  have C1 := hidb (fun w' (hb' : Below w.heap.size w w') => hcut_in (h.keep hb') g ha p 1 (by omega) (by omega))
  have C2 := hidb (fun w' (hb' : Below w.heap.size w w') => hcut_in (h.keep hb') g ha p n (by omega) hn)
  have WH := hidb (whead_any hd d0 d1)
  rw [hB, hk, hs] at WH
  have LN := hidb (lengthOf_any k sz (by omega) (by omega))
  rw [hl, hlb] at LN
  have hcell : w.cell? ⟨g, p, none⟩ = some (.int .u64 hd) := by
    rcases h.row with ⟨e, _, _⟩ | ⟨g', cs, e, h1, h2, h3, h4⟩
    · rw [ha] at e; simp at e
    · rw [ha] at e
      obtain rfl : g = g' := by simpa using e
      have hp : p < ws.length := by
        rcases Nat.lt_or_ge p ws.length with h | h
        · exact h
        · rw [List.getElem?_eq_none h] at hw; simp at hw
      have := (h1 p (by omega)).1
      rwa [h3 p hd hw] at this
  have BR := hidb hbr
  have FRO := hidb (frontOf_any k)
  have CK := hidb (fun w' => check_t (.mk k N f ⟨#[]⟩ none 0 []) w' (by
    unfold Tr.In
    exact ⟨⟨hkw, hNw, by simpa [Lit.wf] using hf, by show 0 ≤ maxLen; omega, by simp, by simp, fun _ => rfl⟩, fun ad h => by simp at h⟩) (by unfold Small SmallAll; exact ⟨by simp, trivial⟩))
  generalize errT (.mk k N f ⟨#[]⟩ none 0 []) = E at *
  have HH := hidb h
  unfold blkV
  generalize hFn : frN k = fn at *
  clear h hbr hw hFn hl hlb hk hs hB
  go_enter Tryz.func85, Tryz.ntmps85
  go_wp2_with fail
  refine (C1.out _ (below_new w _)).mono ?_
  rintro e w' ⟨rfl, rfl⟩
  have hg : g < w.heap.size := cell_lt hcell
  have hc1 : ∀ o, (w.alloc o).cell? ⟨g, p, none⟩ = some (.int .u64 hd) := fun o => by rw [World.cell?_alloc_lt _ _ _ hg]; exact hcell
  go_wp2_with (go_at_call 86; refine (WH.out _).mono ?_; rintro e w' ⟨rfl, rfl⟩)
  refine (LN.out _).mono ?_
  rintro e w' ⟨rfl, rfl⟩
  go_wp2_with fail
  refine (C2.out _ (below_new w _)).mono ?_
  rintro e w' ⟨rfl, rfl⟩
  go_wp2_with fail
  refine (BR.out _ (below_new w _)).mono ?_
  rintro e w1 ⟨rfl, hb1⟩
  have HB := hidb (below_in hb1)
  have HO := hidb ((Oct.new w 129 (.slice none 0 0) (.int .i64 0) (.int .i64 0) (.float .f64 0) (.string ⟨#[]⟩) (.slice none 0 0) (.slice none 0 0) (.int .u64 0)).keep hb1)
  clear hb1 BR C1 C2 LN WH hc1
  have hBx := Box.new w1 44 (.int .i64 k) (.int .i64 N) (.float .f64 f) (.string ⟨#[]⟩) (.slice none 0 0)
  have HBX := hidb hBx
  obtain ⟨d0', d1', d2', d3', d4', _, _, _, _, _, _⟩ := hBx
  have HO1 := hidb (HO.out.keep (below_new w1 (.cells #[.int .i64 k, .int .i64 N, .float .f64 f, .string ⟨#[]⟩, .slice none 0 0] 44)))
  have hszb : w.heap.size < w1.heap.size := by have := HO.out.lt; omega
  have hneb : ¬ w.heap.size = w1.heap.size := by omega
  have hneb2 : ¬ w1.heap.size = w.heap.size := by omega
  have q1 : ((fn : Nat) : Int) ≤ (n : Int) := by omega
  have q2 : (0 : Int) ≤ ((fn : Nat) : Int) := by omega
  have q3 : ((fn : Nat) : Int).toNat = fn := by omega
  go_wp2_with fail
  by_cases hnf : n = fn
  · skip
    go_region_held3 (fun w' => w'.cell? ⟨w1.heap.size, 0, none⟩ = some (.int .i64 k) ∧ w'.cell? ⟨w1.heap.size, 1, none⟩ = some (.int .i64 N) ∧ w'.cell? ⟨w1.heap.size, 2, none⟩ = some (.float .f64 f) ∧ w'.cell? ⟨w1.heap.size, 3, none⟩ = some (.string ⟨#[]⟩) ∧ w'.cell? ⟨w1.heap.size, 4, none⟩ = some (.slice none 0 0))
      (first | with_reducible exact ⟨z0, z1, z2, z3, z4⟩ | go_keep)
      (first | (go_at_call 87; refine (FRO.out _).mono ?_; rintro e w' ⟨rfl, rfl⟩) | (go_at_call 58; refine (hof_any 4 0 (by omega) _).mono ?_; rintro e w' ⟨rfl, rfl⟩) | (go_at_call 27; refine (CK.out _).mono ?_; rintro e wz ⟨rfl, hbz⟩; have HBZ := hidb (undrew hbz); obtain ⟨z0, z1, z2, z3, z4, _, _, _, _, _, _⟩ := HBX.out.keep (undrew hbz); obtain ⟨o0, o1, o2, o3, o4, o5, o6, o7, s0, s1, s2, s3, s4, s5, s6, s7, _⟩ := HO1.out.keep (undrew hbz)))
    go_wp2
    have hBz := (HB.out.alloc HB.out.size (.cells #[.int .i64 k, .int .i64 N, .float .f64 f, .string ⟨#[]⟩, .slice none 0 0] 44)).trans (HBZ.out.mono (by have := HB.out.size; simp; omega))
    exact bodyPost_ret (v := .tuple #[.agg #[.slice (some ⟨g, p, none⟩) fn fn, .int .i64 k, .int .i64 N, .float .f64 f, .string ⟨#[]⟩, .slice none 0 0, .slice (some ⟨g, p, none⟩) (fn - fn) (fn - fn), .int .u64 (ofW 4 0)], .bool (E == 0)]) (by simp [results, Tryz.results85, go_sem, o0, o1, o2, o3, o4, o5, o6, o7]) rfl
      ⟨by simp, (((((((hBz.setCell (Nat.le_refl _) _).setCell (Nat.le_refl _) _).setCell (Nat.le_refl _) _).setCell (Nat.le_refl _) _).setCell (Nat.le_refl _) _).setCell (Nat.le_refl _) _).setCell (Nat.le_refl _) _).setCell (Nat.le_refl _) _⟩
  · skip
    go_region_held3 (fun w' => w'.cell? ⟨w1.heap.size, 0, none⟩ = some (.int .i64 k) ∧ w'.cell? ⟨w1.heap.size, 1, none⟩ = some (.int .i64 N) ∧ w'.cell? ⟨w1.heap.size, 2, none⟩ = some (.float .f64 f) ∧ w'.cell? ⟨w1.heap.size, 3, none⟩ = some (.string ⟨#[]⟩) ∧ w'.cell? ⟨w1.heap.size, 4, none⟩ = some (.slice none 0 0))
      (first | with_reducible exact ⟨z0, z1, z2, z3, z4⟩ | go_keep)
      (first | (go_at_call 87; refine (FRO.out _).mono ?_; rintro e w' ⟨rfl, rfl⟩) | (go_at_call 58; refine (hof_any 4 0 (by omega) _).mono ?_; rintro e w' ⟨rfl, rfl⟩) | (go_at_call 27; refine (CK.out _).mono ?_; rintro e wz ⟨rfl, hbz⟩; have HBZ := hidb (undrew hbz); obtain ⟨z0, z1, z2, z3, z4, _, _, _, _, _, _⟩ := HBX.out.keep (undrew hbz); obtain ⟨o0, o1, o2, o3, o4, o5, o6, o7, s0, s1, s2, s3, s4, s5, s6, s7, _⟩ := HO1.out.keep (undrew hbz)))
    go_wp2
    have hBz := (HB.out.alloc HB.out.size (.cells #[.int .i64 k, .int .i64 N, .float .f64 f, .string ⟨#[]⟩, .slice none 0 0] 44)).trans (HBZ.out.mono (by have := HB.out.size; simp; omega))
    exact bodyPost_ret (v := .tuple #[.agg #[.slice (some ⟨g, p, none⟩) n n, .int .i64 k, .int .i64 N, .float .f64 f, .string ⟨#[]⟩, .slice none 0 0, .slice (some ⟨g, p + fn, none⟩) (n - fn) (n - fn), .int .u64 (ofW 4 0)], .bool (E == 0)]) (by simp [results, Tryz.results85, go_sem, o0, o1, o2, o3, o4, o5, o6, o7]) rfl
      ⟨by simp, (((((((hBz.setCell (Nat.le_refl _) _).setCell (Nat.le_refl _) _).setCell (Nat.le_refl _) _).setCell (Nat.le_refl _) _).setCell (Nat.le_refl _) _).setCell (Nat.le_refl _) _).setCell (Nat.le_refl _) _).setCell (Nat.le_refl _) _⟩

set_option maxHeartbeats 1000000 in
theorem bare_nn (k : Int) (hk : k = 4 ∨ k = 5) (g p n : Nat) (x N : Int) (w : World) (hn : 1 < n) (x0 : 0 ≤ x) (x1 : x ≤ 18446744073709551615) (hN : N = if x < 9223372036854775808 then x else x - 18446744073709551616) (hx : w.cell? ⟨g, p + 1, none⟩ = some (.int .u64 x)) : Calls Tryz.prog 99 #[.int .i64 k, .slice (some ⟨g, p, none⟩) n n] w fun e w' => e = .returned (.agg #[.int .i64 (k), .int .i64 (N), .float .f64 (0), .string ⟨#[]⟩, .slice none 0 0]) ∧ Below w.heap.size w w' := by
  have q : (1 : Int) < (n : Int) := by omega
  have hg : g < w.heap.size := cell_lt hx
  have hx2 : ∀ o1 o2, ((w.alloc o1).alloc o2).cell? ⟨g, p + 1, none⟩ = some (.int .u64 x) := fun o1 o2 => by
    rw [World.cell?_alloc_lt _ _ _ (by simp; omega), World.cell?_alloc_lt _ _ _ hg]
    exact hx
  have hwr : IntKind.i64.wrap x = N := by rw [IntKind.wrap_i64, hN]; split <;> omega
  clear hN x0 x1
  rcases hk with rfl | rfl
  all_goals
    go_enter Tryz.func99, Tryz.ntmps99
    go_wp2
  · exact bodyPost_ret (v := .agg #[.int .i64 4, .int .i64 N, .float .f64 0, .string ⟨#[]⟩, .slice none 0 0]) (by simp [results, Tryz.results99, go_sem]) rfl ⟨rfl, ((below_new w _).alloc (by simp) _)⟩
  · exact bodyPost_ret (v := .agg #[.int .i64 5, .int .i64 N, .float .f64 0, .string ⟨#[]⟩, .slice none 0 0]) (by simp [results, Tryz.results99, go_sem]) rfl ⟨rfl, ((below_new w _).alloc (by simp) _)⟩
end Go.Proofs.YtmijabhnbmmmfaaGreat


/- What a word that points may point to. -/
namespace Go.Proofs.YtmijabhnbmmmfaaGreat
open Go.RowKit Go.Deep
attribute [local go_sem] store_float f64bits f64frombits
attribute [local go_sem ↓] Go.wp_at_zero Go.wp_at_succ

abbrev zeroBlk : Value := .agg #[.slice none 0 0, .int .i64 0, .int .i64 0, .float .f64 0, .string ⟨#[]⟩, .slice none 0 0, .slice none 0 0, .int .u64 0]

section
variable {hb ab most : Nat} {ws : List Int} {L : List ByteArray} {F : List Nat} {a : Option Addr} {c : Nat}

set_option maxHeartbeats 1600000 in
theorem pair_none {w : World} (h : HP w hb ab most ws L F a c) (p : Int) (hp : p ≤ 1152921504606846976) (hl : (ws.length : Int) - 2 < p) :
    Calls Tryz.prog 84 #[.pointer (some ⟨hb, 0, none⟩), .int .i64 p] w fun e w' => e = .returned (.tuple #[zeroBlk, .bool false]) ∧ Below w.heap.size w w' := by
  have C1 := hidb (fun w' (hb' : Below w.heap.size w w') => hcut_no (h.keep hb') p 2 hp (by omega) (by omega))
  clear h hl hp
  go_enter Tryz.func84, Tryz.ntmps84
  go_wp2_with (go_at_call 97; refine (C1.out _ (below_new w _)).mono ?_; rintro e w' ⟨rfl, hw'⟩; obtain rfl := hw'.symm)
  all_goals exact bodyPost_ret (v := .tuple #[zeroBlk, .bool false]) (by simp [results, Tryz.results84, go_sem]) rfl ⟨rfl, by first | exact (below_new w _).drew | exact below_new w _⟩

set_option maxHeartbeats 1600000 in
set_option maxRecDepth 100000 in
theorem pair_bad {w : World} (h : HP w hb ab most ws L F a c) (g p : Nat) (ha : a = some ⟨g, 0, none⟩) (y : Int) (hy : ws[p + 1]? = some y) (y0 : 0 ≤ y) (y1 : y ≤ 18446744073709551615) (t4 : ¬ tagI y = 4) (t6 : ¬ tagI y = 6) :
    Calls Tryz.prog 84 #[.pointer (some ⟨hb, 0, none⟩), .int .i64 p] w fun e w' => e = .returned (.tuple #[zeroBlk, .bool false]) ∧ Below w.heap.size w w' := by
  obtain ⟨g1, e1, hgl, hl1, hc1⟩ := hp_cell h (p + 1) y hy
  rw [ha] at e1
  obtain rfl : g = g1 := by simpa using e1
  have C1 := hidb (fun w' (hb' : Below w.heap.size w w') => hcut_in (h.keep hb') g ha p 2 (by omega) (by omega))
  have TG := hidb (tag_any y y0 y1)
  have hcc : ∀ o, (w.alloc o).cell? ⟨g, p + 1, none⟩ = some (.int .u64 y) := fun o => hc1 _ (below_new w o)
  have hne1 : ¬ g = w.heap.size := by omega
  have hne2 : ¬ w.heap.size = g := by omega
  generalize tagI y = T at *
  have b4 : (T == 4) = false := by simpa using t4
  have b6 : (T == 6) = false := by simpa using t6
  have m4 : (T != 4) = true := by simpa using t4
  have m6 : (T != 6) = true := by simpa using t6
  clear h hy hc1
  go_enter Tryz.func84, Tryz.ntmps84
  go_wp2_with (first | (go_at_call 97; refine (C1.out _ (below_new w _)).mono ?_; rintro e w' ⟨rfl, hw'⟩; obtain rfl := hw'.symm) | (go_at_call 81; refine (TG.out _).mono ?_; rintro e w' ⟨rfl, hw'⟩; obtain rfl := hw'.symm))
  all_goals exact bodyPost_ret (v := .tuple #[zeroBlk, .bool false]) (by simp [results, Tryz.results84, go_sem]) rfl ⟨rfl, by first | exact (below_new w _).drew | exact below_new w _⟩

set_option maxHeartbeats 1600000 in
theorem box_none {w : World} (h : HP w hb ab most ws L F a c) (p : Int) (hp : p ≤ 1152921504606846976) (hl : (ws.length : Int) - 1 < p) :
    Calls Tryz.prog 85 #[.pointer (some ⟨hb, 0, none⟩), .int .i64 p] w fun e w' => e = .returned (.tuple #[zeroBlk, .bool false]) ∧ Below w.heap.size w w' := by
  have C1 := hidb (fun w' (hb' : Below w.heap.size w w') => hcut_no (h.keep hb') p 1 hp (by omega) (by omega))
  clear h hl hp
  go_enter Tryz.func85, Tryz.ntmps85
  go_wp2_with (go_at_call 97; refine (C1.out _ (below_new w _)).mono ?_; rintro e w' ⟨rfl, hw'⟩; obtain rfl := hw'.symm)
  all_goals exact bodyPost_ret (v := .tuple #[zeroBlk, .bool false]) (by simp [results, Tryz.results85, go_sem]) rfl ⟨rfl, below_new w _⟩

set_option maxHeartbeats 1600000 in
set_option maxRecDepth 100000 in
theorem box_fail {w : World} (h : HP w hb ab most ws L F a c) (g p n : Nat) (ha : a = some ⟨g, 0, none⟩) (hd : Int) (hw : ws[p]? = some hd) (d0 : 0 ≤ hd) (d1 : hd ≤ 18446744073709551615) (s0 : 0 ≤ hsI hd) (s1 : hsI hd ≤ 65536) (hn : lnN (hkI hd) (hsI hd) = n) (v : Value) (fits : Bool)
    (C20 : ∀ w', Below w.heap.size w w' → Calls Tryz.prog 97 #[.pointer (some ⟨hb, 0, none⟩), .int .i64 p, .int .i64 n] w' fun e w'' => e = .returned (.tuple #[v, .bool fits]) ∧ w'' = w') (hbad : isB hd = false ∨ lnB (hkI hd) (hsI hd) = false ∨ fits = false) :
    Calls Tryz.prog 85 #[.pointer (some ⟨hb, 0, none⟩), .int .i64 p] w fun e w' => e = .returned (.tuple #[zeroBlk, .bool false]) ∧ Below w.heap.size w w' := by
  obtain ⟨g1, e1, hgl, hl1, hc1⟩ := hp_cell h p hd hw
  rw [ha] at e1
  obtain rfl : g = g1 := by simpa using e1
  have C1 := hidb (fun w' (hb' : Below w.heap.size w w') => hcut_in (h.keep hb') g ha p 1 (by omega) (by omega))
  have C2 := hidb C20
  have WH := hidb (whead_any hd d0 d1)
  have LN := hidb (lengthOf_any (hkI hd) (hsI hd) s0 s1)
  rw [hn] at LN
  have hcc : ∀ o, (w.alloc o).cell? ⟨g, p, none⟩ = some (.int .u64 hd) := fun o => hc1 _ (below_new w o)
  clear h hw hn C20 hc1 s0 s1
  generalize lnB (hkI hd) (hsI hd) = B at *
  generalize isB hd = I at *
  generalize hkI hd = K at *
  generalize hsI hd = S at *
  cases I
  case false =>
    clear hbad
    go_enter Tryz.func85, Tryz.ntmps85
    go_wp2_with fail
    refine (C1.out _ (below_new w _)).mono ?_
    rintro e w' ⟨rfl, rfl⟩
    go_wp2_with (go_at_call 86; refine (WH.out _).mono ?_; rintro e w' ⟨rfl, rfl⟩)
    refine (LN.out _).mono ?_
    rintro e w' ⟨rfl, rfl⟩
    go_wp2_with fail
    refine (C2.out _ (below_new w _)).mono ?_
    rintro e w' ⟨rfl, rfl⟩
    go_wp2_with fail
    exact bodyPost_ret (v := .tuple #[zeroBlk, .bool false]) (by simp [results, Tryz.results85, go_sem]) rfl ⟨rfl, below_new w _⟩
  cases B
  case false =>
    clear hbad
    go_enter Tryz.func85, Tryz.ntmps85
    go_wp2_with fail
    refine (C1.out _ (below_new w _)).mono ?_
    rintro e w' ⟨rfl, rfl⟩
    go_wp2_with (go_at_call 86; refine (WH.out _).mono ?_; rintro e w' ⟨rfl, rfl⟩)
    refine (LN.out _).mono ?_
    rintro e w' ⟨rfl, rfl⟩
    go_wp2_with fail
    refine (C2.out _ (below_new w _)).mono ?_
    rintro e w' ⟨rfl, rfl⟩
    go_wp2_with fail
    exact bodyPost_ret (v := .tuple #[zeroBlk, .bool false]) (by simp [results, Tryz.results85, go_sem]) rfl ⟨rfl, below_new w _⟩
  obtain rfl : fits = false := by
    rcases hbad with h | h | h
    · cases h
    · cases h
    · exact h
  clear hbad
  go_enter Tryz.func85, Tryz.ntmps85
  go_wp2_with fail
  refine (C1.out _ (below_new w _)).mono ?_
  rintro e w' ⟨rfl, rfl⟩
  go_wp2_with (go_at_call 86; refine (WH.out _).mono ?_; rintro e w' ⟨rfl, rfl⟩)
  refine (LN.out _).mono ?_
  rintro e w' ⟨rfl, rfl⟩
  go_wp2_with fail
  refine (C2.out _ (below_new w _)).mono ?_
  rintro e w' ⟨rfl, rfl⟩
  go_wp2_with fail
  exact bodyPost_ret (v := .tuple #[zeroBlk, .bool false]) (by simp [results, Tryz.results85, go_sem]) rfl ⟨rfl, below_new w _⟩
end
end Go.Proofs.YtmijabhnbmmmfaaGreat


