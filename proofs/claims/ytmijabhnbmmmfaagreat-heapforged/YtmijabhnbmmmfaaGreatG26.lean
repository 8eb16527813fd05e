import Derived.Test.YtmijabhnbmmmfaaGreatG04
import Derived.Test.YtmijabhnbmmmfaaGreatG25
import Derived.Deep.RegionHeld3
/- Eight cells of a block, not frozen. -/
namespace Go.Proofs.YtmijabhnbmmmfaaGreat
open Go.RowKit

structure Oct (w : World) (b : Nat) (v0 v1 v2 v3 v4 v5 v6 v7 : Value) : Prop where
  c0 : w.cell? ⟨b, 0, none⟩ = some v0
  c1 : w.cell? ⟨b, 1, none⟩ = some v1
  c2 : w.cell? ⟨b, 2, none⟩ = some v2
  c3 : w.cell? ⟨b, 3, none⟩ = some v3
  c4 : w.cell? ⟨b, 4, none⟩ = some v4
  c5 : w.cell? ⟨b, 5, none⟩ = some v5
  c6 : w.cell? ⟨b, 6, none⟩ = some v6
  c7 : w.cell? ⟨b, 7, none⟩ = some v7
  f0 : w.frozen? ⟨b, 0, none⟩ = false
  f1 : w.frozen? ⟨b, 1, none⟩ = false
  f2 : w.frozen? ⟨b, 2, none⟩ = false
  f3 : w.frozen? ⟨b, 3, none⟩ = false
  f4 : w.frozen? ⟨b, 4, none⟩ = false
  f5 : w.frozen? ⟨b, 5, none⟩ = false
  f6 : w.frozen? ⟨b, 6, none⟩ = false
  f7 : w.frozen? ⟨b, 7, none⟩ = false
  lt : b < w.heap.size

theorem Oct.new (w : World) (t : TypeId) (v0 v1 v2 v3 v4 v5 v6 v7 : Value) : Oct (w.alloc (.cells #[v0, v1, v2, v3, v4, v5, v6, v7] t)) w.heap.size v0 v1 v2 v3 v4 v5 v6 v7 :=
  ⟨by rw [World.cell?_alloc_new]; rfl, by rw [World.cell?_alloc_new]; rfl, by rw [World.cell?_alloc_new]; rfl, by rw [World.cell?_alloc_new]; rfl, by rw [World.cell?_alloc_new]; rfl, by rw [World.cell?_alloc_new]; rfl, by rw [World.cell?_alloc_new]; rfl, by rw [World.cell?_alloc_new]; rfl, World.frozen?_alloc_new _ _ _ _, World.frozen?_alloc_new _ _ _ _, World.frozen?_alloc_new _ _ _ _, World.frozen?_alloc_new _ _ _ _, World.frozen?_alloc_new _ _ _ _, World.frozen?_alloc_new _ _ _ _, World.frozen?_alloc_new _ _ _ _, World.frozen?_alloc_new _ _ _ _, by simp⟩

theorem Oct.keep {w w' : World} {b : Nat} {v0 v1 v2 v3 v4 v5 v6 v7 : Value} (h : Oct w b v0 v1 v2 v3 v4 v5 v6 v7) (hb : Below w.heap.size w w') : Oct w' b v0 v1 v2 v3 v4 v5 v6 v7 :=
  ⟨(hb.cell h.lt).trans h.c0, (hb.cell h.lt).trans h.c1, (hb.cell h.lt).trans h.c2, (hb.cell h.lt).trans h.c3, (hb.cell h.lt).trans h.c4, (hb.cell h.lt).trans h.c5, (hb.cell h.lt).trans h.c6, (hb.cell h.lt).trans h.c7, (hb.frozen h.lt).trans h.f0, (hb.frozen h.lt).trans h.f1, (hb.frozen h.lt).trans h.f2, (hb.frozen h.lt).trans h.f3, (hb.frozen h.lt).trans h.f4, (hb.frozen h.lt).trans h.f5, (hb.frozen h.lt).trans h.f6, (hb.frozen h.lt).trans h.f7, Nat.lt_of_lt_of_le h.lt hb.size⟩

def set8 (w : World) (b : Nat) (u0 u1 u2 u3 u4 u5 u6 u7 : Value) : World := (((((((((((((((w.setCell ⟨b, 0, none⟩ u0)).setCell ⟨b, 1, none⟩ u1)).setCell ⟨b, 2, none⟩ u2)).setCell ⟨b, 3, none⟩ u3)).setCell ⟨b, 4, none⟩ u4)).setCell ⟨b, 5, none⟩ u5)).setCell ⟨b, 6, none⟩ u6)).setCell ⟨b, 7, none⟩ u7)

theorem Oct.at {w w' : World} {b : Nat} {v0 v1 v2 v3 v4 v5 v6 v7 : Value} (h : Oct w b v0 v1 v2 v3 v4 v5 v6 v7) (e : w'.heap[b]? = w.heap[b]?) (hs : w.heap.size ≤ w'.heap.size) : Oct w' b v0 v1 v2 v3 v4 v5 v6 v7 :=
  ⟨(World.cell?_of_block (w := w) e).trans h.c0, (World.cell?_of_block (w := w) e).trans h.c1, (World.cell?_of_block (w := w) e).trans h.c2, (World.cell?_of_block (w := w) e).trans h.c3, (World.cell?_of_block (w := w) e).trans h.c4, (World.cell?_of_block (w := w) e).trans h.c5, (World.cell?_of_block (w := w) e).trans h.c6, (World.cell?_of_block (w := w) e).trans h.c7, (World.frozen?_of_block (w := w) e).trans h.f0, (World.frozen?_of_block (w := w) e).trans h.f1, (World.frozen?_of_block (w := w) e).trans h.f2, (World.frozen?_of_block (w := w) e).trans h.f3, (World.frozen?_of_block (w := w) e).trans h.f4, (World.frozen?_of_block (w := w) e).trans h.f5, (World.frozen?_of_block (w := w) e).trans h.f6, (World.frozen?_of_block (w := w) e).trans h.f7, Nat.lt_of_lt_of_le h.lt hs⟩
end Go.Proofs.YtmijabhnbmmmfaaGreat


/- A block read: bare, box. -/
namespace Go.Proofs.YtmijabhnbmmmfaaGreat
open Go.RowKit Go.Deep
attribute [local go_sem] store_float f64bits f64frombits
attribute [local go_sem ↓] Go.wp_at_zero Go.wp_at_succ

set_option maxHeartbeats 1000000 in
theorem bare_7 (v : Value) (w : World) : Calls Tryz.prog 99 #[.int .i64 7, v] w fun e w' => e = .returned (.agg #[.int .i64 (7), .int .i64 (0), .float .f64 (0), .string ⟨#[]⟩, .slice none 0 0]) ∧ Below w.heap.size w w' := by
  go_enter Tryz.func99, Tryz.ntmps99
  go_wp2
  exact bodyPost_ret (v := .agg #[.int .i64 7, .int .i64 0, .float .f64 0, .string ⟨#[]⟩, .slice none 0 0]) (by simp [results, Tryz.results99, go_sem]) rfl ⟨rfl, ((below_new w _).alloc (by simp) _)⟩

set_option maxHeartbeats 1000000 in
theorem bare_2 (g p n : Nat) (x : Nat) (w : World) (hn : 1 < n) (hx : w.cell? ⟨g, p + 1, none⟩ = some (.int .u64 x)) : Calls Tryz.prog 99 #[.int .i64 2, .slice (some ⟨g, p, none⟩) n n] w fun e w' => e = .returned (.agg #[.int .i64 (2), .int .i64 (0), .float .f64 (x), .string ⟨#[]⟩, .slice none 0 0]) ∧ Below w.heap.size w w' := by
  have q : (1 : Int) < (n : Int) := by omega
  have hg : g < w.heap.size := cell_lt hx
  have hx2 : ∀ o1 o2, ((w.alloc o1).alloc o2).cell? ⟨g, p + 1, none⟩ = some (.int .u64 x) := fun o1 o2 => by
    rw [World.cell?_alloc_lt _ _ _ (by simp; omega), World.cell?_alloc_lt _ _ _ hg]
    exact hx
  go_enter Tryz.func99, Tryz.ntmps99
  go_wp2
  exact bodyPost_ret (v := .agg #[.int .i64 2, .int .i64 0, .float .f64 x, .string ⟨#[]⟩, .slice none 0 0]) (by simp [results, Tryz.results99, go_sem]) rfl ⟨rfl, ((below_new w _).alloc (by simp) _)⟩

/-- A block as it is read: its words, what they say, the elements' words, the rest. -/
def blkV (g p n fr : Nat) (k N : Int) (f : Nat) : Value :=
  .agg #[.slice (some ⟨g, p, none⟩) n n, .int .i64 k, .int .i64 N, .float .f64 f, .string ⟨#[]⟩, .slice none 0 0, .slice (some ⟨g, if n = fr then p else p + fr, none⟩) (n - fr) (n - fr), .int .u64 (ofW 4 0)]

set_option maxHeartbeats 1600000 in
set_option maxRecDepth 100000 in
theorem box_ok {w : World} {hb ab most : Nat} {ws : List Int} {L : List ByteArray} {F : List Nat} {a : Option Addr} {c : Nat} (h : HP w hb ab most ws L F a c) (g : Nat) (ha : a = some ⟨g, 0, none⟩) (p n sz : Nat) (hd k N : Int) (f : Nat)
    (hw : ws[p]? = some hd) (d0 : 0 ≤ hd) (d1 : hd ≤ 18446744073709551615) (hB : isB hd = true) (hk : hkI hd = k) (hs : hsI hd = sz) (hl : lnN k sz = n) (hlb : lnB k sz = true) (hn : p + n ≤ ws.length) (hfn : frN k ≤ n) (hszl : sz ≤ 65536)
    (hf : f < 18446744073709551616) (hNw : (Lit.int .i64 N).wf = true) (hkw : (Lit.int .i64 k).wf = true)
    (hbr : ∀ w', Below w.heap.size w w' → Calls Tryz.prog 99 #[.int .i64 k, .slice (some ⟨g, p, none⟩) n n] w' fun e w'' => e = .returned (.agg #[.int .i64 (k), .int .i64 (N), .float .f64 (f), .string ⟨#[]⟩, .slice none 0 0]) ∧ Below w'.heap.size w' w'') (hgood : errT (.mk k N f ⟨#[]⟩ none 0 []) = 0) :
    Calls Tryz.prog 85 #[.pointer (some ⟨hb, 0, none⟩), .int .i64 p] w fun e w' => e = .returned (.tuple #[blkV g p n (frN k) k N f, .bool true]) ∧ Below w.heap.size w w' := by
  have hfr : frN k = 1 ∨ frN k = 2 := by unfold frN; split <;> simp
  have hszw := h.tri.lt
  have C1 := hidb (fun w' (hb' : Below w.heap.size w w') => hcut_in (h.keep hb') g ha p 1 (by omega) (by omega))
  have C2 := hidb (fun w' (hb' : Below w.heap.size w w') => hcut_in (h.keep hb') g ha p n (by omega) hn)
  have WH := hidb (whead_any hd d0 d1)
  rw [hB, hk, hs] at WH
  have LN := hidb (lengthOf_any k sz (by omega) (by omega))
  rw [hl, hlb] at LN
  have hcell : w.cell? ⟨g, p, none⟩ = some (.int .u64 hd) := by
    rcases h.row with ⟨e, _, _⟩ | ⟨g', cs, e, h1, h2, h3, h4⟩
    · rw [ha] at e; simp at e
    · rw [ha] at e
      obtain rfl : g = g' := by simpa using e
      have hp : p < ws.length := by
        rcases Nat.lt_or_ge p ws.length with h | h
        · exact h
        · rw [List.getElem?_eq_none h] at hw; simp at hw
      have := (h1 p (by omega)).1
      rwa [h3 p hd hw] at this
  have BR := hidb hbr
  have FRO := hidb (frontOf_any k)
  have CK := hidb (fun w' => check_t (.mk k N f ⟨#[]⟩ none 0 []) w' (by
    unfold Tr.In
    exact ⟨⟨hkw, hNw, by simpa [Lit.wf] using hf, by show 0 ≤ maxLen; omega, by simp, by simp, fun _ => rfl⟩, fun ad h => by simp at h⟩) (by unfold Small SmallAll; exact ⟨by simp, trivial⟩))
  rw [hgood] at CK
  have HH := hidb h
  unfold blkV
  generalize hFn : frN k = fn at *
  clear h hbr hgood hw hFn hl hlb hk hs hB
  go_enter Tryz.func85, Tryz.ntmps85
  go_wp2_with fail
  refine (C1.out _ (below_new w _)).mono ?_
  rintro e w' ⟨rfl, rfl⟩
  have hg : g < w.heap.size := cell_lt hcell
  have hc1 : ∀ o, (w.alloc o).cell? ⟨g, p, none⟩ = some (.int .u64 hd) := fun o => by rw [World.cell?_alloc_lt _ _ _ hg]; exact hcell
  go_wp2_with (go_at_call 86; refine (WH.out _).mono ?_; rintro e w' ⟨rfl, rfl⟩)
  refine (LN.out _).mono ?_
  rintro e w' ⟨rfl, rfl⟩
  go_wp2_with fail
  refine (C2.out _ (below_new w _)).mono ?_
  rintro e w' ⟨rfl, rfl⟩
  go_wp2_with fail
  refine (BR.out _ (below_new w _)).mono ?_
  rintro e w1 ⟨rfl, hb1⟩
  have HB := hidb (below_in hb1)
  have HO := hidb ((Oct.new w 129 (.slice none 0 0) (.int .i64 0) (.int .i64 0) (.float .f64 0) (.string ⟨#[]⟩) (.slice none 0 0) (.slice none 0 0) (.int .u64 0)).keep hb1)
  clear hb1 BR C1 C2 LN WH hc1
  have hBx := Box.new w1 44 (.int .i64 k) (.int .i64 N) (.float .f64 f) (.string ⟨#[]⟩) (.slice none 0 0)
  have HBX := hidb hBx
  obtain ⟨d0', d1', d2', d3', d4', _, _, _, _, _, _⟩ := hBx
  have HO1 := hidb (HO.out.keep (below_new w1 (.cells #[.int .i64 k, .int .i64 N, .float .f64 f, .string ⟨#[]⟩, .slice none 0 0] 44)))
  have hszb : w.heap.size < w1.heap.size := by have := HO.out.lt; omega
  have hneb : ¬ w.heap.size = w1.heap.size := by omega
  have hneb2 : ¬ w1.heap.size = w.heap.size := by omega
  have q1 : ((fn : Nat) : Int) ≤ (n : Int) := by omega
  have q2 : (0 : Int) ≤ ((fn : Nat) : Int) := by omega
  have q3 : ((fn : Nat) : Int).toNat = fn := by omega
  go_wp2_with fail
  by_cases hnf : n = fn
  · skip
    go_region_held3 (fun w' => w'.cell? ⟨w1.heap.size, 0, none⟩ = some (.int .i64 k) ∧ w'.cell? ⟨w1.heap.size, 1, none⟩ = some (.int .i64 N) ∧ w'.cell? ⟨w1.heap.size, 2, none⟩ = some (.float .f64 f) ∧ w'.cell? ⟨w1.heap.size, 3, none⟩ = some (.string ⟨#[]⟩) ∧ w'.cell? ⟨w1.heap.size, 4, none⟩ = some (.slice none 0 0))
      (first | with_reducible exact ⟨z0, z1, z2, z3, z4⟩ | go_keep)
      (first | (go_at_call 87; refine (FRO.out _).mono ?_; rintro e w' ⟨rfl, rfl⟩) | (go_at_call 58; refine (hof_any 4 0 (by omega) _).mono ?_; rintro e w' ⟨rfl, rfl⟩) | (go_at_call 27; refine (CK.out _).mono ?_; rintro e wz ⟨rfl, hbz⟩; have HBZ := hidb (undrew hbz); obtain ⟨z0, z1, z2, z3, z4, _, _, _, _, _, _⟩ := HBX.out.keep (undrew hbz); obtain ⟨o0, o1, o2, o3, o4, o5, o6, o7, s0, s1, s2, s3, s4, s5, s6, s7, _⟩ := HO1.out.keep (undrew hbz)))
    go_wp2
    have hBz := (HB.out.alloc HB.out.size (.cells #[.int .i64 k, .int .i64 N, .float .f64 f, .string ⟨#[]⟩, .slice none 0 0] 44)).trans (HBZ.out.mono (by have := HB.out.size; simp; omega))
    exact bodyPost_ret (v := .tuple #[.agg #[.slice (some ⟨g, p, none⟩) fn fn, .int .i64 k, .int .i64 N, .float .f64 f, .string ⟨#[]⟩, .slice none 0 0, .slice (some ⟨g, p, none⟩) (fn - fn) (fn - fn), .int .u64 (ofW 4 0)], .bool true]) (by simp [results, Tryz.results85, go_sem, o0, o1, o2, o3, o4, o5, o6, o7]) rfl
      ⟨by simp, (((((((hBz.setCell (Nat.le_refl _) _).setCell (Nat.le_refl _) _).setCell (Nat.le_refl _) _).setCell (Nat.le_refl _) _).setCell (Nat.le_refl _) _).setCell (Nat.le_refl _) _).setCell (Nat.le_refl _) _).setCell (Nat.le_refl _) _⟩
  · skip
    go_region_held3 (fun w' => w'.cell? ⟨w1.heap.size, 0, none⟩ = some (.int .i64 k) ∧ w'.cell? ⟨w1.heap.size, 1, none⟩ = some (.int .i64 N) ∧ w'.cell? ⟨w1.heap.size, 2, none⟩ = some (.float .f64 f) ∧ w'.cell? ⟨w1.heap.size, 3, none⟩ = some (.string ⟨#[]⟩) ∧ w'.cell? ⟨w1.heap.size, 4, none⟩ = some (.slice none 0 0))
      (first | with_reducible exact ⟨z0, z1, z2, z3, z4⟩ | go_keep)
      (first | (go_at_call 87; refine (FRO.out _).mono ?_; rintro e w' ⟨rfl, rfl⟩) | (go_at_call 58; refine (hof_any 4 0 (by omega) _).mono ?_; rintro e w' ⟨rfl, rfl⟩) | (go_at_call 27; refine (CK.out _).mono ?_; rintro e wz ⟨rfl, hbz⟩; have HBZ := hidb (undrew hbz); obtain ⟨z0, z1, z2, z3, z4, _, _, _, _, _, _⟩ := HBX.out.keep (undrew hbz); obtain ⟨o0, o1, o2, o3, o4, o5, o6, o7, s0, s1, s2, s3, s4, s5, s6, s7, _⟩ := HO1.out.keep (undrew hbz)))
    go_wp2
    have hBz := (HB.out.alloc HB.out.size (.cells #[.int .i64 k, .int .i64 N, .float .f64 f, .string ⟨#[]⟩, .slice none 0 0] 44)).trans (HBZ.out.mono (by have := HB.out.size; simp; omega))
    exact bodyPost_ret (v := .tuple #[.agg #[.slice (some ⟨g, p, none⟩) n n, .int .i64 k, .int .i64 N, .float .f64 f, .string ⟨#[]⟩, .slice none 0 0, .slice (some ⟨g, p + fn, none⟩) (n - fn) (n - fn), .int .u64 (ofW 4 0)], .bool true]) (by simp [results, Tryz.results85, go_sem, o0, o1, o2, o3, o4, o5, o6, o7]) rfl
      ⟨by simp, (((((((hBz.setCell (Nat.le_refl _) _).setCell (Nat.le_refl _) _).setCell (Nat.le_refl _) _).setCell (Nat.le_refl _) _).setCell (Nat.le_refl _) _).setCell (Nat.le_refl _) _).setCell (Nat.le_refl _) _).setCell (Nat.le_refl _) _⟩
end Go.Proofs.YtmijabhnbmmmfaaGreat


