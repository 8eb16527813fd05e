import Derived.Test.YtmijabhnbmmmfaaGreatG24
import Derived.Deep.RegionHeld3
/- A block read: bare, box. -/
namespace Go.Proofs.YtmijabhnbmmmfaaGreat
open Go.RowKit Go.Deep
attribute [local go_sem] store_float f64bits f64frombits
attribute [local go_sem ↓] Go.wp_at_zero Go.wp_at_succ

set_option maxHeartbeats 1000000 in
theorem bare_7 (v : Value) (w : World) : Calls Tryz.prog 99 #[.int .i64 7, v] w fun e w' => e = .returned (.agg #[.int .i64 (7), .int .i64 (0), .float .f64 (0), .string ⟨#[]⟩, .slice none 0 0]) ∧ Below w.heap.size w w' := by
  go_enter Tryz.func99, Tryz.ntmps99
  go_wp2
  exact bodyPost_ret (v := .agg #[.int .i64 7, .int .i64 0, .float .f64 0, .string ⟨#[]⟩, .slice none 0 0]) (by simp [results, Tryz.results99, go_sem]) rfl ⟨rfl, ((below_new w _).alloc (by simp) _)⟩

set_option maxHeartbeats 1000000 in
theorem bare_2 (g p n : Nat) (x : Nat) (w : World) (hn : 1 < n) (hx : w.cell? ⟨g, p + 1, none⟩ = some (.int .u64 x)) : Calls Tryz.prog 99 #[.int .i64 2, .slice (some ⟨g, p, none⟩) n n] w fun e w' => e = .returned (.agg #[.int .i64 (2), .int .i64 (0), .float .f64 (x), .string ⟨#[]⟩, .slice none 0 0]) ∧ Below w.heap.size w w' := by
  have q : (1 : Int) < (n : Int) := by omega
  have hg : g < w.heap.size := cell_lt hx
  have hx2 : ∀ o1 o2, ((w.alloc o1).alloc o2).cell? ⟨g, p + 1, none⟩ = some (.int .u64 x) := fun o1 o2 => by
    rw [World.cell?_alloc_lt _ _ _ (by simp; omega), World.cell?_alloc_lt _ _ _ hg]
    exact hx
  go_enter Tryz.func99, Tryz.ntmps99
  go_wp2
  exact bodyPost_ret (v := .agg #[.int .i64 2, .int .i64 0, .float .f64 x, .string ⟨#[]⟩, .slice none 0 0]) (by simp [results, Tryz.results99, go_sem]) rfl ⟨rfl, ((below_new w _).alloc (by simp) _)⟩

/-- A block as it is read: its words, what they say, the elements' words, the rest. -/
def blkV (g p n fr : Nat) (k N : Int) (f : Nat) : Value :=
  .agg #[.slice (some ⟨g, p, none⟩) n n, .int .i64 k, .int .i64 N, .float .f64 f, .string ⟨#[]⟩, .slice none 0 0, .slice (some ⟨g, if n = fr then p else p + fr, none⟩) (n - fr) (n - fr), .int .u64 (ofW 4 0)]

set_option maxHeartbeats 1600000 in
set_option maxRecDepth 100000 in
theorem box_ok {w : World} {hb ab most : Nat} {ws : List Int} {L : List ByteArray} {F : List Nat} {a : Option Addr} {c : Nat} (h : HP w hb ab most ws L F a c) (g : Nat) (ha : a = some ⟨g, 0, none⟩) (p n sz : Nat) (hd k N : Int) (f : Nat)
    (hw : ws[p]? = some hd) (d0 : 0 ≤ hd) (d1 : hd ≤ 18446744073709551615) (hB : isB hd = true) (hk : hkI hd = k) (hs : hsI hd = sz) (hl : lnN k sz = n) (hlb : lnB k sz = true) (hn : p + n ≤ ws.length) (hfn : frN k ≤ n) (hszl : sz ≤ 65536)
    (hf : f < 18446744073709551616) (hNw : (Lit.int .i64 N).wf = true) (hkw : (Lit.int .i64 k).wf = true)
    (hbr : ∀ w', Below w.heap.size w w' → Calls Tryz.prog 99 #[.int .i64 k, .slice (some ⟨g, p, none⟩) n n] w' fun e w'' => e = .returned (.agg #[.int .i64 (k), .int .i64 (N), .float .f64 (f), .string ⟨#[]⟩, .slice none 0 0]) ∧ Below w'.heap.size w' w'') (hgood : errT (.mk k N f ⟨#[]⟩ none 0 []) = 0) :
    Calls Tryz.prog 85 #[.pointer (some ⟨hb, 0, none⟩), .int .i64 p] w fun e w' => e = .returned (.tuple #[blkV g p n (frN k) k N f, .bool true]) ∧ Below w.heap.size w w' := by
  have hfr : frN k = 1 ∨ frN k = 2 := by unfold frN; split <;> simp
  have hszw := h.tri.lt
  have C1 := hidb (fun w' (hb' : Below w.heap.size w w') => hcut_in (h.keep hb') g ha p 1 (by omega) (by omega))
  have C2 := hidb (fun w' (hb' : Below w.heap.size w w') => hcut_in (h.keep hb') g ha p n (by omega) hn)
  have WH := hidb (whead_any hd d0 d1)
  rw [hB, hk, hs] at WH
  have LN := hidb (lengthOf_any k sz (by omega) (by omega))
  rw [hl, hlb] at LN
  have hcell : w.cell? ⟨g, p, none⟩ = some (.int .u64 hd) := by
    rcases h.row with ⟨e, _, _⟩ | ⟨g', cs, e, h1, h2, h3, h4⟩
    · rw [ha] at e; simp at e
    · rw [ha] at e
      obtain rfl : g = g' := by simpa using e
      have hp : p < ws.length := by
        rcases Nat.lt_or_ge p ws.length with h | h
        · exact h
        · rw [List.getElem?_eq_none h] at hw; simp at hw
      have := (h1 p (by omega)).1
      rwa [h3 p hd hw] at this
  have BR := hidb hbr
  have FRO := hidb (frontOf_any k)
  have CK := hidb (fun w' => check_t (.mk k N f ⟨#[]⟩ none 0 []) w' (by
    unfold Tr.In
    exact ⟨⟨hkw, hNw, by simpa [Lit.wf] using hf, by show 0 ≤ maxLen; omega, by simp, by simp, fun _ => rfl⟩, fun ad h => by simp at h⟩) (by unfold Small SmallAll; exact ⟨by simp, trivial⟩))
  rw [hgood] at CK
  have HH := hidb h
  unfold blkV
  generalize hFn : frN k = fn at *
  clear h hbr hgood hw hFn hl hlb hk hs hB
  go_enter Tryz.func85, Tryz.ntmps85
  go_wp2_with fail
  refine (C1.out _ (below_new w _)).mono ?_
  rintro e w' ⟨rfl, rfl⟩
  have hg : g < w.heap.size := cell_lt hcell
  have hc1 : ∀ o, (w.alloc o).cell? ⟨g, p, none⟩ = some (.int .u64 hd) := fun o => by rw [World.cell?_alloc_lt _ _ _ hg]; exact hcell
  go_wp2_with (go_at_call 86; refine (WH.out _).mono ?_; rintro e w' ⟨rfl, rfl⟩)
  refine (LN.out _).mono ?_
  rintro e w' ⟨rfl, rfl⟩
  go_wp2_with fail
  refine (C2.out _ (below_new w _)).mono ?_
  rintro e w' ⟨rfl, rfl⟩
  go_wp2_with fail
  refine (BR.out _ (below_new w _)).mono ?_
  rintro e w1 ⟨rfl, hb1⟩
  have HB := hidb (below_in hb1)
  have HO := hidb ((Oct.new w 129 (.slice none 0 0) (.int .i64 0) (.int .i64 0) (.float .f64 0) (.string ⟨#[]⟩) (.slice none 0 0) (.slice none 0 0) (.int .u64 0)).keep hb1)
  clear hb1 BR C1 C2 LN WH hc1
  have hBx := Box.new w1 44 (.int .i64 k) (.int .i64 N) (.float .f64 f) (.string ⟨#[]⟩) (.slice none 0 0)
  have HBX := hidb hBx
  obtain ⟨d0', d1', d2', d3', d4', _, _, _, _, _, _⟩ := hBx
  have HO1 := hidb (HO.out.keep (below_new w1 (.cells #[.int .i64 k, .int .i64 N, .float .f64 f, .string ⟨#[]⟩, .slice none 0 0] 44)))
  have hszb : w.heap.size < w1.heap.size := by have := HO.out.lt; omega
  have hneb : ¬ w.heap.size = w1.heap.size := by omega
  have hneb2 : ¬ w1.heap.size = w.heap.size := by omega
  have q1 : ((fn : Nat) : Int) ≤ (n : Int) := by omega
  have q2 : (0 : Int) ≤ ((fn : Nat) : Int) := by omega
  have q3 : ((fn : Nat) : Int).toNat = fn := by omega
  go_wp2_with fail
  by_cases hnf : n = fn
  · skip
    go_region_held3 (fun w' => w'.cell? ⟨w1.heap.size, 0, none⟩ = some (.int .i64 k) ∧ w'.cell? ⟨w1.heap.size, 1, none⟩ = some (.int .i64 N) ∧ w'.cell? ⟨w1.heap.size, 2, none⟩ = some (.float .f64 f) ∧ w'.cell? ⟨w1.heap.size, 3, none⟩ = some (.string ⟨#[]⟩) ∧ w'.cell? ⟨w1.heap.size, 4, none⟩ = some (.slice none 0 0))
      (first | with_reducible exact ⟨z0, z1, z2, z3, z4⟩ | go_keep)
      (first | (go_at_call 87; refine (FRO.out _).mono ?_; rintro e w' ⟨rfl, rfl⟩) | (go_at_call 58; refine (hof_any 4 0 (by omega) _).mono ?_; rintro e w' ⟨rfl, rfl⟩) | (go_at_call 27; refine (CK.out _).mono ?_; rintro e wz ⟨rfl, hbz⟩; have HBZ := hidb (undrew hbz); obtain ⟨z0, z1, z2, z3, z4, _, _, _, _, _, _⟩ := HBX.out.keep (undrew hbz); obtain ⟨o0, o1, o2, o3, o4, o5, o6, o7, s0, s1, s2, s3, s4, s5, s6, s7, _⟩ := HO1.out.keep (undrew hbz)))
    go_wp2
    have hBz := (HB.out.alloc HB.out.size (.cells #[.int .i64 k, .int .i64 N, .float .f64 f, .string ⟨#[]⟩, .slice none 0 0] 44)).trans (HBZ.out.mono (by have := HB.out.size; simp; omega))
    exact bodyPost_ret (v := .tuple #[.agg #[.slice (some ⟨g, p, none⟩) fn fn, .int .i64 k, .int .i64 N, .float .f64 f, .string ⟨#[]⟩, .slice none 0 0, .slice (some ⟨g, p, none⟩) (fn - fn) (fn - fn), .int .u64 (ofW 4 0)], .bool true]) (by simp [results, Tryz.results85, go_sem, o0, o1, o2, o3, o4, o5, o6, o7]) rfl
      ⟨by simp, (((((((hBz.setCell (Nat.le_refl _) _).setCell (Nat.le_refl _) _).setCell (Nat.le_refl _) _).setCell (Nat.le_refl _) _).setCell (Nat.le_refl _) _).setCell (Nat.le_refl _) _).setCell (Nat.le_refl _) _).setCell (Nat.le_refl _) _⟩
  · skip
    go_region_held3 (fun w' => w'.cell? ⟨w1.heap.size, 0, none⟩ = some (.int .i64 k) ∧ w'.cell? ⟨w1.heap.size, 1, none⟩ = some (.int .i64 N) ∧ w'.cell? ⟨w1.heap.size, 2, none⟩ = some (.float .f64 f) ∧ w'.cell? ⟨w1.heap.size, 3, none⟩ = some (.string ⟨#[]⟩) ∧ w'.cell? ⟨w1.heap.size, 4, none⟩ = some (.slice none 0 0))
      (first | with_reducible exact ⟨z0, z1, z2, z3, z4⟩ | go_keep)
      (first | (go_at_call 87; refine (FRO.out _).mono ?_; rintro e w' ⟨rfl, rfl⟩) | (go_at_call 58; refine (hof_any 4 0 (by omega) _).mono ?_; rintro e w' ⟨rfl, rfl⟩) | (go_at_call 27; refine (CK.out _).mono ?_; rintro e wz ⟨rfl, hbz⟩; have HBZ := hidb (undrew hbz); obtain ⟨z0, z1, z2, z3, z4, _, _, _, _, _, _⟩ := HBX.out.keep (undrew hbz); obtain ⟨o0, o1, o2, o3, o4, o5, o6, o7, s0, s1, s2, s3, s4, s5, s6, s7, _⟩ := HO1.out.keep (undrew hbz)))
    go_wp2
    have hBz := (HB.out.alloc HB.out.size (.cells #[.int .i64 k, .int .i64 N, .float .f64 f, .string ⟨#[]⟩, .slice none 0 0] 44)).trans (HBZ.out.mono (by have := HB.out.size; simp; omega))
    exact bodyPost_ret (v := .tuple #[.agg #[.slice (some ⟨g, p, none⟩) n n, .int .i64 k, .int .i64 N, .float .f64 f, .string ⟨#[]⟩, .slice none 0 0, .slice (some ⟨g, p + fn, none⟩) (n - fn) (n - fn), .int .u64 (ofW 4 0)], .bool true]) (by simp [results, Tryz.results85, go_sem, o0, o1, o2, o3, o4, o5, o6, o7]) rfl
      ⟨by simp, (((((((hBz.setCell (Nat.le_refl _) _).setCell (Nat.le_refl _) _).setCell (Nat.le_refl _) _).setCell (Nat.le_refl _) _).setCell (Nat.le_refl _) _).setCell (Nat.le_refl _) _).setCell (Nat.le_refl _) _).setCell (Nat.le_refl _) _⟩
end Go.Proofs.YtmijabhnbmmmfaaGreat


/- A word and a heap's words that say a term. -/
namespace Go.Proofs.YtmijabhnbmmmfaaGreat
open Go.RowKit Go.Deep

mutual
/-- In these words, with these atoms, the word u says the term. -/
def Rep (ws : List Int) (L : List ByteArray) : Tr → Int → Prop
  | .mk k n f s _ _ kids, u =>
    if k = 1 then u = ofW 1 n
    else if k = 6 then u = ofW 3 n
    else if k = 3 then ∃ i : Nat, u = ofW 2 i ∧ L[i]? = some s
    else if k = 8 then RepL ws L kids u
    else ∃ p : Nat, u = ofW 5 p ∧ p ≤ 16777216 ∧ (∀ (i : Nat) (x : Int), (front k n f kids.length)[i]? = some x → ws[p + i]? = some x) ∧ RepAll ws L kids (p + (front k n f kids.length).length)
/-- The elements' words stand side by side. -/
def RepAll (ws : List Int) (L : List ByteArray) : List Tr → Nat → Prop
  | [], _ => True
  | t :: r, q => (∃ x, ws[q]? = some x ∧ Rep ws L t x) ∧ RepAll ws L r (q + 1)
/-- A list: a pair and the rest. -/
def RepL (ws : List Int) (L : List ByteArray) : List Tr → Int → Prop
  | [], u => u = ofW 4 0
  | t :: r, u => ∃ p : Nat, u = ofW 6 p ∧ p ≤ 16777216 ∧ (∃ x, ws[p]? = some x ∧ Rep ws L t x) ∧ ∃ y, ws[p + 1]? = some y ∧ RepL ws L r y
end

/-- More words behind, more atoms behind: it says the same. -/
theorem rep_more {ws ws' : List Int} {L L' : List ByteArray} (hw : ∀ (i : Nat) (x : Int), ws[i]? = some x → ws'[i]? = some x) (hl : ∀ (i : Nat) (x : ByteArray), L[i]? = some x → L'[i]? = some x) : ∀ (t : Tr) (u : Int), Rep ws L t u → Rep ws' L' t u := by
  refine Tr.ind fun k n f s a c kids hk u h => ?_
  have hall : ∀ (l : List Tr), (∀ t, t ∈ l → t ∈ kids) → ∀ q, RepAll ws L l q → RepAll ws' L' l q := by
    intro l
    induction l with
    | nil => intro _ q _; unfold RepAll; trivial
    | cons t r ih =>
      intro hl' q h
      unfold RepAll at h ⊢
      obtain ⟨⟨x, hx, hr⟩, h2⟩ := h
      exact ⟨⟨x, hw _ _ hx, hk t (hl' t (List.mem_cons_self ..)) x hr⟩, ih (fun v hv => hl' v (List.mem_cons_of_mem _ hv)) _ h2⟩
  have hlist : ∀ (l : List Tr), (∀ t, t ∈ l → t ∈ kids) → ∀ u, RepL ws L l u → RepL ws' L' l u := by
    intro l
    induction l with
    | nil => intro _ u h; unfold RepL at h ⊢; exact h
    | cons t r ih =>
      intro hl' u h
      unfold RepL at h ⊢
      obtain ⟨p, h1, h2, ⟨x, hx, hr⟩, y, hy, hy2⟩ := h
      exact ⟨p, h1, h2, ⟨x, hw _ _ hx, hk t (hl' t (List.mem_cons_self ..)) x hr⟩, y, hw _ _ hy, ih (fun v hv => hl' v (List.mem_cons_of_mem _ hv)) _ hy2⟩
  unfold Rep at h ⊢
  split
  · rename_i h1; rw [if_pos h1] at h; exact h
  rename_i h1
  rw [if_neg h1] at h
  split
  · rename_i h6; rw [if_pos h6] at h; exact h
  rename_i h6
  rw [if_neg h6] at h
  split
  · rename_i h3; rw [if_pos h3] at h
    obtain ⟨i, e, hi⟩ := h
    exact ⟨i, e, hl _ _ hi⟩
  rename_i h3
  rw [if_neg h3] at h
  split
  · rename_i h8; rw [if_pos h8] at h; exact hlist kids (fun t h => h) u h
  rename_i h8
  rw [if_neg h8] at h
  obtain ⟨p, e, hp, hf, hr⟩ := h
  exact ⟨p, e, hp, fun i x hi => hw _ _ (hf i x hi), hall kids (fun t h => h) _ hr⟩

/-- Atoms stay where they are. -/
theorem stepL_keeps (L : List ByteArray) (s : ByteArray) (i : Nat) (x : ByteArray) (h : L[i]? = some x) : (stepL L s)[i]? = some x := by
  unfold stepL
  split
  · exact h
  · have hi : i < L.length := by
      rcases Nat.lt_or_ge i L.length with q | q
      · exact q
      · rw [List.getElem?_eq_none q] at h; simp at h
    rw [List.getElem?_append_left hi]; exact h

theorem stepL_has (L : List ByteArray) (s : ByteArray) (hs : s.size ≤ 64) : (stepL L s)[pos L s]? = some s ∧ numN L s = (pos L s : Int) := by
  have hl : longB s = false := by simp [longB]; omega
  refine ⟨?_, by simp [numN, hl]⟩
  unfold stepL
  cases hi : inL L s with
  | true => simp only [hl, Bool.false_or, if_true]; exact pos_at hi
  | false =>
    simp only [hl, Bool.false_or, Bool.false_eq_true, if_false]
    rw [pos_none hi]
    simp

theorem lay_keeps : ∀ (t : Tr) (p : Nat) (L : List ByteArray) (i : Nat) (x : ByteArray), L[i]? = some x → (layT t p L).2.2[i]? = some x := by
  refine Tr.ind fun k n f s a c kids hk p L i x h => ?_
  have hall : ∀ (l : List Tr), (∀ t, t ∈ l → t ∈ kids) → ∀ p L (i : Nat) (x : ByteArray), L[i]? = some x → (layAll l p L).2.2[i]? = some x := by
    intro l
    induction l with
    | nil => intro _ p L i x h; simpa only [layAll] using h
    | cons t r ih =>
      intro hl p L i x h
      simp only [layAll]
      exact ih (fun v hv => hl v (List.mem_cons_of_mem _ hv)) _ _ i x (hk t (hl t (List.mem_cons_self ..)) p L i x h)
  simp only [layT]
  repeat' split
  all_goals first | exact h | exact stepL_keeps _ _ _ _ h | exact hall kids (fun t h => h) _ _ i x h

theorem layAll_keeps (l : List Tr) : ∀ (p : Nat) (L : List ByteArray) (i : Nat) (x : ByteArray), L[i]? = some x → (layAll l p L).2.2[i]? = some x := by
  induction l with
  | nil => intro p L i x h; simpa only [layAll] using h
  | cons t r ih =>
    intro p L i x h
    simp only [layAll]
    exact ih _ _ i x (lay_keeps t p L i x h)

/-- The pairs of a list that is laid from p on. -/
theorem pairs_at : ∀ (l : List Int) (p : Nat) (ws : List Int), (∀ (i : Nat) (x : Int), (pairs l p)[i]? = some x → ws[p + i]? = some x) → ∀ (j : Nat) (x : Int), l[j]? = some x → ws[p + 2 * j]? = some x ∧ ws[p + 2 * j + 1]? = some (if j + 1 = l.length then ofW 4 0 else ofW 6 ((p + 2 * (j + 1) : Nat) : Int)) := by
  intro l
  induction l with
  | nil => intro p ws _ j x h; simp at h
  | cons y r ih =>
    intro p ws hw j x hj
    cases r with
    | nil =>
      have hj0 : j = 0 := by
        rcases j with _ | j
        · rfl
        · simp at hj
      subst hj0
      obtain rfl : y = x := by simpa using hj
      exact ⟨hw 0 y rfl, by simpa using hw 1 (ofW 4 0) rfl⟩
    | cons z r =>
      rcases j with _ | j
      · obtain rfl : y = x := by simpa using hj
        refine ⟨hw 0 y rfl, ?_⟩
        rw [if_neg (by simp only [List.length_cons]; omega)]
        exact hw 1 _ rfl
      · have hw' : ∀ (i : Nat) (x : Int), (pairs (z :: r) (p + 2))[i]? = some x → ws[p + 2 + i]? = some x := by
          intro i x hi
          have e : p + 2 + i = p + (i + 2) := by omega
          rw [e]
          exact hw (i + 2) x (by simpa only [pairs, List.getElem?_cons_succ] using hi)
        have g := ih (p + 2) ws hw' j x (by simpa using hj)
        have e1 : p + 2 * (j + 1) = p + 2 + 2 * j := by omega
        have e2 : p + 2 * (j + 1 + 1) = p + 2 + 2 * (j + 1) := by omega
        rw [e1, e2]
        refine ⟨g.1, ?_⟩
        have := g.2
        simp only [List.length_cons] at this ⊢
        by_cases hc : j + 1 = r.length + 1
        · rw [if_pos hc] at this
          rw [if_pos (by omega)]
          exact this
        · rw [if_neg hc] at this
          rw [if_neg (by omega)]
          exact this
end Go.Proofs.YtmijabhnbmmmfaaGreat


