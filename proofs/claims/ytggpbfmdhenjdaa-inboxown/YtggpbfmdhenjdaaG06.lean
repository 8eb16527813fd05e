import Derived.Test.YtggpbfmdhenjdaaG05
/- term.copyAll, step by step. -/
namespace Go.Proofs.Ytggpbfmdhenjdaa
open Go.RowKit Go.Lib

def updR (R : RM) (g : Nat) (x : List Tr × List Nat) : RM := fun k => if k = g then some x else R k
theorem updR_same (R : RM) (g : Nat) (x : List Tr × List Nat) : updR R g x g = some x := by simp [updR]
theorem updR_other (R : RM) (g k : Nat) (x : List Tr × List Nat) (h : k ≠ g) : updR R g x k = R k := by simp [updR, h]

variable {w0 w : World} {R : RM} {wait : List (Nat × List Tr)} {W : Value} {g : Nat} {ts : List Tr} {ch : List Nat}

theorem CP.lt {cur : Nat → Prop} (h : CP w0 w R cur wait W) (hR : R g = some (ts, ch)) : g < w.heap.size := (Array.getElem?_eq_some_iff.1 (h.blk g ts ch hR).1).1
/-- The row of those that wait is none of the terms' rows. -/
theorem CP.apart {cur : Nat → Prop} (h : CP w0 w R cur wait W) (hR : R g = some (ts, ch)) : W.ownBlock ≠ some g := by
  intro e
  rcases h.row.2 with ⟨rfl, _⟩ | ⟨q, cap, cur', rfl, _, hq, _⟩
  · simp [Value.ownBlock] at e
  · have e' : q = g := by simpa [Value.ownBlock] using e
    subst e'
    rw [(h.blk q ts ch hR).1] at hq
    simp at hq
    exact absurd hq.2 (by decide)

theorem cp_start (hts : 0 < ts.length) (hl : ts.length ≤ 400000) (hsrc : ∀ t : Tr, t ∈ ts → t.In w0 0 ∧ Small t) :
    CP w0 ((w0.alloc (.cells (rowCells ts []).toArray TT)).alloc (.cells #[.slice (some ⟨w0.heap.size, 0, none⟩) ts.length ts.length] TS)) (fun k => if k = w0.heap.size then some (ts, []) else none) (fun _ => False) [(w0.heap.size, ts)] (.slice (some ⟨w0.heap.size + 1, 0, none⟩) 1 1) := by
  have hR : ∀ g us ch, (fun k => if k = w0.heap.size then some (ts, ([] : List Nat)) else none) g = some (us, ch) → g = w0.heap.size ∧ us = ts ∧ ch = [] := by
    intro g us ch h
    simp only at h
    split at h
    · rename_i e; simp at h; exact ⟨e, h.1.symm, h.2⟩
    · cases h
  refine ⟨fun g us ch h => ?_, fun g us ch h => ?_, fun g us ch h i k t hc => ?_, fun g us ch h => ?_, fun g us h => ?_, by simp, ?_, ?_⟩
  · obtain ⟨rfl, rfl, rfl⟩ := hR g us ch h
    exact ⟨(Below.heap_alloc _ _ _ (by simp)).trans (MapKept.heap_alloc w0 _).1, Nat.le_refl _⟩
  · obtain ⟨rfl, rfl, rfl⟩ := hR g us ch h
    exact ⟨Nat.zero_le _, hts, hl, hsrc⟩
  · obtain ⟨rfl, rfl, rfl⟩ := hR g us ch h
    simp at hc
  · obtain ⟨rfl, rfl, rfl⟩ := hR g us ch h
    exact .inr (.inr ⟨us, by simp⟩)
  · have e : g = w0.heap.size ∧ us = ts := by simpa using h
    obtain ⟨rfl, rfl⟩ := e
    exact ⟨by simp, fun h => h⟩
  · have := World.ownsRow_lit (e := TS) (size := 1) (base := w0.heap.size) (w0.alloc (.cells (rowCells ts []).toArray TT)) #[.slice (some ⟨w0.heap.size, 0, none⟩) ts.length ts.length] 1 (by simp) (by unfold maxLen; omega) (by simp)
    simpa using this
  · exact (below_new w0 _).alloc (by simp) _

theorem row_cut {B n cap : Nat} {q : Option Addr} {xs : List Value} {x : Value} {e : TypeId} (h : w.ownsRow B e 1 (.slice q (n + 1) cap) (n + 1) (xs ++ [x])) : w.ownsRow B e 1 (.slice q n cap) n xs := by
  have hl : xs.length = n := by have := h.1; simp at this; omega
  refine ⟨by omega, ?_⟩
  rcases h.2 with ⟨e1, _⟩ | ⟨g, cap', cur, hv, hB, hb, h1, h2, h3, h4⟩
  · simp at e1
  · have hv' : q = some ⟨g, 0, none⟩ ∧ cap = cap' := by simpa using hv
    obtain ⟨rfl, rfl⟩ := hv'
    refine .inr ⟨g, cap, cur, rfl, hB, hb, by omega, h2, h3, ?_⟩
    have : (cur.toList.take ((n + 1) * 1)).take (n * 1) = (xs ++ [x]).take (n * 1) := by rw [h4]
    rw [List.take_take] at this
    rw [show min (n * 1) ((n + 1) * 1) = n * 1 by omega] at this
    rw [this, List.take_append_of_le_length (by omega), List.take_of_length_le (by omega)]

theorem CP.pop {q : Option Addr} {cap : Nat} (h : CP w0 w R (fun _ => False) (wait ++ [(g, ts)]) (.slice q (wait.length + 1) cap)) : CP w0 w R (fun k => k = g) wait (.slice q wait.length cap) ∧ R g = some (ts, []) := by
  have hR := (h.here g ts (by simp)).1
  refine ⟨⟨h.blk, h.src, h.link, fun k us c hk => ?_, fun k us hk => ?_, ?_, ?_, h.bel⟩, hR⟩
  · rcases h.pend k us c hk with e | e | ⟨us', e⟩
    · exact .inl e
    · exact e.elim
    · rcases List.mem_append.1 e with e | e
      · exact .inr (.inr ⟨us', e⟩)
      · have : k = g ∧ us' = ts := by simpa using e
        exact .inr (.inl this.1)
  · refine ⟨(h.here k us (by simp [hk])).1, fun e => ?_⟩
    have hn := h.once
    rw [List.map_append, List.nodup_append] at hn
    exact hn.2.2 k (List.mem_map.2 ⟨(k, us), hk, rfl⟩) g (by simp) e
  · have hn := h.once
    rw [List.map_append, List.nodup_append] at hn
    exact hn.1
  · have := h.row
    rw [List.map_append, List.length_append] at this
    exact row_cut this

theorem CP.done (h : CP w0 w R (fun k => k = g) wait W) (hR : R g = some (ts, ch)) (hc : ch.length = ts.length) : CP w0 w R (fun _ => False) wait W :=
  ⟨h.blk, h.src, h.link, fun k us c hk => by
    rcases h.pend k us c hk with e | e | e
    · exact .inl e
    · have e' : k = g := e
      subst e'
      rw [hR] at hk
      have : ts = us ∧ ch = c := by simpa using hk
      obtain ⟨rfl, rfl⟩ := this
      exact .inl hc
    · exact .inr (.inr e), fun k us hk => ⟨(h.here k us hk).1, fun h => h⟩, h.once, h.row, h.bel⟩

/-- An element is done: its slice is written, and, where it has elements, a new row lies in block k. -/
theorem CP.set {X : World} {cur : Nat → Prop} (h : CP w0 w R (fun k => k = g) wait W) (hR : R g = some (ts, ch)) {t : Tr} (ht : ts[ch.length]? = some t) (k : Nat) (hX : Below w.heap.size w X) (hk : t.kids.length ≠ 0 → X.heap[k]? = some (.cells (rowCells t.kids []).toArray TT) ∧ w.heap.size ≤ k)
    (hcur : ∀ q, cur q ↔ q = g ∨ (t.kids.length ≠ 0 ∧ q = k)) :
    CP w0 (X.setCell ⟨g, ch.length * 5 + 4, none⟩ (cpV t k)) (if t.kids.length = 0 then updR R g (ts, ch ++ [k]) else updR (updR R g (ts, ch ++ [k])) k (t.kids, [])) cur wait W := by
  have hg := h.lt hR
  have hgb := h.blk g ts ch hR
  obtain ⟨hs1, hs2, hs3, hs4⟩ := h.src g ts ch hR
  have htl : ch.length < ts.length := (List.getElem?_eq_some_iff.1 ht).1
  have htm := List.mem_of_getElem? ht
  have hkg : t.kids.length ≠ 0 → k ≠ g := fun e => by have := (hk e).2; omega
  have hXg : X.heap[g]? = some (.cells (rowCells ts ch).toArray TT) := (hX.block g hg).trans hgb.1
  have hw : (X.setCell ⟨g, ch.length * 5 + 4, none⟩ (cpV t k)).heap[g]? = some (.cells (rowCells ts (ch ++ [k])).toArray TT) := by
    rw [heap_setCell_same X g _ _ TT _ hXg]
    congr 2
    apply Array.ext'
    simp [rowCells_next ts ch t k ht]
  have ho : ∀ q, q ≠ g → q < w.heap.size → (X.setCell ⟨g, ch.length * 5 + 4, none⟩ (cpV t k)).heap[q]? = w.heap[q]? := fun q hq hl => (Below.heap_setCell X ⟨g, ch.length * 5 + 4, none⟩ _ q hq).trans (hX.block q hl)
  -- what the new table says
  have hnew : ∀ q us c, (if t.kids.length = 0 then updR R g (ts, ch ++ [k]) else updR (updR R g (ts, ch ++ [k])) k (t.kids, [])) q = some (us, c) →
      (q = g ∧ us = ts ∧ c = ch ++ [k]) ∨ (t.kids.length ≠ 0 ∧ q = k ∧ us = t.kids ∧ c = []) ∨ (q ≠ g ∧ R q = some (us, c)) := by
    intro q us c hq
    by_cases h0 : t.kids.length = 0
    · rw [if_pos h0] at hq
      by_cases e : q = g
      · subst e; rw [updR_same] at hq; simp at hq; exact .inl ⟨rfl, hq.1.symm, hq.2.symm⟩
      · rw [updR_other _ _ _ _ e] at hq; exact .inr (.inr ⟨e, hq⟩)
    · rw [if_neg h0] at hq
      by_cases e2 : q = k
      · subst e2; rw [updR_same] at hq; simp at hq; exact .inr (.inl ⟨h0, rfl, hq.1.symm, hq.2⟩)
      · rw [updR_other _ _ _ _ e2] at hq
        by_cases e : q = g
        · subst e; rw [updR_same] at hq; simp at hq; exact .inl ⟨rfl, hq.1.symm, hq.2.symm⟩
        · rw [updR_other _ _ _ _ e] at hq; exact .inr (.inr ⟨e, hq⟩)
  have hold : ∀ q us c, q ≠ g → R q = some (us, c) → (if t.kids.length = 0 then updR R g (ts, ch ++ [k]) else updR (updR R g (ts, ch ++ [k])) k (t.kids, [])) q = some (us, c) := by
    intro q us c hq hRq
    have hql := h.lt hRq
    by_cases h0 : t.kids.length = 0
    · rw [if_pos h0, updR_other _ _ _ _ hq]; exact hRq
    · rw [if_neg h0, updR_other _ _ _ _ (by have := (hk h0).2; omega), updR_other _ _ _ _ hq]; exact hRq
  have hgnew : (if t.kids.length = 0 then updR R g (ts, ch ++ [k]) else updR (updR R g (ts, ch ++ [k])) k (t.kids, [])) g = some (ts, ch ++ [k]) := by
    by_cases h0 : t.kids.length = 0
    · rw [if_pos h0, updR_same]
    · rw [if_neg h0, updR_other _ _ _ _ (fun e => hkg h0 e.symm), updR_same]
  have hlinkold : ∀ q us c', R q = some (us, c') → ∃ c'', (if t.kids.length = 0 then updR R g (ts, ch ++ [k]) else updR (updR R g (ts, ch ++ [k])) k (t.kids, [])) q = some (us, c'') := by
    intro q us c' hq
    by_cases e : q = g
    · subst e
      rw [hR] at hq
      have : ts = us ∧ ch = c' := by simpa using hq
      obtain ⟨rfl, rfl⟩ := this
      exact ⟨_, hgnew⟩
    · exact ⟨_, hold q us c' e hq⟩
  refine ⟨fun q us c hq => ?_, fun q us c hq => ?_, fun q us c hq i m u hc hu hne => ?_, fun q us c hq => ?_, fun q us hq => ?_, h.once, ?_, ?_⟩
  · rcases hnew q us c hq with ⟨rfl, rfl, rfl⟩ | ⟨h0, rfl, rfl, rfl⟩ | ⟨hne, hRq⟩
    · exact ⟨hw, hgb.2⟩
    · exact ⟨(Below.heap_setCell X ⟨g, ch.length * 5 + 4, none⟩ _ q (hkg h0)).trans (hk h0).1, Nat.le_trans h.bel.size (hk h0).2⟩
    · have := h.blk q us c hRq
      exact ⟨(ho q hne (h.lt hRq)).trans this.1, this.2⟩
  · rcases hnew q us c hq with ⟨rfl, rfl, rfl⟩ | ⟨h0, rfl, rfl, rfl⟩ | ⟨hne, hRq⟩
    · exact ⟨by simp; omega, hs2, hs3, hs4⟩
    · obtain ⟨hin, hsm⟩ := hs4 t htm
      refine ⟨Nat.zero_le _, by omega, ?_, ?_⟩
      · cases t with | mk _ _ _ _ _ _ kids => unfold Small at hsm; exact hsm.1
      · intro u hu
        cases t with
        | mk k' n' f' s' a' c' kids =>
          simp only [Tr.kids] at hu h0
          obtain ⟨b, o, rfl, hat⟩ := kid_at hin (by omega)
          obtain ⟨j, hj⟩ := List.getElem?_of_mem hu
          have hjl : j < kids.length := (List.getElem?_eq_some_iff.1 hj).1
          obtain ⟨k2, n2, f2, s2, a2, c2, kids2, hu2, hin2, _⟩ := hat j hjl
          rw [hj] at hu2
          obtain rfl : u = .mk k2 n2 f2 s2 a2 c2 kids2 := by simpa using hu2
          unfold Small at hsm
          exact ⟨hin2, smallAll_get hsm.2 hu⟩
    · exact h.src q us c hRq
  · rcases hnew q us c hq with ⟨rfl, rfl, rfl⟩ | ⟨h0, rfl, rfl, rfl⟩ | ⟨hneq, hRq⟩
    · by_cases hi : i < ch.length
      · rw [List.getElem?_append_left hi] at hc
        obtain ⟨c', hc'⟩ := h.link q us ch hR i m u hc hu hne
        exact hlinkold _ _ _ hc'
      · have hi2 : i = ch.length := by
          have := (List.getElem?_eq_some_iff.1 hc).1
          simp at this; omega
        subst hi2
        obtain rfl : m = k := by simp at hc; exact hc.symm
        rw [ht] at hu
        obtain rfl : t = u := by simpa using hu
        exact ⟨[], by rw [if_neg hne, updR_same]⟩
    · simp at hc
    · obtain ⟨c', hc'⟩ := h.link q us c hRq i m u hc hu hne
      exact hlinkold _ _ _ hc'
  · rcases hnew q us c hq with ⟨rfl, rfl, rfl⟩ | ⟨h0, rfl, rfl, rfl⟩ | ⟨hneq, hRq⟩
    · exact .inr (.inl ((hcur q).2 (.inl rfl)))
    · exact .inr (.inl ((hcur q).2 (.inr ⟨h0, rfl⟩)))
    · rcases h.pend q us c hRq with e | e | e
      · exact .inl e
      · exact absurd e hneq
      · exact .inr (.inr e)
  · obtain ⟨hRq, hnc⟩ := h.here q us hq
    have hne : q ≠ g := hnc
    refine ⟨hold q us [] hne hRq, fun e => ?_⟩
    rcases (hcur q).1 e with e | ⟨h0, e⟩
    · exact hne e
    · have := h.lt hRq; have := (hk h0).2; omega
  · exact ownsRow_setCell_other (row_but h.row (But.of_below (S := fun _ => False) hX) (fun _ _ h => h)) (h.apart hR) _
  · exact (h.bel.trans (hX.mono h.bel.size)).setCell hgb.2 _

/-- A new row is laid to those that wait. -/
theorem CP.push {Y w2 : World} {W' : Value} {k : Nat} {us : List Tr} (h : CP w0 w R (fun q => q = g ∨ q = k) wait W) (hkg : k ≠ g) (hRk : R k = some (us, [])) (hY : Below w.heap.size w Y) (hO : w2.ownsRow w0.heap.size TS 1 W' (wait.length + 1) ((wait.map fun p => .slice (some ⟨p.1, 0, none⟩) p.2.length p.2.length) ++ [.slice (some ⟨k, 0, none⟩) us.length us.length]))
    (hG : Y.grownBy w2 W.ownBlock) : CP w0 w2 R (fun q => q = g) (wait ++ [(k, us)]) W' := by
  have hb : But (fun q => W.ownBlock = some q) w w2 := (But.of_below hY).trans (grown_but hG)
  refine ⟨fun q vs c hq => ?_, h.src, h.link, fun q vs c hq => ?_, fun q vs hq => ?_, ?_, ?_, ?_⟩
  · have := h.blk q vs c hq
    exact ⟨(hb.block q (h.lt hq) (h.apart hq)).trans this.1, this.2⟩
  · rcases h.pend q vs c hq with e | e | ⟨vs', e⟩
    · exact .inl e
    · rcases e with e | e
      · exact .inr (.inl e)
      · exact .inr (.inr ⟨us, by rw [e]; simp⟩)
    · exact .inr (.inr ⟨vs', by simp [e]⟩)
  · rcases List.mem_append.1 hq with hq | hq
    · obtain ⟨h1, h2⟩ := h.here q vs hq
      exact ⟨h1, fun e => h2 (.inl e)⟩
    · have e : q = k ∧ vs = us := by simpa using hq
      obtain ⟨rfl, rfl⟩ := e
      exact ⟨hRk, hkg⟩
  · rw [List.map_append, List.nodup_append]
    refine ⟨h.once, by simp, fun a ha b hb2 e => ?_⟩
    obtain ⟨p, hp, rfl⟩ := List.mem_map.1 ha
    have e2 : b = k := by simpa using hb2
    exact (h.here p.1 p.2 hp).2 (.inr (e.trans e2))
  · rw [List.map_append, List.length_append]
    exact hO
  · exact h.bel.trans (hb.below h.bel.size (fun q hq => (row_lt h.row q hq).2))
end Go.Proofs.Ytggpbfmdhenjdaa


/- term.copyAll, walked: any rows of terms. -/
namespace Go.Proofs.Ytggpbfmdhenjdaa
open Go.RowKit Go.Lib Go.Deep
attribute [local go_sem] store_float f64bits
attribute [local go_sem ↓] Go.wp_at_zero Go.wp_at_succ

theorem toDo_snoc (wait : List (Nat × List Tr)) (g : Nat) (us : List Tr) : toDo (wait ++ [(g, us)]) = toDo wait + cnA us := by simp [toDo]
theorem cnA_drop {us : List Tr} {m : Nat} {t : Tr} (h : us[m]? = some t) : cnA (us.drop m) = cnT t + cnA (us.drop (m + 1)) := by rw [drop_one h]; simp [cnA]
theorem cnT_kids (t : Tr) : cnT t = 1 + cnA t.kids := by cases t; simp [cnT, Tr.kids]

theorem kids_src {w0 w : World} {k n : Int} {f : Nat} {s : ByteArray} {b o c : Nat} {kids : List Tr} (h : (Tr.mk k n f s (some ⟨b, o, none⟩) c kids).In w0 0) (hb : Below w0.heap.size w0 w) : ∀ j v, (rowCells kids [])[j]? = some v → w.cell? ((⟨b, o, none⟩ : Addr).add j) = some v := by
  intro j v hj
  have hjl : j < (rowCells kids []).length := (List.getElem?_eq_some_iff.1 hj).1
  rw [rowCells_len] at hjl
  unfold Tr.In at h
  have hin := (h.2 _ rfl).2
  have hm : j / 5 < kids.length := by omega
  have hu : kids[j / 5]? = some kids[j / 5] := List.getElem?_eq_getElem hm
  have hc := (inAll_get hin (j / 5) _ hu).1 (j % 5) (by omega)
  have hr := rowCells_raw kids [] (j / 5) (j % 5) _ hu (by simp) (by omega)
  rw [show j / 5 * 5 + j % 5 = j by omega] at hc hr
  rw [hr, ← hc] at hj
  rw [hb.cell (World.block_lt_of_cell? w0 _ hj)]
  exact hj

theorem cnA_ge : ∀ l : List Tr, l.length ≤ cnA l
  | [] => by simp [cnA]
  | t :: r => by have := cnA_ge r; have := cnT_kids t; simp [cnA]; omega
theorem CP.short {w0 w : World} {R : RM} {cur : Nat → Prop} {W : Value} : ∀ {wait : List (Nat × List Tr)}, CP w0 w R cur wait W → wait.length ≤ toDo wait := by
  intro wait h
  have hpos : ∀ p ∈ wait, 1 ≤ cnA p.2 := fun p hp => by
    have h1 := (h.here p.1 p.2 hp).1
    have h2 := (h.src _ _ _ h1).2.1
    have h3 := cnA_ge p.2
    omega
  clear h
  unfold toDo
  induction wait with
  | nil => simp
  | cons p r ih =>
    have h1 := ih (fun q hq => hpos q (by simp [hq]))
    have h2 := hpos p (by simp)
    simp only [List.map_cons, List.sum_cons, List.length_cons]
    omega

theorem set_root {R : RM} {g k q : Nat} {ts us kids : List Tr} {ch c : List Nat} {b : Prop} [Decidable b] (hR : R g = some (ts, ch)) (hq : R q = some (us, c)) (hk : ¬ b → q ≠ k) :
    ∃ c', (if b then updR R g (ts, ch ++ [k]) else updR (updR R g (ts, ch ++ [k])) k (kids, [])) q = some (us, c') := by
  by_cases e : q = g
  · subst e
    rw [hR] at hq
    have : ts = us ∧ ch = c := by simpa using hq
    obtain ⟨rfl, rfl⟩ := this
    by_cases h0 : b
    · rw [if_pos h0, updR_same]; exact ⟨_, rfl⟩
    · rw [if_neg h0, updR_other _ _ _ _ (hk h0), updR_same]; exact ⟨_, rfl⟩
  · by_cases h0 : b
    · rw [if_pos h0, updR_other _ _ _ _ e]; exact ⟨_, hq⟩
    · rw [if_neg h0, updR_other _ _ _ _ (hk h0), updR_other _ _ _ _ e]; exact ⟨_, hq⟩

set_option maxHeartbeats 4000000 in
set_option maxRecDepth 100000 in
theorem copyAll_any (ts : List Tr) (a : Addr) (c : Nat) (w : World) (h0 : 0 < ts.length) (hl : ts.length ≤ 400000) (hsrc : ∀ t : Tr, t ∈ ts → t.In w 0 ∧ Small t) (hcells : ∀ j v, (rowCells ts [])[j]? = some v → w.cell? (a.add j) = some v) (hcn : cnA ts ≤ 1000000000) :
    Calls Try.prog 33 #[.slice (some a) ts.length c] w fun e w' => ∃ ts', e = .returned (.slice (some ⟨w.heap.size, 0, none⟩) ts.length ts.length) ∧ SmA ts ts' ∧ Tr.InAll w' w.heap.size ⟨w.heap.size, 0, none⟩ ts' ∧ Below w.heap.size w w' := by
  have CL := hidb (copyList_any w a ts.length c (rowCells ts []) (rowCells_len _ _) h0 (by omega) hcells (rowCells_one _ _))
  have HST := hidb (cp_start h0 hl hsrc)
  have HSRC := hidb hsrc
  obtain ⟨i0, hi, hz0, hz1, hz2⟩ := info_parts (P := Try.prog) (e := TS) (z := .slice none 0 0) (size := 1) (bytes := 24) (by kernel_rfl)
  generalize hN : ts.length = N at *
  have HN := hidb hN
  have HCN := hidb hcn
  clear hcells hsrc hN hcn
  go_enter Try.func33, Try.ntmps33
  go_wp2_with (first
    | (go_at_call 38; refine CL.out.mono ?_; rintro e w1 ⟨rfl, rfl⟩; clear CL))
  go_loopg [4] (cnA ts) (fun gk wv wr => ∃ (R : RM) (wait : List (Nat × List Tr)), CP w wr R (fun _ => False) wait wv ∧ toDo wait ≤ gk ∧ toDo wait ≤ cnA ts ∧ ∃ ch, R w.heap.size = some (ts, ch))
  case atStart => exact ⟨_, _, HST.out, by simp [toDo], by simp [toDo], [], by simp⟩
  case round =>
  obtain ⟨R, wait, hcp, hdo, hdt, hroot⟩ := hrel
  obtain ⟨qw, cw, rfl⟩ := own_sl hcp.row
  have HCP := hidb hcp
  have HDO := hidb hdo
  have HDT := hidb hdt
  have HRT := hidb hroot
  clear hcp hdo hdt hroot HST
  rcases List.eq_nil_or_concat wait with hnil | ⟨wait', ⟨g, us⟩, hcon⟩
  · subst hnil
    go_wp2_with fail
    go_ret
    obtain ⟨ch, hch⟩ := HRT.out
    have hcp := HCP.out
    have hall : ∀ q vs d, R q = some (vs, d) → d.length = vs.length := fun q vs d hq => by
      rcases hcp.pend q vs d hq with e | e | ⟨_, e⟩
      · exact e
      · exact e.elim
      · simp at e
    have hfin := cp_row hcp.blk (fun q vs d hq => ⟨hall q vs d hq, (hcp.src q vs d hq).2.2.1, fun t ht => ((hcp.src q vs d hq).2.2.2 t ht).1⟩) hcp.link hch
    obtain ⟨ts', h1, h2⟩ := hfin
    exact ⟨ts', rfl, h1, h2, hcp.bel⟩
  · rw [List.concat_eq_append] at hcon
    subst hcon
    have hpop := CP.pop (by have := HCP.out; simpa using this)
    obtain ⟨hp1, hp2⟩ := hpop
    have hgw : ∃ gw, qw = some ⟨gw, 0, none⟩ := by
      rcases HCP.out.row.2 with ⟨e, _⟩ | ⟨gw, cap, cur, hv, _⟩
      · simp at e
      · have : qw = some ⟨gw, 0, none⟩ := by simp at hv; exact hv.1
        exact ⟨gw, this⟩
    obtain ⟨gw, rfl⟩ := hgw
    have hcell : wr.cell? ⟨gw, wait'.length, none⟩ = some (.slice (some ⟨g, 0, none⟩) us.length us.length) := by
      have := HCP.out.row.cellAt wait'.length (by simp)
      rw [this]
      simp
    have hlen : (wait' ++ [(g, us)]).length = wait'.length + 1 := by simp
    rw [hlen]
    have hcap : wait'.length + 1 ≤ cw := by
      rcases HCP.out.row.2 with ⟨e, _⟩ | ⟨gw, cap, cur, hv, _, _, hc, _⟩
      · simp at e
      · have : cw = cap := by simp at hv; exact hv.2
        rw [hlen] at hc
        omega
    have hwl : wait'.length + 1 ≤ 1000000000 := by have h1 := HCP.out.short; have h2 := HDT.out; have h3 := HCN.out; rw [hlen] at h1; omega
    have hlast : IntKind.i64.wrap (((wait'.length + 1 : Nat) : Int) - 1) = (wait'.length : Int) := by rw [IntKind.wrap_i64]; omega
    have hz1 : ¬ ((wait'.length : Int) + 1 ≤ 0) := by omega
    have hz2' : (0 : Int) < (wait'.length : Int) + 1 := by omega
    have hz3 : (wait'.length : Int) < (wait'.length : Int) + 1 := by omega
    have hz4 : (0 : Int) ≤ (wait'.length : Int) := by omega
    have hz5 : (wait'.length : Int) ≤ (cw : Int) := by omega
    have hlast2 : IntKind.i64.wrap ((wait'.length : Int) + 1 - 1) = (wait'.length : Int) := by rw [IntKind.wrap_i64]; omega
    have HP1 := hidb hp1
    have HP2 := hidb hp2
    clear hp1 hp2 hlen hlast
    go_wp2_with fail
    have HUS := hidb ((HP1.out.src g us [] HP2.out).2.2.1)
    have HD0 : Hid (toDo wait' + cnA us ≤ gk) := hidb (by have := HDO.out; rw [toDo_snoc] at this; exact this)
    have HD1 : Hid (toDo wait' + cnA us ≤ cnA ts) := hidb (by have := HDT.out; rw [toDo_snoc] at this; exact this)
    generalize hUL : us.length = U at *
    have HUL := hidb hUL
    clear hUL hcell hcap hwl hz1 hz2' hz3 hz4 hz5 hlast2 HCP HDO HDT
    go_loopw [4, 27] (fun wv iv wq => ∃ (m : Nat) (R : RM) (ch : List Nat) (wt : List (Nat × List Tr)), m ≤ U ∧ iv = .int .i64 m ∧ CP w wq R (fun k => k = g) wt wv ∧ R g = some (us, ch) ∧ ch.length = m ∧ toDo wt + cnA (us.drop m) + m ≤ toDo wait' + cnA us ∧ ∃ ch, R w.heap.size = some (ts, ch)) (fun _ iv _ => U - (intOf iv).toNat)
    case atStart => exact ⟨0, R, [], wait', by omega, rfl, HP1.out, HP2.out, rfl, by simp, HRT.out⟩
    case round =>
    obtain ⟨m, R1, ch, wt, hm, rfl, hcp, hRg, hchl, hdo, hroot⟩ := hrel
    obtain ⟨qw, cw, rfl⟩ := own_sl hcp.row
    have HC := hidb hcp
    have HRG := hidb hRg
    have HCH := hidb hchl
    have HDO := hidb hdo
    have HRT := hidb hroot
    have hmw : IntKind.i64.wrap ((m : Int) + 1) = (m : Int) + 1 := by rw [IntKind.wrap_i64]; have := HUS.out; omega
    clear hcp hRg hchl hdo hroot HP1 HP2
    by_cases hmU : m < U
    · have hmb : (m : Int) < (U : Int) := by omega
      have hmz : (0 : Int) ≤ (m : Int) := by omega
      have hul := HUL.out
      have hu : us[m]? = some us[m] := List.getElem?_eq_getElem (by omega)
      have hmem : us[m] ∈ us := List.getElem_mem (by omega)
      generalize us[m] = t at *
      obtain ⟨k', n', f', s', a', c', kids⟩ := t
      have hin := ((HC.out.src g us ch HRG.out).2.2.2 _ hmem)
      have hblk := (HC.out.blk g us ch HRG.out).1
      have hraw : ∀ j, j < 5 → wr.cell? ⟨g, m * 5 + j, none⟩ = (Tr.mk k' n' f' s' a' c' kids).cells[j]? := fun j hj => by
        rw [cell_of_row _ _ _ _ _ _ hblk]
        have := rowCells_raw us ch m j _ hu (by rw [HCH.out]; omega) hj
        simpa using this
      have k4 : wr.cell? ⟨g, m * 5 + 4, none⟩ = some (.slice a' kids.length c') := hraw 4 (by omega)
      have j4 : wr.frozen? ⟨g, m * 5 + 4, none⟩ = false := frozen_of_row _ _ _ _ _ hblk
      have HIN := hidb hin
      have HU := hidb hu
      have hglt := HC.out.lt HRG.out
      clear hin hblk hraw hmem hul hu
      by_cases hk0 : kids.length = 0
      · have hkz : (kids.length : Int) = 0 := by omega
        have CN := hidb (fun w' => copyList_none a' c' w')
        have HST := hidb (HC.out.set HRG.out (t := .mk k' n' f' s' a' c' kids) (by rw [HCH.out]; exact HU.out) 0 (X := wr) (Below.refl _ _) (fun h => absurd hk0 h) (cur := fun q => q = g) (fun q => ⟨fun h => .inl h, fun h => h.elim id (fun h => absurd hk0 h.1)⟩))
        rw [HCH.out] at HST
        simp only [Tr.kids, hk0, if_true, cpV] at HST
        rw [hk0] at k4
        go_wp2_with (first
          | (go_at_call 38; refine (CN.out _).mono ?_; rintro e w1 ⟨rfl, rfl⟩))
        obtain ⟨c0, hc0⟩ := HRT.out
        refine ⟨⟨m + 1, _, ch ++ [0], wt, by omega, by go_num, HST.out, updR_same _ _ _, by simp [HCH.out], ?_, ?_⟩, by simp [intOf]; omega⟩
        · have h1 := cnA_drop HU.out
          have h2 := cnT_kids (.mk k' n' f' s' a' c' kids)
          have := HDO.out
          omega
        · have := set_root (b := True) (k := 0) (kids := []) HRG.out hc0 (fun h => absurd trivial h)
          simpa using this
      · have hin := HIN.out.1
        obtain ⟨b, o, rfl, -⟩ := kid_at hin (by omega)
        have hkl : kids.length ≤ 400000 := by have := HIN.out.2; unfold Small at this; exact this.1
        have hkp : (0 : Int) < (kids.length : Int) := by omega
        have CK := hidb (copyList_any wr ⟨b, o, none⟩ kids.length c' (rowCells kids []) (rowCells_len _ _) (by omega) (by omega) (kids_src hin HC.out.bel) (rowCells_one _ _))
        have HST := hidb (HC.out.set HRG.out (t := .mk k' n' f' s' (some ⟨b, o, none⟩) c' kids) (by rw [HCH.out]; exact HU.out) wr.heap.size (X := wr.alloc (.cells (rowCells kids []).toArray TT)) (below_new wr _) (fun _ => ⟨(MapKept.heap_alloc wr _).1, Nat.le_refl _⟩) (cur := fun q => q = g ∨ q = wr.heap.size) (fun q => ⟨fun h => h.imp id (fun e => ⟨hk0, e⟩), fun h => h.imp id (fun e => e.2)⟩))
        rw [HCH.out] at HST
        simp only [Tr.kids, hk0, if_false, cpV] at HST
        rw [World.setCell_alloc_past _ _ _ _ hglt] at HST
        have hwt := HST.out.short
        have hdd := HDO.out
        have hd1 := HD1.out
        have hcn := HCN.out
        have hwt2 : wt.length ≤ 1000000000 := by have := HC.out.short; omega
        have HGS := hidb (show w.heap.size ≤ wr.heap.size from HC.out.bel.size)
        clear hin hwt hdd hd1 hcn
        go_wp2_with (first
          | (go_at_call 38; refine CK.out.mono ?_; rintro e w1 ⟨rfl, rfl⟩)
          | (at_builtin; refine wpList_append_own_at _ rfl _ _ 77 rfl w.heap.size TS i0 (.slice none 0 0) 1 24 Try.underlying77 hi hz0 hz1 hz2 rfl (by decide) (.slice qw wt.length cw) wt.length (wt.map fun p => .slice (some ⟨p.1, 0, none⟩) p.2.length p.2.length) rfl ?e1 ⟨wr.heap.size + 1, 0, none⟩ 1 1 [.slice (some ⟨wr.heap.size, 0, none⟩) kids.length kids.length] rfl rfl ?e2 ?e3 ?e4 ?e5 ?e6 ?_))
        case e1 => exact HST.out.row.alloc _
        case e2 => have := cell_one_new ((wr.setCell ⟨g, m * 5 + 4, none⟩ (.slice (some ⟨wr.heap.size, 0, none⟩) kids.length kids.length)).alloc (.cells (rowCells kids []).toArray TT)) (.slice (some ⟨wr.heap.size, 0, none⟩) kids.length kids.length) TS; simpa using this
        case e3 => intro u hu; simp at hu; subst hu; rfl
        case e4 => unfold maxLen; omega
        case e5 => omega
        case e6 => have := HGS.out; simp; omega
        intro v' w4 hown' hgrow hnil hat
        have HPU := hidb (HST.out.push (by omega) (updR_same _ _ _) (below_new _ _) hown' hgrow)
        obtain ⟨q4, c4, rfl⟩ := own_sl hown'
        clear hown' hgrow hnil hat
        go_wp2_with fail
        obtain ⟨c0, hc0⟩ := HRT.out
        refine ⟨⟨m + 1, _, ch ++ [wr.heap.size], wt ++ [(wr.heap.size, kids)], by omega, by go_num, HPU.out, ?_, by simp [HCH.out], ?_, ?_⟩, by simp [intOf]; omega⟩
        · rw [updR_other _ _ _ _ (by omega), updR_same]
        · have h1 := cnA_drop HU.out
          have h2 := cnT_kids (.mk k' n' f' s' (some ⟨b, o, none⟩) c' kids)
          simp only [Tr.kids] at h2
          have := HDO.out
          rw [toDo_snoc]
          omega
        · have := set_root (b := False) (k := wr.heap.size) (kids := kids) HRG.out hc0 (fun _ e => by have := HC.out.lt hc0; omega)
          simpa using this
    have hmn : ¬ (m : Int) < (U : Int) := by omega
    obtain rfl : m = U := by omega
    have hup : 0 < us.length := (HC.out.src g us ch HRG.out).2.1
    have hdd := HDO.out
    rw [List.drop_eq_nil_of_le (by have := HUL.out; omega)] at hdd
    have hfin : toDo wt < gk ∧ toDo wt ≤ cnA ts := by
      have := HD0.out; have := HD1.out; have := HUL.out
      simp only [cnA] at hdd
      omega
    have HFN := hidb hfin
    clear hdd hfin hup
    go_wp2_with fail
    go_roundg (toDo wt)
    case measure => exact HFN.out.1
    case rel => exact ⟨R1, wt, HC.out.done HRG.out (by rw [HCH.out, HUL.out]), Nat.le_refl _, HFN.out.2, HRT.out⟩
end Go.Proofs.Ytggpbfmdhenjdaa


