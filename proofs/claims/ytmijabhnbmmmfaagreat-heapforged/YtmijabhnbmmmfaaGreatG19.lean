import Derived.Test.YtmijabhnbmmmfaaGreatG18
import Derived.Laws.CopyRow
/- What laying a term must lay: its word, its words, the atoms behind it. -/
namespace Go.Proofs.YtmijabhnbmmmfaaGreat
open Go.RowKit Go.Deep

/-- The words of a block ahead of those of its elements. -/
def front (k n : Int) (f len : Nat) : List Int :=
  if k = 2 then [hdW 2 1, (f : Int)] else if k = 4 then [hdW 4 1, n] else if k = 5 then [hdW 5 len, n] else [hdW 7 len]

/-- A list's pairs: the elements' words, each with that of the rest. -/
def pairs : List Int → Nat → List Int
  | [], _ => []
  | [x], _ => [x, ofW 4 0]
  | x :: y :: r, p => x :: ofW 6 ((p + 2 : Nat) : Int) :: pairs (y :: r) (p + 2)

mutual
def layT : Tr → Nat → List ByteArray → Int × List Int × List ByteArray
  | .mk k n f s _ _ kids, p, L =>
    if k = 1 then (ofW 1 n, [], L)
    else if k = 6 then (ofW 3 n, [], L)
    else if k = 3 then (ofW 2 (numN L s), [], stepL L s)
    else if k = 8 then (if kids.length = 0 then ofW 4 0 else ofW 6 p, pairs (layAll kids (p + 2 * kids.length) L).1 p ++ (layAll kids (p + 2 * kids.length) L).2.1, (layAll kids (p + 2 * kids.length) L).2.2)
    else (ofW 5 p, front k n f kids.length ++ (layAll kids (p + (front k n f kids.length).length + kids.length) L).1 ++ (layAll kids (p + (front k n f kids.length).length + kids.length) L).2.1, (layAll kids (p + (front k n f kids.length).length + kids.length) L).2.2)
def layAll : List Tr → Nat → List ByteArray → List Int × List Int × List ByteArray
  | [], _, L => ([], [], L)
  | t :: r, p, L => ((layT t p L).1 :: (layAll r (p + (layT t p L).2.1.length) (layT t p L).2.2).1, (layT t p L).2.1 ++ (layAll r (p + (layT t p L).2.1.length) (layT t p L).2.2).2.1, (layAll r (p + (layT t p L).2.1.length) (layT t p L).2.2).2.2)
end

mutual
/-- How many words that is. -/
def wN : Tr → Nat
  | .mk k n f _ _ _ kids =>
    if k = 1 then 0 else if k = 6 then 0 else if k = 3 then 0
    else if k = 8 then 2 * kids.length + wAll kids
    else (front k n f kids.length).length + kids.length + wAll kids
def wAll : List Tr → Nat
  | [] => 0
  | t :: r => wN t + wAll r
end

mutual
/-- How many terms it is. -/
def cntT : Tr → Nat
  | .mk _ _ _ _ _ _ kids => 1 + cntAll kids
def cntAll : List Tr → Nat
  | [] => 0
  | t :: r => cntT t + cntAll r
end

theorem pairs_len : ∀ (l : List Int) (p : Nat), (pairs l p).length = 2 * l.length
  | [], _ => rfl
  | [_], _ => rfl
  | x :: y :: r, p => by
    have := pairs_len (y :: r) (p + 2)
    simp only [pairs, List.length_cons] at this ⊢
    omega

theorem lay_len : ∀ (t : Tr) (p : Nat) (L : List ByteArray), (layT t p L).2.1.length = wN t := by
  refine Tr.ind fun k n f s a c kids hk p L => ?_
  have hall : ∀ p L, (layAll kids p L).1.length = kids.length ∧ (layAll kids p L).2.1.length = wAll kids := by
    clear p L
    induction kids with
    | nil => intro p L; simp [layAll, wAll]
    | cons t r ih =>
      intro p L
      have g := ih (fun u hu => hk u (List.mem_cons_of_mem _ hu)) (p + (layT t p L).2.1.length) (layT t p L).2.2
      have q := hk t (List.mem_cons_self ..) p L
      simp only [layAll, wAll, List.length_cons, List.length_append]
      omega
  simp only [layT, wN]
  split
  · rfl
  split
  · rfl
  split
  · rfl
  split
  · have g := hall (p + 2 * kids.length) L
    simp only [List.length_append, pairs_len, g.1, g.2]
  · have g := hall (p + (front k n f kids.length).length + kids.length) L
    simp only [List.length_append, g.1, g.2]

theorem layAll_len (kids : List Tr) : ∀ (p : Nat) (L : List ByteArray), (layAll kids p L).1.length = kids.length ∧ (layAll kids p L).2.1.length = wAll kids := by
  induction kids with
  | nil => intro p L; simp [layAll, wAll]
  | cons t r ih =>
    intro p L
    have g := ih (p + (layT t p L).2.1.length) (layT t p L).2.2
    have q := lay_len t p L
    simp only [layAll, wAll, List.length_cons, List.length_append]
    omega

theorem layAll_snoc (t : Tr) : ∀ (l : List Tr) (p : Nat) (L : List ByteArray), layAll (l ++ [t]) p L =
    ((layAll l p L).1 ++ [(layT t (p + wAll l) (layAll l p L).2.2).1], (layAll l p L).2.1 ++ (layT t (p + wAll l) (layAll l p L).2.2).2.1, (layT t (p + wAll l) (layAll l p L).2.2).2.2) := by
  intro l
  induction l with
  | nil => intro p L; simp [layAll, wAll]
  | cons u r ih =>
    intro p L
    have e : p + (layT u p L).2.1.length + wAll r = p + wAll (u :: r) := by simp only [wAll, lay_len]; omega
    simp only [List.cons_append, layAll, ih, e, List.append_assoc]

theorem wAll_snoc (l : List Tr) (t : Tr) : wAll (l ++ [t]) = wAll l + wN t := by
  induction l with
  | nil => simp [wAll]
  | cons u r ih => simp only [List.cons_append, wAll, ih]; omega

theorem cntAll_snoc (l : List Tr) (t : Tr) : cntAll (l ++ [t]) = cntAll l + cntT t := by
  induction l with
  | nil => simp [cntAll]
  | cons u r ih => simp only [List.cons_append, cntAll, ih]; omega

theorem take_snoc {l : List Tr} {m : Nat} {t : Tr} (h : l[m]? = some t) : l.take (m + 1) = l.take m ++ [t] := by
  rw [List.take_add_one, h]; rfl

theorem wAll_take_le (l : List Tr) (m : Nat) : wAll (l.take m) ≤ wAll l := by
  induction l generalizing m with
  | nil => simp [wAll]
  | cons u r ih =>
    cases m with
    | zero => simp [wAll]
    | succ m => have := ih m; simp only [List.take_succ_cons, wAll]; omega

theorem cntAll_take_le (l : List Tr) (m : Nat) : cntAll (l.take m) ≤ cntAll l := by
  induction l generalizing m with
  | nil => simp [cntAll]
  | cons u r ih =>
    cases m with
    | zero => simp [cntAll]
    | succ m => have := ih m; simp only [List.take_succ_cons, cntAll]; omega

/-- The atoms grow by no more than there are terms. -/
theorem lay_atoms : ∀ (t : Tr) (p : Nat) (L : List ByteArray), (layT t p L).2.2.length ≤ L.length + cntT t := by
  refine Tr.ind fun k n f s a c kids hk p L => ?_
  have hall : ∀ p L, (layAll kids p L).2.2.length ≤ L.length + cntAll kids := by
    clear p L
    induction kids with
    | nil => intro p L; simp [layAll, cntAll]
    | cons t r ih =>
      intro p L
      have g := ih (fun u hu => hk u (List.mem_cons_of_mem _ hu)) (p + (layT t p L).2.1.length) (layT t p L).2.2
      have q := hk t (List.mem_cons_self ..) p L
      simp only [layAll, cntAll]
      omega
  have h1 := hall (p + 2 * kids.length) L
  have h2 := hall (p + (front k n f kids.length).length + kids.length) L
  have h3 := stepL_len L s
  simp only [layT, cntT]
  repeat' split
  all_goals (simp only; omega)

theorem layAll_atoms (kids : List Tr) : ∀ (p : Nat) (L : List ByteArray), (layAll kids p L).2.2.length ≤ L.length + cntAll kids := by
  induction kids with
  | nil => intro p L; simp [layAll, cntAll]
  | cons t r ih =>
    intro p L
    have g := ih (p + (layT t p L).2.1.length) (layT t p L).2.2
    have q := lay_atoms t p L
    simp only [layAll, cntAll]
    omega

/-- From place ro on the words are these; all others are as they were. -/
def Put (cs cs' : Nat → Int) (ro : Nat) (ws : List Int) : Prop := (∀ j, j < ro ∨ ro + ws.length ≤ j → cs' j = cs j) ∧ ∀ i x, ws[i]? = some x → cs' (ro + i) = x

/-- The blocks of P, in which terms lie, are as they were. -/
structure Held (P : Nat → Prop) (w0 w : World) : Prop where
  size : w0.heap.size ≤ w.heap.size
  block : ∀ k, k < w0.heap.size → P k → w.heap[k]? = w0.heap[k]?

theorem Held.kept {P : Nat → Prop} {w0 w w' : World} {G : List Nat} (h : Held P w0 w) (k : Kept G w w') (hG : ∀ x, x ∈ G → ¬ P x) : Held P w0 w' :=
  ⟨Nat.le_trans h.size k.size, fun i hi hp => (k.block i (Nat.lt_of_lt_of_le hi h.size) (fun e => hG i e hp)).trans (h.block i hi hp)⟩

theorem Held.keep {P : Nat → Prop} {w0 w w' : World} (h : Held P w0 w) (hb : Below w.heap.size w w') : Held P w0 w' := h.kept (Kept.of_below (F := []) hb) (fun x hx => by simp at hx)

theorem Held.set {P : Nat → Prop} {w0 w : World} (h : Held P w0 w) {p : Addr} (hp : ¬ P p.block) (u : Value) : Held P w0 (w.setCell p u) := h.kept (Kept.set (F := [p.block]) p u (by simp)) (fun x hx => by simp at hx; rw [hx]; exact hp)

theorem Held.cell {P : Nat → Prop} {w0 w : World} (h : Held P w0 w) {p : Addr} (hp : P p.block) (hl : p.block < w0.heap.size) : w.cell? p = w0.cell? p := World.cell?_of_block (w := w0) (h.block p.block hl hp)

mutual
/-- All of a tree lies in blocks of P. -/
def Tr.On (P : Nat → Prop) : Tr → Prop
  | .mk _ _ _ _ a _ kids => (0 < kids.length → ∀ ad, a = some ad → P ad.block) ∧ Tr.OnAll P kids
def Tr.OnAll (P : Nat → Prop) : List Tr → Prop
  | [] => True
  | t :: r => Tr.On P t ∧ Tr.OnAll P r
end

theorem onAll_get {P : Nat → Prop} {kids : List Tr} (h : Tr.OnAll P kids) {t : Tr} (ht : t ∈ kids) : t.On P := by
  induction kids with
  | nil => simp at ht
  | cons u r ih =>
    unfold Tr.OnAll at h
    rcases List.mem_cons.1 ht with rfl | ht
    · exact h.1
    · exact ih h.2 ht

/-- What lies in a world lies in its blocks. -/
theorem on_all {w : World} {base : Nat} : ∀ t : Tr, t.In w base → t.On (fun k => k < w.heap.size) := by
  refine Tr.ind fun k n f s a c kids hk h => ?_
  unfold Tr.In at h
  unfold Tr.On
  refine ⟨fun h0 ad had => ?_, ?_⟩
  · obtain ⟨u, hu⟩ : ∃ u, kids[0]? = some u := ⟨_, List.getElem?_eq_getElem h0⟩
    have q := (inAll_get (h.2 ad had).2 0 u hu).1 0 (by omega)
    cases u with
    | mk =>
      have e : ad.add (0 * 5 + 0) = ad := by unfold Addr.add; simp
      rw [e] at q
      exact World.block_lt_of_cell? w ad (q.trans rfl)
  · have : ∀ l : List Tr, (∀ t, t ∈ l → t ∈ kids) → Tr.OnAll (fun k => k < w.heap.size) l := by
      intro l
      induction l with
      | nil => intro _; unfold Tr.OnAll; trivial
      | cons t r ih =>
        intro hl
        unfold Tr.OnAll
        refine ⟨?_, ih fun u hu => hl u (List.mem_cons_of_mem _ hu)⟩
        have ht := hl t (List.mem_cons_self ..)
        obtain ⟨j, hj⟩ := List.getElem?_of_mem ht
        refine hk t ht ?_
        cases a with
        | none =>
          have h0 := h.1.2.2.2.2.2.2 rfl
          have h1 := h.1.2.2.2.2.1
          have : j < kids.length := by
            rcases Nat.lt_or_ge j kids.length with h | h
            · exact h
            · rw [List.getElem?_eq_none h] at hj; simp at hj
          omega
        | some ad => exact (inAll_get (h.2 ad rfl).2 j t hj).2
    exact this kids fun t h => h

/-- All that a laying knows and keeps. -/
structure LW (P : Nat → Prop) (w0 w : World) (lb ab p g ro r : Nat) (L : List ByteArray) (F : List Nat) (C : Nat) (cs : Nat → Int) : Prop where
  ls : LS w lb ab p g ro r L F
  cells : Cells w g C cs
  below : Held P w0 w
  hl : ¬ P lb
  hg : ¬ P g
  hF : ∀ k, k ∈ F → ¬ P k
  pl : ∀ k, P k → k < w0.heap.size
  room : ro + r ≤ C
  small : p + r ≤ 16777216

theorem LS.kept {w w' : World} {lb ab g ro r : Nat} {p : Int} {L : List ByteArray} {F : List Nat} (h : LS w lb ab p g ro r L F) {G : List Nat} (k : Kept G w w') (hl : lb ∉ G) (hF : ∀ x, x ∈ F → x ∉ G) : LS w' lb ab p g ro r L F := by
  obtain ⟨⟨v, hq, hv⟩, ht, h1, h2, h3, h4⟩ := h
  exact ⟨⟨v, hq.kept k hl, hv⟩, ht.kept k hF, h1, h2, h3, Nat.lt_of_lt_of_le h4 k.size⟩

theorem LW.keep {P : Nat → Prop} {w0 w w' : World} {lb ab p g ro r : Nat} {L : List ByteArray} {F : List Nat} {C : Nat} {cs : Nat → Int} (h : LW P w0 w lb ab p g ro r L F C cs) (hb : Below w.heap.size w w') : LW P w0 w' lb ab p g ro r L F C cs :=
  ⟨h.ls.kept (Kept.of_below (F := []) hb) (by simp) (fun _ _ => by simp), h.cells.at (hb.block g h.ls.gl), h.below.keep hb, h.hl, h.hg, h.hF, h.pl, h.room, h.small⟩

theorem LW.cut {P : Nat → Prop} {w0 w w1 : World} {lb ab p g ro r n : Nat} {L : List ByteArray} {F : List Nat} {C : Nat} {cs : Nat → Int} {v : Value} (h : LW P w0 w lb ab p g ro r L F C cs) (hq : Quad w1 lb (.pointer (some ⟨ab, 0, none⟩)) (.int .i64 ((p : Int) + (n : Int))) v (.int .i64 0)) (hv : Room g (ro + n) (r - n) v) (hk : Kept [lb] w w1) (hn : n ≤ r) : LW P w0 w1 lb ab (p + n) g (ro + n) (r - n) L F C cs := by
  obtain ⟨ls, hc, hb, h1, h2, h3, h3p, h4, h5⟩ := h
  have hg : g ∉ [lb] := by simpa using fun e => ls.ne e.symm
  have e : (p : Int) + (n : Int) = ((p + n : Nat) : Int) := by omega
  refine ⟨⟨⟨v, by rw [← e]; exact hq, hv⟩, ls.tab.kept hk (fun x hx hx' => by simp at hx'; exact ls.nl (hx' ▸ hx)), ls.nl, ls.ng, ls.ne, Nat.lt_of_lt_of_le ls.gl hk.size⟩, hc.at (hk.block g ls.gl hg), hb.kept hk (by simpa using h1), h1, h2, h3, h3p, by omega, by omega⟩

theorem LW.set {P : Nat → Prop} {w0 w : World} {lb ab p g ro r : Nat} {L : List ByteArray} {F : List Nat} {C : Nat} {cs : Nat → Int} (h : LW P w0 w lb ab p g ro r L F C cs) (i : Nat) (x : Int) : LW P w0 (w.setCell ⟨g, i, none⟩ (.int .u64 x)) lb ab p g ro r L F C (fun j => if j = i then x else cs j) := by
  obtain ⟨ls, hc, hb, h1, h2, h3, h3p, h4, h5⟩ := h
  obtain ⟨⟨v, hq, hv⟩, ht, q1, q2, q3, q4⟩ := ls
  exact ⟨⟨⟨v, hq.other (fun e => q3 e.symm) _, hv⟩, ht.set q2 _, q1, q2, q3, by simp [World.setCell]; exact q4⟩, hc.set i x, hb.set h2 _, h1, h2, h3, h3p, h4, h5⟩
end Go.Proofs.YtmijabhnbmmmfaaGreat


/- A block laid: box. -/
namespace Go.Proofs.YtmijabhnbmmmfaaGreat
open Go.RowKit Go.Deep
attribute [local go_sem] store_float f64bits
attribute [local go_sem ↓] Go.wp_at_zero Go.wp_at_succ

/-- What laying a term promises. -/
def LayOk (P : Nat → Prop) (w0 : World) (t : Tr) : Prop := ∀ (lb ab p g ro r : Nat) (L : List ByteArray) (F : List Nat) (C : Nat) (cs : Nat → Int) (w : World), LW P w0 w lb ab p g ro r L F C cs → wN t ≤ r → L.length + cntT t ≤ 100000 →
  Calls Tryz.prog 43 #[.pointer (some ⟨lb, 0, none⟩), t.val] w fun e w' => e = .returned (.int .u64 (layT t p L).1) ∧ ∃ F' cs', LW P w0 w' lb ab (p + wN t) g (ro + wN t) (r - wN t) (layT t p L).2.2 F' C cs' ∧ (∀ k, k ∈ F' → k ∈ F ∨ w.heap.size ≤ k) ∧ Kept (lb :: g :: F) w w' ∧ Put cs cs' ro (layT t p L).2.1

/-- A block of which m elements are laid. -/
def Mid (kids : List Tr) (fr : List Int) (p : Nat) (L : List ByteArray) (cs cs' : Nat → Int) (ro m : Nat) : Prop :=
  (∀ j, j < ro ∨ ro + (fr.length + kids.length) + wAll (kids.take m) ≤ j → cs' j = cs j) ∧ (∀ i x, fr[i]? = some x → cs' (ro + i) = x) ∧
  (∀ i x, (layAll (kids.take m) (p + fr.length + kids.length) L).1[i]? = some x → cs' (ro + fr.length + i) = x) ∧
  (∀ i x, (layAll (kids.take m) (p + fr.length + kids.length) L).2.1[i]? = some x → cs' (ro + (fr.length + kids.length) + i) = x)

theorem Mid.step {kids : List Tr} {fr : List Int} {p : Nat} {L : List ByteArray} {cs cs' cs'' : Nat → Int} {ro m : Nat} {t : Tr} (h : Mid kids fr p L cs cs' ro m) (ht : kids[m]? = some t)
    (hp : Put cs' cs'' (ro + (fr.length + kids.length) + wAll (kids.take m)) (layT t (p + fr.length + kids.length + wAll (kids.take m)) (layAll (kids.take m) (p + fr.length + kids.length) L).2.2).2.1) :
    Mid kids fr p L cs (fun j => if j = ro + (fr.length + m) then (layT t (p + fr.length + kids.length + wAll (kids.take m)) (layAll (kids.take m) (p + fr.length + kids.length) L).2.2).1 else cs'' j) ro (m + 1) := by
  obtain ⟨h1, h2, h3, h4⟩ := h
  obtain ⟨p1, p2⟩ := hp
  have hm : m < kids.length := by
    rcases Nat.lt_or_ge m kids.length with h | h
    · exact h
    · rw [List.getElem?_eq_none h] at ht; simp at ht
  have hl := layAll_len (kids.take m) (p + fr.length + kids.length) L
  have hlt : (kids.take m).length = m := by simp; omega
  rw [hlt] at hl
  have hts := take_snoc ht
  unfold Mid
  rw [hts, layAll_snoc, wAll_snoc]
  generalize hY : layT t (p + fr.length + kids.length + wAll (kids.take m)) (layAll (kids.take m) (p + fr.length + kids.length) L).2.2 = Y at *
  have hyl : Y.2.1.length = wN t := by rw [← hY]; exact lay_len _ _ _
  rw [hyl] at p1
  refine ⟨fun j hj => ?_, fun i x hi => ?_, fun i x hi => ?_, fun i x hi => ?_⟩
  · have hne : ¬ j = ro + (fr.length + m) := by omega
    simp only [hne, if_false]
    rw [p1 j (by omega), h1 j (by omega)]
  · have hil : i < fr.length := by
      rcases Nat.lt_or_ge i fr.length with h | h
      · exact h
      · rw [List.getElem?_eq_none h] at hi; simp at hi
    have hne : ¬ ro + i = ro + (fr.length + m) := by omega
    simp only [hne, if_false]
    rw [p1 _ (by omega)]
    exact h2 i x hi
  · simp only at hi
    by_cases e : i = m
    · subst e
      rw [List.getElem?_append_right (by omega), hl.1] at hi
      simp at hi
      have e2 : ro + fr.length + i = ro + (fr.length + i) := by omega
      simp only [e2, if_true, hi]
    · have hil : i < m := by
        rcases Nat.lt_or_ge i (m + 1) with h | h
        · omega
        · rw [List.getElem?_eq_none (by simp; omega)] at hi; simp at hi
      rw [List.getElem?_append_left (by omega)] at hi
      have hne : ¬ ro + fr.length + i = ro + (fr.length + m) := by omega
      simp only [hne, if_false]
      rw [p1 _ (by omega)]
      exact h3 i x hi
  · simp only at hi
    have hne : ¬ ro + (fr.length + kids.length) + i = ro + (fr.length + m) := by omega
    simp only [hne, if_false]
    by_cases e : i < wAll (kids.take m)
    · rw [List.getElem?_append_left (by omega)] at hi
      rw [p1 _ (by omega)]
      exact h4 i x hi
    · rw [List.getElem?_append_right (by omega), hl.2] at hi
      have := p2 _ x hi
      rw [← this]
      congr 1
      omega

theorem Mid.done {kids : List Tr} {fr : List Int} {p : Nat} {L : List ByteArray} {cs cs' : Nat → Int} {ro : Nat} (h : Mid kids fr p L cs cs' ro kids.length) :
    Put cs cs' ro (fr ++ (layAll kids (p + fr.length + kids.length) L).1 ++ (layAll kids (p + fr.length + kids.length) L).2.1) := by
  obtain ⟨h1, h2, h3, h4⟩ := h
  rw [List.take_length] at h1 h3 h4
  have hl := layAll_len kids (p + fr.length + kids.length) L
  refine ⟨fun j hj => h1 j ?_, fun i x hi => ?_⟩
  · simp only [List.length_append, hl.1, hl.2] at hj; omega
  · by_cases e1 : i < fr.length
    · rw [List.append_assoc, List.getElem?_append_left e1] at hi
      exact h2 i x hi
    · by_cases e2 : i < fr.length + kids.length
      · rw [List.getElem?_append_left (by simp; omega), List.getElem?_append_right (by omega)] at hi
        have := h3 _ x hi
        rw [← this]; congr 1; omega
      · rw [List.getElem?_append_right (by simp; omega)] at hi
        have := h4 _ x hi
        rw [← this]; congr 1; simp [hl.1]; omega

theorem Kept.after {G H : List Nat} {a b c : World} (h : Kept G a b) (k : Kept H b c) (hs : ∀ x, x ∈ H → x ∈ G ∨ a.heap.size ≤ x) : Kept G a c :=
  ⟨k.os.trans h.os, k.tape.trans h.tape, k.output.trans h.output, Nat.le_trans h.size k.size, fun i hi hG => (k.block i (Nat.lt_of_lt_of_le hi h.size) (fun hH => (hs i hH).elim hG (fun h => absurd hi (by omega)))).trans (h.block i hi hG)⟩

/-- One element more: it is laid, and its word is put into its place. -/
theorem lay_step {P : Nat → Prop} {w0 w wr wa : World} {kids : List Tr} {fr : List Int} {lb ab p g ro r m q C : Nat} {L : List ByteArray} {F F' : List Nat} {cs cs' : Nat → Int} {t : Tr} (hq : fr.length = q) (IH : LayOk P w0 t) (ht : kids[m]? = some t)
    (hlw : LW P w0 wr lb ab (p + q + kids.length + wAll (kids.take m)) g (ro + (q + kids.length) + wAll (kids.take m)) (r - (q + kids.length) - wAll (kids.take m)) (layAll (kids.take m) (p + q + kids.length) L).2.2 F' C cs')
    (hF : ∀ k, k ∈ F' → k ∈ F ∨ w.heap.size ≤ k) (hk : Kept (lb :: g :: F) w wr) (hmid : Mid kids fr p L cs cs' ro m) (hr : q + kids.length + wAll kids ≤ r) (hL : L.length + 1 + cntAll kids ≤ 100000) (hwa : Below wr.heap.size wr wa) :
    Calls Tryz.prog 43 #[.pointer (some ⟨lb, 0, none⟩), t.val] wa fun e w' => ∃ (x : Int) (F2 : List Nat) (cs2 : Nat → Int), e = .returned (.int .u64 x) ∧
      LW P w0 (w'.setCell ⟨g, ro + (q + m), none⟩ (.int .u64 x)) lb ab (p + q + kids.length + wAll (kids.take (m + 1))) g (ro + (q + kids.length) + wAll (kids.take (m + 1))) (r - (q + kids.length) - wAll (kids.take (m + 1))) (layAll (kids.take (m + 1)) (p + q + kids.length) L).2.2 F2 C cs2 ∧
      (∀ k, k ∈ F2 → k ∈ F ∨ w.heap.size ≤ k) ∧ Kept (lb :: g :: F) w (w'.setCell ⟨g, ro + (q + m), none⟩ (.int .u64 x)) ∧ Mid kids fr p L cs cs2 ro (m + 1) ∧ (∃ u, w'.cell? ⟨g, ro + (q + m), none⟩ = some (.int .u64 u)) ∧ w'.frozen? ⟨g, ro + (q + m), none⟩ = false := by
  subst hq
  have hm : m < kids.length := by
    rcases Nat.lt_or_ge m kids.length with h | h
    · exact h
    · rw [List.getElem?_eq_none h] at ht; simp at ht
  have hw1a := wAll_take_le kids (m + 1)
  have hts := take_snoc ht
  rw [hts, wAll_snoc] at hw1a
  have hc1 := cntAll_take_le kids (m + 1)
  rw [hts, cntAll_snoc] at hc1
  have hLa := layAll_atoms (kids.take m) (p + fr.length + kids.length) L
  refine (IH lb ab _ g _ _ _ F' C cs' _ (hlw.keep hwa) (by omega) (by omega)).mono ?_
  rintro e wz ⟨rfl, F2, cs2, hlw2, hF2, hk2, hput⟩
  have hmid2 := hmid.step ht hput
  have hroom := hlw.room
  rw [hts, wAll_snoc, layAll_snoc]
  have hset := hlw2.set (ro + (fr.length + m)) (layT t (p + fr.length + kids.length + wAll (kids.take m)) (layAll (kids.take m) (p + fr.length + kids.length) L).2.2).1
  have hc := hlw2.cells (ro + (fr.length + m)) (by omega)
  have hkz : Kept (lb :: g :: F) w wz := (hk.trans (Kept.of_below hwa)).after hk2 (fun x hx => by
    simp only [List.mem_cons] at hx ⊢
    rcases hx with h | h | h
    · exact Or.inl (Or.inl h)
    · exact Or.inl (Or.inr (Or.inl h))
    · rcases hF x h with h | h
      · exact Or.inl (Or.inr (Or.inr h))
      · exact Or.inr h)
  refine ⟨_, F2, _, rfl, ?_, ?_, hkz.sets _ _ (by simp), hmid2, ⟨_, hc.1⟩, hc.2⟩
  · have e1 : p + fr.length + kids.length + (wAll (kids.take m) + wN t) = p + fr.length + kids.length + wAll (kids.take m) + wN t := by omega
    have e2 : ro + (fr.length + kids.length) + (wAll (kids.take m) + wN t) = ro + (fr.length + kids.length) + wAll (kids.take m) + wN t := by omega
    have e3 : r - (fr.length + kids.length) - (wAll (kids.take m) + wN t) = r - (fr.length + kids.length) - wAll (kids.take m) - wN t := by omega
    rw [e1, e2, e3]
    exact hset
  · intro k hk'
    rcases hF2 k hk' with h | h
    · exact hF k h
    · right
      have h1 := hk.size
      have h2 := hwa.size
      omega

theorem copy_none (w : World) (a : Addr) (d c : Nat) : (Builtin.copy_ #[59, 59] 3 #[.slice (some a) d c, .slice none 0 0]).run Tryz.prog w = .ok (.int .i64 0) w :=
  run_copy_nil _ w _ _ _ 51 a d c Tryz.underlying59 (by kernel_rfl)

set_option maxHeartbeats 1600000 in
set_option maxRecDepth 100000 in
theorem box_tk (P : Nat → Prop) (w0 : World) (k n : Int) (f : Nat) (s : ByteArray) (a : Option Addr) (c : Nat) (kids : List Tr) (hin : (Tr.mk k n f s a c kids).In w0 0) (hon : (Tr.mk k n f s a c kids).On P) (hk : ∀ t, t ∈ kids → LayOk P w0 t) (hk7 : k = 7) (hne : ¬ kids = [])
    (lb ab p g ro r : Nat) (L : List ByteArray) (F : List Nat) (C : Nat) (cs : Nat → Int) (w : World) (h : LW P w0 w lb ab p g ro r L F C cs) (hr : 1 + kids.length + wAll kids ≤ r) (hL : L.length + 1 + cntAll kids ≤ 100000) (hml : kids.length ≤ 16777216) :
    Calls Tryz.prog 61 #[.pointer (some ⟨lb, 0, none⟩), .agg #[.int .i64 k, .int .i64 n, .float .f64 f, .string s, .slice a kids.length c], .int .i64 kids.length, .slice none 0 0] w fun e w' => e = .returned (.int .u64 (ofW 5 p)) ∧
      ∃ F' cs', LW P w0 w' lb ab (p + (1 + kids.length + wAll kids)) g (ro + (1 + kids.length + wAll kids)) (r - (1 + kids.length + wAll kids)) (layAll kids (p + 1 + kids.length) L).2.2 F' C cs' ∧ (∀ k, k ∈ F' → k ∈ F ∨ w.heap.size ≤ k) ∧ Kept (lb :: g :: F) w w' ∧ Put cs cs' ro ([hdW 7 kids.length] ++ (layAll kids (p + 1 + kids.length) L).1 ++ (layAll kids (p + 1 + kids.length) L).2.1) := by
  subst hk7
  have HK := hidb hk
  have HIN := hidb hin
  have HON := hidb hon
  have HLW := hidb h
  obtain ⟨v, hq, hv⟩ := h.ls.quad
  have HV := hidb hv
  have HQ := hidb hq
  have hsm := h.small
  clear hk hin hon h hq hv
  have hlt := HQ.out.lt
  go_enter Tryz.func61, Tryz.ntmps61
  go_wp2_with fail
  have hka := below_new w (.cells #[.int .i64 7, .int .i64 n, .float .f64 f, .string s, .slice a kids.length c] 44)
  have e1 : ((1 + kids.length : Nat) : Int) = 1 + (kids.length : Int) := by omega
  have CUT := cut_any lb ab g p 0 ro (1 + kids.length) r v _ (HQ.out.kept (Kept.of_below (F := []) hka) (by simp)) HV.out (by omega) (by omega) (by omega) (by omega) (by omega)
  rw [e1] at CUT
  refine CUT.mono ?_
  rintro e w1 ⟨rfl, v1, hq1, hv1, hk1⟩
  have HQ1 := hidb hq1
  have HV1 := hidb hv1
  have HK1 := hidb ((Kept.of_below (F := [lb]) hka).trans hk1)
  have hT := ((Box.new w 44 (.int .i64 7) (.int .i64 n) (.float .f64 f) (.string s) (.slice a kids.length c)).but (S := (· = lb)) ⟨hk1.os, hk1.tape, hk1.output, hk1.size, fun x hx hs => hk1.block x hx (by simpa using hs)⟩ (by omega))
  have HT := hidb hT
  obtain ⟨z0, z1, z2, z3, z4, y0, y1, y2, y3, y4, ltr2⟩ := hT
  clear CUT hq1 hv1 hk1 hka
  have hcl : (0 : Int) < (((1 + kids.length : Nat)) : Int) := by omega
  have hCs := HLW.out.cells
  have hrm := HLW.out.room
  have hnl := HLW.out.ls.ne
  have hgl := HLW.out.ls.gl
  have CS1 := hidb (hCs.at (w' := w1) (HK1.out.block g hgl (by simp; exact fun e => hnl e.symm)))
  have x0 := (CS1.out ro (by omega)).1
  have x1 := (CS1.out ro (by omega)).2
  clear hCs
  have hcp := copy_none
  go_wp2_with (go_at_call 91; refine (header_any 7 kids.length _).mono ?_; rintro e w' ⟨rfl, rfl⟩)
  have HL1 := hidb ((HLW.out.cut (n := 1 + kids.length) (by rw [e1]; exact HQ1.out) HV1.out (Kept.mono HK1.out (fun k hk _ => hk)) (by omega)).set ro (hdW 7 kids.length))
  have HKW := hidb ((HK1.out.mono (G := lb :: g :: F) (fun k hk _ => by simp at hk; simp [hk])).sets ⟨g, ro, none⟩ (.int .u64 (hdW 7 kids.length)) (by simp))
  clear x0 x1 CS1 HQ1 HV1 HK1 HT z0 z1 z2 z3 z4 y0 y1 y2 y3 y4 ltr2 HQ HV hcp
  go_loopw [43] (fun iv wr => ∃ (m : Nat) (F' : List Nat) (cs' : Nat → Int), m ≤ kids.length ∧ iv = .int .i64 m ∧
    LW P w0 wr lb ab (p + 1 + kids.length + wAll (kids.take m)) g (ro + (1 + kids.length) + wAll (kids.take m)) (r - (1 + kids.length) - wAll (kids.take m)) (layAll (kids.take m) (p + 1 + kids.length) L).2.2 F' C cs' ∧ (∀ k, k ∈ F' → k ∈ F ∨ w.heap.size ≤ k) ∧ Kept (lb :: g :: F) w wr ∧ Mid kids [hdW 7 kids.length] p L cs cs' ro m) (fun iv _ => kids.length - (intOf iv).toNat)
  case atStart =>
    refine ⟨0, F, (fun j => if j = ro then hdW 7 kids.length else cs j), by omega, rfl, ?_, fun k hk => Or.inl hk, HKW.out, ?_⟩
    · have := HL1.out
      simp only [List.take_zero, wAll, layAll, Nat.add_zero, Nat.sub_zero]
      have e2 : p + 1 + kids.length = p + (1 + kids.length) := by omega
      rw [e2]; exact this
    · refine ⟨fun j hj => ?_, fun i x hi => ?_, fun i x hi => ?_, fun i x hi => ?_⟩
      · have : ¬ j = ro := by simp [wAll] at hj; omega
        simp [this]
      · have e3 : i = 0 := by
          rcases Nat.lt_or_ge i 1 with h | h
          · omega
          · rw [List.getElem?_eq_none (by simpa using h)] at hi; simp at hi
        subst e3
        simpa using hi
      · simp [layAll] at hi
      · simp [layAll] at hi
  case round =>
    obtain ⟨m, F', cs', hm, rfl, hlw, hF', hkw, hmid⟩ := hrel
    have HLM := hidb hlw
    have HFM := hidb hF'
    have HKM := hidb hkw
    have HMD := hidb hmid
    clear hlw hF' hkw hmid HL1 HKW
    by_cases hml' : m < kids.length
    · have hmb : (m : Int) < (kids.length : Int) := by omega
      obtain ⟨b', o, rfl, hat⟩ := kid_at HIN.out (by omega)
      obtain ⟨k', n', f', s', a', c', kids', hu', hin', x0, x1, x2, x3, x4⟩ := hat m hml'
      have hlb : b' < w0.heap.size := World.block_lt_of_cell? w0 _ x0
      have hPb : P b' := by have := HON.out; unfold Tr.On at this; exact this.1 (by omega) _ rfl
      have v0 := (HLM.out.below.cell hPb hlb).trans x0
      have v1 := (HLM.out.below.cell hPb hlb).trans x1
      have v2 := (HLM.out.below.cell hPb hlb).trans x2
      have v3 := (HLM.out.below.cell hPb hlb).trans x3
      have v4 := (HLM.out.below.cell hPb hlb).trans x4
      have IH := hidb (HK.out _ (List.mem_of_getElem? hu'))
      have HUU := hidb hu'
      clear hu' hin' hat x0 x1 x2 x3 x4
      have hmz : (0 : Int) ≤ (m : Int) := by omega
      have CALL := hidb (lay_step (wa := wr.alloc (.cells #[.int .i64 k', .int .i64 n', .float .f64 f', .string s', .slice a' kids'.length c'] 44)) (q := 1) rfl IH.out HUU.out HLM.out HFM.out HKM.out HMD.out hr hL (below_new wr _))
      go_wp2_with fail
      refine CALL.out.mono ?_
      rintro e wz ⟨x, F2, cs2, rfl, hlw2, hF2, hk2, hmid2, ⟨u, hcu⟩, hfu⟩
      have H1 := hidb hlw2
      have H2 := hidb hF2
      have H3 := hidb hk2
      have H4 := hidb hmid2
      clear hlw2 hF2 hk2 hmid2 CALL IH v0 v1 v2 v3 v4
      have hil : (1 : Int) + (m : Int) < ((1 + kids.length : Nat) : Int) := by omega
      have hi0 : (0 : Int) ≤ 1 + (m : Int) := by omega
      have hia : (1 + (m : Int)).toNat = 1 + m := by omega
      go_wp2
      exact ⟨⟨m + 1, F2, cs2, by omega, by go_num, H1.out, H2.out, H3.out, H4.out⟩, by simp [intOf]; omega⟩
    · have hmn : ¬ (m : Int) < (kids.length : Int) := by omega
      obtain rfl : m = kids.length := by omega
      go_wp2_with (go_at_call 58; refine (hof_any 5 p (by omega) _).mono ?_; rintro e w' ⟨rfl, rfl⟩)
      go_ret
      have hd := HMD.out.done
      have hlw := HLM.out
      rw [List.take_length] at hlw
      refine ⟨rfl, F', cs', ?_, HFM.out, HKM.out, hd⟩
      have e4 : p + (1 + kids.length + wAll kids) = p + 1 + kids.length + wAll kids := by omega
      have e5 : ro + (1 + kids.length + wAll kids) = ro + (1 + kids.length) + wAll kids := by omega
      have e6 : r - (1 + kids.length + wAll kids) = r - (1 + kids.length) - wAll kids := by omega
      rw [e4, e5, e6]
      exact hlw
end Go.Proofs.YtmijabhnbmmmfaaGreat


