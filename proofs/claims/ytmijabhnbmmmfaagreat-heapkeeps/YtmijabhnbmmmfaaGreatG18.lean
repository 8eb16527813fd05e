import Derived.Test.YtmijabhnbmmmfaaGreatG17
import Derived.Deep.RegionWith
/- Laying: the state of it; an atom. -/
namespace Go.Proofs.YtmijabhnbmmmfaaGreat
open Go.RowKit Go.Deep
attribute [local go_sem] store_float f64bits
attribute [local go_sem ↓] Go.wp_at_zero Go.wp_at_succ

/-- What is known of a laying: where its four fields lie, the room that is left, the atoms. -/
structure LS (w : World) (lb ab : Nat) (p : Int) (g ro r : Nat) (L : List ByteArray) (F : List Nat) : Prop where
  quad : ∃ v, Quad w lb (.pointer (some ⟨ab, 0, none⟩)) (.int .i64 p) v (.int .i64 0) ∧ Room g ro r v
  tab : Tab w ab L F
  nl : lb ∉ F
  ng : g ∉ F
  ne : lb ≠ g
  gl : g < w.heap.size

/-- The words of a block. -/
def Cells (w : World) (g C : Nat) (cs : Nat → Int) : Prop := ∀ j, j < C → w.cell? ⟨g, j, none⟩ = some (.int .u64 (cs j)) ∧ w.frozen? ⟨g, j, none⟩ = false

theorem Cells.at {w w' : World} {g C : Nat} {cs : Nat → Int} (h : Cells w g C cs) (e : w'.heap[g]? = w.heap[g]?) : Cells w' g C cs :=
  fun j hj => ⟨(World.cell?_of_block (w := w) e).trans (h j hj).1, (World.frozen?_of_block (w := w) e).trans (h j hj).2⟩

theorem Cells.set {w : World} {g C : Nat} {cs : Nat → Int} (h : Cells w g C cs) (i : Nat) (x : Int) : Cells (w.setCell ⟨g, i, none⟩ (.int .u64 x)) g C (fun j => if j = i then x else cs j) := by
  intro j hj
  refine ⟨?_, by rw [World.frozen?_setCell]; exact (h j hj).2⟩
  by_cases e : j = i
  · subst e
    simp only [if_true]
    exact World.cell?_setCell_same _ _ _ (h j hj).1
  · simp only [e, if_false]
    rw [World.cell?_setCell_other _ _ _ _ (ne_off3 _ _ _ (fun q => e q.symm))]
    exact (h j hj).1

theorem Quad.other {w : World} {b : Nat} {v0 v1 v2 v3 : Value} (h : Quad w b v0 v1 v2 v3) {p : Addr} (hp : p.block ≠ b) (u : Value) : Quad (w.setCell p u) b v0 v1 v2 v3 :=
  h.at (Below.heap_setCell w p u b (fun e => hp e.symm)) (by simp [World.setCell])

theorem Quad.set3 {w : World} {b : Nat} {v0 v1 v2 v3 : Value} (h : Quad w b v0 v1 v2 v3) (u : Value) : Quad (w.setCell ⟨b, 3, none⟩ u) b v0 v1 v2 u :=
  ⟨by rw [World.cell?_setCell_other _ _ _ _ (ne_off3 _ _ _ (by decide))]; exact h.c0, by rw [World.cell?_setCell_other _ _ _ _ (ne_off3 _ _ _ (by decide))]; exact h.c1, by rw [World.cell?_setCell_other _ _ _ _ (ne_off3 _ _ _ (by decide))]; exact h.c2, World.cell?_setCell_same _ _ _ h.c3, by rw [World.frozen?_setCell]; exact h.f0, by rw [World.frozen?_setCell]; exact h.f1, by rw [World.frozen?_setCell]; exact h.f2, by rw [World.frozen?_setCell]; exact h.f3, by simp [World.setCell]; exact h.lt⟩

theorem Tab.set {w : World} {b : Nat} {L : List ByteArray} {F : List Nat} (h : Tab w b L F) {p : Addr} (hp : p.block ∉ F) (u : Value) : Tab (w.setCell p u) b L F :=
  h.kept (Kept.set (F := [p.block]) p u (by simp)) (fun x hx hx' => by simp at hx'; exact hp (hx' ▸ hx))

set_option maxHeartbeats 1000000 in
theorem atom_any {lb ab : Nat} {p : Int} {g ro r : Nat} {L : List ByteArray} {F : List Nat} {s : ByteArray} {w : World} (h : LS w lb ab p g ro r L F) (hs : s.size ≤ 64) (hL : L.length ≤ 100000) :
    Calls Tryz.prog 59 #[.pointer (some ⟨lb, 0, none⟩), .string s] w fun e w' => e = .returned (.int .u64 (ofW 2 (numN L s))) ∧ ∃ F', LS w' lb ab p g ro r (stepL L s) F' ∧ (∀ k, k ∈ F' → k ∈ F ∨ w.heap.size ≤ k) ∧ Kept (lb :: F) w w' := by
  obtain ⟨⟨v, hq, hv⟩, ht, hl, hg, hne, hgl⟩ := h
  have HQ := hidb hq
  have NB := hidb (number_any (s := s) ht hL)
  have e0 : numE s = 0 := by simp [numE, longB]; omega
  rw [e0] at NB
  obtain ⟨c0, c1, c2, c3, f0, f1, f2, f3, hlt⟩ := hq
  clear e0
  go_enter Tryz.func59, Tryz.ntmps59
  go_wp2_with fail
  refine NB.out.mono ?_
  rintro e w1 ⟨rfl, F', ht1, hF', hk⟩
  have HQ1 := hidb (HQ.out.kept hk hl)
  have HT1 := hidb ht1
  have HF := hidb hF'
  have HK := hidb hk
  clear c0 c1 c2 c3 f0 f1 f2 f3 ht1 hF' hk NB
  obtain ⟨c0, c1, c2, c3, f0, f1, f2, f3, hlt1⟩ := HQ1.out
  generalize hN : numN L s = N
  go_wp2_with (go_at_call 58; refine (hof_any 2 N (by omega) _).mono ?_; rintro e w' ⟨rfl, rfl⟩)
  go_ret
  rw [hN]
  have hlb' : lb ∉ F' := fun h => by rcases HF.out _ h with h | h; exact hl h; omega
  have hg' : g ∉ F' := fun h => by rcases HF.out _ h with h | h; exact hg h; omega
  refine ⟨rfl, F', ⟨⟨v, HQ1.out.set3 _, hv⟩, HT1.out.set hlb' _, hlb', hg', hne, by have := HK.out.size; simp [World.setCell]; omega⟩, HF.out, ?_⟩
  exact (HK.out.mono (fun k hk _ => List.mem_cons_of_mem _ hk)).sets _ _ (by simp)
end Go.Proofs.YtmijabhnbmmmfaaGreat


/- What laying a term must lay: its word, its words, the atoms behind it. -/
namespace Go.Proofs.YtmijabhnbmmmfaaGreat
open Go.RowKit Go.Deep

/-- The words of a block ahead of those of its elements. -/
def front (k n : Int) (f len : Nat) : List Int :=
  if k = 2 then [hdW 2 1, (f : Int)] else if k = 4 then [hdW 4 1, n] else if k = 5 then [hdW 5 len, n] else [hdW 7 len]

/-- A list's pairs: the elements' words, each with that of the rest. -/
def pairs : List Int → Nat → List Int
  | [], _ => []
  | [x], _ => [x, ofW 4 0]
  | x :: y :: r, p => x :: ofW 6 ((p + 2 : Nat) : Int) :: pairs (y :: r) (p + 2)

mutual
def layT : Tr → Nat → List ByteArray → Int × List Int × List ByteArray
  | .mk k n f s _ _ kids, p, L =>
    if k = 1 then (ofW 1 n, [], L)
    else if k = 6 then (ofW 3 n, [], L)
    else if k = 3 then (ofW 2 (numN L s), [], stepL L s)
    else if k = 8 then (if kids.length = 0 then ofW 4 0 else ofW 6 p, pairs (layAll kids (p + 2 * kids.length) L).1 p ++ (layAll kids (p + 2 * kids.length) L).2.1, (layAll kids (p + 2 * kids.length) L).2.2)
    else (ofW 5 p, front k n f kids.length ++ (layAll kids (p + (front k n f kids.length).length + kids.length) L).1 ++ (layAll kids (p + (front k n f kids.length).length + kids.length) L).2.1, (layAll kids (p + (front k n f kids.length).length + kids.length) L).2.2)
def layAll : List Tr → Nat → List ByteArray → List Int × List Int × List ByteArray
  | [], _, L => ([], [], L)
  | t :: r, p, L => ((layT t p L).1 :: (layAll r (p + (layT t p L).2.1.length) (layT t p L).2.2).1, (layT t p L).2.1 ++ (layAll r (p + (layT t p L).2.1.length) (layT t p L).2.2).2.1, (layAll r (p + (layT t p L).2.1.length) (layT t p L).2.2).2.2)
end

mutual
/-- How many words that is. -/
def wN : Tr → Nat
  | .mk k n f _ _ _ kids =>
    if k = 1 then 0 else if k = 6 then 0 else if k = 3 then 0
    else if k = 8 then 2 * kids.length + wAll kids
    else (front k n f kids.length).length + kids.length + wAll kids
def wAll : List Tr → Nat
  | [] => 0
  | t :: r => wN t + wAll r
end

mutual
/-- How many terms it is. -/
def cntT : Tr → Nat
  | .mk _ _ _ _ _ _ kids => 1 + cntAll kids
def cntAll : List Tr → Nat
  | [] => 0
  | t :: r => cntT t + cntAll r
end

theorem pairs_len : ∀ (l : List Int) (p : Nat), (pairs l p).length = 2 * l.length
  | [], _ => rfl
  | [_], _ => rfl
  | x :: y :: r, p => by
    have := pairs_len (y :: r) (p + 2)
    simp only [pairs, List.length_cons] at this ⊢
    omega

theorem lay_len : ∀ (t : Tr) (p : Nat) (L : List ByteArray), (layT t p L).2.1.length = wN t := by
  refine Tr.ind fun k n f s a c kids hk p L => ?_
  have hall : ∀ p L, (layAll kids p L).1.length = kids.length ∧ (layAll kids p L).2.1.length = wAll kids := by
    clear p L
    induction kids with
    | nil => intro p L; simp [layAll, wAll]
    | cons t r ih =>
      intro p L
      have g := ih (fun u hu => hk u (List.mem_cons_of_mem _ hu)) (p + (layT t p L).2.1.length) (layT t p L).2.2
      have q := hk t (List.mem_cons_self ..) p L
      simp only [layAll, wAll, List.length_cons, List.length_append]
      omega
  simp only [layT, wN]
  split
  · rfl
  split
  · rfl
  split
  · rfl
  split
  · have g := hall (p + 2 * kids.length) L
    simp only [List.length_append, pairs_len, g.1, g.2]
  · have g := hall (p + (front k n f kids.length).length + kids.length) L
    simp only [List.length_append, g.1, g.2]

theorem layAll_len (kids : List Tr) : ∀ (p : Nat) (L : List ByteArray), (layAll kids p L).1.length = kids.length ∧ (layAll kids p L).2.1.length = wAll kids := by
  induction kids with
  | nil => intro p L; simp [layAll, wAll]
  | cons t r ih =>
    intro p L
    have g := ih (p + (layT t p L).2.1.length) (layT t p L).2.2
    have q := lay_len t p L
    simp only [layAll, wAll, List.length_cons, List.length_append]
    omega

theorem layAll_snoc (t : Tr) : ∀ (l : List Tr) (p : Nat) (L : List ByteArray), layAll (l ++ [t]) p L =
    ((layAll l p L).1 ++ [(layT t (p + wAll l) (layAll l p L).2.2).1], (layAll l p L).2.1 ++ (layT t (p + wAll l) (layAll l p L).2.2).2.1, (layT t (p + wAll l) (layAll l p L).2.2).2.2) := by
  intro l
  induction l with
  | nil => intro p L; simp [layAll, wAll]
  | cons u r ih =>
    intro p L
    have e : p + (layT u p L).2.1.length + wAll r = p + wAll (u :: r) := by simp only [wAll, lay_len]; omega
    simp only [List.cons_append, layAll, ih, e, List.append_assoc]

theorem wAll_snoc (l : List Tr) (t : Tr) : wAll (l ++ [t]) = wAll l + wN t := by
  induction l with
  | nil => simp [wAll]
  | cons u r ih => simp only [List.cons_append, wAll, ih]; omega

theorem cntAll_snoc (l : List Tr) (t : Tr) : cntAll (l ++ [t]) = cntAll l + cntT t := by
  induction l with
  | nil => simp [cntAll]
  | cons u r ih => simp only [List.cons_append, cntAll, ih]; omega

theorem take_snoc {l : List Tr} {m : Nat} {t : Tr} (h : l[m]? = some t) : l.take (m + 1) = l.take m ++ [t] := by
  rw [List.take_add_one, h]; rfl

theorem wAll_take_le (l : List Tr) (m : Nat) : wAll (l.take m) ≤ wAll l := by
  induction l generalizing m with
  | nil => simp [wAll]
  | cons u r ih =>
    cases m with
    | zero => simp [wAll]
    | succ m => have := ih m; simp only [List.take_succ_cons, wAll]; omega

theorem cntAll_take_le (l : List Tr) (m : Nat) : cntAll (l.take m) ≤ cntAll l := by
  induction l generalizing m with
  | nil => simp [cntAll]
  | cons u r ih =>
    cases m with
    | zero => simp [cntAll]
    | succ m => have := ih m; simp only [List.take_succ_cons, cntAll]; omega

/-- The atoms grow by no more than there are terms. -/
theorem lay_atoms : ∀ (t : Tr) (p : Nat) (L : List ByteArray), (layT t p L).2.2.length ≤ L.length + cntT t := by
  refine Tr.ind fun k n f s a c kids hk p L => ?_
  have hall : ∀ p L, (layAll kids p L).2.2.length ≤ L.length + cntAll kids := by
    clear p L
    induction kids with
    | nil => intro p L; simp [layAll, cntAll]
    | cons t r ih =>
      intro p L
      have g := ih (fun u hu => hk u (List.mem_cons_of_mem _ hu)) (p + (layT t p L).2.1.length) (layT t p L).2.2
      have q := hk t (List.mem_cons_self ..) p L
      simp only [layAll, cntAll]
      omega
  have h1 := hall (p + 2 * kids.length) L
  have h2 := hall (p + (front k n f kids.length).length + kids.length) L
  have h3 := stepL_len L s
  simp only [layT, cntT]
  repeat' split
  all_goals (simp only; omega)

theorem layAll_atoms (kids : List Tr) : ∀ (p : Nat) (L : List ByteArray), (layAll kids p L).2.2.length ≤ L.length + cntAll kids := by
  induction kids with
  | nil => intro p L; simp [layAll, cntAll]
  | cons t r ih =>
    intro p L
    have g := ih (p + (layT t p L).2.1.length) (layT t p L).2.2
    have q := lay_atoms t p L
    simp only [layAll, cntAll]
    omega

/-- From place ro on the words are these; all others are as they were. -/
def Put (cs cs' : Nat → Int) (ro : Nat) (ws : List Int) : Prop := (∀ j, j < ro ∨ ro + ws.length ≤ j → cs' j = cs j) ∧ ∀ i x, ws[i]? = some x → cs' (ro + i) = x

/-- The blocks of P, in which terms lie, are as they were. -/
structure Held (P : Nat → Prop) (w0 w : World) : Prop where
  size : w0.heap.size ≤ w.heap.size
  block : ∀ k, k < w0.heap.size → P k → w.heap[k]? = w0.heap[k]?

theorem Held.kept {P : Nat → Prop} {w0 w w' : World} {G : List Nat} (h : Held P w0 w) (k : Kept G w w') (hG : ∀ x, x ∈ G → ¬ P x) : Held P w0 w' :=
  ⟨Nat.le_trans h.size k.size, fun i hi hp => (k.block i (Nat.lt_of_lt_of_le hi h.size) (fun e => hG i e hp)).trans (h.block i hi hp)⟩

theorem Held.keep {P : Nat → Prop} {w0 w w' : World} (h : Held P w0 w) (hb : Below w.heap.size w w') : Held P w0 w' := h.kept (Kept.of_below (F := []) hb) (fun x hx => by simp at hx)

theorem Held.set {P : Nat → Prop} {w0 w : World} (h : Held P w0 w) {p : Addr} (hp : ¬ P p.block) (u : Value) : Held P w0 (w.setCell p u) := h.kept (Kept.set (F := [p.block]) p u (by simp)) (fun x hx => by simp at hx; rw [hx]; exact hp)

theorem Held.cell {P : Nat → Prop} {w0 w : World} (h : Held P w0 w) {p : Addr} (hp : P p.block) (hl : p.block < w0.heap.size) : w.cell? p = w0.cell? p := World.cell?_of_block (w := w0) (h.block p.block hl hp)

mutual
/-- All of a tree lies in blocks of P. -/
def Tr.On (P : Nat → Prop) : Tr → Prop
  | .mk _ _ _ _ a _ kids => (0 < kids.length → ∀ ad, a = some ad → P ad.block) ∧ Tr.OnAll P kids
def Tr.OnAll (P : Nat → Prop) : List Tr → Prop
  | [] => True
  | t :: r => Tr.On P t ∧ Tr.OnAll P r
end

theorem onAll_get {P : Nat → Prop} {kids : List Tr} (h : Tr.OnAll P kids) {t : Tr} (ht : t ∈ kids) : t.On P := by
  induction kids with
  | nil => simp at ht
  | cons u r ih =>
    unfold Tr.OnAll at h
    rcases List.mem_cons.1 ht with rfl | ht
    · exact h.1
    · exact ih h.2 ht

/-- What lies in a world lies in its blocks. -/
theorem on_all {w : World} {base : Nat} : ∀ t : Tr, t.In w base → t.On (fun k => k < w.heap.size) := by
  refine Tr.ind fun k n f s a c kids hk h => ?_
  unfold Tr.In at h
  unfold Tr.On
  refine ⟨fun h0 ad had => ?_, ?_⟩
  · obtain ⟨u, hu⟩ : ∃ u, kids[0]? = some u := ⟨_, List.getElem?_eq_getElem h0⟩
    have q := (inAll_get (h.2 ad had).2 0 u hu).1 0 (by omega)
    cases u with
    | mk =>
      have e : ad.add (0 * 5 + 0) = ad := by unfold Addr.add; simp
      rw [e] at q
      exact World.block_lt_of_cell? w ad (q.trans rfl)
  · have : ∀ l : List Tr, (∀ t, t ∈ l → t ∈ kids) → Tr.OnAll (fun k => k < w.heap.size) l := by
      intro l
      induction l with
      | nil => intro _; unfold Tr.OnAll; trivial
      | cons t r ih =>
        intro hl
        unfold Tr.OnAll
        refine ⟨?_, ih fun u hu => hl u (List.mem_cons_of_mem _ hu)⟩
        have ht := hl t (List.mem_cons_self ..)
        obtain ⟨j, hj⟩ := List.getElem?_of_mem ht
        refine hk t ht ?_
        cases a with
        | none =>
          have h0 := h.1.2.2.2.2.2.2 rfl
          have h1 := h.1.2.2.2.2.1
          have : j < kids.length := by
            rcases Nat.lt_or_ge j kids.length with h | h
            · exact h
            · rw [List.getElem?_eq_none h] at hj; simp at hj
          omega
        | some ad => exact (inAll_get (h.2 ad rfl).2 j t hj).2
    exact this kids fun t h => h

/-- All that a laying knows and keeps. -/
structure LW (P : Nat → Prop) (w0 w : World) (lb ab p g ro r : Nat) (L : List ByteArray) (F : List Nat) (C : Nat) (cs : Nat → Int) : Prop where
  ls : LS w lb ab p g ro r L F
  cells : Cells w g C cs
  below : Held P w0 w
  hl : ¬ P lb
  hg : ¬ P g
  hF : ∀ k, k ∈ F → ¬ P k
  pl : ∀ k, P k → k < w0.heap.size
  room : ro + r ≤ C
  small : p + r ≤ 16777216

theorem LS.kept {w w' : World} {lb ab g ro r : Nat} {p : Int} {L : List ByteArray} {F : List Nat} (h : LS w lb ab p g ro r L F) {G : List Nat} (k : Kept G w w') (hl : lb ∉ G) (hF : ∀ x, x ∈ F → x ∉ G) : LS w' lb ab p g ro r L F := by
  obtain ⟨⟨v, hq, hv⟩, ht, h1, h2, h3, h4⟩ := h
  exact ⟨⟨v, hq.kept k hl, hv⟩, ht.kept k hF, h1, h2, h3, Nat.lt_of_lt_of_le h4 k.size⟩

theorem LW.keep {P : Nat → Prop} {w0 w w' : World} {lb ab p g ro r : Nat} {L : List ByteArray} {F : List Nat} {C : Nat} {cs : Nat → Int} (h : LW P w0 w lb ab p g ro r L F C cs) (hb : Below w.heap.size w w') : LW P w0 w' lb ab p g ro r L F C cs :=
  ⟨h.ls.kept (Kept.of_below (F := []) hb) (by simp) (fun _ _ => by simp), h.cells.at (hb.block g h.ls.gl), h.below.keep hb, h.hl, h.hg, h.hF, h.pl, h.room, h.small⟩

theorem LW.cut {P : Nat → Prop} {w0 w w1 : World} {lb ab p g ro r n : Nat} {L : List ByteArray} {F : List Nat} {C : Nat} {cs : Nat → Int} {v : Value} (h : LW P w0 w lb ab p g ro r L F C cs) (hq : Quad w1 lb (.pointer (some ⟨ab, 0, none⟩)) (.int .i64 ((p : Int) + (n : Int))) v (.int .i64 0)) (hv : Room g (ro + n) (r - n) v) (hk : Kept [lb] w w1) (hn : n ≤ r) : LW P w0 w1 lb ab (p + n) g (ro + n) (r - n) L F C cs := by
  obtain ⟨ls, hc, hb, h1, h2, h3, h3p, h4, h5⟩ := h
  have hg : g ∉ [lb] := by simpa using fun e => ls.ne e.symm
  have e : (p : Int) + (n : Int) = ((p + n : Nat) : Int) := by omega
  refine ⟨⟨⟨v, by rw [← e]; exact hq, hv⟩, ls.tab.kept hk (fun x hx hx' => by simp at hx'; exact ls.nl (hx' ▸ hx)), ls.nl, ls.ng, ls.ne, Nat.lt_of_lt_of_le ls.gl hk.size⟩, hc.at (hk.block g ls.gl hg), hb.kept hk (by simpa using h1), h1, h2, h3, h3p, by omega, by omega⟩

theorem LW.set {P : Nat → Prop} {w0 w : World} {lb ab p g ro r : Nat} {L : List ByteArray} {F : List Nat} {C : Nat} {cs : Nat → Int} (h : LW P w0 w lb ab p g ro r L F C cs) (i : Nat) (x : Int) : LW P w0 (w.setCell ⟨g, i, none⟩ (.int .u64 x)) lb ab p g ro r L F C (fun j => if j = i then x else cs j) := by
  obtain ⟨ls, hc, hb, h1, h2, h3, h3p, h4, h5⟩ := h
  obtain ⟨⟨v, hq, hv⟩, ht, q1, q2, q3, q4⟩ := ls
  exact ⟨⟨⟨v, hq.other (fun e => q3 e.symm) _, hv⟩, ht.set q2 _, q1, q2, q3, by simp [World.setCell]; exact q4⟩, hc.set i x, hb.set h2 _, h1, h2, h3, h3p, h4, h5⟩
end Go.Proofs.YtmijabhnbmmmfaaGreat


