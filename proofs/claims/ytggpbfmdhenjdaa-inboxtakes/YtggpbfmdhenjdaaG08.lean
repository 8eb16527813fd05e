import Derived.Test.YtggpbfmdhenjdaaG07
import Derived.Laws.Rows
/- Where a tree lies. -/
namespace Go.Proofs.Ytggpbfmdhenjdaa
open Go.RowKit Go.Deep

theorem get_lt {α : Type} {l : List α} {i : Nat} {x : α} (h : l[i]? = some x) : i < l.length := by
  rcases Nat.lt_or_ge i l.length with q | q
  · exact q
  · rw [List.getElem?_eq_none q] at h; cases h


mutual
/-- All of a tree lies in blocks of P. -/
def Tr.On (P : Nat → Prop) : Tr → Prop
  | .mk _ _ _ _ a _ kids => (0 < kids.length → ∀ ad, a = some ad → P ad.block) ∧ Tr.OnAll P kids
def Tr.OnAll (P : Nat → Prop) : List Tr → Prop
  | [] => True
  | t :: r => Tr.On P t ∧ Tr.OnAll P r
end

theorem onAll_get {P : Nat → Prop} {kids : List Tr} (h : Tr.OnAll P kids) {t : Tr} (ht : t ∈ kids) : t.On P := by
  induction kids with
  | nil => simp at ht
  | cons u r ih =>
    unfold Tr.OnAll at h
    rcases List.mem_cons.1 ht with rfl | ht
    · exact h.1
    · exact ih h.2 ht

/-- What lies in a world lies in its blocks. -/
theorem on_all {w : World} {base : Nat} : ∀ t : Tr, t.In w base → t.On (fun k => k < w.heap.size) := by
  refine Tr.ind fun k n f s a c kids hk h => ?_
  unfold Tr.In at h
  unfold Tr.On
  refine ⟨fun h0 ad had => ?_, ?_⟩
  · obtain ⟨u, hu⟩ : ∃ u, kids[0]? = some u := ⟨_, List.getElem?_eq_getElem h0⟩
    have q := (inAll_get (h.2 ad had).2 0 u hu).1 0 (by omega)
    cases u with
    | mk =>
      have e : ad.add (0 * 5 + 0) = ad := by unfold Addr.add; simp
      rw [e] at q
      exact World.block_lt_of_cell? w ad (q.trans rfl)
  · have : ∀ l : List Tr, (∀ t, t ∈ l → t ∈ kids) → Tr.OnAll (fun k => k < w.heap.size) l := by
      intro l
      induction l with
      | nil => intro _; unfold Tr.OnAll; trivial
      | cons t r ih =>
        intro hl
        unfold Tr.OnAll
        refine ⟨?_, ih fun u hu => hl u (List.mem_cons_of_mem _ hu)⟩
        have ht := hl t (List.mem_cons_self ..)
        obtain ⟨j, hj⟩ := List.getElem?_of_mem ht
        refine hk t ht ?_
        cases a with
        | none =>
          have h0 := h.1.2.2.2.2.2.2 rfl
          have h1 := h.1.2.2.2.2.1
          have : j < kids.length := by
            rcases Nat.lt_or_ge j kids.length with h | h
            · exact h
            · rw [List.getElem?_eq_none h] at hj; simp at hj
          omega
        | some ad => exact (inAll_get (h.2 ad rfl).2 j t hj).2
    exact this kids fun t h => h


theorem in_on {w w' : World} {base : Nat} {S : Nat → Prop} (hs : ∀ b, S b → w'.heap[b]? = w.heap[b]?) : ∀ t : Tr, t.In w base → t.On S → t.In w' base := by
  refine Tr.ind fun k n f s a c kids hk h ho => ?_
  unfold Tr.In at h ⊢
  unfold Tr.On at ho
  refine ⟨h.1, fun ad had => ⟨(h.2 ad had).1, inAll_of fun j t hj => ?_⟩⟩
  have g := inAll_get (h.2 ad had).2 j t hj
  have hpos : 0 < kids.length := by have := get_lt hj; omega
  have hS := ho.1 hpos ad had
  refine ⟨fun i hi => ?_, hk t (List.mem_of_getElem? hj) g.2 (onAll_get ho.2 (List.mem_of_getElem? hj))⟩
  rw [add_add]
  rw [← g.1 i hi]
  refine World.cell?_of_block (w := w) ?_
  have e : (ad.add (j * 5 + i)).block = ad.block := by unfold Addr.add; split <;> rfl
  rw [e]
  exact hs _ hS

theorem on_mono {S S' : Nat → Prop} (h : ∀ b, S b → S' b) : ∀ t : Tr, t.On S → t.On S' := by
  refine Tr.ind fun k n f s a c kids hk ho => ?_
  unfold Tr.On at ho ⊢
  refine ⟨fun h0 ad had => h _ (ho.1 h0 ad had), ?_⟩
  have : ∀ l : List Tr, (∀ t, t ∈ l → t ∈ kids) → Tr.OnAll S l → Tr.OnAll S' l := by
    intro l
    induction l with
    | nil => intro _ _; unfold Tr.OnAll; trivial
    | cons t r ih =>
      intro hl hx
      unfold Tr.OnAll at hx ⊢
      exact ⟨hk t (hl t (List.mem_cons_self ..)) hx.1, ih (fun u hu => hl u (List.mem_cons_of_mem _ hu)) hx.2⟩
  exact this kids (fun t h => h) ho.2


theorem on_from {w : World} {base : Nat} : ∀ t : Tr, t.In w base → t.On (fun k => base ≤ k) := by
  refine Tr.ind fun k n f s a c kids hk h => ?_
  unfold Tr.In at h
  unfold Tr.On
  refine ⟨fun h0 ad had => (h.2 ad had).1, ?_⟩
  cases a with
  | none =>
    have h0 := h.1.2.2.2.2.2.2 rfl
    have h1 := h.1.2.2.2.2.1
    have hz : kids = [] := List.length_eq_zero_iff.1 (by omega)
    subst hz
    unfold Tr.OnAll
    trivial
  | some ad =>
    have hin := (h.2 ad rfl).2
    have : ∀ l : List Tr, (∀ t, t ∈ l → t ∈ kids) → Tr.OnAll (fun k => base ≤ k) l := by
      intro l
      induction l with
      | nil => intro _; unfold Tr.OnAll; trivial
      | cons t r ih =>
        intro hl
        unfold Tr.OnAll
        refine ⟨?_, ih fun u hu => hl u (List.mem_cons_of_mem _ hu)⟩
        obtain ⟨j, hj⟩ := List.getElem?_of_mem (hl t (List.mem_cons_self ..))
        exact hk t (hl t (List.mem_cons_self ..)) (inAll_get hin j t hj).2
    exact this kids (fun t h => h)

theorem on_and {S S' : Nat → Prop} : ∀ t : Tr, t.On S → t.On S' → t.On (fun k => S k ∧ S' k) := by
  refine Tr.ind fun k n f s a c kids hk h h' => ?_
  unfold Tr.On at h h' ⊢
  refine ⟨fun h0 ad had => ⟨h.1 h0 ad had, h'.1 h0 ad had⟩, ?_⟩
  have : ∀ l : List Tr, (∀ t, t ∈ l → t ∈ kids) → Tr.OnAll S l → Tr.OnAll S' l → Tr.OnAll (fun k => S k ∧ S' k) l := by
    intro l
    induction l with
    | nil => intro _ _ _; unfold Tr.OnAll; trivial
    | cons t r ih =>
      intro hl hx hy
      unfold Tr.OnAll at hx hy ⊢
      exact ⟨hk t (hl t (List.mem_cons_self ..)) hx.1 hy.1, ih (fun u hu => hl u (List.mem_cons_of_mem _ hu)) hx.2 hy.2⟩
  exact this kids (fun t h => h) h.2 h'.2
end Go.Proofs.Ytggpbfmdhenjdaa


/- An inbox in memory. -/
namespace Go.Proofs.Ytggpbfmdhenjdaa
open Go.RowKit Go.Deep

/-- A block's cells, none frozen. -/
structure At (w : World) (b : Nat) (vs : List Value) : Prop where
  cells : ∀ i v, vs[i]? = some v → w.cell? ⟨b, i, none⟩ = some v ∧ w.frozen? ⟨b, i, none⟩ = false
  lt : b < w.heap.size
  plain : ∃ cs t, w.heap[b]? = some (.cells cs t (0, 0))

theorem At.set {w : World} {b i : Nat} {vs : List Value} (h : At w b vs) (hi : i < vs.length) (v : Value) : At (w.setCell ⟨b, i, none⟩ v) b (vs.set i v) := by
  refine ⟨fun j u hj => ?_, by simpa [World.setCell] using h.2, by obtain ⟨cs, t, e⟩ := h.3; exact ⟨_, _, Go.heap_setCell_same w b i cs t v e⟩⟩
  rw [World.frozen?_setCell]
  by_cases e : i = j
  · subst e
    rw [List.getElem?_set_self hi] at hj
    cases hj
    have q := h.1 i vs[i] (List.getElem?_eq_getElem hi)
    exact ⟨World.cell?_setCell_same _ _ _ q.1, q.2⟩
  · rw [List.getElem?_set_ne e] at hj
    have q := h.1 j u hj
    exact ⟨by rw [World.cell?_setCell_other _ _ _ _ (fun q => e (by simpa using congrArg Addr.off q))]; exact q.1, q.2⟩
theorem At.other {w : World} {b : Nat} {vs : List Value} {p : Addr} (h : At w b vs) (hb : p.block ≠ b) (v : Value) : At (w.setCell p v) b vs := by
  refine ⟨fun j u hj => ?_, by simpa [World.setCell] using h.2, by obtain ⟨cs, t, e⟩ := h.3; exact ⟨cs, t, (Below.heap_setCell w p v b (fun e => hb e.symm)).trans e⟩⟩
  rw [World.frozen?_setCell]
  have q := h.1 j u hj
  exact ⟨by rw [World.cell?_setCell_other _ _ _ _ (fun q => hb (congrArg Addr.block q))]; exact q.1, q.2⟩
theorem At.but {S : Nat → Prop} {w w' : World} {b : Nat} {vs : List Value} (h : At w b vs) (hb : But S w w') (hS : ¬ S b) : At w' b vs :=
  ⟨fun j u hj => ⟨(hb.cell (p := ⟨b, j, none⟩) h.2 hS).trans (h.1 j u hj).1, (hb.frozen (p := ⟨b, j, none⟩) h.2 hS).trans (h.1 j u hj).2⟩, Nat.lt_of_lt_of_le h.2 hb.size, by obtain ⟨cs, t, e⟩ := h.3; exact ⟨cs, t, (hb.block b h.2 hS).trans e⟩⟩
theorem At.keep {w w' : World} {b : Nat} {vs : List Value} (h : At w b vs) (hb : Below w.heap.size w w') : At w' b vs := h.but (But.of_below (S := fun _ => False) hb) (fun h => h)

def pt (o : Option Nat) : Value := .pointer (o.map fun b => ⟨b, 0, none⟩)

/-- A message: its block, its term, its words, its number. -/
structure Msg where
  b : Nat
  k : Int
  n : Int
  f : Nat
  s : ByteArray
  a : Option Addr
  c : Nat
  kids : List Tr
  wd : Nat
  num : Nat
def Msg.t (m : Msg) : Tr := .mk m.k m.n m.f m.s m.a m.c m.kids
def Msg.cells (m : Msg) (ah bh : Option Nat) (out : Bool) : List Value := [pt ah, pt bh, .int .i64 m.k, .int .i64 m.n, .float .f64 m.f, .string m.s, .slice m.a m.kids.length m.c, .int .i64 (m.wd : Int), .int .i64 (m.num : Int), .bool out]

def prv (ms : List Msg) (i : Nat) : Option Nat := if i = 0 then none else (ms[i - 1]?).map Msg.b
def nxt (ms : List Msg) (i : Nat) : Option Nat := (ms[i + 1]?).map Msg.b
def hd (ms : List Msg) : Option Nat := (ms[0]?).map Msg.b
def wds : List Msg → Nat
  | [] => 0
  | m :: r => m.wd + wds r

/-- A box: its block, its messages, how many were looked at; R: where the messages' rows lie. -/
structure BX (w : World) (bb : Nat) (ms : List Msg) (place most puts : Nat) (R : Nat → Prop) : Prop where
  box : At w bb [pt (hd ms), pt (prv ms ms.length), pt (prv ms place), .int .i64 (ms.length : Int), .int .i64 (wds ms : Int), .int .i64 (most : Int), .int .i64 (puts : Int)]
  msg : ∀ (i : Nat) (m : Msg), ms[i]? = some m → At w m.b (m.cells (prv ms i) (nxt ms i) false)
  nd : (ms.map Msg.b).Nodup
  nb : ∀ m : Msg, m ∈ ms → m.b ≠ bb
  tr : ∀ m : Msg, m ∈ ms → m.t.In w 0 ∧ m.t.On R
  far : ∀ q, R q → q < w.heap.size ∧ q ≠ bb ∧ ∀ m : Msg, m ∈ ms → q ≠ m.b
  pl : place ≤ ms.length

/-- What a box may write. -/
def BS (bb : Nat) (ms : List Msg) (q : Nat) : Prop := q = bb ∨ ∃ m : Msg, m ∈ ms ∧ q = m.b

variable {w w' : World} {bb place most puts : Nat} {ms : List Msg} {R : Nat → Prop}

theorem BX.but {S : Nat → Prop} (h : BX w bb ms place most puts R) (hb : But S w w') (h1 : ∀ q, BS bb ms q → ¬ S q) (h2 : ∀ q, R q → ¬ S q) : BX w' bb ms place most puts R :=
  ⟨h.box.but hb (h1 bb (.inl rfl)), fun i m hm => (h.msg i m hm).but hb (h1 m.b (.inr ⟨m, List.mem_of_getElem? hm, rfl⟩)), h.nd, h.nb,
    fun m hm => ⟨in_on (S := fun q => q < w.heap.size ∧ ¬ S q) (fun b q => hb.block b q.1 q.2) _ (h.tr m hm).1 (on_mono (fun q hq => ⟨(h.far q hq).1, h2 q hq⟩) _ (h.tr m hm).2), (h.tr m hm).2⟩,
    fun q hq => ⟨Nat.lt_of_lt_of_le (h.far q hq).1 hb.size, (h.far q hq).2⟩, h.pl⟩
theorem BX.keep (h : BX w bb ms place most puts R) (hb : Below w.heap.size w w') : BX w' bb ms place most puts R := h.but (But.of_below (S := fun _ => False) hb) (fun _ _ h => h) (fun _ _ h => h)

theorem wds_snoc (ms : List Msg) (m : Msg) : wds (ms ++ [m]) = wds ms + m.wd := by
  induction ms with
  | nil => simp [wds]
  | cons x r ih => simp [wds, ih]; omega
theorem prv_snoc (ms : List Msg) (m : Msg) {i : Nat} (h : i ≤ ms.length) : prv (ms ++ [m]) i = prv ms i := by
  unfold prv
  split
  · rfl
  · rw [List.getElem?_append_left (by omega)]
theorem prv_last (ms : List Msg) (m : Msg) : prv (ms ++ [m]) (ms ++ [m]).length = some m.b := by simp [prv]
end Go.Proofs.Ytggpbfmdhenjdaa


