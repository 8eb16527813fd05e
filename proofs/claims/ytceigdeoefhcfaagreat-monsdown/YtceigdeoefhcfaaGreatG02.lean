import Derived.KernelRfl
import Derived.Test.YtceigdeoefhcfaaGreatG01
import Derived.Deep.DrawnRows
import Derived.Deep.LoopGhost
import Derived.Deep.RegionHeld3
import Derived.Deep.Cut
/- Balanced trees, pure: heights, the keys in order, how few keys a tree of a height has. -/
namespace Go.Proofs.YtceigdeoefhcfaaGreat
namespace MV

structure Hf where (a b : Int) (c : ByteArray)
abbrev hf0 : Hf := ⟨0, 0, ⟨#[]⟩⟩

inductive Avt where
  | leaf
  | node (b : Nat) (l : Avt) (h k : Int) (v : Hf) (r : Avt)

abbrev KV := Int × Hf

def Avt.ht : Avt → Int
  | .leaf => 0
  | .node _ _ h _ _ _ => h

/-- The nodes in their order: where they lie, their keys and values. -/
def Avt.nod : Avt → List (Nat × Int × Hf)
  | .leaf => []
  | .node b l _ k v r => l.nod ++ (b, k, v) :: r.nod

/-- The keys in their order, with what they have. -/
def Avt.ord : Avt → List KV
  | .leaf => []
  | .node _ l _ k v r => l.ord ++ (k, v) :: r.ord

theorem Avt.nod_ord (t : Avt) : t.nod.map (fun x => x.2) = t.ord := by
  induction t with
  | leaf => rfl
  | node b l h k v r ih1 ih2 => simp [Avt.nod, Avt.ord, ih1, ih2]

/-- Each node's height is right, and its sides differ by one at most. -/
def Avt.avl : Avt → Prop
  | .leaf => True
  | .node _ l h _ _ r => l.avl ∧ r.avl ∧ h = 1 + max l.ht r.ht ∧ l.ht - r.ht ≤ 1 ∧ r.ht - l.ht ≤ 1

theorem Avt.avl.ht_nonneg : ∀ {t : Avt}, t.avl → 0 ≤ t.ht
  | .leaf, _ => Int.le_refl _
  | .node _ l _ _ _ r, ⟨h1, h2, h3, _, _⟩ => by have := ht_nonneg h1; have := ht_nonneg h2; simp only [Avt.ht]; omega

theorem Avt.avl.ht_pos {b l h k v r} (h0 : (Avt.node b l h k v r).avl) : 0 < h := by
  obtain ⟨h1, h2, h3, _, _⟩ := h0
  have := h1.ht_nonneg; have := h2.ht_nonneg; omega

/-- F(n + 1) and F(n + 2). -/
def fp : Nat → Nat × Nat
  | 0 => (1, 1)
  | n + 1 => ((fp n).2, (fp n).1 + (fp n).2)

theorem fp_pos (n : Nat) : 1 ≤ (fp n).1 ∧ n + 1 ≤ (fp n).2 := by
  induction n with
  | zero => simp [fp]
  | succ n ih => simp only [fp]; omega

theorem fp_mono {n m : Nat} (h : n ≤ m) : (fp n).2 ≤ (fp m).2 := by
  induction h with
  | refl => exact Nat.le_refl _
  | @step m _ ih => exact Nat.le_trans ih (by simp only [fp]; omega)

/-- A tree of height h has at least F(h + 2) - 1 keys. -/
theorem Avt.avl.least : ∀ {t : Avt}, t.avl → (fp t.ht.toNat).2 ≤ t.ord.length + 1
  | .leaf, _ => by simp [Avt.ht, fp, Avt.ord]
  | .node b l h k v r, ⟨h1, h2, h3, h4, h5⟩ => by
    have a1 := least h1
    have a2 := least h2
    have n1 := h1.ht_nonneg
    have n2 := h2.ht_nonneg
    simp only [Avt.ht, Avt.ord, List.length_append, List.length_cons]
    have key : ∀ x y : Nat, y ≤ x → x ≤ y + 1 → (fp (x + 1)).2 ≤ (fp x).2 + (fp y).2 := by
      intro x y _ h2
      cases x with
      | zero => have := fp_pos y; simp only [fp]; omega
      | succ x => have := fp_mono (show x ≤ y by omega); simp only [fp]; omega
    rcases Int.le_total r.ht l.ht with hl | hl
    · have e : h.toNat = l.ht.toNat + 1 := by omega
      have := key l.ht.toNat r.ht.toNat (by omega) (by omega)
      rw [e]; omega
    · have e : h.toNat = r.ht.toNat + 1 := by omega
      have := key r.ht.toNat l.ht.toNat (by omega) (by omega)
      rw [e]; omega

theorem Avt.avl.ht_le {t : Avt} (h : t.avl) : t.ht ≤ t.ord.length := by
  have := h.least; have := (fp_pos t.ht.toNat).2; have := h.ht_nonneg; omega

theorem Avt.avl.ht_zero {t : Avt} (h : t.avl) : (t.ht > 0) ↔ (t.ord.length > 0) := by
  cases t with
  | leaf => simp [Avt.ht, Avt.ord]
  | node b l hh k v r => have := h.ht_pos; simp [Avt.ht, Avt.ord]; omega

/-- Keys that rise. -/
def Rise (l : List KV) : Prop := l.Pairwise (fun a b => a.1 < b.1)

theorem rise_node {A B : List KV} {k : Int} {v : Hf} (h : Rise (A ++ (k, v) :: B)) : Rise A ∧ Rise B ∧ (∀ x ∈ A, x.1 < k) ∧ (∀ x ∈ B, k < x.1) := by
  have h0 := List.pairwise_append.1 h
  have h1 := List.pairwise_cons.1 h0.2.1
  exact ⟨h0.1, h1.2, fun x hx => h0.2.2 x hx (k, v) (by simp), fun x hx => h1.1 x hx⟩

theorem rise_of {A B : List KV} {k : Int} {v : Hf} (hA : Rise A) (hB : Rise B) (h1 : ∀ x ∈ A, x.1 < k) (h2 : ∀ x ∈ B, k < x.1) : Rise (A ++ (k, v) :: B) := by
  refine List.pairwise_append.2 ⟨hA, List.pairwise_cons.2 ⟨fun x hx => h2 x hx, hB⟩, ?_⟩
  intro a ha b hb
  rcases List.mem_cons.1 hb with rfl | hb
  · exact h1 a ha
  · have := h1 a ha; have := h2 b hb; omega

/-- A key put. -/
def insL (k : Int) (v : Hf) (l : List KV) : List KV := l.filter (fun x => decide (x.1 < k)) ++ (k, v) :: l.filter (fun x => decide (k < x.1))
/-- A key dropped. -/
def delL (k : Int) (l : List KV) : List KV := l.filter (fun x => decide (x.1 ≠ k))
/-- What a key has. -/
def getL (k : Int) : List KV → Option Hf
  | [] => none
  | x :: r => if x.1 = k then some x.2 else getL k r

theorem filter_all {p : KV → Bool} {l : List KV} (h : ∀ x ∈ l, p x = true) : l.filter p = l := List.filter_eq_self.2 h
theorem filter_none {p : KV → Bool} {l : List KV} (h : ∀ x ∈ l, p x = false) : l.filter p = [] := List.filter_eq_nil_iff.2 (fun x hx => by simp [h x hx])

theorem rise_ins {k : Int} {v : Hf} {l : List KV} (h : Rise l) : Rise (insL k v l) :=
  rise_of (h.filter _) (h.filter _) (fun x hx => by have := (List.mem_filter.1 hx).2; simpa using this) (fun x hx => by have := (List.mem_filter.1 hx).2; simpa using this)
theorem rise_del {k : Int} {l : List KV} (h : Rise l) : Rise (delL k l) := h.filter _

theorem ins_left {A B : List KV} {key : Int} {v : Hf} {k : Int} {w : Hf} (h : Rise (A ++ (k, w) :: B)) (hk : key < k) : insL key v (A ++ (k, w) :: B) = insL key v A ++ (k, w) :: B := by
  obtain ⟨_, _, _, h2⟩ := rise_node h
  simp only [insL, List.filter_append, List.filter_cons]
  rw [filter_none (p := fun x => decide (x.1 < key)) (l := B) (fun x hx => by have := h2 x hx; simp; omega), filter_all (p := fun x => decide (key < x.1)) (l := B) (fun x hx => by have := h2 x hx; simp; omega)]
  simp [hk, show ¬ k < key by omega]

theorem ins_right {A B : List KV} {key : Int} {v : Hf} {k : Int} {w : Hf} (h : Rise (A ++ (k, w) :: B)) (hk : k < key) : insL key v (A ++ (k, w) :: B) = A ++ (k, w) :: insL key v B := by
  obtain ⟨_, _, h1, _⟩ := rise_node h
  simp only [insL, List.filter_append, List.filter_cons]
  rw [filter_all (p := fun x => decide (x.1 < key)) (l := A) (fun x hx => by have := h1 x hx; simp; omega), filter_none (p := fun x => decide (key < x.1)) (l := A) (fun x hx => by have := h1 x hx; simp; omega)]
  simp [hk, show ¬ key < k by omega]

theorem ins_here {A B : List KV} {v : Hf} {k : Int} {w : Hf} (h : Rise (A ++ (k, w) :: B)) : insL k v (A ++ (k, w) :: B) = A ++ (k, v) :: B := by
  obtain ⟨_, _, h1, h2⟩ := rise_node h
  simp only [insL, List.filter_append, List.filter_cons]
  rw [filter_all (p := fun x => decide (x.1 < k)) (l := A) (fun x hx => by have := h1 x hx; simp; omega), filter_none (p := fun x => decide (k < x.1)) (l := A) (fun x hx => by have := h1 x hx; simp; omega),
    filter_none (p := fun x => decide (x.1 < k)) (l := B) (fun x hx => by have := h2 x hx; simp; omega), filter_all (p := fun x => decide (k < x.1)) (l := B) (fun x hx => by have := h2 x hx; simp; omega)]
  simp

theorem ins_nil (k : Int) (v : Hf) : insL k v [] = [(k, v)] := rfl

theorem del_left {A B : List KV} {key k : Int} {w : Hf} (h : Rise (A ++ (k, w) :: B)) (hk : key < k) : delL key (A ++ (k, w) :: B) = delL key A ++ (k, w) :: B := by
  obtain ⟨_, _, _, h2⟩ := rise_node h
  simp only [delL, List.filter_append, List.filter_cons]
  rw [filter_all (l := B) (fun x hx => by have := h2 x hx; simp; omega)]
  simp [show k ≠ key by omega]

theorem del_right {A B : List KV} {key k : Int} {w : Hf} (h : Rise (A ++ (k, w) :: B)) (hk : k < key) : delL key (A ++ (k, w) :: B) = A ++ (k, w) :: delL key B := by
  obtain ⟨_, _, h1, _⟩ := rise_node h
  simp only [delL, List.filter_append, List.filter_cons]
  rw [filter_all (l := A) (fun x hx => by have := h1 x hx; simp; omega)]
  simp [show k ≠ key by omega]

theorem del_here {A B : List KV} {k : Int} {w : Hf} (h : Rise (A ++ (k, w) :: B)) : delL k (A ++ (k, w) :: B) = A ++ B := by
  obtain ⟨_, _, h1, h2⟩ := rise_node h
  simp only [delL, List.filter_append, List.filter_cons]
  rw [filter_all (l := A) (fun x hx => by have := h1 x hx; simp; omega), filter_all (l := B) (fun x hx => by have := h2 x hx; simp; omega)]
  simp

theorem del_none {key : Int} {l : List KV} (h : ∀ x ∈ l, x.1 ≠ key) : delL key l = l := filter_all (fun x hx => by simp [h x hx])

theorem getL_none {k : Int} {l : List KV} (h : ∀ x ∈ l, x.1 ≠ k) : getL k l = none := by
  induction l with
  | nil => rfl
  | cons x r ih => simp [getL, h x (by simp), ih (fun y hy => h y (by simp [hy]))]

theorem getL_append {k : Int} {A B : List KV} : getL k (A ++ B) = (getL k A).or (getL k B) := by
  induction A with
  | nil => simp [getL]
  | cons x r ih => by_cases e : x.1 = k <;> simp [getL, e, ih]

theorem getL_left {A B : List KV} {key k : Int} {w : Hf} (h : Rise (A ++ (k, w) :: B)) (hk : key < k) : getL key (A ++ (k, w) :: B) = getL key A := by
  obtain ⟨_, _, _, h2⟩ := rise_node h
  rw [getL_append, getL_none (l := (k, w) :: B)]
  · simp
  · intro x hx; rcases List.mem_cons.1 hx with rfl | hx
    · simp; omega
    · have := h2 x hx; omega

theorem getL_right {A B : List KV} {key k : Int} {w : Hf} (h : Rise (A ++ (k, w) :: B)) (hk : k < key) : getL key (A ++ (k, w) :: B) = getL key B := by
  obtain ⟨_, _, h1, _⟩ := rise_node h
  rw [getL_append, getL_none (l := A) (fun x hx => by have := h1 x hx; omega)]
  simp [getL, show k ≠ key by omega]

theorem getL_here {A B : List KV} {k : Int} {w : Hf} (h : Rise (A ++ (k, w) :: B)) : getL k (A ++ (k, w) :: B) = some w := by
  obtain ⟨_, _, h1, _⟩ := rise_node h
  rw [getL_append, getL_none (l := A) (fun x hx => by have := h1 x hx; omega)]
  simp [getL]

theorem getL_isSome {k : Int} {l : List KV} : (getL k l).isSome = true ↔ ∃ x ∈ l, x.1 = k := by
  induction l with
  | nil => simp [getL]
  | cons x r ih => by_cases e : x.1 = k <;> simp [getL, e, ih]

theorem split_at {key : Int} {l : List KV} (h : Rise l) : ∃ A B, l = A ++ B ∧ (∀ x ∈ A, x.1 < key) ∧ (∀ x ∈ B, key ≤ x.1) := by
  induction l with
  | nil => exact ⟨[], [], rfl, by simp, by simp⟩
  | cons x r ih =>
    have hr := List.pairwise_cons.1 h
    obtain ⟨A, B, e, h1, h2⟩ := ih hr.2
    by_cases hx : x.1 < key
    · exact ⟨x :: A, B, by simp [e], fun y hy => (List.mem_cons.1 hy).elim (fun e => e ▸ hx) (h1 y), h2⟩
    · exact ⟨[], x :: r, rfl, by simp, fun y hy => by
        rcases List.mem_cons.1 hy with rfl | hy
        · omega
        · have := hr.1 y hy; omega⟩

theorem getL_split {key : Int} {A B : List KV} (h : Rise (A ++ B)) (h1 : ∀ x ∈ A, x.1 < key) (h2 : ∀ x ∈ B, key ≤ x.1) : getL key (A ++ B) = match B with | [] => none | x :: _ => if x.1 = key then some x.2 else none := by
  rw [getL_append, getL_none (l := A) (fun x hx => by have := h1 x hx; omega)]
  cases B with
  | nil => rfl
  | cons x r =>
    have hB := (List.pairwise_append.1 h).2.1
    have hr := List.pairwise_cons.1 hB
    by_cases e : x.1 = key
    · simp [getL, e]
    · simp only [getL, e, if_false, Option.or]
      exact getL_none (fun y hy => by have := hr.1 y hy; have := h2 x (by simp); omega)

theorem ins_split {key : Int} {v : Hf} {A B : List KV} (h : Rise (A ++ B)) (h1 : ∀ x ∈ A, x.1 < key) (h2 : ∀ x ∈ B, key ≤ x.1) : insL key v (A ++ B) = match B with | [] => A ++ [(key, v)] | x :: r => if x.1 = key then A ++ (key, v) :: r else A ++ (key, v) :: x :: r := by
  cases B with
  | nil =>
    simp only [insL, List.append_nil]
    rw [filter_all (fun x hx => by have := h1 x hx; simpa using this), filter_none (fun x hx => by have := h1 x hx; simp; omega)]
  | cons x r =>
    have hB := (List.pairwise_append.1 h).2.1
    have hr := List.pairwise_cons.1 hB
    have hx := h2 x (by simp)
    by_cases e : x.1 = key
    · obtain ⟨a, b⟩ := x
      simp only at e
      subst e
      simpa using ins_here (v := v) h
    · simp only [insL, List.filter_append, List.filter_cons, e, if_false]
      rw [filter_all (p := fun x => decide (x.1 < key)) (l := A) (fun x hx => by have := h1 x hx; simpa using this), filter_none (p := fun x => decide (key < x.1)) (l := A) (fun x hx => by have := h1 x hx; simp; omega),
        filter_none (p := fun x => decide (x.1 < key)) (l := r) (fun y hy => by have := hr.1 y hy; simp; omega), filter_all (p := fun x => decide (key < x.1)) (l := r) (fun y hy => by have := hr.1 y hy; simp; omega)]
      simp [show ¬ x.1 < key by omega, show key < x.1 by omega]

/-- The nodes from a key on, as the program goes over them. -/
def Avt.tell (key : Int) : Avt → List (Nat × Int × Hf)
  | .leaf => []
  | .node b l _ k v r => (if key < k then l.tell key else []) ++ (if key ≤ k then [(b, k, v)] else []) ++ r.tell key

theorem Avt.tell_len (key : Int) (t : Avt) : (t.tell key).length ≤ t.ord.length := by
  induction t with
  | leaf => simp [Avt.tell]
  | node b l h k v r ih1 ih2 =>
    simp only [Avt.tell, Avt.ord, List.length_append, List.length_cons]
    split <;> split <;> simp <;> omega

theorem Avt.tell_is (key : Int) : ∀ {t : Avt}, Rise t.ord → (t.tell key).map (fun x => x.2) = t.ord.filter (fun x => decide (key ≤ x.1))
  | .leaf, _ => rfl
  | .node b l h k v r, hs => by
    obtain ⟨r1, r2, h1, h2⟩ := rise_node hs
    simp only [Avt.tell, Avt.ord, List.map_append, List.filter_append, List.filter_cons, tell_is key r2]
    by_cases e : key < k
    · simp [e, show key ≤ k by omega, tell_is key r1]
    · by_cases e2 : key ≤ k
      · simp only [e, e2, if_false, if_true, List.map_nil, List.nil_append, List.map_cons, decide_true]
        rw [filter_none (l := l.ord) (fun x hx => by have := h1 x hx; simp; omega)]
        simp
      · simp only [e, e2, if_false, List.map_nil, List.nil_append, decide_false]
        rw [filter_none (l := l.ord) (fun x hx => by have := h1 x hx; simp; omega)]
        simp

end MV
end Go.Proofs.YtceigdeoefhcfaaGreat


/- Trees in memory: the program's nodes. -/
namespace Go.Proofs.YtceigdeoefhcfaaGreat
open Go.RowKit Go.Lib
namespace MV
attribute [local go_sem] store_float f64bits
attribute [local go_sem ↓] Go.wp_at_zero Go.wp_at_succ

/-- A node's block: seven cells. -/
structure Bxv (w : World) (b : Nat) (v0 v1 v2 v3 : Value) (v : Hf) : Prop where
  c0 : w.cell? ⟨b, 0, none⟩ = some v0
  c1 : w.cell? ⟨b, 1, none⟩ = some v1
  c2 : w.cell? ⟨b, 2, none⟩ = some v2
  c3 : w.cell? ⟨b, 3, none⟩ = some v3
  c4 : w.cell? ⟨b, 4, none⟩ = some (.int .i64 v.a)
  c5 : w.cell? ⟨b, 5, none⟩ = some (.int .i64 v.b)
  c6 : w.cell? ⟨b, 6, none⟩ = some (.string v.c)
  lt : b < w.heap.size
theorem Bxv.new (w : World) (t : TypeId) (v0 v1 v2 v3 : Value) (v : Hf) : Bxv (w.alloc (.cells #[v0, v1, v2, v3, .int .i64 v.a, .int .i64 v.b, .string v.c] t)) w.heap.size v0 v1 v2 v3 v :=
  ⟨by rw [World.cell?_alloc_new]; rfl, by rw [World.cell?_alloc_new]; rfl, by rw [World.cell?_alloc_new]; rfl, by rw [World.cell?_alloc_new]; rfl, by rw [World.cell?_alloc_new]; rfl, by rw [World.cell?_alloc_new]; rfl, by rw [World.cell?_alloc_new]; rfl, by simp⟩
theorem Bxv.but {S : Nat → Prop} {w w' : World} {b : Nat} {v0 v1 v2 v3 : Value} {v : Hf} (h : Bxv w b v0 v1 v2 v3 v) (hb : But S w w') (hs : ¬ S b) : Bxv w' b v0 v1 v2 v3 v :=
  ⟨(hb.cell h.lt hs).trans h.c0, (hb.cell h.lt hs).trans h.c1, (hb.cell h.lt hs).trans h.c2, (hb.cell h.lt hs).trans h.c3, (hb.cell h.lt hs).trans h.c4, (hb.cell h.lt hs).trans h.c5, (hb.cell h.lt hs).trans h.c6, Nat.lt_of_lt_of_le h.lt hb.size⟩
theorem Bxv.keep {w w' : World} {b : Nat} {v0 v1 v2 v3 : Value} {v : Hf} (h : Bxv w b v0 v1 v2 v3 v) (hb : Below w.heap.size w w') : Bxv w' b v0 v1 v2 v3 v := h.but (S := fun _ => False) (But.of_below hb) (fun h => h)

/-- A tree in memory, its nodes in blocks of D. -/
def IsT (w : World) (D : Nat → Prop) : Option Addr → Avt → Prop
  | p, .leaf => p = none
  | p, .node b l h k v r => ∃ pl pr, p = some ⟨b, 0, none⟩ ∧ D b ∧ Bxv w b (.pointer pl) (.pointer pr) (.int .i64 h) (.int .i64 k) v ∧ IsT w D pl l ∧ IsT w D pr r

theorem IsT.but {S D : Nat → Prop} {w w' : World} (hb : But S w w') (hs : ∀ k, D k → ¬ S k) : ∀ {p : Option Addr} {t : Avt}, IsT w D p t → IsT w' D p t
  | _, .leaf, h => h
  | _, .node _ _ _ _ _ _, ⟨pl, pr, hp, hd, hx, h1, h2⟩ => ⟨pl, pr, hp, hd, hx.but hb (hs _ hd), IsT.but hb hs h1, IsT.but hb hs h2⟩

theorem IsT.mono {D D' : Nat → Prop} {w : World} (hd : ∀ k, D k → D' k) : ∀ {p : Option Addr} {t : Avt}, IsT w D p t → IsT w D' p t
  | _, .leaf, h => h
  | _, .node _ _ _ _ _ _, ⟨pl, pr, hp, h0, hx, h1, h2⟩ => ⟨pl, pr, hp, hd _ h0, hx, IsT.mono hd h1, IsT.mono hd h2⟩

theorem IsT.keep {D : Nat → Prop} {w w' : World} (hb : Below w.heap.size w w') {p : Option Addr} {t : Avt} (h : IsT w D p t) : IsT w' D p t := h.but (S := fun _ => False) (But.of_below hb) (fun _ _ h => h)

theorem IsT.ptr {w : World} {D : Nat → Prop} {p : Option Addr} {t : Avt} (h : IsT w D p t) : (p = none ∧ t = .leaf) ∨ ∃ b, p = some ⟨b, 0, none⟩ ∧ b < w.heap.size := by
  cases t with
  | leaf => exact .inl ⟨h, rfl⟩
  | node b l hh k v r => obtain ⟨pl, pr, hp, _, hx, _⟩ := h; exact .inr ⟨b, hp, hx.lt⟩

set_option maxHeartbeats 1000000 in
theorem height_any {w : World} {D : Nat → Prop} {p : Option Addr} {t : Avt} (h : IsT w D p t) : Calls Tryz.prog 66 #[.pointer p] w fun e w' => e = .returned (.int .i64 t.ht) ∧ w' = w := by
  cases t with
  | leaf =>
    obtain rfl : p = none := h
    go_enter Tryz.func66, Tryz.ntmps66
    go_wp2_with fail
    go_ret
    exact ⟨rfl, rfl⟩
  | node b l hh k v r =>
    obtain ⟨pl, pr, rfl, hd, hx, h1, h2⟩ := h
    have c2 := hx.c2
    clear hx h1 h2
    go_enter Tryz.func66, Tryz.ntmps66
    go_wp2_with fail
    go_ret
    exact ⟨rfl, rfl⟩

set_option maxHeartbeats 1000000 in
theorem over_any {w : World} {D : Nat → Prop} {b : Nat} {x0 x1 x2 : Value} {k : Int} {v : Hf} (hx : Bxv w b x0 x1 x2 (.int .i64 k) v) {pl pr : Option Addr} {l r : Avt} (h1 : IsT w D pl l) (h2 : IsT w D pr r)
    (b1 : 0 ≤ l.ht ∧ l.ht ≤ 1000000000000) (b2 : 0 ≤ r.ht ∧ r.ht ≤ 1000000000000) :
    Calls Tryz.prog 67 #[.pointer (some ⟨b, 0, none⟩), .pointer pl, .pointer pr] w fun e w' => ∃ b', e = .returned (.pointer (some ⟨b', 0, none⟩)) ∧ w.heap.size ≤ b' ∧ Bxv w' b' (.pointer pl) (.pointer pr) (.int .i64 (1 + max l.ht r.ht)) (.int .i64 k) v ∧ Below w.heap.size w w' := by
  have H1 := hidb h1
  have H2 := hidb h2
  clear h1 h2
  have k3 := hx.c3
  have k4 := hx.c4; have k5 := hx.c5; have k6 := hx.c6
  clear hx
  have b1' := hidb b1
  have b2' := hidb b2
  clear b1 b2
  go_enter Tryz.func67, Tryz.ntmps67
  go_wp2_with (first | (go_at_call 66; refine (height_any H1.out).mono ?_; clear H1; rintro e w' ⟨rfl, rfl⟩) | (go_at_call 66; refine (height_any H2.out).mono ?_; clear H2; rintro e w' ⟨rfl, rfl⟩))
  all_goals
    have q1 := b1'.out
    have q2 := b2'.out
  · have e1 : wrap64 (1 + r.ht) = 1 + max l.ht r.ht := by unfold wrap64; omega
    rw [e1]
    clear e1 q1 q2
    go_region
    go_wp2_with fail
    go_ret
    exact ⟨_, rfl, Nat.le_refl _, (Bxv.new _ _ _ _ _ _ _).keep ((Below.refl _ _).drew), (below_new _ _).drew⟩
  · have e1 : wrap64 (1 + l.ht) = 1 + max l.ht r.ht := by unfold wrap64; omega
    rw [e1]
    clear e1 q1 q2
    go_region
    go_wp2_with fail
    go_ret
    exact ⟨_, rfl, Nat.le_refl _, (Bxv.new _ _ _ _ _ _ _).keep ((Below.refl _ _).drew), (below_new _ _).drew⟩

set_option maxHeartbeats 1000000 in
theorem find_any {w : World} {D : Nat → Prop} {p : Option Addr} {t : Avt} (h : IsT w D p t) (hr : Rise t.ord) (key : Int) :
    Calls Tryz.prog 48 #[.pointer p, .int .i64 key] w fun e w' => w' = w ∧ ∃ q, e = .returned (.pointer q) ∧
      ((q = none ∧ getL key t.ord = none) ∨ ∃ b v x0 x1 x2, q = some ⟨b, 0, none⟩ ∧ Bxv w b x0 x1 x2 (.int .i64 key) v ∧ getL key t.ord = some v) := by
  go_enter Tryz.func48, Tryz.ntmps48
  go_wp2_with fail
  go_loopg [0] t.ord.length (fun gk pv wr => ∃ p' t', pv = .pointer p' ∧ IsT w D p' t' ∧ t'.ord.length ≤ gk ∧ wr = w ∧ Rise t'.ord ∧ getL key t.ord = getL key t'.ord)
  case atStart => exact ⟨p, t, rfl, h, Nat.le_refl _, rfl, hr, rfl⟩
  case round =>
  obtain ⟨p', t', rfl, ht, hle, rfl, hr', hg⟩ := hrel
  have HG := hidb hg
  have HL := hidb hle
  clear hg hle
  cases t' with
  | leaf =>
    obtain rfl : p' = none := ht
    go_wp2_with fail
    go_ret
    exact ⟨rfl, _, rfl, .inl ⟨rfl, HG.out.trans rfl⟩⟩
  | node b l hh k v r =>
    obtain ⟨pl, pr, rfl, hd, hx, h1, h2⟩ := ht
    have HX := hidb hx
    have c0 := hx.c0
    have c1 := hx.c1
    have c3 := hx.c3
    clear hx
    have HR := hidb hr'
    clear hr'
    have hord : (Avt.node b l hh k v r).ord = l.ord ++ (k, v) :: r.ord := rfl
    rw [hord] at HG HL HR
    clear hord
    rcases Int.lt_trichotomy key k with hk | hk | hk
    · have n1 : ¬ k = key := by omega
      go_wp2_with fail
      go_roundg l.ord.length
      case measure => have := HL.out; simp at this; omega
      case rel => exact ⟨pl, l, rfl, h1, Nat.le_refl _, rfl, (rise_node HR.out).1, HG.out.trans (getL_left HR.out hk)⟩
    · subst hk
      go_wp2_with fail
      go_ret
      exact ⟨rfl, _, rfl, .inr ⟨b, v, _, _, _, rfl, HX.out, HG.out.trans (getL_here HR.out)⟩⟩
    · have n1 : ¬ k = key := by omega
      have n2 : ¬ key < k := by omega
      go_wp2_with fail
      go_roundg r.ord.length
      case measure => have := HL.out; simp at this; omega
      case rel => exact ⟨pr, r, rfl, h2, Nat.le_refl _, rfl, (rise_node HR.out).2.1, HG.out.trans (getL_right HR.out hk)⟩

end MV
end Go.Proofs.YtceigdeoefhcfaaGreat


