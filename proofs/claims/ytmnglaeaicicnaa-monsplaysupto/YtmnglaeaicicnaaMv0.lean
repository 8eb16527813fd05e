/- Balanced trees, pure: heights, the keys in order, how few keys a tree of a height has. -/
import Derived.KernelRfl
namespace Go.Proofs.Ytmnglaeaicicnaa
namespace MV

structure Hf where (a b : Int) (c : ByteArray)
abbrev hf0 : Hf := ⟨0, 0, ⟨#[]⟩⟩

inductive Avt where
  | leaf
  | node (b : Nat) (l : Avt) (h k : Int) (v : Hf) (r : Avt)

abbrev KV := Int × Hf

def Avt.ht : Avt → Int
  | .leaf => 0
  | .node _ _ h _ _ _ => h

/-- The nodes in their order: where they lie, their keys and values. -/
def Avt.nod : Avt → List (Nat × Int × Hf)
  | .leaf => []
  | .node b l _ k v r => l.nod ++ (b, k, v) :: r.nod

/-- The keys in their order, with what they have. -/
def Avt.ord : Avt → List KV
  | .leaf => []
  | .node _ l _ k v r => l.ord ++ (k, v) :: r.ord

theorem Avt.nod_ord (t : Avt) : t.nod.map (fun x => x.2) = t.ord := by
  induction t with
  | leaf => rfl
  | node b l h k v r ih1 ih2 => simp [Avt.nod, Avt.ord, ih1, ih2]

/-- Each node's height is right, and its sides differ by one at most. -/
def Avt.avl : Avt → Prop
  | .leaf => True
  | .node _ l h _ _ r => l.avl ∧ r.avl ∧ h = 1 + max l.ht r.ht ∧ l.ht - r.ht ≤ 1 ∧ r.ht - l.ht ≤ 1

theorem Avt.avl.ht_nonneg : ∀ {t : Avt}, t.avl → 0 ≤ t.ht
  | .leaf, _ => Int.le_refl _
  | .node _ l _ _ _ r, ⟨h1, h2, h3, _, _⟩ => by have := ht_nonneg h1; have := ht_nonneg h2; simp only [Avt.ht]; omega

theorem Avt.avl.ht_pos {b l h k v r} (h0 : (Avt.node b l h k v r).avl) : 0 < h := by
  obtain ⟨h1, h2, h3, _, _⟩ := h0
  have := h1.ht_nonneg; have := h2.ht_nonneg; omega

/-- F(n + 1) and F(n + 2). -/
def fp : Nat → Nat × Nat
  | 0 => (1, 1)
  | n + 1 => ((fp n).2, (fp n).1 + (fp n).2)

theorem fp_pos (n : Nat) : 1 ≤ (fp n).1 ∧ n + 1 ≤ (fp n).2 := by
  induction n with
  | zero => simp [fp]
  | succ n ih => simp only [fp]; omega

theorem fp_mono {n m : Nat} (h : n ≤ m) : (fp n).2 ≤ (fp m).2 := by
  induction h with
  | refl => exact Nat.le_refl _
  | @step m _ ih => exact Nat.le_trans ih (by simp only [fp]; omega)

/-- A tree of height h has at least F(h + 2) - 1 keys. -/
theorem Avt.avl.least : ∀ {t : Avt}, t.avl → (fp t.ht.toNat).2 ≤ t.ord.length + 1
  | .leaf, _ => by simp [Avt.ht, fp, Avt.ord]
  | .node b l h k v r, ⟨h1, h2, h3, h4, h5⟩ => by
    have a1 := least h1
    have a2 := least h2
    have n1 := h1.ht_nonneg
    have n2 := h2.ht_nonneg
    simp only [Avt.ht, Avt.ord, List.length_append, List.length_cons]
    have key : ∀ x y : Nat, y ≤ x → x ≤ y + 1 → (fp (x + 1)).2 ≤ (fp x).2 + (fp y).2 := by
      intro x y _ h2
      cases x with
      | zero => have := fp_pos y; simp only [fp]; omega
      | succ x => have := fp_mono (show x ≤ y by omega); simp only [fp]; omega
    rcases Int.le_total r.ht l.ht with hl | hl
    · have e : h.toNat = l.ht.toNat + 1 := by omega
      have := key l.ht.toNat r.ht.toNat (by omega) (by omega)
      rw [e]; omega
    · have e : h.toNat = r.ht.toNat + 1 := by omega
      have := key r.ht.toNat l.ht.toNat (by omega) (by omega)
      rw [e]; omega

theorem Avt.avl.ht_le {t : Avt} (h : t.avl) : t.ht ≤ t.ord.length := by
  have := h.least; have := (fp_pos t.ht.toNat).2; have := h.ht_nonneg; omega

theorem Avt.avl.ht_zero {t : Avt} (h : t.avl) : (t.ht > 0) ↔ (t.ord.length > 0) := by
  cases t with
  | leaf => simp [Avt.ht, Avt.ord]
  | node b l hh k v r => have := h.ht_pos; simp [Avt.ht, Avt.ord]; omega

/-- Keys that rise. -/
def Rise (l : List KV) : Prop := l.Pairwise (fun a b => a.1 < b.1)

theorem rise_node {A B : List KV} {k : Int} {v : Hf} (h : Rise (A ++ (k, v) :: B)) : Rise A ∧ Rise B ∧ (∀ x ∈ A, x.1 < k) ∧ (∀ x ∈ B, k < x.1) := by
  have h0 := List.pairwise_append.1 h
  have h1 := List.pairwise_cons.1 h0.2.1
  exact ⟨h0.1, h1.2, fun x hx => h0.2.2 x hx (k, v) (by simp), fun x hx => h1.1 x hx⟩

theorem rise_of {A B : List KV} {k : Int} {v : Hf} (hA : Rise A) (hB : Rise B) (h1 : ∀ x ∈ A, x.1 < k) (h2 : ∀ x ∈ B, k < x.1) : Rise (A ++ (k, v) :: B) := by
  refine List.pairwise_append.2 ⟨hA, List.pairwise_cons.2 ⟨fun x hx => h2 x hx, hB⟩, ?_⟩
  intro a ha b hb
  rcases List.mem_cons.1 hb with rfl | hb
  · exact h1 a ha
  · have := h1 a ha; have := h2 b hb; omega

/-- A key put. -/
def insL (k : Int) (v : Hf) (l : List KV) : List KV := l.filter (fun x => decide (x.1 < k)) ++ (k, v) :: l.filter (fun x => decide (k < x.1))
/-- A key dropped. -/
def delL (k : Int) (l : List KV) : List KV := l.filter (fun x => decide (x.1 ≠ k))
/-- What a key has. -/
def getL (k : Int) : List KV → Option Hf
  | [] => none
  | x :: r => if x.1 = k then some x.2 else getL k r

theorem filter_all {p : KV → Bool} {l : List KV} (h : ∀ x ∈ l, p x = true) : l.filter p = l := List.filter_eq_self.2 h
theorem filter_none {p : KV → Bool} {l : List KV} (h : ∀ x ∈ l, p x = false) : l.filter p = [] := List.filter_eq_nil_iff.2 (fun x hx => by simp [h x hx])

theorem rise_ins {k : Int} {v : Hf} {l : List KV} (h : Rise l) : Rise (insL k v l) :=
  rise_of (h.filter _) (h.filter _) (fun x hx => by have := (List.mem_filter.1 hx).2; simpa using this) (fun x hx => by have := (List.mem_filter.1 hx).2; simpa using this)
theorem rise_del {k : Int} {l : List KV} (h : Rise l) : Rise (delL k l) := h.filter _

theorem ins_left {A B : List KV} {key : Int} {v : Hf} {k : Int} {w : Hf} (h : Rise (A ++ (k, w) :: B)) (hk : key < k) : insL key v (A ++ (k, w) :: B) = insL key v A ++ (k, w) :: B := by
  obtain ⟨_, _, _, h2⟩ := rise_node h
  simp only [insL, List.filter_append, List.filter_cons]
  rw [filter_none (p := fun x => decide (x.1 < key)) (l := B) (fun x hx => by have := h2 x hx; simp; omega), filter_all (p := fun x => decide (key < x.1)) (l := B) (fun x hx => by have := h2 x hx; simp; omega)]
  simp [hk, show ¬ k < key by omega]

theorem ins_right {A B : List KV} {key : Int} {v : Hf} {k : Int} {w : Hf} (h : Rise (A ++ (k, w) :: B)) (hk : k < key) : insL key v (A ++ (k, w) :: B) = A ++ (k, w) :: insL key v B := by
  obtain ⟨_, _, h1, _⟩ := rise_node h
  simp only [insL, List.filter_append, List.filter_cons]
  rw [filter_all (p := fun x => decide (x.1 < key)) (l := A) (fun x hx => by have := h1 x hx; simp; omega), filter_none (p := fun x => decide (key < x.1)) (l := A) (fun x hx => by have := h1 x hx; simp; omega)]
  simp [hk, show ¬ key < k by omega]

theorem ins_here {A B : List KV} {v : Hf} {k : Int} {w : Hf} (h : Rise (A ++ (k, w) :: B)) : insL k v (A ++ (k, w) :: B) = A ++ (k, v) :: B := by
  obtain ⟨_, _, h1, h2⟩ := rise_node h
  simp only [insL, List.filter_append, List.filter_cons]
  rw [filter_all (p := fun x => decide (x.1 < k)) (l := A) (fun x hx => by have := h1 x hx; simp; omega), filter_none (p := fun x => decide (k < x.1)) (l := A) (fun x hx => by have := h1 x hx; simp; omega),
    filter_none (p := fun x => decide (x.1 < k)) (l := B) (fun x hx => by have := h2 x hx; simp; omega), filter_all (p := fun x => decide (k < x.1)) (l := B) (fun x hx => by have := h2 x hx; simp; omega)]
  simp

theorem ins_nil (k : Int) (v : Hf) : insL k v [] = [(k, v)] := rfl

theorem del_left {A B : List KV} {key k : Int} {w : Hf} (h : Rise (A ++ (k, w) :: B)) (hk : key < k) : delL key (A ++ (k, w) :: B) = delL key A ++ (k, w) :: B := by
  obtain ⟨_, _, _, h2⟩ := rise_node h
  simp only [delL, List.filter_append, List.filter_cons]
  rw [filter_all (l := B) (fun x hx => by have := h2 x hx; simp; omega)]
  simp [show k ≠ key by omega]

theorem del_right {A B : List KV} {key k : Int} {w : Hf} (h : Rise (A ++ (k, w) :: B)) (hk : k < key) : delL key (A ++ (k, w) :: B) = A ++ (k, w) :: delL key B := by
  obtain ⟨_, _, h1, _⟩ := rise_node h
  simp only [delL, List.filter_append, List.filter_cons]
  rw [filter_all (l := A) (fun x hx => by have := h1 x hx; simp; omega)]
  simp [show k ≠ key by omega]

theorem del_here {A B : List KV} {k : Int} {w : Hf} (h : Rise (A ++ (k, w) :: B)) : delL k (A ++ (k, w) :: B) = A ++ B := by
  obtain ⟨_, _, h1, h2⟩ := rise_node h
  simp only [delL, List.filter_append, List.filter_cons]
  rw [filter_all (l := A) (fun x hx => by have := h1 x hx; simp; omega), filter_all (l := B) (fun x hx => by have := h2 x hx; simp; omega)]
  simp

theorem del_none {key : Int} {l : List KV} (h : ∀ x ∈ l, x.1 ≠ key) : delL key l = l := filter_all (fun x hx => by simp [h x hx])

theorem getL_none {k : Int} {l : List KV} (h : ∀ x ∈ l, x.1 ≠ k) : getL k l = none := by
  induction l with
  | nil => rfl
  | cons x r ih => simp [getL, h x (by simp), ih (fun y hy => h y (by simp [hy]))]

theorem getL_append {k : Int} {A B : List KV} : getL k (A ++ B) = (getL k A).or (getL k B) := by
  induction A with
  | nil => simp [getL]
  | cons x r ih => by_cases e : x.1 = k <;> simp [getL, e, ih]

theorem getL_left {A B : List KV} {key k : Int} {w : Hf} (h : Rise (A ++ (k, w) :: B)) (hk : key < k) : getL key (A ++ (k, w) :: B) = getL key A := by
  obtain ⟨_, _, _, h2⟩ := rise_node h
  rw [getL_append, getL_none (l := (k, w) :: B)]
  · simp
  · intro x hx; rcases List.mem_cons.1 hx with rfl | hx
    · simp; omega
    · have := h2 x hx; omega

theorem getL_right {A B : List KV} {key k : Int} {w : Hf} (h : Rise (A ++ (k, w) :: B)) (hk : k < key) : getL key (A ++ (k, w) :: B) = getL key B := by
  obtain ⟨_, _, h1, _⟩ := rise_node h
  rw [getL_append, getL_none (l := A) (fun x hx => by have := h1 x hx; omega)]
  simp [getL, show k ≠ key by omega]

theorem getL_here {A B : List KV} {k : Int} {w : Hf} (h : Rise (A ++ (k, w) :: B)) : getL k (A ++ (k, w) :: B) = some w := by
  obtain ⟨_, _, h1, _⟩ := rise_node h
  rw [getL_append, getL_none (l := A) (fun x hx => by have := h1 x hx; omega)]
  simp [getL]

theorem getL_isSome {k : Int} {l : List KV} : (getL k l).isSome = true ↔ ∃ x ∈ l, x.1 = k := by
  induction l with
  | nil => simp [getL]
  | cons x r ih => by_cases e : x.1 = k <;> simp [getL, e, ih]

theorem split_at {key : Int} {l : List KV} (h : Rise l) : ∃ A B, l = A ++ B ∧ (∀ x ∈ A, x.1 < key) ∧ (∀ x ∈ B, key ≤ x.1) := by
  induction l with
  | nil => exact ⟨[], [], rfl, by simp, by simp⟩
  | cons x r ih =>
    have hr := List.pairwise_cons.1 h
    obtain ⟨A, B, e, h1, h2⟩ := ih hr.2
    by_cases hx : x.1 < key
    · exact ⟨x :: A, B, by simp [e], fun y hy => (List.mem_cons.1 hy).elim (fun e => e ▸ hx) (h1 y), h2⟩
    · exact ⟨[], x :: r, rfl, by simp, fun y hy => by
        rcases List.mem_cons.1 hy with rfl | hy
        · omega
        · have := hr.1 y hy; omega⟩

theorem getL_split {key : Int} {A B : List KV} (h : Rise (A ++ B)) (h1 : ∀ x ∈ A, x.1 < key) (h2 : ∀ x ∈ B, key ≤ x.1) : getL key (A ++ B) = match B with | [] => none | x :: _ => if x.1 = key then some x.2 else none := by
  rw [getL_append, getL_none (l := A) (fun x hx => by have := h1 x hx; omega)]
  cases B with
  | nil => rfl
  | cons x r =>
    have hB := (List.pairwise_append.1 h).2.1
    have hr := List.pairwise_cons.1 hB
    by_cases e : x.1 = key
    · simp [getL, e]
    · simp only [getL, e, if_false, Option.or]
      exact getL_none (fun y hy => by have := hr.1 y hy; have := h2 x (by simp); omega)

theorem ins_split {key : Int} {v : Hf} {A B : List KV} (h : Rise (A ++ B)) (h1 : ∀ x ∈ A, x.1 < key) (h2 : ∀ x ∈ B, key ≤ x.1) : insL key v (A ++ B) = match B with | [] => A ++ [(key, v)] | x :: r => if x.1 = key then A ++ (key, v) :: r else A ++ (key, v) :: x :: r := by
  cases B with
  | nil =>
    simp only [insL, List.append_nil]
    rw [filter_all (fun x hx => by have := h1 x hx; simpa using this), filter_none (fun x hx => by have := h1 x hx; simp; omega)]
  | cons x r =>
    have hB := (List.pairwise_append.1 h).2.1
    have hr := List.pairwise_cons.1 hB
    have hx := h2 x (by simp)
    by_cases e : x.1 = key
    · obtain ⟨a, b⟩ := x
      simp only at e
      subst e
      simpa using ins_here (v := v) h
    · simp only [insL, List.filter_append, List.filter_cons, e, if_false]
      rw [filter_all (p := fun x => decide (x.1 < key)) (l := A) (fun x hx => by have := h1 x hx; simpa using this), filter_none (p := fun x => decide (key < x.1)) (l := A) (fun x hx => by have := h1 x hx; simp; omega),
        filter_none (p := fun x => decide (x.1 < key)) (l := r) (fun y hy => by have := hr.1 y hy; simp; omega), filter_all (p := fun x => decide (key < x.1)) (l := r) (fun y hy => by have := hr.1 y hy; simp; omega)]
      simp [show ¬ x.1 < key by omega, show key < x.1 by omega]

/-- The nodes from a key on, as the program goes over them. -/
def Avt.tell (key : Int) : Avt → List (Nat × Int × Hf)
  | .leaf => []
  | .node b l _ k v r => (if key < k then l.tell key else []) ++ (if key ≤ k then [(b, k, v)] else []) ++ r.tell key

theorem Avt.tell_len (key : Int) (t : Avt) : (t.tell key).length ≤ t.ord.length := by
  induction t with
  | leaf => simp [Avt.tell]
  | node b l h k v r ih1 ih2 =>
    simp only [Avt.tell, Avt.ord, List.length_append, List.length_cons]
    split <;> split <;> simp <;> omega

theorem Avt.tell_is (key : Int) : ∀ {t : Avt}, Rise t.ord → (t.tell key).map (fun x => x.2) = t.ord.filter (fun x => decide (key ≤ x.1))
  | .leaf, _ => rfl
  | .node b l h k v r, hs => by
    obtain ⟨r1, r2, h1, h2⟩ := rise_node hs
    simp only [Avt.tell, Avt.ord, List.map_append, List.filter_append, List.filter_cons, tell_is key r2]
    by_cases e : key < k
    · simp [e, show key ≤ k by omega, tell_is key r1]
    · by_cases e2 : key ≤ k
      · simp only [e, e2, if_false, if_true, List.map_nil, List.nil_append, List.map_cons, decide_true]
        rw [filter_none (l := l.ord) (fun x hx => by have := h1 x hx; simp; omega)]
        simp
      · simp only [e, e2, if_false, List.map_nil, List.nil_append, decide_false]
        rw [filter_none (l := l.ord) (fun x hx => by have := h1 x hx; simp; omega)]
        simp

end MV
end Go.Proofs.Ytmnglaeaicicnaa
