import Derived.Test.YtpcpdehnppfbfaaGreatG14
import Derived.Below
import Derived.Laws.World
import Derived.Test.YtpcpdehnppfbfaaGreatRows
import Derived.WalkKit
import Derived.WalkSpells
import Derived.WalkLawsBesides
import Derived.Lib.QuietBelow
/- Terms that are trees: measured as the program does, and as the document says: the same. -/
namespace Go.Proofs.YtpcpdehnppfbfaaGreat
open Go.Deep Go.RowKit

theorem Tr.ind {Q : Tr → Prop} (h : ∀ k n f s a c kids, (∀ t, t ∈ kids → Q t) → Q (.mk k n f s a c kids)) : ∀ t, Q t
  | .mk k n f s a c kids => h k n f s a c kids (fun t _ => Tr.ind h t)

/-- The words of a term itself. -/
def own (k : Int) (len : Nat) : Int :=
  if k = 1 ∨ k = 3 ∨ k = 6 then 0 else if k = 2 ∨ k = 4 then 2 else if k = 8 then 2 * len else if k = 5 then 2 + len else 1 + len

theorem own_nonneg (k : Int) (len : Nat) : 0 ≤ own k len := by
  unfold own; repeat' split
  all_goals omega

abbrev St := Int × Int × Bool

mutual
/-- The program's walk over a term: words so far, depth so far, whether something is wrong. -/
def over (good : Tr → Bool) : Tr → Int → St → Bool × St
  | .mk k n f s a c kids, d, st =>
    if st.1 + own k kids.length > 65536 ∨ max st.2.1 d > 200 then (false, (st.1 + own k kids.length, max st.2.1 d, st.2.2))
    else overAll good kids (d + 1) (st.1 + own k kids.length, max st.2.1 d, st.2.2 || !good (.mk k n f s a c kids))
def overAll (good : Tr → Bool) : List Tr → Int → St → Bool × St
  | [], _, st => (true, st)
  | t :: r, d, st => if (over good t d st).1 then overAll good r d (over good t d st).2 else (false, (over good t d st).2)
end

mutual
/-- The document's measure: the words, or -1. -/
def meas : Tr → Int → Int → Int
  | .mk k _ _ _ _ _ kids, depth, most => if depth < 1 ∨ own k kids.length > most then -1 else measAll kids (depth - 1) most (own k kids.length)
def measAll : List Tr → Int → Int → Int → Int
  | [], _, _, n => n
  | t :: r, depth, most, n => if meas t depth (most - n) < 0 then -1 else measAll r depth most (n + meas t depth (most - n))
end

mutual
/-- The document's depth. -/
def deep : Tr → Int
  | .mk _ _ _ _ _ _ kids => deepAll kids 0 + 1
def deepAll : List Tr → Int → Int
  | [], m => m
  | t :: r, m => deepAll r (if m < deep t then deep t else m)
end

mutual
def allT (good : Tr → Bool) : Tr → Bool
  | .mk k n f s a c kids => good (.mk k n f s a c kids) && allAll good kids
def allAll (good : Tr → Bool) : List Tr → Bool
  | [] => true
  | t :: r => allT good t && allAll good r
end

theorem deepAll_max (kids : List Tr) : ∀ m, m ≤ deepAll kids m ∧ ∀ m', m' ≤ m → deepAll kids m = max m (deepAll kids m') := by
  induction kids with
  | nil => intro m; simp only [deepAll]; exact ⟨Int.le_refl _, fun m' h => by omega⟩
  | cons t r ih =>
    intro m
    simp only [deepAll]
    have g := ih (if m < deep t then deep t else m)
    refine ⟨?_, fun m' hm' => ?_⟩
    · have g1 := g.1
      refine Int.le_trans ?_ g1
      split <;> omega
    · have g' := (ih (if m' < deep t then deep t else m')).1
      by_cases h1 : m < deep t
      · have h2 : m' < deep t := by omega
        simp only [h1, h2, if_true] at g g' ⊢
        omega
      · simp only [h1, if_false] at g ⊢
        have := g.2 (if m' < deep t then deep t else m') (by split <;> omega)
        rw [this]

theorem deepAll_nonneg (kids : List Tr) : 0 ≤ deepAll kids 0 := (deepAll_max kids 0).1

theorem deep_pos (t : Tr) : 1 ≤ deep t := by
  cases t with | mk k n f s a c kids => simp only [deep]; have := deepAll_nonneg kids; omega

/-- What the walk and the measure say of one term. -/
def Agree (good : Tr → Bool) (t : Tr) : Prop :=
  ∀ (d W D : Int) (bad : Bool), 1 ≤ d → D ≤ 200 → d - 1 ≤ D → W ≤ 65536 →
    (meas t (201 - d) (65536 - W) < 0 ∧ (over good t d (W, D, bad)).1 = false) ∨
    (0 ≤ meas t (201 - d) (65536 - W) ∧ W + meas t (201 - d) (65536 - W) ≤ 65536 ∧ d - 1 + deep t ≤ 200 ∧
      over good t d (W, D, bad) = (true, (W + meas t (201 - d) (65536 - W), max D (d - 1 + deep t), bad || !allT good t)))

theorem agree_all (good : Tr → Bool) (kids : List Tr) (hk : ∀ t, t ∈ kids → Agree good t) : ∀ (d W D most n : Int) (bad : Bool), 1 ≤ d → D ≤ 200 → d - 1 ≤ D → W ≤ 65536 → 0 ≤ n → most - n = 65536 - W →
    (measAll kids (201 - d) most n < 0 ∧ (overAll good kids d (W, D, bad)).1 = false) ∨
    (0 ≤ measAll kids (201 - d) most n ∧ W + (measAll kids (201 - d) most n - n) ≤ 65536 ∧ d - 1 + deepAll kids 0 ≤ 200 ∧
      overAll good kids d (W, D, bad) = (true, (W + (measAll kids (201 - d) most n - n), max D (d - 1 + deepAll kids 0), bad || !allAll good kids))) := by
  induction kids with
  | nil =>
    intro d W D most n bad h1 h2 h3 h4 h5 h6
    right
    simp only [measAll, overAll, deepAll, allAll]
    refine ⟨h5, by omega, by omega, ?_⟩
    have e1 : W + (n - n) = W := by omega
    have e2 : max D (d - 1 + 0) = D := by omega
    rw [e1, e2]; simp
  | cons t r ih =>
    intro d W D most n bad h1 h2 h3 h4 h5 h6
    simp only [measAll, overAll, deepAll, allAll]
    rw [h6]
    rcases hk t (List.mem_cons_self ..) d W D bad h1 h2 h3 h4 with ⟨g1, g2⟩ | ⟨g1, g2, g3, g4⟩
    · left
      rw [if_pos g1]
      simp [g2]
    · rw [if_neg (by omega), g4]
      have ht := deep_pos t
      have hmax : max D (d - 1 + deep t) ≤ 200 := by omega
      have hlow : d - 1 ≤ max D (d - 1 + deep t) := by omega
      rcases ih (fun u hu => hk u (List.mem_cons_of_mem _ hu)) d (W + meas t (201 - d) (65536 - W)) (max D (d - 1 + deep t)) most (n + meas t (201 - d) (65536 - W)) (bad || !allT good t) h1 hmax hlow g2 (by omega) (by omega) with ⟨q1, q2⟩ | ⟨q1, q2, q3, q4⟩
      · left
        exact ⟨q1, by simpa using q2⟩
      · right
        have h0 : (if (0 : Int) < deep t then deep t else 0) = deep t := if_pos (by omega)
        have hd := (deepAll_max r (deep t)).2 0 (by omega)
        have h7 := deepAll_nonneg r
        rw [h0, hd]
        refine ⟨q1, by omega, by omega, ?_⟩
        simp only [if_true]
        rw [q4]
        have e1 : W + meas t (201 - d) (65536 - W) + (measAll r (201 - d) most (n + meas t (201 - d) (65536 - W)) - (n + meas t (201 - d) (65536 - W))) = W + (measAll r (201 - d) most (n + meas t (201 - d) (65536 - W)) - n) := by omega
        have e2 : max (max D (d - 1 + deep t)) (d - 1 + deepAll r 0) = max D (d - 1 + max (deep t) (deepAll r 0)) := by omega
        rw [e1, e2]
        cases bad <;> cases allT good t <;> cases allAll good r <;> rfl

theorem agree (good : Tr → Bool) : ∀ t, Agree good t := by
  refine Tr.ind fun k n f s a c kids hk => ?_
  intro d W D bad h1 h2 h3 h4
  simp only [meas, over, deep, allT]
  have ho := own_nonneg k kids.length
  by_cases h : 201 - d < 1 ∨ own k kids.length > 65536 - W
  · left
    rw [if_pos h, if_pos (by omega)]
    exact ⟨by omega, rfl⟩
  · rw [if_neg h, if_neg (by omega)]
    have e : 201 - d - 1 = 201 - (d + 1) := by omega
    rw [e]
    have hm : max D d ≤ 200 := by omega
    have h7 := deepAll_nonneg kids
    rcases agree_all good kids hk (d + 1) (W + own k kids.length) (max D d) (65536 - W) (own k kids.length) (bad || !good (.mk k n f s a c kids)) (by omega) hm (by omega) (by omega) ho (by omega) with ⟨q1, q2⟩ | ⟨q1, q2, q3, q4⟩
    · exact Or.inl ⟨q1, q2⟩
    · right
      refine ⟨q1, by omega, by omega, ?_⟩
      rw [q4]
      have e1 : W + own k kids.length + (measAll kids (201 - (d + 1)) (65536 - W) (own k kids.length) - own k kids.length) = W + measAll kids (201 - (d + 1)) (65536 - W) (own k kids.length) := by omega
      have e2 : max (max D d) (d + 1 - 1 + deepAll kids 0) = max D (d - 1 + (deepAll kids 0 + 1)) := by omega
      rw [e1, e2]
      cases bad <;> cases good (.mk k n f s a c kids) <;> cases allAll good kids <;> rfl

/-- From the start: depth 1, no words. -/
theorem agree_start (good : Tr → Bool) (t : Tr) :
    (meas t 200 65536 < 0 ∧ (over good t 1 (0, 0, false)).1 = false) ∨
    (0 ≤ meas t 200 65536 ∧ meas t 200 65536 ≤ 65536 ∧ deep t ≤ 200 ∧ over good t 1 (0, 0, false) = (true, (meas t 200 65536, deep t, !allT good t))) := by
  have ht := deep_pos t
  rcases agree good t 1 0 0 false (by omega) (by omega) (by omega) (by omega) with ⟨g1, g2⟩ | ⟨g1, g2, g3, g4⟩
  · exact Or.inl ⟨g1, g2⟩
  · right
    have e1 : (0 : Int) + meas t (201 - 1) (65536 - 0) = meas t 200 65536 := by simp
    have e2 : max (0 : Int) (1 - 1 + deep t) = deep t := by omega
    rw [e1] at g2
    rw [e1, e2] at g4
    exact ⟨g1, g2, by omega, by simpa using g4⟩

/-- An element of what lies there. -/
theorem inAll_get {w : World} {base : Nat} {kids : List Tr} : ∀ {a : Addr}, Tr.InAll w base a kids → ∀ (j : Nat) (t : Tr), kids[j]? = some t → (∀ i, i < 5 → w.cell? (a.add (j * 5 + i)) = t.cells[i]?) ∧ t.In w base := by
  induction kids with
  | nil => intro a _ j t h; simp at h
  | cons u r ih =>
    intro a h j t hj
    unfold Tr.InAll at h
    cases j with
    | zero =>
      obtain rfl : u = t := by simpa using hj
      exact ⟨fun i hi => by simpa using h.1 i hi, h.2.1⟩
    | succ j =>
      have g := ih h.2.2 j t (by simpa using hj)
      refine ⟨fun i hi => ?_, g.2⟩
      rw [← g.1 i hi, add_add]
      congr 2
      omega

/-- What lies in a world lies in any that holds the same cells. -/
theorem in_keeps {w w' : World} {base : Nat} (hw : ∀ p v, w.cell? p = some v → w'.cell? p = some v) : ∀ t : Tr, t.In w base → t.In w' base := by
  refine Tr.ind fun k n f s a c kids hk h => ?_
  unfold Tr.In at h ⊢
  refine ⟨h.1, fun ad had => ⟨(h.2 ad had).1, inAll_of fun j t hj => ?_⟩⟩
  have g := inAll_get (h.2 ad had).2 j t hj
  refine ⟨fun i hi => ?_, hk t (List.mem_of_getElem? hj) g.2⟩
  rw [add_add]
  have e := g.1 i hi
  have hl : i < t.cells.length := by cases t; simpa [Tr.cells] using hi
  rw [List.getElem?_eq_getElem hl] at e ⊢
  exact hw _ _ e

theorem in_below {w w' : World} {base : Nat} (h : Below w.heap.size w w') {t : Tr} (ht : t.In w base) : t.In w' base :=
  in_keeps (fun p v hv => by rw [h.cell (World.block_lt_of_cell? w p hv)]; exact hv) t ht
end Go.Proofs.YtpcpdehnppfbfaaGreat


/- How many parts a term has, told by the statements' own count. -/
namespace Go.Proofs.YtpcpdehnppfbfaaGreat
open Go.RowKit Go.Deep

mutual
def fewT : Tr → Int → Int → Int
  | .mk _ _ _ _ _ _ kids, left, deep => if left < 0 ∨ deep < 0 then -1 else fewAll kids (left - 1) (deep - 1)
def fewAll : List Tr → Int → Int → Int
  | [], left, _ => left
  | t :: r, left, deep => if left < 0 then left else fewAll r (fewT t left deep) deep
end

def Tr.val (t : Tr) : Value := .agg t.cells.toArray

def termType : TermType Tryz.prog 28 where
  f0 := _
  f1 := _
  f2 := _
  f3 := _
  f4 := _
  under := Tryz.underlying28
  size := by kernel_rfl
  o0 := rfl
  o1 := rfl
  o2 := rfl
  o3 := rfl
  o4 := rfl
  c0 := by kernel_rfl
  c1 := by kernel_rfl
  c2 := by kernel_rfl
  c3 := by kernel_rfl
  c4 := by kernel_rfl
  u0 := Tryz.underlying3
  u1 := Tryz.underlying2
  u2 := Tryz.underlying25
  u3 := Tryz.underlying9
  u4 := Tryz.underlying26

theorem fewT_le : ∀ t left deep, -1 ≤ left → -1 ≤ fewT t left deep ∧ (fewT t left deep ≤ left) := by
  refine Tr.ind fun k n f s a c kids hk => ?_
  have hall : ∀ left deep, -1 ≤ left → -1 ≤ fewAll kids left deep ∧ fewAll kids left deep ≤ left := by
    induction kids with
    | nil => intro left deep h; simp only [fewAll]; omega
    | cons t r ih =>
      intro left deep h
      simp only [fewAll]
      split
      · omega
      · have g := hk t (List.mem_cons_self ..) left deep h
        have q := ih (fun u hu => hk u (List.mem_cons_of_mem _ hu)) (fewT t left deep) deep g.1
        omega
  intro left deep h
  simp only [fewT]
  split
  · omega
  · have := hall (left - 1) (deep - 1) (by omega)
    omega
end Go.Proofs.YtpcpdehnppfbfaaGreat


