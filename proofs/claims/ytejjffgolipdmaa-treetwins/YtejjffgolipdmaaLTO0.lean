/- What TreeOrders wants of lists. -/
import Derived.Test.YtejjffgolipdmaaLTR
namespace Go.Proofs.Ytejjffgolipdmaa
open Go.RowKit

/-- A row of whole numbers, wherever it lies. -/
def IR (w : World) (v : Value) (l : List Int) : Prop :=
  ∃ q c, v = .slice q l.length c ∧ ∀ (j : Nat) (x : Int), l[j]? = some x → ∃ b o, q = some ⟨b, o, none⟩ ∧ w.cell? ⟨b, o + j, none⟩ = some (.int .i64 x)

theorem IR.keep {w w' : World} {v : Value} {l : List Int} (h : IR w v l) (hb : Below w.heap.size w w') : IR w' v l := by
  obtain ⟨q, c, rfl, h⟩ := h
  refine ⟨q, c, rfl, fun j x hj => ?_⟩
  obtain ⟨b, o, rfl, hc⟩ := h j x hj
  exact ⟨b, o, rfl, (hb.cell (World.block_lt_of_cell? w _ hc)).trans hc⟩

def ivs (l : List Int) : List Value := l.map (fun x => .int .i64 x)
theorem ivs_length (l : List Int) : (ivs l).length = l.length := by simp [ivs]
theorem ivs_get {l : List Int} {j : Nat} {x : Int} (h : l[j]? = some x) : (ivs l)[j]? = some (.int .i64 x) := by simp [ivs, h]
theorem ivs_one (l : List Int) : ∀ u ∈ ivs l, u.oneCell' = true := by intro u hu; obtain ⟨x, _, rfl⟩ := List.mem_map.1 hu; rfl
theorem ivs_append (a b : List Int) : ivs (a ++ b) = ivs a ++ ivs b := by simp [ivs]

theorem mem_ins {k v : Int} {l : List KV} {x : KV} : x ∈ insL k v l ↔ x = (k, v) ∨ (x ∈ l ∧ x.1 ≠ k) := by
  simp only [insL, List.mem_append, List.mem_cons, List.mem_filter, decide_eq_true_eq]
  constructor
  · rintro (⟨h, h2⟩ | h | ⟨h, h2⟩)
    · exact .inr ⟨h, by omega⟩
    · exact .inl h
    · exact .inr ⟨h, by omega⟩
  · rintro (h | ⟨h, h2⟩)
    · exact .inr (.inl h)
    · rcases Int.lt_or_gt_of_ne h2 with h3 | h3
      · exact .inl ⟨h, h3⟩
      · exact .inr (.inr ⟨h, h3⟩)

theorem rise_ext : ∀ {a b : List KV}, Rise a → Rise b → (∀ x, x ∈ a ↔ x ∈ b) → a = b
  | [], [], _, _, _ => rfl
  | [], y :: b, _, _, h => by have := (h y).2 (by simp); simp at this
  | x :: a, [], _, _, h => by have := (h x).1 (by simp); simp at this
  | x :: a, y :: b, ha, hb, h => by
    have ha' := List.pairwise_cons.1 ha
    have hb' := List.pairwise_cons.1 hb
    have hxy : x = y := by
      rcases List.mem_cons.1 ((h x).1 (by simp)) with e | e
      · exact e
      · rcases List.mem_cons.1 ((h y).2 (by simp)) with e' | e'
        · exact e'.symm
        · have h1 := hb'.1 x e; have h2 := ha'.1 y e'; omega
    subst hxy
    refine congrArg _ (rise_ext ha'.2 hb'.2 (fun z => ?_))
    constructor
    · intro hz
      rcases List.mem_cons.1 ((h z).1 (by simp [hz])) with e | e
      · subst e; have := ha'.1 z hz; omega
      · exact e
    · intro hz
      rcases List.mem_cons.1 ((h z).2 (by simp [hz])) with e | e
      · subst e; have := hb'.1 z hz; omega
      · exact e

/-- The keys of P, each with its half. -/
def Has (L : List KV) (P : Int → Prop) : Prop := ∀ x : KV, x ∈ L ↔ P x.1 ∧ x.2 = x.1.tdiv 2

theorem Has.ins {L : List KV} {P : Int → Prop} (h : Has L P) (k : Int) : Has (insL k (k.tdiv 2) L) (fun y => P y ∨ y = k) := by
  intro x
  rw [mem_ins, h x]
  constructor
  · rintro (rfl | ⟨⟨h1, h2⟩, _⟩)
    · exact ⟨.inr rfl, rfl⟩
    · exact ⟨.inl h1, h2⟩
  · rintro ⟨h1, h2⟩
    by_cases e : x.1 = k
    · left; obtain ⟨a, b⟩ := x; simp only at e h2; subst e; rw [h2]
    · rcases h1 with h1 | h1
      · exact .inr ⟨⟨h1, h2⟩, e⟩
      · exact absurd h1 e

theorem Has.same {a b : List KV} {P P' : Int → Prop} (ha : Has a P) (hb : Has b P') (ra : Rise a) (rb : Rise b) (h : ∀ y, P y ↔ P' y) : a = b :=
  rise_ext ra rb (fun x => by rw [ha x, hb x, h])

theorem Has.iff {L : List KV} {P P' : Int → Prop} (h : Has L P) (he : ∀ y, P y ↔ P' y) : Has L P' := fun x => by rw [h x, he]

/-- Some of the first i keys; some of the first i, from a place on. -/
def Fst (l : List Int) (i : Nat) (y : Int) : Prop := ∃ j, j < i ∧ l[j]? = some y
def Trn (l : List Int) (t i : Nat) (y : Int) : Prop := ∃ j, j < i ∧ l[(j + t) % l.length]? = some y

theorem Fst.succ {l : List Int} {i : Nat} {k : Int} (h : l[i]? = some k) (y : Int) : (Fst l i y ∨ y = k) ↔ Fst l (i + 1) y := by
  constructor
  · rintro (⟨j, h1, h2⟩ | rfl)
    · exact ⟨j, by omega, h2⟩
    · exact ⟨i, by omega, h⟩
  · rintro ⟨j, h1, h2⟩
    by_cases e : j = i
    · subst e; rw [h] at h2; exact .inr (by simpa using h2.symm)
    · exact .inl ⟨j, by omega, h2⟩

theorem Trn.succ {l : List Int} {t i : Nat} {k : Int} (h : l[(i + t) % l.length]? = some k) (y : Int) : (Trn l t i y ∨ y = k) ↔ Trn l t (i + 1) y := by
  constructor
  · rintro (⟨j, h1, h2⟩ | rfl)
    · exact ⟨j, by omega, h2⟩
    · exact ⟨i, by omega, h⟩
  · rintro ⟨j, h1, h2⟩
    by_cases e : j = i
    · subst e; rw [h] at h2; exact .inr (by simpa using h2.symm)
    · exact .inl ⟨j, by omega, h2⟩

theorem fst_trn {l : List Int} {t : Nat} (ht : t < l.length) (y : Int) : Fst l l.length y ↔ Trn l t l.length y := by
  constructor
  · rintro ⟨m, h1, h2⟩
    by_cases e : t ≤ m
    · exact ⟨m - t, by omega, by rw [show m - t + t = m by omega, Nat.mod_eq_of_lt h1]; exact h2⟩
    · exact ⟨m + l.length - t, by omega, by rw [show m + l.length - t + t = m + l.length by omega, Nat.add_mod_right, Nat.mod_eq_of_lt h1]; exact h2⟩
  · rintro ⟨j, _, h2⟩
    exact ⟨(j + t) % l.length, Nat.mod_lt _ (by omega), h2⟩

theorem tdiv_bd {x : Int} (h : -9223372036854775808 ≤ x ∧ x ≤ 9223372036854775807) : IntKind.i64.wrap (x.tdiv 2) = x.tdiv 2 := by
  have hb : -9223372036854775808 ≤ x.tdiv 2 ∧ x.tdiv 2 ≤ 9223372036854775807 := by
    rcases Int.le_total 0 x with hx | hx
    · rw [Int.tdiv_eq_ediv_of_nonneg hx]; omega
    · have e : x.tdiv 2 = -((-x) / 2) := by rw [← Int.tdiv_eq_ediv_of_nonneg (show 0 ≤ -x by omega), Int.neg_tdiv, Int.neg_neg]
      rw [e]; omega
  rw [IntKind.wrap_i64]; omega

theorem tmod_bd2 (n : Int) (m : Nat) (hm : 0 < m) : n.tmod m < m ∧ -(m : Int) < n.tmod m := by
  have h1 := Int.tmod_lt_of_pos n (show (0 : Int) < m by omega)
  have h2 := Int.lt_tmod_of_pos n (show (0 : Int) < m by omega)
  omega

end Go.Proofs.Ytejjffgolipdmaa
