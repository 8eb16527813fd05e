/- Rows of whole numbers that are a call's own. -/
import Derived.Test.YtejjffgolipdmaaLTO0
import Derived.Maps.AppendAt
import Derived.Laws.OwnMore
import Derived.WalkSmall
namespace Go.Proofs.Ytejjffgolipdmaa
open Go.RowKit Go.Shelf

abbrev IT : Nat := 3

theorem own_sl {w : World} {C e size n : Nat} {v : Value} {xs : List Value} (h : w.ownsRow C e size v n xs) : ∃ a c, v = .slice a n c := by
  rcases h.2 with ⟨rfl, rfl⟩ | ⟨g, cap, cur, rfl, _⟩
  · exact ⟨_, _, rfl⟩
  · exact ⟨_, _, rfl⟩

theorem But.of_grown {S : Nat → Prop} {w w' : World} {row : Option Nat} (h : w.grownBy w' row) (hs : ∀ g, row = some g → S g) : But S w w' :=
  ⟨h.os, h.tape, h.output, h.size, fun k hk hn => h.block k hk (fun e => hn (hs k e.symm))⟩

theorem But.then {S S' : Nat → Prop} {a b c : World} (h : But S a b) (k : But S' b c) (hs : ∀ i, i < a.heap.size → S' i → S i) : But S a c :=
  ⟨k.os.trans h.os, k.tape.trans h.tape, k.output.trans h.output, Nat.le_trans h.size k.size, fun i hi hn => (k.block i (Nat.lt_of_lt_of_le hi h.size) (fun h' => hn (hs i hi h'))).trans (h.block i hi hn)⟩

theorem row_but {S : Nat → Prop} {w w' : World} {C e size n : Nat} {v : Value} {xs : List Value} (h : w.ownsRow C e size v n xs) (hb : But S w w') (hs : ∀ g, v.ownBlock = some g → ¬ S g) : w'.ownsRow C e size v n xs := by
  refine ⟨h.1, ?_⟩
  rcases h.2 with hn | ⟨g, cap, cur, rfl, hc, hg, r⟩
  · exact .inl hn
  · exact .inr ⟨g, cap, cur, rfl, hc, (hb.block g (Array.getElem?_eq_some_iff.1 hg).1 (hs g rfl)).trans hg, r⟩

theorem row_lift {w : World} {B B' e size n : Nat} {V : Value} {xs : List Value} (h : w.ownsRow B' e size V n xs) (hB : ∀ g, V.ownBlock = some g → B ≤ g) : w.ownsRow B e size V n xs := by
  refine ⟨h.1, ?_⟩
  rcases h.2 with h0 | ⟨g, cap, cur, rfl, _, r⟩
  · exact .inl h0
  · exact .inr ⟨g, cap, cur, rfl, hB g rfl, r⟩

theorem OwnFrom.row {β : Type} {B C e size : Nat} (n : β → Nat) (v : β → Value) (f : β → List Value) : OwnFrom B (fun s W => W.ownsRow C e size (v s) (n s) (f s)) := by
  intro s A X row hs hg hr
  refine hs.kept hg ?_
  rcases hs.2 with ⟨hv, _⟩ | ⟨g, cap, cur, hv, _, hgg, _⟩
  · left; rw [hv]; rfl
  · right
    intro e
    rw [hv] at e
    obtain ⟨_, o, ho, hc⟩ := hr g (by rw [← e]; rfl)
    rw [hgg] at ho; cases ho; cases hc

theorem IR.of_own {w : World} {B n : Nat} {v : Value} {l : List Int} (h : w.ownsRow B IT 1 v n (ivs l)) : IR w v l := by
  have hl : n = l.length := by have := h.1; rw [ivs_length] at this; omega
  subst hl
  rcases h.2 with ⟨rfl, h0⟩ | ⟨g, cap, cur, rfl, _⟩
  · refine ⟨none, 0, by rw [h0], fun j x hj => ?_⟩
    rw [List.length_eq_zero_iff.1 h0] at hj
    simp at hj
  · refine ⟨_, _, rfl, fun j x hj => ⟨g, 0, rfl, ?_⟩⟩
    have := h.cellAt j (by have := (List.getElem?_eq_some_iff.1 hj).1; omega)
    rw [Nat.zero_add, this]
    exact ivs_get hj

theorem infoI : ∃ i0, Try.prog.info? IT = some i0 ∧ i0.zero = some (.int .i64 0) ∧ i0.size = 1 ∧ i0.bytes = 8 := info_parts (show (Try.prog.info? IT).map (fun i => (i.zero, i.size, i.bytes)) = some (some (.int .i64 0), 1, 8) by kernel_rfl)

theorem prefix_one {pre l : List KV} {y : KV} (h : pre <+: l) (hy : l[pre.length]? = some y) (x : KV) : (pre ++ [x] <+: l) ↔ x = y := by
  obtain ⟨r, rfl⟩ := h
  rw [List.prefix_append_right_inj]
  simp only [List.getElem?_append_right (Nat.le_refl _), Nat.sub_self] at hy
  cases r with
  | nil => simp at hy
  | cons z r =>
    simp at hy; subst hy
    simp

/-- Keys and values one behind the other. -/
def flat : List KV → List Int
  | [] => []
  | x :: r => x.1 :: x.2 :: flat r
theorem flat_length (l : List KV) : (flat l).length = 2 * l.length := by
  induction l with
  | nil => rfl
  | cons x r ih => simp only [flat, List.length_cons, ih]; omega
theorem flat_append (a b : List KV) : flat (a ++ b) = flat a ++ flat b := by
  induction a with
  | nil => rfl
  | cons x r ih => simp [flat, ih]
theorem flat_get : ∀ {l : List KV} {j : Nat} {x : KV}, l[j]? = some x → (flat l)[2 * j]? = some x.1 ∧ (flat l)[2 * j + 1]? = some x.2
  | [], _, _, h => by simp at h
  | y :: r, 0, x, h => by simp at h; subst h; simp [flat]
  | y :: r, j + 1, x, h => by
    have := flat_get (l := r) (j := j) (x := x) (by simpa using h)
    simp only [flat]
    rw [show 2 * (j + 1) = 2 * j + 1 + 1 by omega, show 2 * j + 1 + 1 + 1 = (2 * j + 1) + 1 + 1 by omega]
    simpa using this

end Go.Proofs.Ytejjffgolipdmaa
