/- EtherOrder: what is still in the lanes. -/
import Derived.Test.YtapjnnbcphpokaaGreatLE0
namespace Go.Proofs.YtapjnnbcphpokaaGreat
open Go.RowKit Go.Lib Go.Maps

def toN (n : Nat) : Int := 1 + (n : Int) % 2
def sg (n : Nat) (id : Int) : Int × Int × Int × Int := ((n : Int), toN n, 3, id)
def rsg (rem : Nat → List Int) (n : Nat) : List (Int × Int × Int × Int) := (rem n).map (sg n)

/-- Lane (n, 1 + n % 2) stands just where something is still to come, and has it. -/
structure LI (f : Int → Int → Option Lane) (rem : Nat → List Int) : Prop where
  no : ∀ n, n < 4 → rem n = [] → f n (toN n) = none
  yes : ∀ n, n < 4 → rem n ≠ [] → ∃ l, f n (toN n) = some l ∧ l.xs = sgls (rsg rem n) ∧ l.k = (rem n).length
  only : ∀ a b l, f a b = some l → ∃ n : Nat, n < 4 ∧ a = n ∧ b = toN n

theorem LI.start : LI (fun _ _ => none) (fun _ => []) := ⟨fun _ _ _ => rfl, fun _ _ h => absurd rfl h, fun _ _ _ h => by cases h⟩
theorem sgls_snoc (ss : List (Int × Int × Int × Int)) (s : Int × Int × Int × Int) : sgls (ss ++ [s]) = sgls ss ++ sgl s.1 s.2.1 s.2.2.1 s.2.2.2 := by simp [sgls]
theorem sgls_cons (ss : List (Int × Int × Int × Int)) (s : Int × Int × Int × Int) : sgls (s :: ss) = sgl s.1 s.2.1 s.2.2.1 s.2.2.2 ++ sgls ss := by simp [sgls]
theorem LI.old {f : Int → Int → Option Lane} {rem : Nat → List Int} (h : LI f rem) {n : Nat} (hn : n < 4) : oldx f n (toN n) = sgls (rsg rem n) ∧ oldk f n (toN n) = (rem n).length := by
  unfold oldx oldk
  by_cases e : rem n = []
  · rw [h.no n hn e]; simp [rsg, e, sgls]
  · obtain ⟨l, hl, hx, hk⟩ := h.yes n hn e
    rw [hl]; exact ⟨hx, hk⟩
theorem LI.set {f : Int → Int → Option Lane} {rem : Nat → List Int} (h : LI f rem) {n : Nat} (hn : n < 4) {x : Option Lane} {r : List Int} (h1 : r = [] → x = none) (h2 : r ≠ [] → ∃ l, x = some l ∧ l.xs = sgls (r.map (sg n)) ∧ l.k = r.length) : LI (updL f n (toN n) x) (updV rem n r) := by
  have far : ∀ m : Nat, m ≠ n → ¬ ((m : Int) = n ∧ toN m = toN n) := fun m e q => e (by have := q.1; omega)
  refine ⟨fun m hm e => ?_, fun m hm e => ?_, fun a b l hl => ?_⟩
  · by_cases em : m = n
    · subst em; rw [updL_same]; rw [updV_same] at e; exact h1 e
    · rw [updV_other _ _ _ _ em] at e
      rw [updL_other _ _ _ _ _ _ (far m em)]; exact h.no m hm e
  · by_cases em : m = n
    · subst em; rw [updV_same] at e
      obtain ⟨l, hl, hx, hk⟩ := h2 e
      exact ⟨l, by rw [updL_same]; exact hl, by rw [hx]; unfold rsg; rw [updV_same], by rw [hk, updV_same]⟩
    · rw [updV_other _ _ _ _ em] at e
      obtain ⟨l, hl, hx, hk⟩ := h.yes m hm e
      exact ⟨l, by rw [updL_other _ _ _ _ _ _ (far m em)]; exact hl, by rw [hx]; unfold rsg; rw [updV_other _ _ _ _ em], by rw [hk, updV_other _ _ _ _ em]⟩
  · by_cases em : a = (n : Int) ∧ b = toN n
    · exact ⟨n, hn, em.1, em.2⟩
    · rw [updL_other _ _ _ _ _ _ em] at hl
      exact h.only a b l hl

theorem LI.put {f : Int → Int → Option Lane} {rem : Nat → List Int} (h : LI f rem) {n : Nat} (hn : n < 4) {l : Lane} {id : Int} (hx : l.xs = oldx f n (toN n) ++ sgl n (toN n) 3 id) (hk : l.k = oldk f n (toN n) + 1) : LI (updL f n (toN n) (some l)) (updV rem n (rem n ++ [id])) := by
  obtain ⟨e1, e2⟩ := h.old hn
  refine h.set hn (fun e => by simp at e) (fun _ => ⟨l, rfl, ?_, by rw [hk, e2]; simp⟩)
  rw [hx, e1, List.map_append]
  exact (sgls_snoc _ (sg n id)).symm
/-- What Take meets. -/
theorem LI.head {f : Int → Int → Option Lane} {rem : Nat → List Int} (h : LI f rem) {n : Nat} (hn : n < 4) {id : Int} {r : List Int} (e : rem n = id :: r) : ∃ l, f n (toN n) = some l ∧ l.xs = sgl n (toN n) 3 id ++ sgls (r.map (sg n)) ∧ l.k = r.length + 1 := by
  obtain ⟨l, hl, hx, hk⟩ := h.yes n hn (by simp [e])
  refine ⟨l, hl, ?_, by rw [hk, e]; simp⟩
  rw [hx]
  unfold rsg
  rw [e]
  exact sgls_cons _ (sg n id)
theorem LI.took {f : Int → Int → Option Lane} {rem : Nat → List Int} (h : LI f rem) {n : Nat} (hn : n < 4) {r : List Int} (hr : r ≠ []) (rb : Nat) (V : Value) : LI (updL f n (toN n) (some ⟨rb, V, sgls (r.map (sg n)), r.length⟩)) (updV rem n r) :=
  h.set hn (fun e => absurd e hr) (fun _ => ⟨_, rfl, rfl, rfl⟩)
theorem LI.last {f : Int → Int → Option Lane} {rem : Nat → List Int} (h : LI f rem) {n : Nat} (hn : n < 4) : LI (updL f n (toN n) none) (updV rem n []) :=
  h.set hn (fun _ => rfl) (fun e => absurd rfl e)

/-- How many are still to come. -/
def tot (rem : Nat → List Int) : Nat := (rem 0).length + (rem 1).length + (rem 2).length + (rem 3).length
theorem tot_upd (rem : Nat → List Int) (n : Nat) (hn : n < 4) (r : List Int) : tot (updV rem n r) + (rem n).length = tot rem + r.length := by
  obtain rfl | rfl | rfl | rfl : n = 0 ∨ n = 1 ∨ n = 2 ∨ n = 3 := by omega
  all_goals (simp [tot, updV]; omega)

theorem nodup_len {α : Type} [DecidableEq α] : ∀ (ks L : List α), ks.Nodup → (∀ x, x ∈ ks → x ∈ L) → ks.length ≤ L.length
  | [], _, _, _ => Nat.zero_le _
  | x :: ks, L, hn, hs => by
    have hx := hs x (by simp)
    obtain ⟨h1, h2⟩ := List.nodup_cons.1 hn
    have := nodup_len ks (L.erase x) h2 (fun y hy => (List.mem_erase_of_ne (fun e : y = x => h1 (e ▸ hy))).2 (hs y (by simp [hy])))
    rw [List.length_erase_of_mem hx] at this
    have := List.length_pos_of_mem hx
    simp
    omega
theorem LI.few {f : Int → Int → Option Lane} {rem : Nat → List Int} (h : LI f rem) (ks : List (Int × Int)) (hk : LKeys f ks) : ks.length ≤ 12 := by
  have := nodup_len ks [((0 : Nat) , toN 0), ((1 : Nat), toN 1), ((2 : Nat), toN 2), ((3 : Nat), toN 3)] hk.1 (fun x hx => by
    obtain ⟨a, b⟩ := x
    obtain ⟨h1, h2⟩ := hk.2.2 _ hx
    obtain ⟨l, hl⟩ := Option.isSome_iff_exists.1 ((hk.2.1 a b h1 h2).1 hx)
    obtain ⟨n, hn, rfl, rfl⟩ := h.only a b l hl
    obtain rfl | rfl | rfl | rfl : n = 0 ∨ n = 1 ∨ n = 2 ∨ n = 3 := by omega
    all_goals simp)
  simp at this
  omega
theorem LI.sig {f : Int → Int → Option Lane} {rem : Nat → List Int} (h : LI f rem) : Sig f (fun a _ => rsg rem a.toNat) := by
  intro a b l hl
  obtain ⟨n, hn, rfl, rfl⟩ := h.only a b l hl
  by_cases e : rem n = []
  · rw [h.no n hn e] at hl; cases hl
  · obtain ⟨l', hl', hx, hk⟩ := h.yes n hn e
    rw [hl] at hl'
    cases hl'
    exact ⟨hx, by rw [hk]; simp [rsg]⟩
end Go.Proofs.YtapjnnbcphpokaaGreat
