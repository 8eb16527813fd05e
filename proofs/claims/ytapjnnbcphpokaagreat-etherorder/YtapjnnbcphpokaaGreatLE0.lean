/- Four rows of whole numbers, in an array: memory of EtherOrder. -/
import Derived.Test.YtapjnnbcphpokaaGreatEg5
namespace Go.Proofs.YtapjnnbcphpokaaGreat
open Go.RowKit Go.Lib Go.Maps

/-- Block ab is an array of four slices; each owns its row, all apart. -/
structure AR (w : World) (C ab : Nat) (vs : Nat → Value) (ls : Nat → List Int) : Prop where
  c : ∀ i, i < 4 → w.cell? ⟨ab, i, none⟩ = some (vs i)
  fr : ∀ i, i < 4 → w.frozen? ⟨ab, i, none⟩ = false
  own : ∀ i, i < 4 → w.ownsRow C IT 1 (vs i) (ls i).length (ivs (ls i))
  ge : C ≤ ab
  lt : ab < w.heap.size
  ne : ∀ i, i < 4 → (vs i).ownBlock ≠ some ab
  apart : ∀ i j, i < 4 → j < 4 → i ≠ j → ∀ k, (vs i).ownBlock = some k → (vs j).ownBlock ≠ some k

/-- The blocks that it lies in. -/
def AF (ab : Nat) (vs : Nat → Value) (q : Nat) : Prop := q = ab ∨ ∃ i, i < 4 ∧ (vs i).ownBlock = some q

theorem AR.foot_lt {w : World} {C ab : Nat} {vs : Nat → Value} {ls : Nat → List Int} (h : AR w C ab vs ls) {q : Nat} (hq : AF ab vs q) : q < w.heap.size ∧ C ≤ q := by
  rcases hq with rfl | ⟨i, hi, e⟩
  · exact ⟨h.lt, h.ge⟩
  · exact row_lt (h.own i hi) q e

theorem AR.but {S : Nat → Prop} {w w' : World} {C ab : Nat} {vs : Nat → Value} {ls : Nat → List Int} (h : AR w C ab vs ls) (hb : But S w w') (hS : ∀ q, AF ab vs q → ¬ S q) : AR w' C ab vs ls :=
  ⟨fun i hi => (hb.cell (p := ⟨ab, i, none⟩) h.lt (hS ab (.inl rfl))).trans (h.c i hi), fun i hi => (hb.frozen (p := ⟨ab, i, none⟩) h.lt (hS ab (.inl rfl))).trans (h.fr i hi), fun i hi => row_but (h.own i hi) hb (fun k hk => hS k (.inr ⟨i, hi, hk⟩)), h.ge, Nat.lt_of_lt_of_le h.lt hb.size, h.ne, h.apart⟩
theorem AR.keep {w w' : World} {C ab : Nat} {vs : Nat → Value} {ls : Nat → List Int} (h : AR w C ab vs ls) (hb : Below w.heap.size w w') : AR w' C ab vs ls := h.but (But.of_below (S := fun _ => False) hb) (fun _ _ h => h)

theorem AR.new (w : World) (C : Nat) (hC : C ≤ w.heap.size) (t : TypeId) : AR (w.alloc (.cells #[.slice none 0 0, .slice none 0 0, .slice none 0 0, .slice none 0 0] t)) C w.heap.size (fun _ => .slice none 0 0) (fun _ => []) := by
  refine ⟨fun i hi => ?_, fun i hi => ?_, fun i _ => World.ownsRow_nil _ _ _ _, hC, by simp, fun i _ e => by simp [Value.ownBlock] at e, fun i j _ _ _ k e => by simp [Value.ownBlock] at e⟩
  · match i, hi with
    | 0, _ => simp [go_sem]
    | 1, _ => simp [go_sem]
    | 2, _ => simp [go_sem]
    | 3, _ => simp [go_sem]
  · match i, hi with
    | 0, _ => simp [go_sem]
    | 1, _ => simp [go_sem]
    | 2, _ => simp [go_sem]
    | 3, _ => simp [go_sem]

def updV {α : Type} (vs : Nat → α) (n : Nat) (v : α) : Nat → α := fun i => if i = n then v else vs i
theorem updV_same {α : Type} (vs : Nat → α) (n : Nat) (v : α) : updV vs n v n = v := by simp [updV]
theorem updV_other {α : Type} (vs : Nat → α) (n i : Nat) (v : α) (h : i ≠ n) : updV vs n v i = vs i := by simp [updV, h]

/-- One more at the end of one row. -/
theorem AR.app {w X w2 : World} {C ab n : Nat} {vs : Nat → Value} {ls : Nat → List Int} {v' : Value} {x : Int} (h : AR w C ab vs ls) (hn : n < 4) (hX : Below w.heap.size w X) (hG : X.grownBy w2 (vs n).ownBlock) (hO : w2.ownsRow C IT 1 v' ((ls n).length + 1) (ivs (ls n) ++ [.int .i64 x])) (hat : v'.ownBlock = (vs n).ownBlock ∨ v'.ownBlock = some X.heap.size) :
    AR (w2.setCell ⟨ab, n, none⟩ v') C ab (updV vs n v') (updV ls n (ls n ++ [x])) ∧ But (AF ab vs) w (w2.setCell ⟨ab, n, none⟩ v') ∧ ∀ q, AF ab (updV vs n v') q → AF ab vs q ∨ w.heap.size ≤ q := by
  have hXs := hX.size
  have hb1 : But (fun k => (vs n).ownBlock = some k) w w2 := (But.of_below hX).trans (grown_but hG)
  have hb2 : But (fun k => k = ab) w2 (w2.setCell ⟨ab, n, none⟩ v') := (But.refl (fun k => k = ab) w2).setCell (p := ⟨ab, n, none⟩) (fun _ => rfl) v'
  have hl2 : ab < w2.heap.size := Nat.lt_of_lt_of_le h.lt hb1.size
  have hv : ∀ k, v'.ownBlock = some k → (vs n).ownBlock = some k ∨ X.heap.size = k := fun k hk => by
    rcases hat with e | e
    · exact .inl (e ▸ hk)
    · right; rw [e] at hk; simpa using hk
  have hvne : v'.ownBlock ≠ some ab := fun e => by
    rcases hv ab e with q | q
    · exact h.ne n hn q
    · have := h.lt; omega
  have hc2 : ∀ i, i < 4 → w2.cell? ⟨ab, i, none⟩ = some (vs i) := fun i hi => (hb1.cell (p := ⟨ab, i, none⟩) h.lt (h.ne n hn)).trans (h.c i hi)
  refine ⟨⟨fun i hi => ?_, fun i hi => ?_, fun i hi => ?_, h.ge, Nat.lt_of_lt_of_le hl2 hb2.size, fun i hi => ?_, fun i j hi hj hij k hk hk' => ?_⟩, ?_, fun q hq => ?_⟩
  · by_cases e : i = n
    · subst e; rw [updV_same]; exact World.cell?_setCell_same _ _ _ (hc2 i hi)
    · rw [updV_other _ _ _ _ e, World.cell?_setCell_other _ _ _ _ (fun q => e (by simpa using (congrArg Addr.off q).symm))]; exact hc2 i hi
  · rw [World.frozen?_setCell]; exact (hb1.frozen (p := ⟨ab, i, none⟩) h.lt (h.ne n hn)).trans (h.fr i hi)
  · by_cases e : i = n
    · subst e; rw [updV_same, updV_same, ivs_append, List.length_append]; exact row_but hO hb2 (fun k hk e => hvne (e ▸ hk))
    · rw [updV_other _ _ _ _ e, updV_other _ _ _ _ e]
      exact row_but (row_but (h.own i hi) hb1 (fun k hk e2 => h.apart i n hi hn e k hk e2)) hb2 (fun k hk e2 => h.ne i hi (e2 ▸ hk))
  · by_cases e : i = n
    · subst e; rw [updV_same]; exact hvne
    · rw [updV_other _ _ _ _ e]; exact h.ne i hi
  · by_cases e : i = n
    · subst e
      rw [updV_same] at hk
      rw [updV_other _ _ _ _ (fun e => hij e.symm)] at hk'
      rcases hv k hk with q | q
      · exact h.apart i j hi hj hij k q hk'
      · have := (row_lt (h.own j hj) k hk').1; omega
    · rw [updV_other _ _ _ _ e] at hk
      by_cases e2 : j = n
      · subst e2
        rw [updV_same] at hk'
        rcases hv k hk' with q | q
        · exact h.apart i j hi hj hij k hk q
        · have := (row_lt (h.own i hi) k hk).1; omega
      · rw [updV_other _ _ _ _ e2] at hk'
        exact h.apart i j hi hj hij k hk hk'
  · exact (hb1.mono (fun q _ e => .inr ⟨n, hn, e⟩)).trans (hb2.mono (fun q _ e => .inl e))
  · rcases hq with e | ⟨i, hi, e⟩
    · exact .inl (.inl e)
    · by_cases e2 : i = n
      · subst e2
        rw [updV_same] at e
        rcases hv q e with q1 | q1
        · exact .inl (.inr ⟨i, hi, q1⟩)
        · exact .inr (by omega)
      · rw [updV_other _ _ _ _ e2] at e
        exact .inl (.inr ⟨i, hi, e⟩)

/-- The blocks that an ether lies in. -/
def EF (mv : Value) (f : Int → Int → Option Lane) (eb q : Nat) : Prop := q = eb ∨ mv = .map (some q) ∨ ∃ a b l, f a b = some l ∧ foot l q
theorem EF.of_put {mv : Value} {f : Int → Int → Option Lane} {eb q : Nat} {i j : Int} (h : putS mv f eb i j q) : EF mv f eb q := by
  rcases h with h | h | ⟨l, hl, h⟩
  · exact .inl h
  · exact .inr (.inl h)
  · exact .inr (.inr ⟨i, j, l, hl, h⟩)
theorem EO.foot {w0 w : World} {eb all N : Nat} {mv : Value} {f : Int → Int → Option Lane} (h : EO w0 w eb mv f all N) {q : Nat} (hq : EF mv f eb q) : q < w.heap.size ∧ w0.heap.size ≤ q := by
  rcases hq with rfl | e | ⟨a, b, l, hl, hq⟩
  · exact ⟨h.duo.lt, h.ge⟩
  · rcases h.map with ⟨e2, _⟩ | ⟨mb, n, e2, he, _, hm, _⟩
    · rw [e2] at e; cases e
    · rw [e2] at e; obtain rfl : mb = q := by simpa using e
      exact ⟨he.lt, hm⟩
  · exact h.foot_lt hl hq
end Go.Proofs.YtapjnnbcphpokaaGreat
