/- EtherOrder: what its first loop keeps, step by step. -/
import Derived.Test.YtapjnnbcphpokaaGreatLE1
import Derived.Test.YtapjnnbcphpokaaGreatKn11
namespace Go.Proofs.YtapjnnbcphpokaaGreat
open Go.RowKit Go.Lib Go.Maps

/-- An ether, and two arrays of rows, all apart. -/
structure OI (w0 w : World) (eb pb gb : Nat) (mv : Value) (f : Int → Int → Option Lane) (N : Nat) (pv gv : Nat → Value) (put got rem : Nat → List Int) : Prop where
  e : EO w0 w eb mv f (tot rem) N
  p : AR w w0.heap.size pb pv put
  g : AR w w0.heap.size gb gv got
  pg : ∀ q, AF pb pv q → ¬ AF gb gv q
  pe : ∀ q, AF pb pv q → ¬ EF mv f eb q
  ge : ∀ q, AF gb gv q → ¬ EF mv f eb q
  li : LI f rem

variable {w0 w w' : World} {eb pb gb N : Nat} {mv mv' : Value} {f : Int → Int → Option Lane} {pv gv : Nat → Value} {put got rem : Nat → List Int}

theorem OI.keep (h : OI w0 w eb pb gb mv f N pv gv put got rem) (hb : Below w.heap.size w w') : OI w0 w' eb pb gb mv f N pv gv put got rem :=
  ⟨h.e.keep hb, h.p.keep hb, h.g.keep hb, h.pg, h.pe, h.ge, h.li⟩

theorem EF.upd {eb q : Nat} {i j : Int} {x : Option Lane} {b : Nat} (hm : ∀ k, mv' = .map (some k) → mv = .map (some k) ∨ b ≤ k) (hx : ∀ l q, x = some l → foot l q → (∃ l0, f i j = some l0 ∧ foot l0 q) ∨ b ≤ q) (h : EF mv' (updL f i j x) eb q) : EF mv f eb q ∨ b ≤ q := by
  rcases h with h | h | ⟨a, c, l, hl, h⟩
  · exact .inl (.inl h)
  · exact (hm q h).imp (fun e => .inr (.inl e)) id
  · by_cases e : a = i ∧ c = j
    · obtain ⟨rfl, rfl⟩ := e
      rw [updL_same] at hl
      exact (hx l q hl h).imp (fun ⟨l0, e1, e2⟩ => .inr (.inr ⟨a, c, l0, e1, e2⟩)) id
    · rw [updL_other _ _ _ _ _ _ e] at hl
      exact .inl (.inr (.inr ⟨a, c, l, hl, h⟩))

/-- The ether alone has turned. -/
theorem OI.turn (h : OI w0 w eb pb gb mv f N pv gv put got rem) {S : Nat → Prop} {N' n : Nat} {x : Option Lane} {r : List Int} (hE : EO w0 w' eb mv' (updL f n (toN n) x) (tot (updV rem n r)) N') (hb : But S w w') (hS : ∀ q, S q → EF mv f eb q) (hm : ∀ k, mv' = .map (some k) → mv = .map (some k) ∨ w.heap.size ≤ k) (hx : ∀ l q, x = some l → foot l q → (∃ l0, f n (toN n) = some l0 ∧ foot l0 q) ∨ w.heap.size ≤ q) (hl : LI (updL f n (toN n) x) (updV rem n r)) :
    OI w0 w' eb pb gb mv' (updL f n (toN n) x) N' pv gv put got (updV rem n r) :=
  ⟨hE, h.p.but hb (fun q hq hs => h.pe q hq (hS q hs)), h.g.but hb (fun q hq hs => h.ge q hq (hS q hs)), h.pg,
    fun q hq he => (EF.upd hm hx he).elim (h.pe q hq) (fun e => by have := (h.p.foot_lt hq).1; omega),
    fun q hq he => (EF.upd hm hx he).elim (h.ge q hq) (fun e => by have := (h.g.foot_lt hq).1; omega), hl⟩

theorem OI.putted (h : OI w0 w eb pb gb mv f N pv gv put got rem) {n : Nat} (hn : n < 4) {id : Int} {l : Lane} (hE : EO w0 w' eb mv' (updL f n (toN n) (some l)) (tot rem + 1) (N + 2)) (hx : l.xs = oldx f n (toN n) ++ sgl n (toN n) 3 id) (hk : l.k = oldk f n (toN n) + 1) (hb : But (putS mv f eb n (toN n)) w w') (hm : ∀ k, mv' = .map (some k) → mv = .map (some k) ∨ w.heap.size ≤ k) (hf : ∀ q, foot l q → (∃ l0, f n (toN n) = some l0 ∧ foot l0 q) ∨ w.heap.size ≤ q) :
    OI w0 w' eb pb gb mv' (updL f n (toN n) (some l)) (N + 2) pv gv put got (updV rem n (rem n ++ [id])) := by
  refine h.turn ?_ hb (fun q hq => EF.of_put hq) hm (fun l' q e hq => by cases e; exact hf q hq) (h.li.put hn hx hk)
  have e := tot_upd rem n hn (rem n ++ [id])
  rw [show tot (updV rem n (rem n ++ [id])) = tot rem + 1 by simp at e; omega]
  exact hE

/-- One more in a row of the one array. -/
theorem OI.pput {X w2 : World} {n : Nat} {v' : Value} {x : Int} (h : OI w0 w eb pb gb mv f N pv gv put got rem) (hn : n < 4) (hX : Below w.heap.size w X) (hG : X.grownBy w2 (pv n).ownBlock) (hO : w2.ownsRow w0.heap.size IT 1 v' ((put n).length + 1) (ivs (put n) ++ [.int .i64 x])) (hat : v'.ownBlock = (pv n).ownBlock ∨ v'.ownBlock = some X.heap.size) :
    OI w0 (w2.setCell ⟨pb, n, none⟩ v') eb pb gb mv f N (updV pv n v') gv (updV put n (put n ++ [x])) got rem := by
  obtain ⟨a1, a2, a3⟩ := h.p.app hn hX hG hO hat
  have hef : ∀ q, EF mv f eb q → ¬ AF pb pv q := fun q hq hp => h.pe q hp hq
  refine ⟨h.e.but a2 (hef eb (.inl rfl)) (fun mb e => hef mb (.inr (.inl e))) (fun a b l j hl hj => hef j (.inr (.inr ⟨a, b, l, hl, hj⟩))) (fun j hj => (h.p.foot_lt hj).2), a1, h.g.but a2 (fun q hq hp => h.pg q hp hq), fun q hq hg => ?_, fun q hq he => ?_, h.ge, h.li⟩
  · rcases a3 q hq with e | e
    · exact h.pg q e hg
    · have := (h.g.foot_lt hg).1; omega
  · rcases a3 q hq with e | e
    · exact h.pe q e he
    · have := (h.e.foot he).1; omega
theorem OI.pgot {X w2 : World} {n : Nat} {v' : Value} {x : Int} (h : OI w0 w eb pb gb mv f N pv gv put got rem) (hn : n < 4) (hX : Below w.heap.size w X) (hG : X.grownBy w2 (gv n).ownBlock) (hO : w2.ownsRow w0.heap.size IT 1 v' ((got n).length + 1) (ivs (got n) ++ [.int .i64 x])) (hat : v'.ownBlock = (gv n).ownBlock ∨ v'.ownBlock = some X.heap.size) :
    OI w0 (w2.setCell ⟨gb, n, none⟩ v') eb pb gb mv f N pv (updV gv n v') put (updV got n (got n ++ [x])) rem := by
  obtain ⟨a1, a2, a3⟩ := h.g.app hn hX hG hO hat
  have hef : ∀ q, EF mv f eb q → ¬ AF gb gv q := fun q hq hp => h.ge q hp hq
  refine ⟨h.e.but a2 (hef eb (.inl rfl)) (fun mb e => hef mb (.inr (.inl e))) (fun a b l j hl hj => hef j (.inr (.inr ⟨a, b, l, hl, hj⟩))) (fun j hj => (h.g.foot_lt hj).2), h.p.but a2 (fun q hq hp => h.pg q hq hp), a1, fun q hq hg => ?_, h.pe, fun q hq he => ?_, h.li⟩
  · rcases a3 q hg with e | e
    · exact h.pg q hq e
    · have := (h.p.foot_lt hq).1; omega
  · rcases a3 q hq with e | e
    · exact h.ge q e he
    · have := (h.e.foot he).1; omega
end Go.Proofs.YtapjnnbcphpokaaGreat
