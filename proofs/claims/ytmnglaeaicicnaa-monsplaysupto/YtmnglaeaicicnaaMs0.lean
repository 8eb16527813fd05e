/- Halves of monitors: the program's table and the document's side by side. -/
import Derived.Test.YtmnglaeaicicnaaRm3
import Derived.Test.YtmnglaeaicicnaaLMO
import Derived.Deep.RegionHeld3
namespace Go.Proofs.Ytmnglaeaicicnaa
open Go.RowKit Go.Lib
open MV (Hf hf0 getL insL delL Rise Wfk TB Nw Rst KV MnT mvs)
attribute [local go_sem ↓] Go.wp_at_zero Go.wp_at_succ

/-- The two tables side by side, apart, in memory that is newer than w0; X: blocks that neither has. -/
def PB (X : Nat → Prop) (w0 w : World) (tb rb : Nat) (O T Or Tt : List KV) : Prop :=
  ∃ D E, MT w tb D O T ∧ RM w rb E Or Tt ∧ (∀ k, D k → k ≠ rb ∧ ¬ X k) ∧ (∀ k, E k → k ≠ tb ∧ ¬ X k) ∧ (w0.heap.size ≤ tb ∧ w0.heap.size ≤ rb ∧ tb ≠ rb ∧ ¬ X tb ∧ ¬ X rb) ∧ (∀ k, X k → w0.heap.size ≤ k ∧ k < w.heap.size) ∧ Below w0.heap.size w0 w

section
variable {X : Nat → Prop} {w0 w w' : World} {tb rb : Nat} {O T Or Tt : List KV}
theorem PB.keep (h : PB X w0 w tb rb O T Or Tt) (hb : Below w.heap.size w w') : PB X w0 w' tb rb O T Or Tt := by
  obtain ⟨D, E, h1, h2, h3, h4, h5, h6, h7⟩ := h
  exact ⟨D, E, h1.keep hb, h2.keep hb, h3, h4, h5, fun k hk => ⟨(h6 k hk).1, by have := (h6 k hk).2; have := hb.size; omega⟩, h7.trans (hb.mono h7.size)⟩
theorem PB.poke (h : PB X w0 w tb rb O T Or Tt) (hb : But X w w') : PB X w0 w' tb rb O T Or Tt := by
  obtain ⟨D, E, h1, h2, h3, h4, h5, h6, h7⟩ := h
  exact ⟨D, E, h1.but hb (fun k hk => (h3 k hk).2) h5.2.2.2.1, h2.but hb h5.2.2.2.2 (fun k hk => (h4 k hk).2), h3, h4, h5, fun k hk => ⟨(h6 k hk).1, by have := (h6 k hk).2; have := hb.size; omega⟩, h7.trans (hb.below h7.size (fun k hk => (h6 k hk).1))⟩
theorem PB.turn {X' : Nat → Prop} (h : PB X w0 w tb rb O T Or Tt) (hb : Below w.heap.size w w') (hX : ∀ k, X' k → w.heap.size ≤ k ∧ k < w'.heap.size) : PB X' w0 w' tb rb O T Or Tt := by
  obtain ⟨D, E, h1, h2, h3, h4, h5, h6, h7⟩ := h
  have l1 := h1.lt
  have l2 := h2.lt
  have hs := h7.size
  exact ⟨_, _, h1.cut.keep hb, h2.cut.keep hb, fun k hk => ⟨(h3 k hk.1).1, fun e => by have := hX k e; have := hk.2; omega⟩, fun k hk => ⟨(h4 k hk.1).1, fun e => by have := hX k e; have := hk.2; omega⟩, ⟨h5.1, h5.2.1, h5.2.2.1, fun e => by have := hX _ e; omega, fun e => by have := hX _ e; omega⟩, fun k hk => by have := hX k hk; omega, h7.trans (hb.mono h7.size)⟩
theorem PB.low (h : PB X w0 w tb rb O T Or Tt) : Below w0.heap.size w0 w := by obtain ⟨_, _, _, _, _, _, _, _, h⟩ := h; exact h
theorem PB.lts (h : PB X w0 w tb rb O T Or Tt) : tb < w.heap.size ∧ rb < w.heap.size ∧ tb ≠ rb ∧ Rise O ∧ Rise T ∧ MOk O ∧ MOk T := by
  obtain ⟨_, _, h1, h2, _, _, h5, _⟩ := h; exact ⟨h1.lt, h2.lt, h5.2.2.1, h1.og.rise, h1.tg.rise, h1.ok, h1.tk⟩
theorem PB.prog {O' T' : List KV} (h : PB X w0 w tb rb O T Or Tt) {f : Nat} {args : Array Value} {R : Ending → Prop} (hc : ∀ D, MT w tb D O T → Calls Try.prog f args w fun e w' => R e ∧ MU w w' tb D O' T') :
    Calls Try.prog f args w fun e w' => R e ∧ PB X w0 w' tb rb O' T' Or Tt ∧ But (fun k => k = tb) w w' := by
  obtain ⟨D, E, h1, h2, h3, h4, h5, h6, h7⟩ := h
  refine (hc D h1).mono ?_
  rintro e w' ⟨hr, hu⟩
  have l2 := h2.lt
  have hs := hu.bt.size
  refine ⟨hr, ⟨_, E, hu.mt, h2.but hu.bt (fun e => h5.2.2.1 e.symm) (fun k hk => (h4 k hk).1), fun k hk => ?_, h4, h5, fun k hk => ⟨(h6 k hk).1, by have := (h6 k hk).2; omega⟩, h7.trans (hu.bt.below h7.size (fun k e => by omega))⟩, hu.bt⟩
  rcases hk with hk | hk
  · exact h3 k hk
  · exact ⟨by omega, fun e => by have := (h6 k e).2; omega⟩
theorem PB.refc {Or' Tt' : List KV} (h : PB X w0 w tb rb O T Or Tt) {f : Nat} {args : Array Value} {R : Ending → Prop} (hc : ∀ E, RM w rb E Or Tt → Calls Try.prog f args w fun e w' => R e ∧ RW w w' rb E Or' Tt') :
    Calls Try.prog f args w fun e w' => R e ∧ PB X w0 w' tb rb O T Or' Tt' ∧ But (fun k => k = rb) w w' := by
  obtain ⟨D, E, h1, h2, h3, h4, h5, h6, h7⟩ := h
  refine (hc E h2).mono ?_
  rintro e w' ⟨hr, hu⟩
  have l1 := h1.lt
  have hs := hu.bt.size
  refine ⟨hr, ⟨D, _, h1.but hu.bt (fun k hk => (h3 k hk).1) h5.2.2.1, hu.rt, h3, fun k hk => ?_, h5, fun k hk => ⟨(h6 k hk).1, by have := (h6 k hk).2; omega⟩, h7.trans (hu.bt.below h7.size (fun k e => by omega))⟩, hu.bt⟩
  rcases hk with hk | hk
  · exact h4 k hk
  · exact ⟨by omega, fun e => by have := (h6 k e).2; omega⟩
end

/-- What a step makes of origins, of targets. -/
def stpO (x : Act4) (O : List KV) : List KV := if x.op = 1 then putL 0 ⟨x.ref, x.pid, x.nm⟩ O else if x.op = 2 then delL x.ref O else if x.op = 3 then delL x.ref O else if x.op = 7 then O.tail else O
def stpT (x : Act4) (T : List KV) : List KV := if x.op = 4 then putL 1 ⟨x.ref, x.pid, ⟨#[]⟩⟩ T else if x.op = 5 then delL x.ref T else if x.op = 6 then T.tail else T
theorem stpO_len {x : Act4} {O : List KV} (h : Rise O) : (stpO x O).length ≤ O.length + 1 := by
  unfold stpO
  have h1 := put_len 0 ⟨x.ref, x.pid, x.nm⟩ h
  have h2 := del_le x.ref O
  have h3 := tail_le O
  split
  · exact h1
  · split
    · omega
    · split
      · omega
      · split <;> omega
theorem stpT_len {x : Act4} {T : List KV} (h : Rise T) : (stpT x T).length ≤ T.length + 1 := by
  unfold stpT
  have h1 := put_len 1 ⟨x.ref, x.pid, ⟨#[]⟩⟩ h
  have h2 := del_le x.ref T
  have h3 := tail_le T
  split
  · exact h1
  · split
    · omega
    · split <;> omega
end Go.Proofs.Ytmnglaeaicicnaa
