/- The program's registry and the document's side by side. -/
import Derived.Test.YtfhgohpldpnkbaaNn6
import Derived.Deep.RegionHeld3
namespace Go.Proofs.Ytfhgohpldpnkbaa
open Go.RowKit Go.Lib Go.Maps

/-- The two registries side by side, apart, in memory that is newer than w0; X: blocks that neither has. -/
def PB (X : Nat → Prop) (w0 w : World) (nb rb K : Nat) (R R' : List NP) : Prop :=
  ∃ D E, PN w nb D K R ∧ RN w rb E R' ∧ (∀ k, D k → k ≠ rb ∧ ¬ E k ∧ ¬ X k ∧ w0.heap.size ≤ k) ∧ (∀ k, E k → k ≠ nb ∧ ¬ X k) ∧ (w0.heap.size ≤ nb ∧ w0.heap.size ≤ rb ∧ nb ≠ rb ∧ ¬ X nb ∧ ¬ X rb) ∧ (∀ k, X k → k < w.heap.size) ∧ Below w0.heap.size w0 w

section
variable {X : Nat → Prop} {w0 w w' : World} {nb rb K : Nat} {R R' : List NP}
theorem PB.low (h : PB X w0 w nb rb K R R') : Below w0.heap.size w0 w := by obtain ⟨_, _, _, _, _, _, _, _, h⟩ := h; exact h
theorem PB.lts (h : PB X w0 w nb rb K R R') : nb < w.heap.size ∧ rb < w.heap.size ∧ Reg R := by
  obtain ⟨_, _, h1, h2, _⟩ := h; exact ⟨h1.lt, h2.lt, h1.reg⟩
theorem PB.turn {X' : Nat → Prop} (h : PB X w0 w nb rb K R R') (hb : Below w.heap.size w w') (hX : ∀ k, X' k → X k ∨ w.heap.size ≤ k ∧ k < w'.heap.size) : PB X' w0 w' nb rb K R R' := by
  obtain ⟨D, E, h1, h2, h3, h4, h5, h6, h7⟩ := h
  have l1 := h1.lt
  have l2 := h2.lt
  have hs := hb.size
  refine ⟨_, _, h1.cut.keep hb, h2.cut.keep hb, fun k hk => ⟨(h3 k hk.1).1, fun e => (h3 k hk.1).2.1 e.1, fun e => ?_, (h3 k hk.1).2.2.2⟩, fun k hk => ⟨(h4 k hk.1).1, fun e => ?_⟩, ⟨h5.1, h5.2.1, h5.2.2.1, fun e => ?_, fun e => ?_⟩, fun k hk => ?_, h7.trans (hb.mono h7.size)⟩
  · rcases hX k e with e | e
    · exact (h3 k hk.1).2.2.1 e
    · have := hk.2; omega
  · rcases hX k e with e | e
    · exact (h4 k hk.1).2 e
    · have := hk.2; omega
  · rcases hX _ e with e | e
    · exact h5.2.2.2.1 e
    · omega
  · rcases hX _ e with e | e
    · exact h5.2.2.2.2 e
    · omega
  · rcases hX _ hk with e | e
    · have := h6 k e; omega
    · omega
theorem PB.keep (h : PB X w0 w nb rb K R R') (hb : Below w.heap.size w w') : PB X w0 w' nb rb K R R' := h.turn hb (fun _ => .inl)
theorem PB.poke (h : PB X w0 w nb rb K R R') (hb : But X w w') (hX : ∀ k, X k → w0.heap.size ≤ k) : PB X w0 w' nb rb K R R' := by
  obtain ⟨D, E, h1, h2, h3, h4, h5, h6, h7⟩ := h
  exact ⟨D, E, h1.but hb h5.2.2.2.1 (fun k hk => (h3 k hk).2.2.1), h2.but hb h5.2.2.2.2 (fun k hk => (h4 k hk).2), h3, h4, h5, fun k hk => by have := h6 k hk; have := hb.size; omega, h7.trans (hb.below h7.size (fun k hk => hX k hk))⟩
theorem PB.prog {K2 : Nat} {R2 : List NP} (h : PB X w0 w nb rb K R R') {f : Nat} {args : Array Value} {Z : Ending → Prop} (hc : ∀ D, PN w nb D K R → Calls Try.prog f args w fun e w' => Z e ∧ PU w w' nb D K2 R2) :
    Calls Try.prog f args w fun e w' => Z e ∧ PB X w0 w' nb rb K2 R2 R' ∧ But (fun k => w0.heap.size ≤ k ∧ ¬ X k) w w' := by
  obtain ⟨D, E, h1, h2, h3, h4, h5, h6, h7⟩ := h
  refine (hc _ h1.cut).mono ?_
  rintro e w' ⟨hr, hu⟩
  have l1 := h1.lt
  have l2 := h2.lt
  have hs := hu.bt.size
  have hs0 := h7.size
  refine ⟨hr, ⟨_, _, hu.pn, h2.cut.but hu.bt (fun e => ?_) (fun k hk e => ?_), fun k hk => ?_, fun k hk => ⟨(h4 k hk.1).1, (h4 k hk.1).2⟩, h5, fun k hk => by have := h6 k hk; omega, ?_⟩, ?_⟩
  · rcases e with e | e
    · exact h5.2.2.1 e.symm
    · exact (h3 rb e.1).1 rfl
  · rcases e with e | e
    · exact (h4 k hk.1).1 e
    · exact (h3 k e.1).2.1 hk.1
  · rcases hk with hk | hk
    · exact ⟨(h3 k hk.1).1, fun e => (h3 k hk.1).2.1 e.1, (h3 k hk.1).2.2⟩
    · exact ⟨by omega, fun e => by have := e.2; omega, fun e => by have := h6 k e; omega, by omega⟩
  · exact h7.trans (hu.bt.below hs0 (fun k e => by
      rcases e with e | e
      · rw [e]; exact h5.1
      · exact (h3 k e.1).2.2.2))
  · refine hu.bt.mono (fun k _ e => ?_)
    rcases e with e | e
    · rw [e]; exact ⟨h5.1, h5.2.2.2.1⟩
    · exact ⟨(h3 k e.1).2.2.2, (h3 k e.1).2.2.1⟩
theorem PB.tell (h : PB X w0 w nb rb K R R') {f : Nat} {args : Array Value} {Z : Ending → World → Prop} (hc : ∀ D, PN w nb D K R → Calls Try.prog f args w fun e w' => Z e w' ∧ Below w.heap.size w w') :
    Calls Try.prog f args w fun e w' => Z e w' ∧ PB X w0 w' nb rb K R R' ∧ Below w.heap.size w w' := by
  have h' := h
  obtain ⟨D, E, h1, _⟩ := h
  exact (hc D h1).mono (fun e w' ⟨a, b⟩ => ⟨a, h'.keep b, b⟩)
theorem PB.refc {R2 : List NP} (h : PB X w0 w nb rb K R R') {f : Nat} {args : Array Value} {Z : Ending → Prop} (hc : ∀ E, RN w rb E R' → Calls Try.prog f args w fun e w' => Z e ∧ RU w w' rb E R2) :
    Calls Try.prog f args w fun e w' => Z e ∧ PB X w0 w' nb rb K R R2 ∧ But (fun k => w0.heap.size ≤ k ∧ ¬ X k) w w' := by
  obtain ⟨D, E, h1, h2, h3, h4, h5, h6, h7⟩ := h
  refine (hc _ h2.cut).mono ?_
  rintro e w' ⟨hr, hu⟩
  have l1 := h1.lt
  have l2 := h2.lt
  have hs := hu.bt.size
  have hs0 := h7.size
  refine ⟨hr, ⟨_, _, h1.cut.but hu.bt h5.2.2.1 (fun k hk => (h3 k hk.1).1), hu.rn, fun k hk => ⟨(h3 k hk.1).1, fun e => ?_, (h3 k hk.1).2.2⟩, fun k hk => ?_, h5, fun k hk => by have := h6 k hk; omega, h7.trans (hu.bt.below hs0 (fun k e => by rw [e]; exact h5.2.1))⟩, hu.bt.mono (fun k _ e => by rw [e]; exact ⟨h5.2.1, h5.2.2.2.2⟩)⟩
  · rcases e with e | e
    · exact (h3 k hk.1).2.1 e.1
    · have := hk.2; omega
  · rcases hk with hk | hk
    · exact ⟨(h4 k hk.1).1, (h4 k hk.1).2⟩
    · exact ⟨by omega, fun e => by have := h6 k e; omega⟩
end

/-- An act of a play; what it makes of a registry. -/
structure Act3 where
  op : Int
  nm : ByteArray
  pid : Int
def stpN (x : Act3) (R : List NP) : List NP := if x.op = 1 then regN R x.nm x.pid else if x.op = 2 then unrN R x.nm else if x.op = 3 then relN R x.pid else R
theorem cut_len (R : List NP) (i : Nat) : (R.eraseIdx i).length ≤ R.length := by rw [List.length_eraseIdx]; split <;> omega
theorem stpN_len (x : Act3) (R : List NP) : (stpN x R).length ≤ R.length + 1 := by
  unfold stpN
  have h1 := regN_len R x.nm x.pid
  have h2 := cut_len R (posN R x.nm)
  have h3 := cut_len R (posP R x.pid)
  unfold unrN relN
  split
  · exact h1
  · split
    · omega
    · split <;> omega
structure OkA (x : Act3) : Prop where
  nm : x.nm.size ≤ maxLen
  pid : wfi x.pid
end Go.Proofs.Ytfhgohpldpnkbaa
