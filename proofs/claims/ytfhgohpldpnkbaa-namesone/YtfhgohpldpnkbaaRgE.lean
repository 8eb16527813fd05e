/- A region that draws its order: operations with a guard. -/
import Derived.Test.YtfhgohpldpnkbaaRgD
namespace Go.Proofs.Ytfhgohpldpnkbaa
section
variable {P : Program} {md : Region.Mode} {Q : Exit → Act → World → Prop} {S : World → Prop} {D : List Nat}
/-- A guarded operation that is wanted. -/
theorem wpAnyD_takeG {l : List Oper} {i : Nat} {oi : Oper} {v : Value} {fuel : Nat} {listed : Array Bool} {a : Act} {w : World} (hi : l[i]? = some oi)
    (hs : Region.noSelect l.toArray = true) (hf : Region.free md l.toArray listed i = true) (hr : (Region.ready md l.toArray listed).contains i = true) (hD : D.all (waitsB md l.toArray i) = true)
    (hQ : ∀ c a w, Q (.panic c) (a.put oi.dst v) w → Q (.panic c) a w) (hS : S w) (hw : Region.wanted oi (yielded l.toArray a.tmps) = true) (hy : ∀ w, S w → (execOp a.eval oi).run P w = .ok (.value v) w)
    (h : wpAnyD P md l.toArray Q S D fuel (listed.setIfInBounds i true) (a.put oi.dst v) w) : wpAnyD P md l.toArray Q S D (fuel + 1) listed a w :=
  wpAnyD_take (by simpa using hi) hs hf hr hD hQ hS (.inl ⟨hw, hy⟩) h
/-- One that is not. -/
theorem wpAnyD_skipG {l : List Oper} {i : Nat} {oi : Oper} {fuel : Nat} {listed : Array Bool} {a : Act} {w : World} (hi : l[i]? = some oi)
    (hs : Region.noSelect l.toArray = true) (hf : Region.free md l.toArray listed i = true) (hr : (Region.ready md l.toArray listed).contains i = true) (hD : D.all (waitsB md l.toArray i) = true)
    (hQ : ∀ c a w, Q (.panic c) (a.put oi.dst undef) w → Q (.panic c) a w) (hS : S w) (hw : Region.wanted oi (yielded l.toArray a.tmps) = false)
    (h : wpAnyD P md l.toArray Q S D fuel (listed.setIfInBounds i true) (a.put oi.dst undef) w) : wpAnyD P md l.toArray Q S D (fuel + 1) listed a w :=
  wpAnyD_take (by simpa using hi) hs hf hr hD hQ hS (.inr ⟨hw, rfl⟩) h
end
end Go.Proofs.Ytfhgohpldpnkbaa
