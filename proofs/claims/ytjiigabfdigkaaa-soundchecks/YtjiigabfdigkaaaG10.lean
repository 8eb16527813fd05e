import Derived.Test.YtjiigabfdigkaaaG09
import Derived.Test.YtjiigabfdigkaaaG01
/- A region that draws its order: operations with a guard. -/
namespace Go.Proofs.Ytjiigabfdigkaaa
section
variable {P : Program} {md : Region.Mode} {Q : Exit → Act → World → Prop} {S : World → Prop} {D : List Nat}
/-- A guarded operation that is wanted. -/
theorem wpAnyD_takeG {l : List Oper} {i : Nat} {oi : Oper} {v : Value} {fuel : Nat} {listed : Array Bool} {a : Act} {w : World} (hi : l[i]? = some oi)
    (hs : Region.noSelect l.toArray = true) (hf : Region.free md l.toArray listed i = true) (hr : (Region.ready md l.toArray listed).contains i = true) (hD : D.all (waitsB md l.toArray i) = true)
    (hQ : ∀ c a w, Q (.panic c) (a.put oi.dst v) w → Q (.panic c) a w) (hS : S w) (hw : Region.wanted oi (yielded l.toArray a.tmps) = true) (hy : ∀ w, S w → (execOp a.eval oi).run P w = .ok (.value v) w)
    (h : wpAnyD P md l.toArray Q S D fuel (listed.setIfInBounds i true) (a.put oi.dst v) w) : wpAnyD P md l.toArray Q S D (fuel + 1) listed a w :=
  wpAnyD_take (by simpa using hi) hs hf hr hD hQ hS (.inl ⟨hw, hy⟩) h
/-- One that is not. -/
theorem wpAnyD_skipG {l : List Oper} {i : Nat} {oi : Oper} {fuel : Nat} {listed : Array Bool} {a : Act} {w : World} (hi : l[i]? = some oi)
    (hs : Region.noSelect l.toArray = true) (hf : Region.free md l.toArray listed i = true) (hr : (Region.ready md l.toArray listed).contains i = true) (hD : D.all (waitsB md l.toArray i) = true)
    (hQ : ∀ c a w, Q (.panic c) (a.put oi.dst undef) w → Q (.panic c) a w) (hS : S w) (hw : Region.wanted oi (yielded l.toArray a.tmps) = false)
    (h : wpAnyD P md l.toArray Q S D fuel (listed.setIfInBounds i true) (a.put oi.dst undef) w) : wpAnyD P md l.toArray Q S D (fuel + 1) listed a w :=
  wpAnyD_take (by simpa using hi) hs hf hr hD hQ hS (.inr ⟨hw, rfl⟩) h
end
end Go.Proofs.Ytjiigabfdigkaaa


/- Calls in a region that draws its order. -/
namespace Go.Proofs.Ytjiigabfdigkaaa
open Go.RowKit Go.Lib

abbrev Ent (f : Nat) : Prop := ∀ args w, (callFunc f args).run Try.prog w = .ok (.enter f args) w
theorem run_call {f : Nat} (ent : Ent f) {o : Oper} {a : Act} {w : World} (xs : Array Operand) (ts : Array TypeId) (hop : o.op = Op.call { callee := .value (.func f), args := xs, argTypes := ts }) (vs : Array Value) (hx' : xs.toList.map a.eval = vs.toList) :
    (execOp a.eval o).run Try.prog w = .ok (.enter f vs) w := by
  have hx : xs.map a.eval = vs := by apply Array.ext'; simpa using hx'
  unfold execOp
  rw [hop]
  have hf : a.eval (.func f) = ({ tmps := #[], defers := [] } : Act).eval (.func f) := rfl
  have ent2 := ent vs w
  simp only [resolve, hx, hf]
  go_simp
theorem step_call {f : Nat} {vs : Array Value} {ops : Array Oper} {o : Oper} {a : Act} {w : World} {K : Act → World → Prop} {Q : Exit → Act → World → Prop} {E : Prop} (hw : Region.wanted o (yielded ops a.tmps) = true) (hrun : (execOp a.eval o).run Try.prog w = .ok (.enter f vs) w)
    {Post : Ending → World → Prop} (hc : Calls Try.prog f vs w Post) (h : ∀ e w', Post e w' → match e with | .returned v => K (a.put o.dst v) w' | .panicked c => Q (.panic c) a w' | .outgrown => LetsOut Q) :
    if Region.wanted o (yielded ops a.tmps) = true then Oper.wp Try.prog o a w K Q else E := by
  rw [if_pos hw]
  unfold Oper.wp
  rw [hrun, Oper.upon_enter]
  refine hc.mono fun e w'' hh => ?_
  have := h e w'' hh
  cases e <;> exact this
end Go.Proofs.Ytjiigabfdigkaaa


