/- Calls and operations with a guard in a region that draws its order. -/
import Derived.Test.YtfhgohpldpnkbaaNq0
import Derived.Test.YtfhgohpldpnkbaaRgE
namespace Go.Proofs.Ytfhgohpldpnkbaa
open Go.RowKit Go.Lib

abbrev Ent (f : Nat) : Prop := ∀ args w, (callFunc f args).run Try.prog w = .ok (.enter f args) w
theorem run_call {f : Nat} (ent : Ent f) {o : Oper} {a : Act} {w : World} (xs : Array Operand) (ts : Array TypeId) (hop : o.op = Op.call { callee := .value (.func f), args := xs, argTypes := ts }) (vs : Array Value) (hx' : xs.toList.map a.eval = vs.toList) :
    (execOp a.eval o).run Try.prog w = .ok (.enter f vs) w := by
  have hx : xs.map a.eval = vs := by apply Array.ext'; simpa using hx'
  unfold execOp
  rw [hop]
  have hf : a.eval (.func f) = ({ tmps := #[], defers := [] } : Act).eval (.func f) := rfl
  have ent2 := ent vs w
  simp only [resolve, hx, hf]
  go_simp
theorem step_call {f : Nat} {vs : Array Value} {ops : Array Oper} {o : Oper} {a : Act} {w : World} {K : Act → World → Prop} {Q : Exit → Act → World → Prop} {E : Prop} (hw : Region.wanted o (yielded ops a.tmps) = true) (hrun : (execOp a.eval o).run Try.prog w = .ok (.enter f vs) w)
    {Post : Ending → World → Prop} (hc : Calls Try.prog f vs w Post) (h : ∀ e w', Post e w' → match e with | .returned v => K (a.put o.dst v) w' | .panicked c => Q (.panic c) a w' | .outgrown => LetsOut Q) :
    if Region.wanted o (yielded ops a.tmps) = true then Oper.wp Try.prog o a w K Q else E := by
  rw [if_pos hw]
  unfold Oper.wp
  rw [hrun, Oper.upon_enter]
  refine hc.mono fun e w'' hh => ?_
  have := h e w'' hh
  cases e <;> exact this
theorem ent_all : Ent 12 := by
  intro args w
  kernel_rfl
end Go.Proofs.Ytfhgohpldpnkbaa
