/-
  NARROWER THAN 'FOR EVERY INPUT', by the rows' own cells (each row's printed sentence says how): ExitsActs: loops · ExitsDowns: loops · ExitsSends: loops.
  DERIVED. THE GIVEN ROWS OF THIS SEAT. 3 by the template 'for every input the law returns true; each argument reads behind the call as it read before'; 0 by the template 'total and deterministic' (their statements: YtliebilpddmhkaaGreatTotals.lean).
  GIVEN WITH THE SEED: the statements are not yours to turn. If you find one false, say at which input.
  Laid BY PROGRAM, IN A SANDBOX (cutbox-rows.mjs): the forced cells as the released guide's own fill.sh prints them over the translation 76b6fc83c5d2c9fb… (all of the seat's roots in one cut). By AI agents, Wed Nov 11 2026. No macro, syntax, notation, axiom, sorry.
-/
import Derived.Test.YtliebilpddmhkaaGreatChecked
import GoSem.Claim
import GoSem.ClaimJoined
import GoSem.ClaimMapViews
import Derived.JoinedTies
import Derived.KernelRfl
namespace Go.Proofs.YtliebilpddmhkaaGreat
/- THE CELL 'sum', in the pinned program and in every row, IS THE sha256 OF THE DUMP (.gsa) THAT YtliebilpddmhkaaGreatProg.lean LOADS. Nothing in Lean hashes anything: it is a label: what it is worth is what the hold of that sum in a sandbox is worth. -/
noncomputable def Tryz.pinned : Pinned := { name := "ytliebilpddmhkaagreat", sum := "76b6fc83c5d2c9fb41f9b1859ebda5383aef990772ed9d5b092989402b546a94", checked := Tryz.checked }
namespace Rows
def none {H : Type} : Left H := { results := [], args := [] }

/-- 'exitwavelaw16.ExitsActs': WHATEVER THE INPUT: true; the input reads as it did. -/
def exitsActsSpec : ChangeSpec := { name := "exitsActs", fn := fun _ => fun
  | [d1, d2] => { results := [.lit (.bool true)], args := [d1, d2] }
  | _ => none }
def exitsActsRow : OpenClaim := { program := "ytliebilpddmhkaagreat", sum := "76b6fc83c5d2c9fb41f9b1859ebda5383aef990772ed9d5b092989402b546a94", func := "exitwave/exitwavelaw16.ExitsActs", spec := "exitsActs", inPlace := ["math.Float64bits"], unfollowed := true, recurses := true, loops := true, apart := false }
def ExitsActsSaid : Prop := exitsActsRow.holds Tryz.pinned (OpenSpec.ofChange exitsActsSpec)

/-- ITS FALSE NEIGHBOUR: 'it returns false'. Refute it at one input. -/
def exitsActsWrong : ChangeSpec := { name := "exitsActs", fn := fun _ => fun
  | [d1, d2] => { results := [.lit (.bool false)], args := [d1, d2] }
  | _ => none }
def ExitsActsWrongFalsely : Prop := exitsActsRow.holds Tryz.pinned (OpenSpec.ofChange exitsActsWrong)

/-- 'exitwavelaw16.ExitsDowns': WHATEVER THE INPUT: true; the input reads as it did. -/
def exitsDownsSpec : ChangeSpec := { name := "exitsDowns", fn := fun _ => fun
  | [d1, d2] => { results := [.lit (.bool true)], args := [d1, d2] }
  | _ => none }
def exitsDownsRow : OpenClaim := { program := "ytliebilpddmhkaagreat", sum := "76b6fc83c5d2c9fb41f9b1859ebda5383aef990772ed9d5b092989402b546a94", func := "exitwave/exitwavelaw16.ExitsDowns", spec := "exitsDowns", inPlace := ["math.Float64bits"], unfollowed := true, recurses := true, loops := true, apart := false }
def ExitsDownsSaid : Prop := exitsDownsRow.holds Tryz.pinned (OpenSpec.ofChange exitsDownsSpec)

/-- ITS FALSE NEIGHBOUR: 'it returns false'. Refute it at one input. -/
def exitsDownsWrong : ChangeSpec := { name := "exitsDowns", fn := fun _ => fun
  | [d1, d2] => { results := [.lit (.bool false)], args := [d1, d2] }
  | _ => none }
def ExitsDownsWrongFalsely : Prop := exitsDownsRow.holds Tryz.pinned (OpenSpec.ofChange exitsDownsWrong)

/-- 'exitwavelaw16.ExitsSends': WHATEVER THE INPUT: true; the input reads as it did. -/
def exitsSendsSpec : ChangeSpec := { name := "exitsSends", fn := fun _ => fun
  | [d1, d2, d3, d4, d5] => { results := [.lit (.bool true)], args := [d1, d2, d3, d4, d5] }
  | _ => none }
def exitsSendsRow : OpenClaim := { program := "ytliebilpddmhkaagreat", sum := "76b6fc83c5d2c9fb41f9b1859ebda5383aef990772ed9d5b092989402b546a94", func := "exitwave/exitwavelaw16.ExitsSends", spec := "exitsSends", inPlace := ["math.Float64bits"], unfollowed := true, recurses := true, loops := true, apart := false }
def ExitsSendsSaid : Prop := exitsSendsRow.holds Tryz.pinned (OpenSpec.ofChange exitsSendsSpec)

/-- ITS FALSE NEIGHBOUR: 'it returns false'. Refute it at one input. -/
def exitsSendsWrong : ChangeSpec := { name := "exitsSends", fn := fun _ => fun
  | [d1, d2, d3, d4, d5] => { results := [.lit (.bool false)], args := [d1, d2, d3, d4, d5] }
  | _ => none }
def ExitsSendsWrongFalsely : Prop := exitsSendsRow.holds Tryz.pinned (OpenSpec.ofChange exitsSendsWrong)

/- THE SECOND FORM. 'bulk': how many values and letters a reading holds, each counted each time it is reached (what is shared counts as often as it is met; a slice's spare places count too). A statement '..UptoSaid' is the law's where the arguments, and the package variables that the reading takes, are together of bulk at most 1048576: NARROWER than '..Said'. Prove '..Said' where nothing that the law and all that it calls make is longer than what came in: it says more and counts as full. Else prove '..UptoSaid'. A law counts once. -/
mutual
def uptoBulk {H : Type} : DataW H → Nat
  | .lit (.string bytes) => bytes.length + 1
  | .lit _ => 1
  | .nil => 1
  | .ptr d => uptoBulk d + 1
  | .slice elems spare => uptoBulkAll elems + uptoBulkAll spare + 1
  | .agg parts => uptoBulkAll parts + 1
  | .iface _ d => uptoBulk d + 1
  | .map entries => uptoBulkEntries entries + 1
  | .held _ => 1
def uptoBulkAll {H : Type} : List (DataW H) → Nat
  | [] => 0
  | d :: r => uptoBulk d + uptoBulkAll r
def uptoBulkEntries {H : Type} : List (Lit × DataW H) → Nat
  | [] => 0
  | x :: r => uptoBulkEntry x + uptoBulkEntries r
def uptoBulkEntry {H : Type} : Lit × DataW H → Nat
  | (.string bytes, d) => bytes.length + uptoBulk d + 1
  | (_, d) => uptoBulk d + 1
 end
def uptoSmall : (H : Type) → List (DataW H) → Bool := fun _ ds => decide (uptoBulkAll ds ≤ 1048576)
def OpenSpec.upto (s : _root_.Go.ChangeSpec) : _root_.Go.OpenSpec := { _root_.Go.OpenSpec.ofChange s with cond := some uptoSmall }

/-- 'exitwavelaw16.ExitsActs', WHERE WHAT IT READS IS OF BULK AT MOST 1048576: true; the input reads as it did. -/
def exitsActsUptoRow : OpenClaim := { program := "ytliebilpddmhkaagreat", sum := "76b6fc83c5d2c9fb41f9b1859ebda5383aef990772ed9d5b092989402b546a94", func := "exitwave/exitwavelaw16.ExitsActs", spec := "exitsActs", inPlace := ["math.Float64bits"], unfollowed := true, recurses := true, loops := true, apart := false, narrowed := true }
def ExitsActsUptoSaid : Prop := exitsActsUptoRow.holds Tryz.pinned (OpenSpec.upto exitsActsSpec)

/-- 'exitwavelaw16.ExitsDowns', WHERE WHAT IT READS IS OF BULK AT MOST 1048576: true; the input reads as it did. -/
def exitsDownsUptoRow : OpenClaim := { program := "ytliebilpddmhkaagreat", sum := "76b6fc83c5d2c9fb41f9b1859ebda5383aef990772ed9d5b092989402b546a94", func := "exitwave/exitwavelaw16.ExitsDowns", spec := "exitsDowns", inPlace := ["math.Float64bits"], unfollowed := true, recurses := true, loops := true, apart := false, narrowed := true }
def ExitsDownsUptoSaid : Prop := exitsDownsUptoRow.holds Tryz.pinned (OpenSpec.upto exitsDownsSpec)

/-- 'exitwavelaw16.ExitsSends', WHERE WHAT IT READS IS OF BULK AT MOST 1048576: true; the input reads as it did. -/
def exitsSendsUptoRow : OpenClaim := { program := "ytliebilpddmhkaagreat", sum := "76b6fc83c5d2c9fb41f9b1859ebda5383aef990772ed9d5b092989402b546a94", func := "exitwave/exitwavelaw16.ExitsSends", spec := "exitsSends", inPlace := ["math.Float64bits"], unfollowed := true, recurses := true, loops := true, apart := false, narrowed := true }
def ExitsSendsUptoSaid : Prop := exitsSendsUptoRow.holds Tryz.pinned (OpenSpec.upto exitsSendsSpec)

end Rows
end Go.Proofs.YtliebilpddmhkaaGreat
