/-
  NARROWER THAN 'FOR EVERY INPUT', by the rows' own cells (each row's printed sentence says how): EtherChecks: loops · EtherPlays: loops · EtherOwn: loops.
  DERIVED. THE GIVEN ROWS OF THIS SEAT. 5 by the template 'for every input the law returns true; each argument reads behind the call as it read before'; 0 by the template 'total and deterministic' (their statements: YtmnncpgmhmkjcaaGreatTotals.lean).
  GIVEN WITH THE SEED: the statements are not yours to turn. If you find one false, say at which input.
  Laid BY PROGRAM, IN A SANDBOX (cutbox-rows.mjs): the forced cells as the released guide's own fill.sh prints them over the translation ee696ba4dbf97ef8… (all of the seat's roots in one cut). By AI agents, Wed Nov 11 2026. No macro, syntax, notation, axiom, sorry.
-/
import Derived.Test.YtmnncpgmhmkjcaaGreatChecked
import GoSem.Claim
import GoSem.ClaimJoined
import GoSem.ClaimMapViews
import Derived.JoinedTies
import Derived.KernelRfl
namespace Go.Proofs.YtmnncpgmhmkjcaaGreat
/- THE CELL 'sum', in the pinned program and in every row, IS THE sha256 OF THE DUMP (.gsa) THAT YtmnncpgmhmkjcaaGreatProg.lean LOADS. Nothing in Lean hashes anything: it is a label: what it is worth is what the hold of that sum in a sandbox is worth. -/
noncomputable def Tryz.pinned : Pinned := { name := "ytmnncpgmhmkjcaagreat", sum := "ee696ba4dbf97ef808c7397323055d7f8147834d7fafb85b69642bc0c6f47e59", checked := Tryz.checked }
namespace Rows
def none {H : Type} : Left H := { results := [], args := [] }

/-- 'exitwavelaw11.EtherChecks': WHATEVER THE INPUT: true; the input reads as it did. -/
def etherChecksSpec : ChangeSpec := { name := "etherChecks", fn := fun _ => fun
  | [d] => { results := [.lit (.bool true)], args := [d] }
  | _ => none }
def etherChecksRow : OpenClaim := { program := "ytmnncpgmhmkjcaagreat", sum := "ee696ba4dbf97ef808c7397323055d7f8147834d7fafb85b69642bc0c6f47e59", func := "exitwave/exitwavelaw11.EtherChecks", spec := "etherChecks", inPlace := ["math.Float64bits"], unfollowed := true, recurses := true, loops := true, plainKeys := false, apart := false }
def EtherChecksSaid : Prop := etherChecksRow.holds Tryz.pinned (OpenSpec.ofChange etherChecksSpec)

/-- ITS FALSE NEIGHBOUR: 'it returns false'. Refute it at one input. -/
def etherChecksWrong : ChangeSpec := { name := "etherChecks", fn := fun _ => fun
  | [d] => { results := [.lit (.bool false)], args := [d] }
  | _ => none }
def EtherChecksWrongFalsely : Prop := etherChecksRow.holds Tryz.pinned (OpenSpec.ofChange etherChecksWrong)

/-- 'exitwavelaw11.EtherPlays': WHATEVER THE INPUT: true; the input reads as it did. -/
def etherPlaysSpec : ChangeSpec := { name := "etherPlays", fn := fun _ => fun
  | [d] => { results := [.lit (.bool true)], args := [d] }
  | _ => none }
def etherPlaysRow : OpenClaim := { program := "ytmnncpgmhmkjcaagreat", sum := "ee696ba4dbf97ef808c7397323055d7f8147834d7fafb85b69642bc0c6f47e59", func := "exitwave/exitwavelaw11.EtherPlays", spec := "etherPlays", inPlace := ["math.Float64bits"], unfollowed := true, recurses := true, loops := true, plainKeys := false, apart := false }
def EtherPlaysSaid : Prop := etherPlaysRow.holds Tryz.pinned (OpenSpec.ofChange etherPlaysSpec)

/-- ITS FALSE NEIGHBOUR: 'it returns false'. Refute it at one input. -/
def etherPlaysWrong : ChangeSpec := { name := "etherPlays", fn := fun _ => fun
  | [d] => { results := [.lit (.bool false)], args := [d] }
  | _ => none }
def EtherPlaysWrongFalsely : Prop := etherPlaysRow.holds Tryz.pinned (OpenSpec.ofChange etherPlaysWrong)

/-- 'exitwavelaw11.EtherOrder': WHATEVER THE INPUT: true; the input reads as it did. -/
def etherOrderSpec : ChangeSpec := { name := "etherOrder", fn := fun _ => fun
  | [d1, d2] => { results := [.lit (.bool true)], args := [d1, d2] }
  | _ => none }
def etherOrderRow : OpenClaim := { program := "ytmnncpgmhmkjcaagreat", sum := "ee696ba4dbf97ef808c7397323055d7f8147834d7fafb85b69642bc0c6f47e59", func := "exitwave/exitwavelaw11.EtherOrder", spec := "etherOrder", inPlace := ["math.Float64bits"], unfollowed := true, recurses := true, plainKeys := false, apart := false }
def EtherOrderSaid : Prop := etherOrderRow.holds Tryz.pinned (OpenSpec.ofChange etherOrderSpec)

/-- ITS FALSE NEIGHBOUR: 'it returns false'. Refute it at one input. -/
def etherOrderWrong : ChangeSpec := { name := "etherOrder", fn := fun _ => fun
  | [d1, d2] => { results := [.lit (.bool false)], args := [d1, d2] }
  | _ => none }
def EtherOrderWrongFalsely : Prop := etherOrderRow.holds Tryz.pinned (OpenSpec.ofChange etherOrderWrong)

/-- 'exitwavelaw11.EtherOwn': WHATEVER THE INPUT: true; the input reads as it did. -/
def etherOwnSpec : ChangeSpec := { name := "etherOwn", fn := fun _ => fun
  | [d] => { results := [.lit (.bool true)], args := [d] }
  | _ => none }
def etherOwnRow : OpenClaim := { program := "ytmnncpgmhmkjcaagreat", sum := "ee696ba4dbf97ef808c7397323055d7f8147834d7fafb85b69642bc0c6f47e59", func := "exitwave/exitwavelaw11.EtherOwn", spec := "etherOwn", inPlace := ["math.Float64bits"], unfollowed := true, recurses := true, loops := true, plainKeys := false, apart := false }
def EtherOwnSaid : Prop := etherOwnRow.holds Tryz.pinned (OpenSpec.ofChange etherOwnSpec)

/-- ITS FALSE NEIGHBOUR: 'it returns false'. Refute it at one input. -/
def etherOwnWrong : ChangeSpec := { name := "etherOwn", fn := fun _ => fun
  | [d] => { results := [.lit (.bool false)], args := [d] }
  | _ => none }
def EtherOwnWrongFalsely : Prop := etherOwnRow.holds Tryz.pinned (OpenSpec.ofChange etherOwnWrong)

/-- 'exitwavelaw11.EtherRows': WHATEVER THE INPUT: true; the input reads as it did. -/
def etherRowsSpec : ChangeSpec := { name := "etherRows", fn := fun _ => fun
  | [d] => { results := [.lit (.bool true)], args := [d] }
  | _ => none }
def etherRowsRow : OpenClaim := { program := "ytmnncpgmhmkjcaagreat", sum := "ee696ba4dbf97ef808c7397323055d7f8147834d7fafb85b69642bc0c6f47e59", func := "exitwave/exitwavelaw11.EtherRows", spec := "etherRows", inPlace := ["math.Float64bits"], unfollowed := true, recurses := true, plainKeys := false, apart := false }
def EtherRowsSaid : Prop := etherRowsRow.holds Tryz.pinned (OpenSpec.ofChange etherRowsSpec)

/-- ITS FALSE NEIGHBOUR: 'it returns false'. Refute it at one input. -/
def etherRowsWrong : ChangeSpec := { name := "etherRows", fn := fun _ => fun
  | [d] => { results := [.lit (.bool false)], args := [d] }
  | _ => none }
def EtherRowsWrongFalsely : Prop := etherRowsRow.holds Tryz.pinned (OpenSpec.ofChange etherRowsWrong)

/- THE SECOND FORM. 'bulk': how many values and letters a reading holds, each counted each time it is reached (what is shared counts as often as it is met; a slice's spare places count too). A statement '..UptoSaid' is the law's where the arguments, and the package variables that the reading takes, are together of bulk at most 1048576: NARROWER than '..Said'. Prove '..Said' where nothing that the law and all that it calls make is longer than what came in: it says more and counts as full. Else prove '..UptoSaid'. A law counts once. -/
mutual
def uptoBulk {H : Type} : DataW H → Nat
  | .lit (.string bytes) => bytes.length + 1
  | .lit _ => 1
  | .nil => 1
  | .ptr d => uptoBulk d + 1
  | .slice elems spare => uptoBulkAll elems + uptoBulkAll spare + 1
  | .agg parts => uptoBulkAll parts + 1
  | .iface _ d => uptoBulk d + 1
  | .map entries => uptoBulkEntries entries + 1
  | .held _ => 1
def uptoBulkAll {H : Type} : List (DataW H) → Nat
  | [] => 0
  | d :: r => uptoBulk d + uptoBulkAll r
def uptoBulkEntries {H : Type} : List (Lit × DataW H) → Nat
  | [] => 0
  | x :: r => uptoBulkEntry x + uptoBulkEntries r
def uptoBulkEntry {H : Type} : Lit × DataW H → Nat
  | (.string bytes, d) => bytes.length + uptoBulk d + 1
  | (_, d) => uptoBulk d + 1
 end
def uptoSmall : (H : Type) → List (DataW H) → Bool := fun _ ds => decide (uptoBulkAll ds ≤ 1048576)
def OpenSpec.upto (s : _root_.Go.ChangeSpec) : _root_.Go.OpenSpec := { _root_.Go.OpenSpec.ofChange s with cond := some uptoSmall }

/-- 'exitwavelaw11.EtherChecks', WHERE WHAT IT READS IS OF BULK AT MOST 1048576: true; the input reads as it did. -/
def etherChecksUptoRow : OpenClaim := { program := "ytmnncpgmhmkjcaagreat", sum := "ee696ba4dbf97ef808c7397323055d7f8147834d7fafb85b69642bc0c6f47e59", func := "exitwave/exitwavelaw11.EtherChecks", spec := "etherChecks", inPlace := ["math.Float64bits"], unfollowed := true, recurses := true, loops := true, plainKeys := false, apart := false, narrowed := true }
def EtherChecksUptoSaid : Prop := etherChecksUptoRow.holds Tryz.pinned (OpenSpec.upto etherChecksSpec)

/-- 'exitwavelaw11.EtherPlays', WHERE WHAT IT READS IS OF BULK AT MOST 1048576: true; the input reads as it did. -/
def etherPlaysUptoRow : OpenClaim := { program := "ytmnncpgmhmkjcaagreat", sum := "ee696ba4dbf97ef808c7397323055d7f8147834d7fafb85b69642bc0c6f47e59", func := "exitwave/exitwavelaw11.EtherPlays", spec := "etherPlays", inPlace := ["math.Float64bits"], unfollowed := true, recurses := true, loops := true, plainKeys := false, apart := false, narrowed := true }
def EtherPlaysUptoSaid : Prop := etherPlaysUptoRow.holds Tryz.pinned (OpenSpec.upto etherPlaysSpec)

/-- 'exitwavelaw11.EtherOrder', WHERE WHAT IT READS IS OF BULK AT MOST 1048576: true; the input reads as it did. -/
def etherOrderUptoRow : OpenClaim := { program := "ytmnncpgmhmkjcaagreat", sum := "ee696ba4dbf97ef808c7397323055d7f8147834d7fafb85b69642bc0c6f47e59", func := "exitwave/exitwavelaw11.EtherOrder", spec := "etherOrder", inPlace := ["math.Float64bits"], unfollowed := true, recurses := true, plainKeys := false, apart := false, narrowed := true }
def EtherOrderUptoSaid : Prop := etherOrderUptoRow.holds Tryz.pinned (OpenSpec.upto etherOrderSpec)

/-- 'exitwavelaw11.EtherOwn', WHERE WHAT IT READS IS OF BULK AT MOST 1048576: true; the input reads as it did. -/
def etherOwnUptoRow : OpenClaim := { program := "ytmnncpgmhmkjcaagreat", sum := "ee696ba4dbf97ef808c7397323055d7f8147834d7fafb85b69642bc0c6f47e59", func := "exitwave/exitwavelaw11.EtherOwn", spec := "etherOwn", inPlace := ["math.Float64bits"], unfollowed := true, recurses := true, loops := true, plainKeys := false, apart := false, narrowed := true }
def EtherOwnUptoSaid : Prop := etherOwnUptoRow.holds Tryz.pinned (OpenSpec.upto etherOwnSpec)

/-- 'exitwavelaw11.EtherRows', WHERE WHAT IT READS IS OF BULK AT MOST 1048576: true; the input reads as it did. -/
def etherRowsUptoRow : OpenClaim := { program := "ytmnncpgmhmkjcaagreat", sum := "ee696ba4dbf97ef808c7397323055d7f8147834d7fafb85b69642bc0c6f47e59", func := "exitwave/exitwavelaw11.EtherRows", spec := "etherRows", inPlace := ["math.Float64bits"], unfollowed := true, recurses := true, plainKeys := false, apart := false, narrowed := true }
def EtherRowsUptoSaid : Prop := etherRowsUptoRow.holds Tryz.pinned (OpenSpec.upto etherRowsSpec)

end Rows
end Go.Proofs.YtmnncpgmhmkjcaaGreat
