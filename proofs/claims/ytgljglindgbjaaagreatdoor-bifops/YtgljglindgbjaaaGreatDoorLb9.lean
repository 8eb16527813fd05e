import Derived.Test.YtgljglindgbjaaaGreatDoorRows
import Derived.Test.YtgljglindgbjaaaGreatDoorG02
import Derived.ProofKit
import Derived.LaidMore
import Derived.OpenShut
import Derived.Stop.Joined
/- The rows' condition on the tables; that the start-up's own heap meets it. -/
namespace Go.Proofs.YtgljglindgbjaaaGreatDoor
open Go.ChangeShapes Go.WideShapes Go.ChangeAt Go.WideMaps Go.WideElems Go.RowKit Go.Lib

theorem own9 : ownKnob Tryz.prog.godebug = none := by kernel_rfl

def laid7 : List (String × DataW Unit) := [("math/bits.deBruijn32tab", Rows.laid_math_bits_deBruijn32tab), ("math/bits.deBruijn64tab", Rows.laid_math_bits_deBruijn64tab), ("internal/strconv.uint64pow10", Rows.laid_internal_strconv_uint64pow10), ("unicode/utf8.acceptRanges", Rows.laid_unicode_utf8_acceptRanges), ("strconv.ErrRange", Rows.laid_strconv_ErrRange), ("strconv.ErrSyntax", Rows.laid_strconv_ErrSyntax), ("unicode/utf8.first", Rows.laid_unicode_utf8_first)]

def litV : DataW Unit → Value
  | .lit (.int k z) => .int k z
  | _ => .bool false
def firstV : Array Value := match Go.Pinned.utf8First with
  | .agg ds => (ds.map litV).toArray
  | _ => #[]
/-- The start-up's heap, the pinned table in its place. -/
noncomputable def doorW (os : Os) : World :=
  { World.doorLaid Tryz.prog 400 os with heap := (World.doorLaid Tryz.prog 400 os).heap.modify 5 fun
    | .cells _ t fz => .cells firstV t fz
    | o => o }

set_option maxRecDepth 1000000 in
theorem door_met (os : Os) (args : Array Value) : laidMetH Tryz.prog laid7 ((doorW os).forCall (fun _ _ => 0) ⟨#[], args, []⟩).memory :=
  laidMetH_of_parts3 (fuel := 8) (laidMet_of_run' 8 (by kernel_rfl) (by kernel_rfl)) (by kernel_rfl) (by kernel_rfl)
end Go.Proofs.YtgljglindgbjaaaGreatDoor


