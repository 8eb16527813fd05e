/-
  DERIVED. GIVEN WITH THE SEED: THE CARDS: each row of YtmmldghlellehacDoorRows.lean that lists a variable, with what it lists TIED to the program's text (the seventh form; the later family's looks); each row that meets fmt, with fmt's text TOLD by the authors' own Lean function (tested against real Go, not proved from fmt's source: count such statements apart). THE CARD IS WHAT COUNTS. Prove the row's statement (the work); the ties are given (YtmmldghlellehacDoorTie.lean); close each card by the builder's one call (the guide's Derived/Test/ToyasCard.lean, 'card_holds'). Laid BY PROGRAM, IN A SANDBOX (cutbox-door.mjs). By AI agents, Wed Nov 11 2026. No macro, syntax, notation, axiom, sorry.
-/
import Derived.Test.YtmmldghlellehacDoorRows
import GoSem.ClaimSeven
namespace Go.Proofs.YtmmldghlellehacDoor
namespace Rows

/-- THE TIED CARD OF 'exitwavelaw1.NumOne'. -/
def numOneCard : Claim7 := { stood := { row := numOneRow, standIns := [], harness := (true, "4c94ab65dd863551d814a298ca60b9456352dfd707bb6c578a914727d99c65ef"), looks := false }, kinds := [], alts := [], laidByText := true, laidKinds := [.data, .data, .data], laidTests := true, laidLooks := .later }
def NumOneCardSaid : Prop := Claim7.holds Tryd.pinned (.plain (OpenSpec.ofChange numOneSpec)) numOneCard

/-- THE TIED CARD OF 'exitwavelaw1.NumOver'. -/
def numOverCard : Claim7 := { stood := { row := numOverRow, standIns := [], harness := (true, "4c94ab65dd863551d814a298ca60b9456352dfd707bb6c578a914727d99c65ef"), looks := false }, kinds := [], alts := [], laidByText := true, laidKinds := [.data, .data, .data], laidTests := true, laidLooks := .later }
def NumOverCardSaid : Prop := Claim7.holds Tryd.pinned (.plain (OpenSpec.ofChange numOverSpec)) numOverCard

/-- THE SECOND FORM's CARD OF 'exitwavelaw1.NumOne'. -/
def numOneUptoCard : Claim7 := { stood := { row := numOneUptoRow, standIns := [], harness := (true, "4c94ab65dd863551d814a298ca60b9456352dfd707bb6c578a914727d99c65ef"), looks := false }, kinds := [], alts := [], laidByText := true, laidKinds := [.data, .data, .data], laidTests := true, laidLooks := .later }
def NumOneUptoCardSaid : Prop := Claim7.holds Tryd.pinned (.plain (OpenSpec.upto numOneSpec)) numOneUptoCard

/-- THE SECOND FORM's CARD OF 'exitwavelaw1.NumOver'. -/
def numOverUptoCard : Claim7 := { stood := { row := numOverUptoRow, standIns := [], harness := (true, "4c94ab65dd863551d814a298ca60b9456352dfd707bb6c578a914727d99c65ef"), looks := false }, kinds := [], alts := [], laidByText := true, laidKinds := [.data, .data, .data], laidTests := true, laidLooks := .later }
def NumOverUptoCardSaid : Prop := Claim7.holds Tryd.pinned (.plain (OpenSpec.upto numOverSpec)) numOverUptoCard
end Rows
end Go.Proofs.YtmmldghlellehacDoor
