/-
  DERIVED. GIVEN WITH THE SEED: THE CARDS: each row of YtihkabgoaejcgabDoorRows.lean that lists a variable, with what it lists TIED to the program's text (the seventh form; the later family's looks); each row that meets fmt, with fmt's text TOLD by the authors' own Lean function (tested against real Go, not proved from fmt's source: count such statements apart). THE CARD IS WHAT COUNTS. Prove the row's statement (the work); the ties are given (YtihkabgoaejcgabDoorTie.lean); close each card by the builder's one call (the guide's Derived/Test/ToyasCard.lean, 'card_holds'). Laid BY PROGRAM, IN A SANDBOX (cutbox-door.mjs). By AI agents, Wed Nov 11 2026. No macro, syntax, notation, axiom, sorry.
-/
import Derived.Test.YtihkabgoaejcgabDoorRows
import GoSem.ClaimSeven
namespace Go.Proofs.YtihkabgoaejcgabDoor
namespace Rows

/-- THE TIED CARD OF 'exitwavelaw1.NumDivides'. -/
def numDividesCard : Claim7 := { stood := { row := numDividesRow, standIns := [], harness := (true, "b3c4f97b7a4a982bda1ed1b8ab2434f6c4ede2b0c5ea464f576e7657a71a47c1"), looks := false }, kinds := [], alts := [], laidByText := true, laidKinds := [.data, .data, .data], laidTests := true, laidLooks := .later }
def NumDividesCardSaid : Prop := Claim7.holds Tryd.pinned (.plain (OpenSpec.ofChange numDividesSpec)) numDividesCard

/-- THE TIED CARD OF 'exitwavelaw1.NumOrder'. -/
def numOrderCard : Claim7 := { stood := { row := numOrderRow, standIns := [], harness := (true, "b3c4f97b7a4a982bda1ed1b8ab2434f6c4ede2b0c5ea464f576e7657a71a47c1"), looks := false }, kinds := [], alts := [], laidByText := true, laidKinds := [.data, .data, .data], laidTests := true, laidLooks := .later }
def NumOrderCardSaid : Prop := Claim7.holds Tryd.pinned (.plain (OpenSpec.ofChange numOrderSpec)) numOrderCard

/-- THE TIED CARD OF 'exitwavelaw1.NumWholes'. -/
def numWholesCard : Claim7 := { stood := { row := numWholesRow, standIns := [], harness := (true, "b3c4f97b7a4a982bda1ed1b8ab2434f6c4ede2b0c5ea464f576e7657a71a47c1"), looks := false }, kinds := [], alts := [], laidByText := true, laidKinds := [.data, .data, .data], laidTests := true, laidLooks := .later }
def NumWholesCardSaid : Prop := Claim7.holds Tryd.pinned (.plain (OpenSpec.ofChange numWholesSpec)) numWholesCard

/-- THE TIED CARD OF 'exitwavelaw1.NumBack'. -/
def numBackCard : Claim7 := { stood := { row := numBackRow, standIns := [], harness := (true, "b3c4f97b7a4a982bda1ed1b8ab2434f6c4ede2b0c5ea464f576e7657a71a47c1"), looks := false }, kinds := [], alts := [], laidByText := true, laidKinds := [.data, .data, .data], laidTests := true, laidLooks := .later }
def NumBackCardSaid : Prop := Claim7.holds Tryd.pinned (.plain (OpenSpec.ofChange numBackSpec)) numBackCard

/-- THE TIED CARD OF 'exitwavelaw1.NumNear'. -/
def numNearCard : Claim7 := { stood := { row := numNearRow, standIns := [], harness := (true, "b3c4f97b7a4a982bda1ed1b8ab2434f6c4ede2b0c5ea464f576e7657a71a47c1"), looks := false }, kinds := [], alts := [], laidByText := true, laidKinds := [.data, .data, .data], laidTests := true, laidLooks := .later }
def NumNearCardSaid : Prop := Claim7.holds Tryd.pinned (.plain (OpenSpec.ofChange numNearSpec)) numNearCard

/-- THE TIED CARD OF 'exitwavelaw1.NumZeros'. -/
def numZerosCard : Claim7 := { stood := { row := numZerosRow, standIns := [], harness := (true, "b3c4f97b7a4a982bda1ed1b8ab2434f6c4ede2b0c5ea464f576e7657a71a47c1"), looks := false }, kinds := [], alts := [], laidByText := true, laidKinds := [.data, .data, .data], laidTests := true, laidLooks := .later }
def NumZerosCardSaid : Prop := Claim7.holds Tryd.pinned (.plain (OpenSpec.ofChange numZerosSpec)) numZerosCard

/-- THE SECOND FORM's CARD OF 'exitwavelaw1.NumDivides'. -/
def numDividesUptoCard : Claim7 := { stood := { row := numDividesUptoRow, standIns := [], harness := (true, "b3c4f97b7a4a982bda1ed1b8ab2434f6c4ede2b0c5ea464f576e7657a71a47c1"), looks := false }, kinds := [], alts := [], laidByText := true, laidKinds := [.data, .data, .data], laidTests := true, laidLooks := .later }
def NumDividesUptoCardSaid : Prop := Claim7.holds Tryd.pinned (.plain (OpenSpec.upto numDividesSpec)) numDividesUptoCard

/-- THE SECOND FORM's CARD OF 'exitwavelaw1.NumOrder'. -/
def numOrderUptoCard : Claim7 := { stood := { row := numOrderUptoRow, standIns := [], harness := (true, "b3c4f97b7a4a982bda1ed1b8ab2434f6c4ede2b0c5ea464f576e7657a71a47c1"), looks := false }, kinds := [], alts := [], laidByText := true, laidKinds := [.data, .data, .data], laidTests := true, laidLooks := .later }
def NumOrderUptoCardSaid : Prop := Claim7.holds Tryd.pinned (.plain (OpenSpec.upto numOrderSpec)) numOrderUptoCard

/-- THE SECOND FORM's CARD OF 'exitwavelaw1.NumWholes'. -/
def numWholesUptoCard : Claim7 := { stood := { row := numWholesUptoRow, standIns := [], harness := (true, "b3c4f97b7a4a982bda1ed1b8ab2434f6c4ede2b0c5ea464f576e7657a71a47c1"), looks := false }, kinds := [], alts := [], laidByText := true, laidKinds := [.data, .data, .data], laidTests := true, laidLooks := .later }
def NumWholesUptoCardSaid : Prop := Claim7.holds Tryd.pinned (.plain (OpenSpec.upto numWholesSpec)) numWholesUptoCard

/-- THE SECOND FORM's CARD OF 'exitwavelaw1.NumBack'. -/
def numBackUptoCard : Claim7 := { stood := { row := numBackUptoRow, standIns := [], harness := (true, "b3c4f97b7a4a982bda1ed1b8ab2434f6c4ede2b0c5ea464f576e7657a71a47c1"), looks := false }, kinds := [], alts := [], laidByText := true, laidKinds := [.data, .data, .data], laidTests := true, laidLooks := .later }
def NumBackUptoCardSaid : Prop := Claim7.holds Tryd.pinned (.plain (OpenSpec.upto numBackSpec)) numBackUptoCard

/-- THE SECOND FORM's CARD OF 'exitwavelaw1.NumNear'. -/
def numNearUptoCard : Claim7 := { stood := { row := numNearUptoRow, standIns := [], harness := (true, "b3c4f97b7a4a982bda1ed1b8ab2434f6c4ede2b0c5ea464f576e7657a71a47c1"), looks := false }, kinds := [], alts := [], laidByText := true, laidKinds := [.data, .data, .data], laidTests := true, laidLooks := .later }
def NumNearUptoCardSaid : Prop := Claim7.holds Tryd.pinned (.plain (OpenSpec.upto numNearSpec)) numNearUptoCard

/-- THE SECOND FORM's CARD OF 'exitwavelaw1.NumZeros'. -/
def numZerosUptoCard : Claim7 := { stood := { row := numZerosUptoRow, standIns := [], harness := (true, "b3c4f97b7a4a982bda1ed1b8ab2434f6c4ede2b0c5ea464f576e7657a71a47c1"), looks := false }, kinds := [], alts := [], laidByText := true, laidKinds := [.data, .data, .data], laidTests := true, laidLooks := .later }
def NumZerosUptoCardSaid : Prop := Claim7.holds Tryd.pinned (.plain (OpenSpec.upto numZerosSpec)) numZerosUptoCard
end Rows
end Go.Proofs.YtihkabgoaejcgabDoor
