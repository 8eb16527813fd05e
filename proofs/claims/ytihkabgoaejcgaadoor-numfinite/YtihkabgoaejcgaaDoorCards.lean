/-
  DERIVED. GIVEN WITH THE SEED: THE CARDS: each row of YtihkabgoaejcgaaDoorRows.lean that lists a variable, with what it lists TIED to the program's text (the seventh form; the later family's looks); each row that meets fmt, with fmt's text TOLD by the authors' own Lean function (tested against real Go, not proved from fmt's source: count such statements apart). THE CARD IS WHAT COUNTS. Prove the row's statement (the work); the ties are given (YtihkabgoaejcgaaDoorTie.lean); close each card by the builder's one call (the guide's Derived/Test/ToyasCard.lean, 'card_holds'). Laid BY PROGRAM, IN A SANDBOX (cutbox-door.mjs). By AI agents, Wed Nov 11 2026. No macro, syntax, notation, axiom, sorry.
-/
import Derived.Test.YtihkabgoaejcgaaDoorRows
import GoSem.ClaimSeven
namespace Go.Proofs.YtihkabgoaejcgaaDoor
namespace Rows

/-- THE TIED CARD OF 'exitwavelaw1.NumMakes'. -/
def numMakesCard : Claim7 := { stood := { row := numMakesRow, standIns := [], harness := (true, "8275f0a80bae1f37d5d65b8fb6abcc0444f3f60bc8aec6da65ed8adf8e9b74a7"), looks := false }, kinds := [], alts := [], laidByText := true, laidKinds := [.data, .data, .data], laidTests := true, laidLooks := .later }
def NumMakesCardSaid : Prop := Claim7.holds Tryd.pinned (.plain (OpenSpec.ofChange numMakesSpec)) numMakesCard

/-- THE TIED CARD OF 'exitwavelaw1.NumOps'. -/
def numOpsCard : Claim7 := { stood := { row := numOpsRow, standIns := [], harness := (true, "8275f0a80bae1f37d5d65b8fb6abcc0444f3f60bc8aec6da65ed8adf8e9b74a7"), looks := false }, kinds := [], alts := [], laidByText := true, laidKinds := [.data, .data, .data], laidTests := true, laidLooks := .later }
def NumOpsCardSaid : Prop := Claim7.holds Tryd.pinned (.plain (OpenSpec.ofChange numOpsSpec)) numOpsCard

/-- THE TIED CARD OF 'exitwavelaw1.NumOnes'. -/
def numOnesCard : Claim7 := { stood := { row := numOnesRow, standIns := [], harness := (true, "8275f0a80bae1f37d5d65b8fb6abcc0444f3f60bc8aec6da65ed8adf8e9b74a7"), looks := false }, kinds := [], alts := [], laidByText := true, laidKinds := [.data, .data, .data], laidTests := true, laidLooks := .later }
def NumOnesCardSaid : Prop := Claim7.holds Tryd.pinned (.plain (OpenSpec.ofChange numOnesSpec)) numOnesCard

/-- THE TIED CARD OF 'exitwavelaw1.NumExact'. -/
def numExactCard : Claim7 := { stood := { row := numExactRow, standIns := [], harness := (true, "8275f0a80bae1f37d5d65b8fb6abcc0444f3f60bc8aec6da65ed8adf8e9b74a7"), looks := false }, kinds := [], alts := [], laidByText := true, laidKinds := [.data, .data, .data], laidTests := true, laidLooks := .later }
def NumExactCardSaid : Prop := Claim7.holds Tryd.pinned (.plain (OpenSpec.ofChange numExactSpec)) numExactCard

/-- THE TIED CARD OF 'exitwavelaw1.NumCompares'. -/
def numComparesCard : Claim7 := { stood := { row := numComparesRow, standIns := [], harness := (true, "8275f0a80bae1f37d5d65b8fb6abcc0444f3f60bc8aec6da65ed8adf8e9b74a7"), looks := false }, kinds := [], alts := [], laidByText := true, laidKinds := [.data, .data, .data], laidTests := true, laidLooks := .later }
def NumComparesCardSaid : Prop := Claim7.holds Tryd.pinned (.plain (OpenSpec.ofChange numComparesSpec)) numComparesCard

/-- THE TIED CARD OF 'exitwavelaw1.NumFinite'. -/
def numFiniteCard : Claim7 := { stood := { row := numFiniteRow, standIns := [], harness := (true, "8275f0a80bae1f37d5d65b8fb6abcc0444f3f60bc8aec6da65ed8adf8e9b74a7"), looks := false }, kinds := [], alts := [], laidByText := true, laidKinds := [.data, .data, .data], laidTests := true, laidLooks := .later }
def NumFiniteCardSaid : Prop := Claim7.holds Tryd.pinned (.plain (OpenSpec.ofChange numFiniteSpec)) numFiniteCard

/-- THE SECOND FORM's CARD OF 'exitwavelaw1.NumMakes'. -/
def numMakesUptoCard : Claim7 := { stood := { row := numMakesUptoRow, standIns := [], harness := (true, "8275f0a80bae1f37d5d65b8fb6abcc0444f3f60bc8aec6da65ed8adf8e9b74a7"), looks := false }, kinds := [], alts := [], laidByText := true, laidKinds := [.data, .data, .data], laidTests := true, laidLooks := .later }
def NumMakesUptoCardSaid : Prop := Claim7.holds Tryd.pinned (.plain (OpenSpec.upto numMakesSpec)) numMakesUptoCard

/-- THE SECOND FORM's CARD OF 'exitwavelaw1.NumOps'. -/
def numOpsUptoCard : Claim7 := { stood := { row := numOpsUptoRow, standIns := [], harness := (true, "8275f0a80bae1f37d5d65b8fb6abcc0444f3f60bc8aec6da65ed8adf8e9b74a7"), looks := false }, kinds := [], alts := [], laidByText := true, laidKinds := [.data, .data, .data], laidTests := true, laidLooks := .later }
def NumOpsUptoCardSaid : Prop := Claim7.holds Tryd.pinned (.plain (OpenSpec.upto numOpsSpec)) numOpsUptoCard

/-- THE SECOND FORM's CARD OF 'exitwavelaw1.NumOnes'. -/
def numOnesUptoCard : Claim7 := { stood := { row := numOnesUptoRow, standIns := [], harness := (true, "8275f0a80bae1f37d5d65b8fb6abcc0444f3f60bc8aec6da65ed8adf8e9b74a7"), looks := false }, kinds := [], alts := [], laidByText := true, laidKinds := [.data, .data, .data], laidTests := true, laidLooks := .later }
def NumOnesUptoCardSaid : Prop := Claim7.holds Tryd.pinned (.plain (OpenSpec.upto numOnesSpec)) numOnesUptoCard

/-- THE SECOND FORM's CARD OF 'exitwavelaw1.NumExact'. -/
def numExactUptoCard : Claim7 := { stood := { row := numExactUptoRow, standIns := [], harness := (true, "8275f0a80bae1f37d5d65b8fb6abcc0444f3f60bc8aec6da65ed8adf8e9b74a7"), looks := false }, kinds := [], alts := [], laidByText := true, laidKinds := [.data, .data, .data], laidTests := true, laidLooks := .later }
def NumExactUptoCardSaid : Prop := Claim7.holds Tryd.pinned (.plain (OpenSpec.upto numExactSpec)) numExactUptoCard

/-- THE SECOND FORM's CARD OF 'exitwavelaw1.NumCompares'. -/
def numComparesUptoCard : Claim7 := { stood := { row := numComparesUptoRow, standIns := [], harness := (true, "8275f0a80bae1f37d5d65b8fb6abcc0444f3f60bc8aec6da65ed8adf8e9b74a7"), looks := false }, kinds := [], alts := [], laidByText := true, laidKinds := [.data, .data, .data], laidTests := true, laidLooks := .later }
def NumComparesUptoCardSaid : Prop := Claim7.holds Tryd.pinned (.plain (OpenSpec.upto numComparesSpec)) numComparesUptoCard

/-- THE SECOND FORM's CARD OF 'exitwavelaw1.NumFinite'. -/
def numFiniteUptoCard : Claim7 := { stood := { row := numFiniteUptoRow, standIns := [], harness := (true, "8275f0a80bae1f37d5d65b8fb6abcc0444f3f60bc8aec6da65ed8adf8e9b74a7"), looks := false }, kinds := [], alts := [], laidByText := true, laidKinds := [.data, .data, .data], laidTests := true, laidLooks := .later }
def NumFiniteUptoCardSaid : Prop := Claim7.holds Tryd.pinned (.plain (OpenSpec.upto numFiniteSpec)) numFiniteUptoCard
end Rows
end Go.Proofs.YtihkabgoaejcgaaDoor
