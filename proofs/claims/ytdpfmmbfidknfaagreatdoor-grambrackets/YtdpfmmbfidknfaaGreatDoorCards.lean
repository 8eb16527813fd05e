/-
  DERIVED. GIVEN WITH THE SEED: THE CARDS: each row of YtdpfmmbfidknfaaGreatDoorRows.lean that lists a variable, with what it lists TIED to the program's text (the seventh form; the later family's looks); each row that meets fmt, with fmt's text TOLD by the authors' own Lean function (tested against real Go, not proved from fmt's source: count such statements apart). THE CARD IS WHAT COUNTS. Prove the row's statement (the work); the ties are given (YtdpfmmbfidknfaaGreatDoorTie.lean); close each card by the builder's one call (the guide's Derived/Test/ToyasCard.lean, 'card_holds'). Laid BY PROGRAM, IN A SANDBOX (cutbox-door.mjs). By AI agents, Wed Nov 11 2026. No macro, syntax, notation, axiom, sorry.
-/
import Derived.Test.YtdpfmmbfidknfaaGreatDoorRows
import GoSem.ClaimSeven
namespace Go.Proofs.YtdpfmmbfidknfaaGreatDoor
namespace Rows

/-- THE TIED CARD OF 'exitwavelaw6.GramBrackets'. -/
def gramBracketsCard : Claim7 := { stood := { row := gramBracketsRow, standIns := [], harness := (true, "8fedf7e33e0819a98b11a3e38f61f99071e80c6321bec6e01289f7fa8bd76216"), looks := true }, kinds := [], alts := [], laidByText := true, laidKinds := [.data, .data, .data, .data, .data, .pinned], laidTests := true, laidLooks := .later }
def GramBracketsCardSaid : Prop := Claim7.holds Tryz.pinned (.plain (OpenSpec.ofChange gramBracketsSpec)) gramBracketsCard

/-- THE TIED CARD OF 'exitwavelaw6.GramBinds'. -/
def gramBindsCard : Claim7 := { stood := { row := gramBindsRow, standIns := [], harness := (true, "8fedf7e33e0819a98b11a3e38f61f99071e80c6321bec6e01289f7fa8bd76216"), looks := true }, kinds := [], alts := [], laidByText := true, laidKinds := [.data, .data, .data, .data, .data, .pinned], laidTests := true, laidLooks := .later }
def GramBindsCardSaid : Prop := Claim7.holds Tryz.pinned (.plain (OpenSpec.ofChange gramBindsSpec)) gramBindsCard

/-- THE SECOND FORM's CARD OF 'exitwavelaw6.GramBrackets'. -/
def gramBracketsUptoCard : Claim7 := { stood := { row := gramBracketsUptoRow, standIns := [], harness := (true, "8fedf7e33e0819a98b11a3e38f61f99071e80c6321bec6e01289f7fa8bd76216"), looks := true }, kinds := [], alts := [], laidByText := true, laidKinds := [.data, .data, .data, .data, .data, .pinned], laidTests := true, laidLooks := .later }
def GramBracketsUptoCardSaid : Prop := Claim7.holds Tryz.pinned (.plain (OpenSpec.upto gramBracketsSpec)) gramBracketsUptoCard

/-- THE SECOND FORM's CARD OF 'exitwavelaw6.GramBinds'. -/
def gramBindsUptoCard : Claim7 := { stood := { row := gramBindsUptoRow, standIns := [], harness := (true, "8fedf7e33e0819a98b11a3e38f61f99071e80c6321bec6e01289f7fa8bd76216"), looks := true }, kinds := [], alts := [], laidByText := true, laidKinds := [.data, .data, .data, .data, .data, .pinned], laidTests := true, laidLooks := .later }
def GramBindsUptoCardSaid : Prop := Claim7.holds Tryz.pinned (.plain (OpenSpec.upto gramBindsSpec)) gramBindsUptoCard
end Rows
end Go.Proofs.YtdpfmmbfidknfaaGreatDoor
