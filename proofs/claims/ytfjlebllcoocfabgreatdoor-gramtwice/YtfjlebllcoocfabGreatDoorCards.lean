/-
  DERIVED. GIVEN WITH THE SEED: THE CARDS: each row of YtfjlebllcoocfabGreatDoorRows.lean that lists a variable, with what it lists TIED to the program's text (the seventh form; the later family's looks); each row that meets fmt, with fmt's text TOLD by the authors' own Lean function (tested against real Go, not proved from fmt's source: count such statements apart). THE CARD IS WHAT COUNTS. Prove the row's statement (the work); the ties are given (YtfjlebllcoocfabGreatDoorTie.lean); close each card by the builder's one call (the guide's Derived/Test/ToyasCard.lean, 'card_holds'). Laid BY PROGRAM, IN A SANDBOX (cutbox-door.mjs). By AI agents, Wed Nov 11 2026. No macro, syntax, notation, axiom, sorry.
-/
import Derived.Test.YtfjlebllcoocfabGreatDoorRows
import GoSem.ClaimSeven
namespace Go.Proofs.YtfjlebllcoocfabGreatDoor
namespace Rows

/-- THE TIED CARD OF 'exitwavelaw6.GramBinds'. -/
def gramBindsCard : Claim7 := { stood := { row := gramBindsRow, standIns := [], harness := (true, "6ac9cba37b3ef8de46e7288bf25ae732010e70409dac0cea8a94700ec36396b0"), looks := true }, kinds := [], alts := [], laidByText := true, laidKinds := [.data, .data, .data, .data, .data, .pinned], laidTests := true, laidLooks := .later }
def GramBindsCardSaid : Prop := Claim7.holds Tryz.pinned (.plain (OpenSpec.ofChange gramBindsSpec)) gramBindsCard

/-- THE TIED CARD OF 'exitwavelaw6.GramTwice'. -/
def gramTwiceCard : Claim7 := { stood := { row := gramTwiceRow, standIns := [], harness := (true, "6ac9cba37b3ef8de46e7288bf25ae732010e70409dac0cea8a94700ec36396b0"), looks := true }, kinds := [], alts := [], laidByText := true, laidKinds := [.data, .data, .data, .data, .data, .pinned], laidTests := true, laidLooks := .later }
def GramTwiceCardSaid : Prop := Claim7.holds Tryz.pinned (.plain (OpenSpec.ofChange gramTwiceSpec)) gramTwiceCard

/-- THE SECOND FORM's CARD OF 'exitwavelaw6.GramBinds'. -/
def gramBindsUptoCard : Claim7 := { stood := { row := gramBindsUptoRow, standIns := [], harness := (true, "6ac9cba37b3ef8de46e7288bf25ae732010e70409dac0cea8a94700ec36396b0"), looks := true }, kinds := [], alts := [], laidByText := true, laidKinds := [.data, .data, .data, .data, .data, .pinned], laidTests := true, laidLooks := .later }
def GramBindsUptoCardSaid : Prop := Claim7.holds Tryz.pinned (.plain (OpenSpec.upto gramBindsSpec)) gramBindsUptoCard

/-- THE SECOND FORM's CARD OF 'exitwavelaw6.GramTwice'. -/
def gramTwiceUptoCard : Claim7 := { stood := { row := gramTwiceUptoRow, standIns := [], harness := (true, "6ac9cba37b3ef8de46e7288bf25ae732010e70409dac0cea8a94700ec36396b0"), looks := true }, kinds := [], alts := [], laidByText := true, laidKinds := [.data, .data, .data, .data, .data, .pinned], laidTests := true, laidLooks := .later }
def GramTwiceUptoCardSaid : Prop := Claim7.holds Tryz.pinned (.plain (OpenSpec.upto gramTwiceSpec)) gramTwiceUptoCard
end Rows
end Go.Proofs.YtfjlebllcoocfabGreatDoor
