/-
  DERIVED. GIVEN WITH THE SEED: THE CARDS: each row of YtajadhkpadkikaaGreatDoorRows.lean that lists a variable, with what it lists TIED to the program's text (the seventh form; the later family's looks); each row that meets fmt, with fmt's text TOLD by the authors' own Lean function (tested against real Go, not proved from fmt's source: count such statements apart). THE CARD IS WHAT COUNTS. Prove the row's statement (the work); the ties are given (YtajadhkpadkikaaGreatDoorTie.lean); close each card by the builder's one call (the guide's Derived/Test/ToyasCard.lean, 'card_holds'). Laid BY PROGRAM, IN A SANDBOX (cutbox-door.mjs). By AI agents, Wed Nov 11 2026. No macro, syntax, notation, axiom, sorry.
-/
import Derived.Test.YtajadhkpadkikaaGreatDoorRows
import GoSem.ClaimSeven
namespace Go.Proofs.YtajadhkpadkikaaGreatDoor
namespace Rows

/-- THE TIED CARD OF 'exitwavelaw9.BifBack'. -/
def bifBackCard : Claim7 := { stood := { row := bifBackRow, standIns := [], harness := (true, "4b8f7294637ab60476fa45ec9e8feb7ce5781e61803f8ed5c3d7a2a149a05cfa"), looks := true }, kinds := [], alts := [], laidByText := true, laidKinds := [.data, .data, .data, .data, .sentinel, .sentinel, .pinned], laidTests := true, laidLooks := .later }
def BifBackCardSaid : Prop := Claim7.holds Tryz.pinned (.plain (OpenSpec.ofChange bifBackSpec)) bifBackCard

/-- THE TIED CARD OF 'exitwavelaw9.BifOrders'. -/
def bifOrdersCard : Claim7 := { stood := { row := bifOrdersRow, standIns := [], harness := (true, "4b8f7294637ab60476fa45ec9e8feb7ce5781e61803f8ed5c3d7a2a149a05cfa"), looks := true }, kinds := [], alts := [], laidByText := true, laidKinds := [.data, .data, .data, .data, .sentinel, .sentinel, .pinned], laidTests := true, laidLooks := .later }
def BifOrdersCardSaid : Prop := Claim7.holds Tryz.pinned (.plain (OpenSpec.ofChange bifOrdersSpec)) bifOrdersCard

/-- THE TIED CARD OF 'exitwavelaw9.BifRight'. -/
def bifRightCard : Claim7 := { stood := { row := bifRightRow, standIns := [], harness := (true, "4b8f7294637ab60476fa45ec9e8feb7ce5781e61803f8ed5c3d7a2a149a05cfa"), looks := true }, kinds := [], alts := [], laidByText := true, laidKinds := [.data, .data, .data, .data, .sentinel, .sentinel, .pinned], laidTests := true, laidLooks := .later }
def BifRightCardSaid : Prop := Claim7.holds Tryz.pinned (.plain (OpenSpec.ofChange bifRightSpec)) bifRightCard

/-- THE TIED CARD OF 'exitwavelaw9.BifPlaces'. -/
def bifPlacesCard : Claim7 := { stood := { row := bifPlacesRow, standIns := [], harness := (true, "4b8f7294637ab60476fa45ec9e8feb7ce5781e61803f8ed5c3d7a2a149a05cfa"), looks := true }, kinds := [], alts := [], laidByText := true, laidKinds := [.data, .data, .data, .data, .sentinel, .sentinel, .pinned], laidTests := true, laidLooks := .later }
def BifPlacesCardSaid : Prop := Claim7.holds Tryz.pinned (.plain (OpenSpec.ofChange bifPlacesSpec)) bifPlacesCard

/-- THE SECOND FORM's CARD OF 'exitwavelaw9.BifBack'. -/
def bifBackUptoCard : Claim7 := { stood := { row := bifBackUptoRow, standIns := [], harness := (true, "4b8f7294637ab60476fa45ec9e8feb7ce5781e61803f8ed5c3d7a2a149a05cfa"), looks := true }, kinds := [], alts := [], laidByText := true, laidKinds := [.data, .data, .data, .data, .sentinel, .sentinel, .pinned], laidTests := true, laidLooks := .later }
def BifBackUptoCardSaid : Prop := Claim7.holds Tryz.pinned (.plain (OpenSpec.upto bifBackSpec)) bifBackUptoCard

/-- THE SECOND FORM's CARD OF 'exitwavelaw9.BifOrders'. -/
def bifOrdersUptoCard : Claim7 := { stood := { row := bifOrdersUptoRow, standIns := [], harness := (true, "4b8f7294637ab60476fa45ec9e8feb7ce5781e61803f8ed5c3d7a2a149a05cfa"), looks := true }, kinds := [], alts := [], laidByText := true, laidKinds := [.data, .data, .data, .data, .sentinel, .sentinel, .pinned], laidTests := true, laidLooks := .later }
def BifOrdersUptoCardSaid : Prop := Claim7.holds Tryz.pinned (.plain (OpenSpec.upto bifOrdersSpec)) bifOrdersUptoCard

/-- THE SECOND FORM's CARD OF 'exitwavelaw9.BifRight'. -/
def bifRightUptoCard : Claim7 := { stood := { row := bifRightUptoRow, standIns := [], harness := (true, "4b8f7294637ab60476fa45ec9e8feb7ce5781e61803f8ed5c3d7a2a149a05cfa"), looks := true }, kinds := [], alts := [], laidByText := true, laidKinds := [.data, .data, .data, .data, .sentinel, .sentinel, .pinned], laidTests := true, laidLooks := .later }
def BifRightUptoCardSaid : Prop := Claim7.holds Tryz.pinned (.plain (OpenSpec.upto bifRightSpec)) bifRightUptoCard

/-- THE SECOND FORM's CARD OF 'exitwavelaw9.BifPlaces'. -/
def bifPlacesUptoCard : Claim7 := { stood := { row := bifPlacesUptoRow, standIns := [], harness := (true, "4b8f7294637ab60476fa45ec9e8feb7ce5781e61803f8ed5c3d7a2a149a05cfa"), looks := true }, kinds := [], alts := [], laidByText := true, laidKinds := [.data, .data, .data, .data, .sentinel, .sentinel, .pinned], laidTests := true, laidLooks := .later }
def BifPlacesUptoCardSaid : Prop := Claim7.holds Tryz.pinned (.plain (OpenSpec.upto bifPlacesSpec)) bifPlacesUptoCard
end Rows
end Go.Proofs.YtajadhkpadkikaaGreatDoor
