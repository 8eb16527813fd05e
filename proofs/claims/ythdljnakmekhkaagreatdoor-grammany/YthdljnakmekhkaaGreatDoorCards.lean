/-
  DERIVED. GIVEN WITH THE SEED: THE CARDS: each row of YthdljnakmekhkaaGreatDoorRows.lean that lists a variable, with what it lists TIED to the program's text (the seventh form; the later family's looks); each row that meets fmt, with fmt's text TOLD by the authors' own Lean function (tested against real Go, not proved from fmt's source: count such statements apart). THE CARD IS WHAT COUNTS. Prove the row's statement (the work); the ties are given (YthdljnakmekhkaaGreatDoorTie.lean); close each card by the builder's one call (the guide's Derived/Test/ToyasCard.lean, 'card_holds'). Laid BY PROGRAM, IN A SANDBOX (cutbox-door.mjs). By AI agents, Wed Nov 11 2026. No macro, syntax, notation, axiom, sorry.
-/
import Derived.Test.YthdljnakmekhkaaGreatDoorRows
import GoSem.ClaimSeven
namespace Go.Proofs.YthdljnakmekhkaaGreatDoor
namespace Rows

/-- THE TIED CARD OF 'exitwavelaw6.GramParses'. -/
def gramParsesCard : Claim7 := { stood := { row := gramParsesRow, standIns := [], harness := (true, "9666b61f1e96b6f092505be746c42868db6f4308b9d3e8db67e0f5a175c1eb33"), looks := true }, kinds := [], alts := [], laidByText := true, laidKinds := [.data, .data, .data, .data, .data, .pinned], laidTests := true, laidLooks := .later }
def GramParsesCardSaid : Prop := Claim7.holds Tryz.pinned (.plain (OpenSpec.ofChange gramParsesSpec)) gramParsesCard

/-- THE TIED CARD OF 'exitwavelaw6.GramDeep'. -/
def gramDeepCard : Claim7 := { stood := { row := gramDeepRow, standIns := [], harness := (true, "9666b61f1e96b6f092505be746c42868db6f4308b9d3e8db67e0f5a175c1eb33"), looks := true }, kinds := [], alts := [], laidByText := true, laidKinds := [.data, .data, .data, .data, .data, .pinned], laidTests := true, laidLooks := .later }
def GramDeepCardSaid : Prop := Claim7.holds Tryz.pinned (.plain (OpenSpec.ofChange gramDeepSpec)) gramDeepCard

/-- THE TIED CARD OF 'exitwavelaw6.GramMany'. -/
def gramManyCard : Claim7 := { stood := { row := gramManyRow, standIns := [], harness := (true, "9666b61f1e96b6f092505be746c42868db6f4308b9d3e8db67e0f5a175c1eb33"), looks := true }, kinds := [], alts := [], laidByText := true, laidKinds := [.data, .data, .data, .data, .data, .pinned], laidTests := true, laidLooks := .later }
def GramManyCardSaid : Prop := Claim7.holds Tryz.pinned (.plain (OpenSpec.ofChange gramManySpec)) gramManyCard

/-- THE TIED CARD OF 'exitwavelaw6.GramBlanks'. -/
def gramBlanksCard : Claim7 := { stood := { row := gramBlanksRow, standIns := [], harness := (true, "9666b61f1e96b6f092505be746c42868db6f4308b9d3e8db67e0f5a175c1eb33"), looks := true }, kinds := [], alts := [], laidByText := true, laidKinds := [.data, .data, .data, .data, .data, .pinned], laidTests := true, laidLooks := .later }
def GramBlanksCardSaid : Prop := Claim7.holds Tryz.pinned (.plain (OpenSpec.ofChange gramBlanksSpec)) gramBlanksCard

/-- THE TIED CARD OF 'exitwavelaw6.GramBrackets'. -/
def gramBracketsCard : Claim7 := { stood := { row := gramBracketsRow, standIns := [], harness := (true, "9666b61f1e96b6f092505be746c42868db6f4308b9d3e8db67e0f5a175c1eb33"), looks := true }, kinds := [], alts := [], laidByText := true, laidKinds := [.data, .data, .data, .data, .data, .pinned], laidTests := true, laidLooks := .later }
def GramBracketsCardSaid : Prop := Claim7.holds Tryz.pinned (.plain (OpenSpec.ofChange gramBracketsSpec)) gramBracketsCard

/-- THE TIED CARD OF 'exitwavelaw6.GramTree'. -/
def gramTreeCard : Claim7 := { stood := { row := gramTreeRow, standIns := [], harness := (true, "9666b61f1e96b6f092505be746c42868db6f4308b9d3e8db67e0f5a175c1eb33"), looks := true }, kinds := [], alts := [], laidByText := true, laidKinds := [.data, .data, .data, .data, .data, .pinned], laidTests := true, laidLooks := .later }
def GramTreeCardSaid : Prop := Claim7.holds Tryz.pinned (.plain (OpenSpec.ofChange gramTreeSpec)) gramTreeCard

/-- THE SECOND FORM's CARD OF 'exitwavelaw6.GramParses'. -/
def gramParsesUptoCard : Claim7 := { stood := { row := gramParsesUptoRow, standIns := [], harness := (true, "9666b61f1e96b6f092505be746c42868db6f4308b9d3e8db67e0f5a175c1eb33"), looks := true }, kinds := [], alts := [], laidByText := true, laidKinds := [.data, .data, .data, .data, .data, .pinned], laidTests := true, laidLooks := .later }
def GramParsesUptoCardSaid : Prop := Claim7.holds Tryz.pinned (.plain (OpenSpec.upto gramParsesSpec)) gramParsesUptoCard

/-- THE SECOND FORM's CARD OF 'exitwavelaw6.GramDeep'. -/
def gramDeepUptoCard : Claim7 := { stood := { row := gramDeepUptoRow, standIns := [], harness := (true, "9666b61f1e96b6f092505be746c42868db6f4308b9d3e8db67e0f5a175c1eb33"), looks := true }, kinds := [], alts := [], laidByText := true, laidKinds := [.data, .data, .data, .data, .data, .pinned], laidTests := true, laidLooks := .later }
def GramDeepUptoCardSaid : Prop := Claim7.holds Tryz.pinned (.plain (OpenSpec.upto gramDeepSpec)) gramDeepUptoCard

/-- THE SECOND FORM's CARD OF 'exitwavelaw6.GramMany'. -/
def gramManyUptoCard : Claim7 := { stood := { row := gramManyUptoRow, standIns := [], harness := (true, "9666b61f1e96b6f092505be746c42868db6f4308b9d3e8db67e0f5a175c1eb33"), looks := true }, kinds := [], alts := [], laidByText := true, laidKinds := [.data, .data, .data, .data, .data, .pinned], laidTests := true, laidLooks := .later }
def GramManyUptoCardSaid : Prop := Claim7.holds Tryz.pinned (.plain (OpenSpec.upto gramManySpec)) gramManyUptoCard

/-- THE SECOND FORM's CARD OF 'exitwavelaw6.GramBlanks'. -/
def gramBlanksUptoCard : Claim7 := { stood := { row := gramBlanksUptoRow, standIns := [], harness := (true, "9666b61f1e96b6f092505be746c42868db6f4308b9d3e8db67e0f5a175c1eb33"), looks := true }, kinds := [], alts := [], laidByText := true, laidKinds := [.data, .data, .data, .data, .data, .pinned], laidTests := true, laidLooks := .later }
def GramBlanksUptoCardSaid : Prop := Claim7.holds Tryz.pinned (.plain (OpenSpec.upto gramBlanksSpec)) gramBlanksUptoCard

/-- THE SECOND FORM's CARD OF 'exitwavelaw6.GramBrackets'. -/
def gramBracketsUptoCard : Claim7 := { stood := { row := gramBracketsUptoRow, standIns := [], harness := (true, "9666b61f1e96b6f092505be746c42868db6f4308b9d3e8db67e0f5a175c1eb33"), looks := true }, kinds := [], alts := [], laidByText := true, laidKinds := [.data, .data, .data, .data, .data, .pinned], laidTests := true, laidLooks := .later }
def GramBracketsUptoCardSaid : Prop := Claim7.holds Tryz.pinned (.plain (OpenSpec.upto gramBracketsSpec)) gramBracketsUptoCard

/-- THE SECOND FORM's CARD OF 'exitwavelaw6.GramTree'. -/
def gramTreeUptoCard : Claim7 := { stood := { row := gramTreeUptoRow, standIns := [], harness := (true, "9666b61f1e96b6f092505be746c42868db6f4308b9d3e8db67e0f5a175c1eb33"), looks := true }, kinds := [], alts := [], laidByText := true, laidKinds := [.data, .data, .data, .data, .data, .pinned], laidTests := true, laidLooks := .later }
def GramTreeUptoCardSaid : Prop := Claim7.holds Tryz.pinned (.plain (OpenSpec.upto gramTreeSpec)) gramTreeUptoCard
end Rows
end Go.Proofs.YthdljnakmekhkaaGreatDoor
