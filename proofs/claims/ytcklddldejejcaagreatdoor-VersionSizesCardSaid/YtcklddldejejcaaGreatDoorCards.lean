/-
  DERIVED. GIVEN WITH THE SEED: THE CARDS: each row of YtcklddldejejcaaGreatDoorRows.lean that lists a variable, with what it lists TIED to the program's text (the seventh form; the later family's looks); each row that meets fmt, with fmt's text TOLD by the authors' own Lean function (tested against real Go, not proved from fmt's source: count such statements apart). THE CARD IS WHAT COUNTS. Prove the row's statement (the work); the ties are given (YtcklddldejejcaaGreatDoorTie.lean); close each card by the builder's one call (the guide's Derived/Test/ToyasCard.lean, 'card_holds'). Laid BY PROGRAM, IN A SANDBOX (cutbox-door.mjs). By AI agents, Wed Nov 11 2026. No macro, syntax, notation, axiom, sorry.
-/
import Derived.Test.YtcklddldejejcaaGreatDoorRows
import GoSem.ClaimSeven
namespace Go.Proofs.YtcklddldejejcaaGreatDoor
namespace Rows

/-- THE TIED CARD OF 'keyeventlaw09.VersionSizes'. -/
def versionSizesCard : Claim7 := { stood := { row := versionSizesRow, standIns := [], harness := (true, "b16b05a74e202f1ede657365b4135573ac728cfc3bf234c8a609e8d505eaebf5"), looks := true }, kinds := [], alts := [], laidByText := true, laidKinds := [.data, .data, .data, .data, .sentinel, .sentinel, .widerDeep, .pinned], laidTests := true, laidLooks := .later }
def VersionSizesCardSaid : Prop := Claim7.holds Tryz.pinned (.plain (OpenSpec.ofChange versionSizesSpec)) versionSizesCard

/-- THE TIED CARD OF 'keyeventlaw10.SaidPuts'. -/
def saidPutsCard : Claim7 := { stood := { row := saidPutsRow, standIns := [], harness := (true, "b16b05a74e202f1ede657365b4135573ac728cfc3bf234c8a609e8d505eaebf5"), looks := true }, kinds := [], alts := [], laidByText := true, laidKinds := [.data, .data, .data, .data, .data, .sentinel, .sentinel, .data, .data, .widerDeep, .pinned], laidTests := true, laidLooks := .later }
def SaidPutsCardSaid : Prop := Claim7.holds Tryz.pinned (.plain (OpenSpec.ofChange saidPutsSpec)) saidPutsCard

/-- THE TIED CARD OF 'keyeventlaw10.SaidChecks'. -/
def saidChecksCard : Claim7 := { stood := { row := saidChecksRow, standIns := [], harness := (true, "b16b05a74e202f1ede657365b4135573ac728cfc3bf234c8a609e8d505eaebf5"), looks := true }, kinds := [], alts := [], laidByText := true, laidKinds := [.data, .data, .data, .data, .data, .sentinel, .sentinel, .data, .data, .widerDeep, .pinned], laidTests := true, laidLooks := .later }
def SaidChecksCardSaid : Prop := Claim7.holds Tryz.pinned (.plain (OpenSpec.ofChange saidChecksSpec)) saidChecksCard

/-- THE TIED CARD OF 'keyeventlaw10.SaidBack'. -/
def saidBackCard : Claim7 := { stood := { row := saidBackRow, standIns := [], harness := (true, "b16b05a74e202f1ede657365b4135573ac728cfc3bf234c8a609e8d505eaebf5"), looks := true }, kinds := [], alts := [], laidByText := true, laidKinds := [.data, .data, .data, .data, .data, .sentinel, .sentinel, .data, .data, .widerDeep, .pinned], laidTests := true, laidLooks := .later }
def SaidBackCardSaid : Prop := Claim7.holds Tryz.pinned (.plain (OpenSpec.ofChange saidBackSpec)) saidBackCard

/-- THE TIED CARD OF 'keyeventlaw10.SaidForms'. -/
def saidFormsCard : Claim7 := { stood := { row := saidFormsRow, standIns := [], harness := (true, "b16b05a74e202f1ede657365b4135573ac728cfc3bf234c8a609e8d505eaebf5"), looks := true }, kinds := [], alts := [], laidByText := true, laidKinds := [.data, .data, .data, .data, .data, .sentinel, .sentinel, .data, .data, .widerDeep, .pinned], laidTests := true, laidLooks := .later }
def SaidFormsCardSaid : Prop := Claim7.holds Tryz.pinned (.plain (OpenSpec.ofChange saidFormsSpec)) saidFormsCard

/-- THE TIED CARD OF 'keyeventlaw10.SaidLabels'. -/
def saidLabelsCard : Claim7 := { stood := { row := saidLabelsRow, standIns := [], harness := (true, "b16b05a74e202f1ede657365b4135573ac728cfc3bf234c8a609e8d505eaebf5"), looks := true }, kinds := [], alts := [], laidByText := true, laidKinds := [.data, .data, .data, .data, .data, .sentinel, .sentinel, .data, .data, .widerDeep, .pinned], laidTests := true, laidLooks := .later }
def SaidLabelsCardSaid : Prop := Claim7.holds Tryz.pinned (.plain (OpenSpec.ofChange saidLabelsSpec)) saidLabelsCard

/-- THE SECOND FORM's CARD OF 'keyeventlaw09.VersionSizes'. -/
def versionSizesUptoCard : Claim7 := { stood := { row := versionSizesUptoRow, standIns := [], harness := (true, "b16b05a74e202f1ede657365b4135573ac728cfc3bf234c8a609e8d505eaebf5"), looks := true }, kinds := [], alts := [], laidByText := true, laidKinds := [.data, .data, .data, .data, .sentinel, .sentinel, .widerDeep, .pinned], laidTests := true, laidLooks := .later }
def VersionSizesUptoCardSaid : Prop := Claim7.holds Tryz.pinned (.plain (OpenSpec.upto versionSizesSpec)) versionSizesUptoCard

/-- THE SECOND FORM's CARD OF 'keyeventlaw10.SaidPuts'. -/
def saidPutsUptoCard : Claim7 := { stood := { row := saidPutsUptoRow, standIns := [], harness := (true, "b16b05a74e202f1ede657365b4135573ac728cfc3bf234c8a609e8d505eaebf5"), looks := true }, kinds := [], alts := [], laidByText := true, laidKinds := [.data, .data, .data, .data, .data, .sentinel, .sentinel, .data, .data, .widerDeep, .pinned], laidTests := true, laidLooks := .later }
def SaidPutsUptoCardSaid : Prop := Claim7.holds Tryz.pinned (.plain (OpenSpec.upto saidPutsSpec)) saidPutsUptoCard

/-- THE SECOND FORM's CARD OF 'keyeventlaw10.SaidChecks'. -/
def saidChecksUptoCard : Claim7 := { stood := { row := saidChecksUptoRow, standIns := [], harness := (true, "b16b05a74e202f1ede657365b4135573ac728cfc3bf234c8a609e8d505eaebf5"), looks := true }, kinds := [], alts := [], laidByText := true, laidKinds := [.data, .data, .data, .data, .data, .sentinel, .sentinel, .data, .data, .widerDeep, .pinned], laidTests := true, laidLooks := .later }
def SaidChecksUptoCardSaid : Prop := Claim7.holds Tryz.pinned (.plain (OpenSpec.upto saidChecksSpec)) saidChecksUptoCard

/-- THE SECOND FORM's CARD OF 'keyeventlaw10.SaidBack'. -/
def saidBackUptoCard : Claim7 := { stood := { row := saidBackUptoRow, standIns := [], harness := (true, "b16b05a74e202f1ede657365b4135573ac728cfc3bf234c8a609e8d505eaebf5"), looks := true }, kinds := [], alts := [], laidByText := true, laidKinds := [.data, .data, .data, .data, .data, .sentinel, .sentinel, .data, .data, .widerDeep, .pinned], laidTests := true, laidLooks := .later }
def SaidBackUptoCardSaid : Prop := Claim7.holds Tryz.pinned (.plain (OpenSpec.upto saidBackSpec)) saidBackUptoCard

/-- THE SECOND FORM's CARD OF 'keyeventlaw10.SaidForms'. -/
def saidFormsUptoCard : Claim7 := { stood := { row := saidFormsUptoRow, standIns := [], harness := (true, "b16b05a74e202f1ede657365b4135573ac728cfc3bf234c8a609e8d505eaebf5"), looks := true }, kinds := [], alts := [], laidByText := true, laidKinds := [.data, .data, .data, .data, .data, .sentinel, .sentinel, .data, .data, .widerDeep, .pinned], laidTests := true, laidLooks := .later }
def SaidFormsUptoCardSaid : Prop := Claim7.holds Tryz.pinned (.plain (OpenSpec.upto saidFormsSpec)) saidFormsUptoCard

/-- THE SECOND FORM's CARD OF 'keyeventlaw10.SaidLabels'. -/
def saidLabelsUptoCard : Claim7 := { stood := { row := saidLabelsUptoRow, standIns := [], harness := (true, "b16b05a74e202f1ede657365b4135573ac728cfc3bf234c8a609e8d505eaebf5"), looks := true }, kinds := [], alts := [], laidByText := true, laidKinds := [.data, .data, .data, .data, .data, .sentinel, .sentinel, .data, .data, .widerDeep, .pinned], laidTests := true, laidLooks := .later }
def SaidLabelsUptoCardSaid : Prop := Claim7.holds Tryz.pinned (.plain (OpenSpec.upto saidLabelsSpec)) saidLabelsUptoCard
end Rows
end Go.Proofs.YtcklddldejejcaaGreatDoor
