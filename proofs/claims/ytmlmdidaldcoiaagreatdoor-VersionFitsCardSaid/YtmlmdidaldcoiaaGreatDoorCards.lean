/-
  DERIVED. GIVEN WITH THE SEED: THE CARDS: each row of YtmlmdidaldcoiaaGreatDoorRows.lean that lists a variable, with what it lists TIED to the program's text (the seventh form; the later family's looks); each row that meets fmt, with fmt's text TOLD by the authors' own Lean function (tested against real Go, not proved from fmt's source: count such statements apart). THE CARD IS WHAT COUNTS. Prove the row's statement (the work); the ties are given (YtmlmdidaldcoiaaGreatDoorTie.lean); close each card by the builder's one call (the guide's Derived/Test/ToyasCard.lean, 'card_holds'). Laid BY PROGRAM, IN A SANDBOX (cutbox-door.mjs). By AI agents, Wed Nov 11 2026. No macro, syntax, notation, axiom, sorry.
-/
import Derived.Test.YtmlmdidaldcoiaaGreatDoorRows
import GoSem.ClaimSeven
namespace Go.Proofs.YtmlmdidaldcoiaaGreatDoor
namespace Rows

/-- THE TIED CARD OF 'keyeventlaw09.VersionFits'. -/
def versionFitsCard : Claim7 := { stood := { row := versionFitsRow, standIns := [], harness := (true, "cd179c08c9443f6606cb2e8e83627caafba7574d0ef2d2756d593d365ebadda8"), looks := true }, kinds := [], alts := [], laidByText := true, laidKinds := [.data, .data, .data, .data, .sentinel, .sentinel, .widerDeep, .pinned], laidTests := true, laidLooks := .later }
def VersionFitsCardSaid : Prop := Claim7.holds Tryz.pinned (.plain (OpenSpec.ofChange versionFitsSpec)) versionFitsCard

/-- THE TIED CARD OF 'keyeventlaw09.VersionSizes'. -/
def versionSizesCard : Claim7 := { stood := { row := versionSizesRow, standIns := [], harness := (true, "cd179c08c9443f6606cb2e8e83627caafba7574d0ef2d2756d593d365ebadda8"), looks := true }, kinds := [], alts := [], laidByText := true, laidKinds := [.data, .data, .data, .data, .sentinel, .sentinel, .widerDeep, .pinned], laidTests := true, laidLooks := .later }
def VersionSizesCardSaid : Prop := Claim7.holds Tryz.pinned (.plain (OpenSpec.ofChange versionSizesSpec)) versionSizesCard

/-- THE SECOND FORM's CARD OF 'keyeventlaw09.VersionFits'. -/
def versionFitsUptoCard : Claim7 := { stood := { row := versionFitsUptoRow, standIns := [], harness := (true, "cd179c08c9443f6606cb2e8e83627caafba7574d0ef2d2756d593d365ebadda8"), looks := true }, kinds := [], alts := [], laidByText := true, laidKinds := [.data, .data, .data, .data, .sentinel, .sentinel, .widerDeep, .pinned], laidTests := true, laidLooks := .later }
def VersionFitsUptoCardSaid : Prop := Claim7.holds Tryz.pinned (.plain (OpenSpec.upto versionFitsSpec)) versionFitsUptoCard

/-- THE SECOND FORM's CARD OF 'keyeventlaw09.VersionSizes'. -/
def versionSizesUptoCard : Claim7 := { stood := { row := versionSizesUptoRow, standIns := [], harness := (true, "cd179c08c9443f6606cb2e8e83627caafba7574d0ef2d2756d593d365ebadda8"), looks := true }, kinds := [], alts := [], laidByText := true, laidKinds := [.data, .data, .data, .data, .sentinel, .sentinel, .widerDeep, .pinned], laidTests := true, laidLooks := .later }
def VersionSizesUptoCardSaid : Prop := Claim7.holds Tryz.pinned (.plain (OpenSpec.upto versionSizesSpec)) versionSizesUptoCard
end Rows
end Go.Proofs.YtmlmdidaldcoiaaGreatDoor
