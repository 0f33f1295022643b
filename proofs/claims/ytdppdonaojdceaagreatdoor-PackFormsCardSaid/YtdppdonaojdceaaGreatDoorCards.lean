/-
  DERIVED. GIVEN WITH THE SEED: THE CARDS: each row of YtdppdonaojdceaaGreatDoorRows.lean that lists a variable, with what it lists TIED to the program's text (the seventh form; the later family's looks); each row that meets fmt, with fmt's text TOLD by the authors' own Lean function (tested against real Go, not proved from fmt's source: count such statements apart). THE CARD IS WHAT COUNTS. Prove the row's statement (the work); the ties are given (YtdppdonaojdceaaGreatDoorTie.lean); close each card by the builder's one call (the guide's Derived/Test/ToyasCard.lean, 'card_holds'). Laid BY PROGRAM, IN A SANDBOX (cutbox-door.mjs). By AI agents, Wed Nov 11 2026. No macro, syntax, notation, axiom, sorry.
-/
import Derived.Test.YtdppdonaojdceaaGreatDoorRows
import GoSem.ClaimSeven
namespace Go.Proofs.YtdppdonaojdceaaGreatDoor
namespace Rows

/-- THE TIED CARD OF 'keyeventlaw08.PackForms'. -/
def packFormsCard : Claim7 := { stood := { row := packFormsRow, standIns := [], harness := (true, "26e51d17444faee7bace54dc36035f904f235974de735d02c0c464ea23b0d3d7"), looks := true }, kinds := [], alts := [], laidByText := true, laidKinds := [.data, .data, .data, .data, .sentinel, .sentinel, .widerDeep, .pinned], laidTests := true, laidLooks := .later }
def PackFormsCardSaid : Prop := Claim7.holds Tryz.pinned (.plain (OpenSpec.ofChange packFormsSpec)) packFormsCard

/-- THE TIED CARD OF 'keyeventlaw08.PackTurns'. -/
def packTurnsCard : Claim7 := { stood := { row := packTurnsRow, standIns := [], harness := (true, "26e51d17444faee7bace54dc36035f904f235974de735d02c0c464ea23b0d3d7"), looks := true }, kinds := [], alts := [], laidByText := true, laidKinds := [.data, .data, .data, .data, .sentinel, .sentinel, .widerDeep, .pinned], laidTests := true, laidLooks := .later }
def PackTurnsCardSaid : Prop := Claim7.holds Tryz.pinned (.plain (OpenSpec.ofChange packTurnsSpec)) packTurnsCard

/-- THE SECOND FORM's CARD OF 'keyeventlaw08.PackForms'. -/
def packFormsUptoCard : Claim7 := { stood := { row := packFormsUptoRow, standIns := [], harness := (true, "26e51d17444faee7bace54dc36035f904f235974de735d02c0c464ea23b0d3d7"), looks := true }, kinds := [], alts := [], laidByText := true, laidKinds := [.data, .data, .data, .data, .sentinel, .sentinel, .widerDeep, .pinned], laidTests := true, laidLooks := .later }
def PackFormsUptoCardSaid : Prop := Claim7.holds Tryz.pinned (.plain (OpenSpec.upto packFormsSpec)) packFormsUptoCard

/-- THE SECOND FORM's CARD OF 'keyeventlaw08.PackTurns'. -/
def packTurnsUptoCard : Claim7 := { stood := { row := packTurnsUptoRow, standIns := [], harness := (true, "26e51d17444faee7bace54dc36035f904f235974de735d02c0c464ea23b0d3d7"), looks := true }, kinds := [], alts := [], laidByText := true, laidKinds := [.data, .data, .data, .data, .sentinel, .sentinel, .widerDeep, .pinned], laidTests := true, laidLooks := .later }
def PackTurnsUptoCardSaid : Prop := Claim7.holds Tryz.pinned (.plain (OpenSpec.upto packTurnsSpec)) packTurnsUptoCard
end Rows
end Go.Proofs.YtdppdonaojdceaaGreatDoor
