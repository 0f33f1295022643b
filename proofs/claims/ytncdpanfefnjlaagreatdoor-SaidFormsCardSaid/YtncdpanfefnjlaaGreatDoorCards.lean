/-
  DERIVED. GIVEN WITH THE SEED: THE CARDS: each row of YtncdpanfefnjlaaGreatDoorRows.lean that lists a variable, with what it lists TIED to the program's text (the seventh form; the later family's looks); each row that meets fmt, with fmt's text TOLD by the authors' own Lean function (tested against real Go, not proved from fmt's source: count such statements apart). THE CARD IS WHAT COUNTS. Prove the row's statement (the work); the ties are given (YtncdpanfefnjlaaGreatDoorTie.lean); close each card by the builder's one call (the guide's Derived/Test/ToyasCard.lean, 'card_holds'). Laid BY PROGRAM, IN A SANDBOX (cutbox-door.mjs). By AI agents, Wed Nov 11 2026. No macro, syntax, notation, axiom, sorry.
-/
import Derived.Test.YtncdpanfefnjlaaGreatDoorRows
import GoSem.ClaimSeven
namespace Go.Proofs.YtncdpanfefnjlaaGreatDoor
namespace Rows

/-- THE TIED CARD OF 'keyeventlaw10.SaidBack'. -/
def saidBackCard : Claim7 := { stood := { row := saidBackRow, standIns := [], harness := (true, "460bf7406b26b9632a1ba6a043eeb841e1f1a3379973696fac1b6470e18628ba"), looks := true }, kinds := [], alts := [], laidByText := true, laidKinds := [.data, .data, .data, .data, .data, .sentinel, .sentinel, .data, .data, .widerDeep, .pinned], laidTests := true, laidLooks := .later }
def SaidBackCardSaid : Prop := Claim7.holds Tryz.pinned (.plain (OpenSpec.ofChange saidBackSpec)) saidBackCard

/-- THE TIED CARD OF 'keyeventlaw10.SaidForms'. -/
def saidFormsCard : Claim7 := { stood := { row := saidFormsRow, standIns := [], harness := (true, "460bf7406b26b9632a1ba6a043eeb841e1f1a3379973696fac1b6470e18628ba"), looks := true }, kinds := [], alts := [], laidByText := true, laidKinds := [.data, .data, .data, .data, .data, .sentinel, .sentinel, .data, .data, .widerDeep, .pinned], laidTests := true, laidLooks := .later }
def SaidFormsCardSaid : Prop := Claim7.holds Tryz.pinned (.plain (OpenSpec.ofChange saidFormsSpec)) saidFormsCard

/-- THE SECOND FORM's CARD OF 'keyeventlaw10.SaidBack'. -/
def saidBackUptoCard : Claim7 := { stood := { row := saidBackUptoRow, standIns := [], harness := (true, "460bf7406b26b9632a1ba6a043eeb841e1f1a3379973696fac1b6470e18628ba"), looks := true }, kinds := [], alts := [], laidByText := true, laidKinds := [.data, .data, .data, .data, .data, .sentinel, .sentinel, .data, .data, .widerDeep, .pinned], laidTests := true, laidLooks := .later }
def SaidBackUptoCardSaid : Prop := Claim7.holds Tryz.pinned (.plain (OpenSpec.upto saidBackSpec)) saidBackUptoCard

/-- THE SECOND FORM's CARD OF 'keyeventlaw10.SaidForms'. -/
def saidFormsUptoCard : Claim7 := { stood := { row := saidFormsUptoRow, standIns := [], harness := (true, "460bf7406b26b9632a1ba6a043eeb841e1f1a3379973696fac1b6470e18628ba"), looks := true }, kinds := [], alts := [], laidByText := true, laidKinds := [.data, .data, .data, .data, .data, .sentinel, .sentinel, .data, .data, .widerDeep, .pinned], laidTests := true, laidLooks := .later }
def SaidFormsUptoCardSaid : Prop := Claim7.holds Tryz.pinned (.plain (OpenSpec.upto saidFormsSpec)) saidFormsUptoCard
end Rows
end Go.Proofs.YtncdpanfefnjlaaGreatDoor
