/-
  DERIVED. GIVEN WITH THE SEED: THE CARDS: each row of YtpophimnoakinaaDoorRows.lean that lists a variable, with what it lists TIED to the program's text (the seventh form; the later family's looks); each row that meets fmt, with fmt's text TOLD by the authors' own Lean function (tested against real Go, not proved from fmt's source: count such statements apart). THE CARD IS WHAT COUNTS. Prove the row's statement (the work); the ties are given (YtpophimnoakinaaDoorTie.lean); close each card by the builder's one call (the guide's Derived/Test/ToyasCard.lean, 'card_holds'). Laid BY PROGRAM, IN A SANDBOX (cutbox-door.mjs). By AI agents, Wed Nov 11 2026. No macro, syntax, notation, axiom, sorry.
-/
import Derived.Test.YtpophimnoakinaaDoorRows
import GoSem.ClaimSeven
namespace Go.Proofs.YtpophimnoakinaaDoor
namespace Rows

/-- THE TIED CARD OF 'keyeventlaw12.KeytreeActs'. -/
def keytreeActsCard : Claim7 := { stood := { row := keytreeActsRow, standIns := [], harness := (true, "ade5b854a267a608be05b1af9b644792bed115e13889b5ebdd34177949e45148"), looks := false }, kinds := [], alts := [], laidByText := true, laidKinds := [.called, .data, .data, .data], laidTests := true, laidLooks := .later }
def KeytreeActsCardSaid : Prop := Claim7.holds Tryd.pinned (.plain (OpenSpec.ofChange keytreeActsSpec)) keytreeActsCard

/-- THE TIED CARD OF 'keyeventlaw12.KeytreeSigns'. -/
def keytreeSignsCard : Claim7 := { stood := { row := keytreeSignsRow, standIns := [], harness := (true, "ade5b854a267a608be05b1af9b644792bed115e13889b5ebdd34177949e45148"), looks := false }, kinds := [], alts := [], laidByText := true, laidKinds := [.called, .data, .data, .data], laidTests := true, laidLooks := .later }
def KeytreeSignsCardSaid : Prop := Claim7.holds Tryd.pinned (.plain (OpenSpec.ofChange keytreeSignsSpec)) keytreeSignsCard

/-- THE TIED CARD OF 'keyeventlaw12.KeytreeLeaves'. -/
def keytreeLeavesCard : Claim7 := { stood := { row := keytreeLeavesRow, standIns := [], harness := (true, "ade5b854a267a608be05b1af9b644792bed115e13889b5ebdd34177949e45148"), looks := false }, kinds := [], alts := [], laidByText := true, laidKinds := [.called, .data, .data, .data], laidTests := true, laidLooks := .later }
def KeytreeLeavesCardSaid : Prop := Claim7.holds Tryd.pinned (.plain (OpenSpec.ofChange keytreeLeavesSpec)) keytreeLeavesCard

/-- THE TIED CARD OF 'keyeventlaw12.KeytreeUses'. -/
def keytreeUsesCard : Claim7 := { stood := { row := keytreeUsesRow, standIns := [], harness := (true, "ade5b854a267a608be05b1af9b644792bed115e13889b5ebdd34177949e45148"), looks := false }, kinds := [], alts := [], laidByText := true, laidKinds := [.called, .data, .data, .data], laidTests := true, laidLooks := .later }
def KeytreeUsesCardSaid : Prop := Claim7.holds Tryd.pinned (.plain (OpenSpec.ofChange keytreeUsesSpec)) keytreeUsesCard

/-- THE SECOND FORM's CARD OF 'keyeventlaw12.KeytreeActs'. -/
def keytreeActsUptoCard : Claim7 := { stood := { row := keytreeActsUptoRow, standIns := [], harness := (true, "ade5b854a267a608be05b1af9b644792bed115e13889b5ebdd34177949e45148"), looks := false }, kinds := [], alts := [], laidByText := true, laidKinds := [.called, .data, .data, .data], laidTests := true, laidLooks := .later }
def KeytreeActsUptoCardSaid : Prop := Claim7.holds Tryd.pinned (.plain (OpenSpec.upto keytreeActsSpec)) keytreeActsUptoCard

/-- THE SECOND FORM's CARD OF 'keyeventlaw12.KeytreeSigns'. -/
def keytreeSignsUptoCard : Claim7 := { stood := { row := keytreeSignsUptoRow, standIns := [], harness := (true, "ade5b854a267a608be05b1af9b644792bed115e13889b5ebdd34177949e45148"), looks := false }, kinds := [], alts := [], laidByText := true, laidKinds := [.called, .data, .data, .data], laidTests := true, laidLooks := .later }
def KeytreeSignsUptoCardSaid : Prop := Claim7.holds Tryd.pinned (.plain (OpenSpec.upto keytreeSignsSpec)) keytreeSignsUptoCard

/-- THE SECOND FORM's CARD OF 'keyeventlaw12.KeytreeLeaves'. -/
def keytreeLeavesUptoCard : Claim7 := { stood := { row := keytreeLeavesUptoRow, standIns := [], harness := (true, "ade5b854a267a608be05b1af9b644792bed115e13889b5ebdd34177949e45148"), looks := false }, kinds := [], alts := [], laidByText := true, laidKinds := [.called, .data, .data, .data], laidTests := true, laidLooks := .later }
def KeytreeLeavesUptoCardSaid : Prop := Claim7.holds Tryd.pinned (.plain (OpenSpec.upto keytreeLeavesSpec)) keytreeLeavesUptoCard

/-- THE SECOND FORM's CARD OF 'keyeventlaw12.KeytreeUses'. -/
def keytreeUsesUptoCard : Claim7 := { stood := { row := keytreeUsesUptoRow, standIns := [], harness := (true, "ade5b854a267a608be05b1af9b644792bed115e13889b5ebdd34177949e45148"), looks := false }, kinds := [], alts := [], laidByText := true, laidKinds := [.called, .data, .data, .data], laidTests := true, laidLooks := .later }
def KeytreeUsesUptoCardSaid : Prop := Claim7.holds Tryd.pinned (.plain (OpenSpec.upto keytreeUsesSpec)) keytreeUsesUptoCard
end Rows
end Go.Proofs.YtpophimnoakinaaDoor
