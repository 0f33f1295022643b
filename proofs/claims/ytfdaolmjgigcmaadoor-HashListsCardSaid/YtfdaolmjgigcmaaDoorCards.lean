/-
  DERIVED. GIVEN WITH THE SEED: THE CARDS: each row of YtfdaolmjgigcmaaDoorRows.lean that lists a variable, with what it lists TIED to the program's text (the seventh form; the later family's looks); each row that meets fmt, with fmt's text TOLD by the authors' own Lean function (tested against real Go, not proved from fmt's source: count such statements apart). THE CARD IS WHAT COUNTS. Prove the row's statement (the work); the ties are given (YtfdaolmjgigcmaaDoorTie.lean); close each card by the builder's one call (the guide's Derived/Test/ToyasCard.lean, 'card_holds'). Laid BY PROGRAM, IN A SANDBOX (cutbox-door.mjs). By AI agents, Wed Nov 11 2026. No macro, syntax, notation, axiom, sorry.
-/
import Derived.Test.YtfdaolmjgigcmaaDoorRows
import GoSem.ClaimSeven
namespace Go.Proofs.YtfdaolmjgigcmaaDoor
namespace Rows

/-- THE TIED CARD OF 'keyeventlaw02.HashSums'. -/
def hashSumsCard : Claim7 := { stood := { row := hashSumsRow, standIns := [], harness := (true, "7db2fada78f9b80b0dfb6cf22f95e76198e3cdb3bb19175d09dd5a26fd2d5f4c"), looks := false }, kinds := [], alts := [], laidByText := true, laidKinds := [.data, .data], laidTests := true, laidLooks := .later }
def HashSumsCardSaid : Prop := Claim7.holds Tryd.pinned (.plain (OpenSpec.ofChange hashSumsSpec)) hashSumsCard

/-- THE TIED CARD OF 'keyeventlaw02.HashLists'. -/
def hashListsCard : Claim7 := { stood := { row := hashListsRow, standIns := [], harness := (true, "7db2fada78f9b80b0dfb6cf22f95e76198e3cdb3bb19175d09dd5a26fd2d5f4c"), looks := false }, kinds := [], alts := [], laidByText := true, laidKinds := [.data, .data], laidTests := true, laidLooks := .later }
def HashListsCardSaid : Prop := Claim7.holds Tryd.pinned (.plain (OpenSpec.ofChange hashListsSpec)) hashListsCard

/-- THE TIED CARD OF 'keyeventlaw02.HashPads'. -/
def hashPadsCard : Claim7 := { stood := { row := hashPadsRow, standIns := [], harness := (true, "7db2fada78f9b80b0dfb6cf22f95e76198e3cdb3bb19175d09dd5a26fd2d5f4c"), looks := false }, kinds := [], alts := [], laidByText := true, laidKinds := [.data, .data], laidTests := true, laidLooks := .later }
def HashPadsCardSaid : Prop := Claim7.holds Tryd.pinned (.plain (OpenSpec.ofChange hashPadsSpec)) hashPadsCard

/-- THE TIED CARD OF 'keyeventlaw02.HashLong'. -/
def hashLongCard : Claim7 := { stood := { row := hashLongRow, standIns := [], harness := (true, "7db2fada78f9b80b0dfb6cf22f95e76198e3cdb3bb19175d09dd5a26fd2d5f4c"), looks := false }, kinds := [], alts := [], laidByText := true, laidKinds := [.data, .data], laidTests := true, laidLooks := .later }
def HashLongCardSaid : Prop := Claim7.holds Tryd.pinned (.plain (OpenSpec.ofChange hashLongSpec)) hashLongCard

/-- THE SECOND FORM's CARD OF 'keyeventlaw02.HashSums'. -/
def hashSumsUptoCard : Claim7 := { stood := { row := hashSumsUptoRow, standIns := [], harness := (true, "7db2fada78f9b80b0dfb6cf22f95e76198e3cdb3bb19175d09dd5a26fd2d5f4c"), looks := false }, kinds := [], alts := [], laidByText := true, laidKinds := [.data, .data], laidTests := true, laidLooks := .later }
def HashSumsUptoCardSaid : Prop := Claim7.holds Tryd.pinned (.plain (OpenSpec.upto hashSumsSpec)) hashSumsUptoCard

/-- THE SECOND FORM's CARD OF 'keyeventlaw02.HashLists'. -/
def hashListsUptoCard : Claim7 := { stood := { row := hashListsUptoRow, standIns := [], harness := (true, "7db2fada78f9b80b0dfb6cf22f95e76198e3cdb3bb19175d09dd5a26fd2d5f4c"), looks := false }, kinds := [], alts := [], laidByText := true, laidKinds := [.data, .data], laidTests := true, laidLooks := .later }
def HashListsUptoCardSaid : Prop := Claim7.holds Tryd.pinned (.plain (OpenSpec.upto hashListsSpec)) hashListsUptoCard

/-- THE SECOND FORM's CARD OF 'keyeventlaw02.HashPads'. -/
def hashPadsUptoCard : Claim7 := { stood := { row := hashPadsUptoRow, standIns := [], harness := (true, "7db2fada78f9b80b0dfb6cf22f95e76198e3cdb3bb19175d09dd5a26fd2d5f4c"), looks := false }, kinds := [], alts := [], laidByText := true, laidKinds := [.data, .data], laidTests := true, laidLooks := .later }
def HashPadsUptoCardSaid : Prop := Claim7.holds Tryd.pinned (.plain (OpenSpec.upto hashPadsSpec)) hashPadsUptoCard

/-- THE SECOND FORM's CARD OF 'keyeventlaw02.HashLong'. -/
def hashLongUptoCard : Claim7 := { stood := { row := hashLongUptoRow, standIns := [], harness := (true, "7db2fada78f9b80b0dfb6cf22f95e76198e3cdb3bb19175d09dd5a26fd2d5f4c"), looks := false }, kinds := [], alts := [], laidByText := true, laidKinds := [.data, .data], laidTests := true, laidLooks := .later }
def HashLongUptoCardSaid : Prop := Claim7.holds Tryd.pinned (.plain (OpenSpec.upto hashLongSpec)) hashLongUptoCard
end Rows
end Go.Proofs.YtfdaolmjgigcmaaDoor
