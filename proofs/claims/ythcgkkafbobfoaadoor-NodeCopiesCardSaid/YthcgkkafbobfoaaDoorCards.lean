/-
  DERIVED. GIVEN WITH THE SEED: THE CARDS: each row of YthcgkkafbobfoaaDoorRows.lean that lists a variable, with what it lists TIED to the program's text (the seventh form; the later family's looks); each row that meets fmt, with fmt's text TOLD by the authors' own Lean function (tested against real Go, not proved from fmt's source: count such statements apart). THE CARD IS WHAT COUNTS. Prove the row's statement (the work); the ties are given (YthcgkkafbobfoaaDoorTie.lean); close each card by the builder's one call (the guide's Derived/Test/ToyasCard.lean, 'card_holds'). Laid BY PROGRAM, IN A SANDBOX (cutbox-door.mjs). By AI agents, Wed Nov 11 2026. No macro, syntax, notation, axiom, sorry.
-/
import Derived.Test.YthcgkkafbobfoaaDoorRows
import GoSem.ClaimSeven
namespace Go.Proofs.YthcgkkafbobfoaaDoor
namespace Rows

/-- THE TIED CARD OF 'keyeventlaw05.NodeDeep'. -/
def nodeDeepCard : Claim7 := { stood := { row := nodeDeepRow, standIns := [], harness := (true, "43824fc43411e7ad6163f9629f069d4bd6899e55e387a9a4278be5e3da42f4a9"), looks := false }, kinds := [], alts := [], laidByText := true, laidKinds := [.data, .pinned], laidTests := true, laidLooks := .later }
def NodeDeepCardSaid : Prop := Claim7.holds Tryd.pinned (.plain (OpenSpec.ofChange nodeDeepSpec)) nodeDeepCard

/-- THE TIED CARD OF 'keyeventlaw05.NodePuts'. -/
def nodePutsCard : Claim7 := { stood := { row := nodePutsRow, standIns := [], harness := (true, "43824fc43411e7ad6163f9629f069d4bd6899e55e387a9a4278be5e3da42f4a9"), looks := false }, kinds := [], alts := [], laidByText := true, laidKinds := [.data, .pinned], laidTests := true, laidLooks := .later }
def NodePutsCardSaid : Prop := Claim7.holds Tryd.pinned (.plain (OpenSpec.ofChange nodePutsSpec)) nodePutsCard

/-- THE TIED CARD OF 'keyeventlaw05.NodeTexts'. -/
def nodeTextsCard : Claim7 := { stood := { row := nodeTextsRow, standIns := [], harness := (true, "43824fc43411e7ad6163f9629f069d4bd6899e55e387a9a4278be5e3da42f4a9"), looks := false }, kinds := [], alts := [], laidByText := true, laidKinds := [.data, .pinned], laidTests := true, laidLooks := .later }
def NodeTextsCardSaid : Prop := Claim7.holds Tryd.pinned (.plain (OpenSpec.ofChange nodeTextsSpec)) nodeTextsCard

/-- THE TIED CARD OF 'keyeventlaw05.NodeCopies'. -/
def nodeCopiesCard : Claim7 := { stood := { row := nodeCopiesRow, standIns := [], harness := (true, "43824fc43411e7ad6163f9629f069d4bd6899e55e387a9a4278be5e3da42f4a9"), looks := false }, kinds := [], alts := [], laidByText := true, laidKinds := [.data, .pinned], laidTests := true, laidLooks := .later }
def NodeCopiesCardSaid : Prop := Claim7.holds Tryd.pinned (.plain (OpenSpec.ofChange nodeCopiesSpec)) nodeCopiesCard

/-- THE SECOND FORM's CARD OF 'keyeventlaw05.NodeDeep'. -/
def nodeDeepUptoCard : Claim7 := { stood := { row := nodeDeepUptoRow, standIns := [], harness := (true, "43824fc43411e7ad6163f9629f069d4bd6899e55e387a9a4278be5e3da42f4a9"), looks := false }, kinds := [], alts := [], laidByText := true, laidKinds := [.data, .pinned], laidTests := true, laidLooks := .later }
def NodeDeepUptoCardSaid : Prop := Claim7.holds Tryd.pinned (.plain (OpenSpec.upto nodeDeepSpec)) nodeDeepUptoCard

/-- THE SECOND FORM's CARD OF 'keyeventlaw05.NodePuts'. -/
def nodePutsUptoCard : Claim7 := { stood := { row := nodePutsUptoRow, standIns := [], harness := (true, "43824fc43411e7ad6163f9629f069d4bd6899e55e387a9a4278be5e3da42f4a9"), looks := false }, kinds := [], alts := [], laidByText := true, laidKinds := [.data, .pinned], laidTests := true, laidLooks := .later }
def NodePutsUptoCardSaid : Prop := Claim7.holds Tryd.pinned (.plain (OpenSpec.upto nodePutsSpec)) nodePutsUptoCard

/-- THE SECOND FORM's CARD OF 'keyeventlaw05.NodeTexts'. -/
def nodeTextsUptoCard : Claim7 := { stood := { row := nodeTextsUptoRow, standIns := [], harness := (true, "43824fc43411e7ad6163f9629f069d4bd6899e55e387a9a4278be5e3da42f4a9"), looks := false }, kinds := [], alts := [], laidByText := true, laidKinds := [.data, .pinned], laidTests := true, laidLooks := .later }
def NodeTextsUptoCardSaid : Prop := Claim7.holds Tryd.pinned (.plain (OpenSpec.upto nodeTextsSpec)) nodeTextsUptoCard

/-- THE SECOND FORM's CARD OF 'keyeventlaw05.NodeCopies'. -/
def nodeCopiesUptoCard : Claim7 := { stood := { row := nodeCopiesUptoRow, standIns := [], harness := (true, "43824fc43411e7ad6163f9629f069d4bd6899e55e387a9a4278be5e3da42f4a9"), looks := false }, kinds := [], alts := [], laidByText := true, laidKinds := [.data, .pinned], laidTests := true, laidLooks := .later }
def NodeCopiesUptoCardSaid : Prop := Claim7.holds Tryd.pinned (.plain (OpenSpec.upto nodeCopiesSpec)) nodeCopiesUptoCard
end Rows
end Go.Proofs.YthcgkkafbobfoaaDoor
