/-
  DERIVED. GIVEN WITH THE SEED: THE CARDS: each row of YteammnfdhdhefaaDoorRows.lean that lists a variable, with what it lists TIED to the program's text (the seventh form; the later family's looks); each row that meets fmt, with fmt's text TOLD by the authors' own Lean function (tested against real Go, not proved from fmt's source: count such statements apart). THE CARD IS WHAT COUNTS. Prove the row's statement (the work); the ties are given (YteammnfdhdhefaaDoorTie.lean); close each card by the builder's one call (the guide's Derived/Test/ToyasCard.lean, 'card_holds'). Laid BY PROGRAM, IN A SANDBOX (cutbox-door.mjs). By AI agents, Wed Nov 11 2026. No macro, syntax, notation, axiom, sorry.
-/
import Derived.Test.YteammnfdhdhefaaDoorRows
import GoSem.ClaimSeven
namespace Go.Proofs.YteammnfdhdhefaaDoor
namespace Rows

/-- THE TIED CARD OF 'keyeventlaw03.PrimitiveActs'. -/
def primitiveActsCard : Claim7 := { stood := { row := primitiveActsRow, standIns := [], harness := (true, "060629a1f47bc241ca0123c46d65a054fcfe190194abc36a04f3cfc660160962"), looks := false }, kinds := [], alts := [], laidByText := true, laidKinds := [.called, .data], laidTests := true, laidLooks := .later }
def PrimitiveActsCardSaid : Prop := Claim7.holds Tryd.pinned (.plain (OpenSpec.ofChange primitiveActsSpec)) primitiveActsCard

/-- THE TIED CARD OF 'keyeventlaw03.PrimitiveBack'. -/
def primitiveBackCard : Claim7 := { stood := { row := primitiveBackRow, standIns := [], harness := (true, "060629a1f47bc241ca0123c46d65a054fcfe190194abc36a04f3cfc660160962"), looks := false }, kinds := [], alts := [], laidByText := true, laidKinds := [.called, .data], laidTests := true, laidLooks := .later }
def PrimitiveBackCardSaid : Prop := Claim7.holds Tryd.pinned (.plain (OpenSpec.ofChange primitiveBackSpec)) primitiveBackCard

/-- THE TIED CARD OF 'keyeventlaw03.PrimitiveRows'. -/
def primitiveRowsCard : Claim7 := { stood := { row := primitiveRowsRow, standIns := [], harness := (true, "060629a1f47bc241ca0123c46d65a054fcfe190194abc36a04f3cfc660160962"), looks := false }, kinds := [], alts := [], laidByText := true, laidKinds := [.called, .data], laidTests := true, laidLooks := .later }
def PrimitiveRowsCardSaid : Prop := Claim7.holds Tryd.pinned (.plain (OpenSpec.ofChange primitiveRowsSpec)) primitiveRowsCard

/-- THE TIED CARD OF 'keyeventlaw03.PrimitiveOnce'. -/
def primitiveOnceCard : Claim7 := { stood := { row := primitiveOnceRow, standIns := [], harness := (true, "060629a1f47bc241ca0123c46d65a054fcfe190194abc36a04f3cfc660160962"), looks := false }, kinds := [], alts := [], laidByText := true, laidKinds := [.called, .data], laidTests := true, laidLooks := .later }
def PrimitiveOnceCardSaid : Prop := Claim7.holds Tryd.pinned (.plain (OpenSpec.ofChange primitiveOnceSpec)) primitiveOnceCard

/-- THE TIED CARD OF 'keyeventlaw03.PrimitiveOpens'. -/
def primitiveOpensCard : Claim7 := { stood := { row := primitiveOpensRow, standIns := [], harness := (true, "060629a1f47bc241ca0123c46d65a054fcfe190194abc36a04f3cfc660160962"), looks := false }, kinds := [], alts := [], laidByText := true, laidKinds := [.called, .data], laidTests := true, laidLooks := .later }
def PrimitiveOpensCardSaid : Prop := Claim7.holds Tryd.pinned (.plain (OpenSpec.ofChange primitiveOpensSpec)) primitiveOpensCard

/-- THE TIED CARD OF 'keyeventlaw03.PrimitiveSizes'. -/
def primitiveSizesCard : Claim7 := { stood := { row := primitiveSizesRow, standIns := [], harness := (true, "060629a1f47bc241ca0123c46d65a054fcfe190194abc36a04f3cfc660160962"), looks := false }, kinds := [], alts := [], laidByText := true, laidKinds := [.data], laidTests := true, laidLooks := .later }
def PrimitiveSizesCardSaid : Prop := Claim7.holds Tryd.pinned (.plain (OpenSpec.ofChange primitiveSizesSpec)) primitiveSizesCard

/-- THE SECOND FORM's CARD OF 'keyeventlaw03.PrimitiveActs'. -/
def primitiveActsUptoCard : Claim7 := { stood := { row := primitiveActsUptoRow, standIns := [], harness := (true, "060629a1f47bc241ca0123c46d65a054fcfe190194abc36a04f3cfc660160962"), looks := false }, kinds := [], alts := [], laidByText := true, laidKinds := [.called, .data], laidTests := true, laidLooks := .later }
def PrimitiveActsUptoCardSaid : Prop := Claim7.holds Tryd.pinned (.plain (OpenSpec.upto primitiveActsSpec)) primitiveActsUptoCard

/-- THE SECOND FORM's CARD OF 'keyeventlaw03.PrimitiveBack'. -/
def primitiveBackUptoCard : Claim7 := { stood := { row := primitiveBackUptoRow, standIns := [], harness := (true, "060629a1f47bc241ca0123c46d65a054fcfe190194abc36a04f3cfc660160962"), looks := false }, kinds := [], alts := [], laidByText := true, laidKinds := [.called, .data], laidTests := true, laidLooks := .later }
def PrimitiveBackUptoCardSaid : Prop := Claim7.holds Tryd.pinned (.plain (OpenSpec.upto primitiveBackSpec)) primitiveBackUptoCard

/-- THE SECOND FORM's CARD OF 'keyeventlaw03.PrimitiveRows'. -/
def primitiveRowsUptoCard : Claim7 := { stood := { row := primitiveRowsUptoRow, standIns := [], harness := (true, "060629a1f47bc241ca0123c46d65a054fcfe190194abc36a04f3cfc660160962"), looks := false }, kinds := [], alts := [], laidByText := true, laidKinds := [.called, .data], laidTests := true, laidLooks := .later }
def PrimitiveRowsUptoCardSaid : Prop := Claim7.holds Tryd.pinned (.plain (OpenSpec.upto primitiveRowsSpec)) primitiveRowsUptoCard

/-- THE SECOND FORM's CARD OF 'keyeventlaw03.PrimitiveOnce'. -/
def primitiveOnceUptoCard : Claim7 := { stood := { row := primitiveOnceUptoRow, standIns := [], harness := (true, "060629a1f47bc241ca0123c46d65a054fcfe190194abc36a04f3cfc660160962"), looks := false }, kinds := [], alts := [], laidByText := true, laidKinds := [.called, .data], laidTests := true, laidLooks := .later }
def PrimitiveOnceUptoCardSaid : Prop := Claim7.holds Tryd.pinned (.plain (OpenSpec.upto primitiveOnceSpec)) primitiveOnceUptoCard

/-- THE SECOND FORM's CARD OF 'keyeventlaw03.PrimitiveOpens'. -/
def primitiveOpensUptoCard : Claim7 := { stood := { row := primitiveOpensUptoRow, standIns := [], harness := (true, "060629a1f47bc241ca0123c46d65a054fcfe190194abc36a04f3cfc660160962"), looks := false }, kinds := [], alts := [], laidByText := true, laidKinds := [.called, .data], laidTests := true, laidLooks := .later }
def PrimitiveOpensUptoCardSaid : Prop := Claim7.holds Tryd.pinned (.plain (OpenSpec.upto primitiveOpensSpec)) primitiveOpensUptoCard

/-- THE SECOND FORM's CARD OF 'keyeventlaw03.PrimitiveSizes'. -/
def primitiveSizesUptoCard : Claim7 := { stood := { row := primitiveSizesUptoRow, standIns := [], harness := (true, "060629a1f47bc241ca0123c46d65a054fcfe190194abc36a04f3cfc660160962"), looks := false }, kinds := [], alts := [], laidByText := true, laidKinds := [.data], laidTests := true, laidLooks := .later }
def PrimitiveSizesUptoCardSaid : Prop := Claim7.holds Tryd.pinned (.plain (OpenSpec.upto primitiveSizesSpec)) primitiveSizesUptoCard
end Rows
end Go.Proofs.YteammnfdhdhefaaDoor
