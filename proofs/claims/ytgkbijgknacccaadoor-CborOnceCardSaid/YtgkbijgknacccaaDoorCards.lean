/-
  DERIVED. GIVEN WITH THE SEED: THE CARDS: each row of YtgkbijgknacccaaDoorRows.lean that lists a variable, with what it lists TIED to the program's text (the seventh form; the later family's looks); each row that meets fmt, with fmt's text TOLD by the authors' own Lean function (tested against real Go, not proved from fmt's source: count such statements apart). THE CARD IS WHAT COUNTS. Prove the row's statement (the work); the ties are given (YtgkbijgknacccaaDoorTie.lean); close each card by the builder's one call (the guide's Derived/Test/ToyasCard.lean, 'card_holds'). Laid BY PROGRAM, IN A SANDBOX (cutbox-door.mjs). By AI agents, Wed Nov 11 2026. No macro, syntax, notation, axiom, sorry.
-/
import Derived.Test.YtgkbijgknacccaaDoorRows
import GoSem.ClaimSeven
namespace Go.Proofs.YtgkbijgknacccaaDoor
namespace Rows

/-- THE TIED CARD OF 'keyeventlaw07.CborWrites'. -/
def cborWritesCard : Claim7 := { stood := { row := cborWritesRow, standIns := [], harness := (true, "16929423bd09cbb9de1c89a5796379fe71589afdc16be8cf2bc38fd85a4fa689"), looks := false }, kinds := [], alts := [], laidByText := true, laidKinds := [.data, .pinned], laidTests := true, laidLooks := .later }
def CborWritesCardSaid : Prop := Claim7.holds Tryd.pinned (.plain (OpenSpec.ofChange cborWritesSpec)) cborWritesCard

/-- THE TIED CARD OF 'keyeventlaw07.CborReads'. -/
def cborReadsCard : Claim7 := { stood := { row := cborReadsRow, standIns := [], harness := (true, "16929423bd09cbb9de1c89a5796379fe71589afdc16be8cf2bc38fd85a4fa689"), looks := false }, kinds := [], alts := [], laidByText := true, laidKinds := [.data, .pinned], laidTests := true, laidLooks := .later }
def CborReadsCardSaid : Prop := Claim7.holds Tryd.pinned (.plain (OpenSpec.ofChange cborReadsSpec)) cborReadsCard

/-- THE TIED CARD OF 'keyeventlaw07.CborBack'. -/
def cborBackCard : Claim7 := { stood := { row := cborBackRow, standIns := [], harness := (true, "16929423bd09cbb9de1c89a5796379fe71589afdc16be8cf2bc38fd85a4fa689"), looks := false }, kinds := [], alts := [], laidByText := true, laidKinds := [.data, .pinned], laidTests := true, laidLooks := .later }
def CborBackCardSaid : Prop := Claim7.holds Tryd.pinned (.plain (OpenSpec.ofChange cborBackSpec)) cborBackCard

/-- THE TIED CARD OF 'keyeventlaw07.CborOnce'. -/
def cborOnceCard : Claim7 := { stood := { row := cborOnceRow, standIns := [], harness := (true, "16929423bd09cbb9de1c89a5796379fe71589afdc16be8cf2bc38fd85a4fa689"), looks := false }, kinds := [], alts := [], laidByText := true, laidKinds := [.data, .pinned], laidTests := true, laidLooks := .later }
def CborOnceCardSaid : Prop := Claim7.holds Tryd.pinned (.plain (OpenSpec.ofChange cborOnceSpec)) cborOnceCard

/-- THE TIED CARD OF 'keyeventlaw07.CborHeads'. -/
def cborHeadsCard : Claim7 := { stood := { row := cborHeadsRow, standIns := [], harness := (true, "16929423bd09cbb9de1c89a5796379fe71589afdc16be8cf2bc38fd85a4fa689"), looks := false }, kinds := [], alts := [], laidByText := true, laidKinds := [.data, .pinned], laidTests := true, laidLooks := .later }
def CborHeadsCardSaid : Prop := Claim7.holds Tryd.pinned (.plain (OpenSpec.ofChange cborHeadsSpec)) cborHeadsCard

/-- THE SECOND FORM's CARD OF 'keyeventlaw07.CborWrites'. -/
def cborWritesUptoCard : Claim7 := { stood := { row := cborWritesUptoRow, standIns := [], harness := (true, "16929423bd09cbb9de1c89a5796379fe71589afdc16be8cf2bc38fd85a4fa689"), looks := false }, kinds := [], alts := [], laidByText := true, laidKinds := [.data, .pinned], laidTests := true, laidLooks := .later }
def CborWritesUptoCardSaid : Prop := Claim7.holds Tryd.pinned (.plain (OpenSpec.upto cborWritesSpec)) cborWritesUptoCard

/-- THE SECOND FORM's CARD OF 'keyeventlaw07.CborReads'. -/
def cborReadsUptoCard : Claim7 := { stood := { row := cborReadsUptoRow, standIns := [], harness := (true, "16929423bd09cbb9de1c89a5796379fe71589afdc16be8cf2bc38fd85a4fa689"), looks := false }, kinds := [], alts := [], laidByText := true, laidKinds := [.data, .pinned], laidTests := true, laidLooks := .later }
def CborReadsUptoCardSaid : Prop := Claim7.holds Tryd.pinned (.plain (OpenSpec.upto cborReadsSpec)) cborReadsUptoCard

/-- THE SECOND FORM's CARD OF 'keyeventlaw07.CborBack'. -/
def cborBackUptoCard : Claim7 := { stood := { row := cborBackUptoRow, standIns := [], harness := (true, "16929423bd09cbb9de1c89a5796379fe71589afdc16be8cf2bc38fd85a4fa689"), looks := false }, kinds := [], alts := [], laidByText := true, laidKinds := [.data, .pinned], laidTests := true, laidLooks := .later }
def CborBackUptoCardSaid : Prop := Claim7.holds Tryd.pinned (.plain (OpenSpec.upto cborBackSpec)) cborBackUptoCard

/-- THE SECOND FORM's CARD OF 'keyeventlaw07.CborOnce'. -/
def cborOnceUptoCard : Claim7 := { stood := { row := cborOnceUptoRow, standIns := [], harness := (true, "16929423bd09cbb9de1c89a5796379fe71589afdc16be8cf2bc38fd85a4fa689"), looks := false }, kinds := [], alts := [], laidByText := true, laidKinds := [.data, .pinned], laidTests := true, laidLooks := .later }
def CborOnceUptoCardSaid : Prop := Claim7.holds Tryd.pinned (.plain (OpenSpec.upto cborOnceSpec)) cborOnceUptoCard

/-- THE SECOND FORM's CARD OF 'keyeventlaw07.CborHeads'. -/
def cborHeadsUptoCard : Claim7 := { stood := { row := cborHeadsUptoRow, standIns := [], harness := (true, "16929423bd09cbb9de1c89a5796379fe71589afdc16be8cf2bc38fd85a4fa689"), looks := false }, kinds := [], alts := [], laidByText := true, laidKinds := [.data, .pinned], laidTests := true, laidLooks := .later }
def CborHeadsUptoCardSaid : Prop := Claim7.holds Tryd.pinned (.plain (OpenSpec.upto cborHeadsSpec)) cborHeadsUptoCard
end Rows
end Go.Proofs.YtgkbijgknacccaaDoor
