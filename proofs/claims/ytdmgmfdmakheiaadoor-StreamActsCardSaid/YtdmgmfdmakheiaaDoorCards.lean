/-
  DERIVED. GIVEN WITH THE SEED: THE CARDS: each row of YtdmgmfdmakheiaaDoorRows.lean that lists a variable, with what it lists TIED to the program's text (the seventh form; the later family's looks); each row that meets fmt, with fmt's text TOLD by the authors' own Lean function (tested against real Go, not proved from fmt's source: count such statements apart). THE CARD IS WHAT COUNTS. Prove the row's statement (the work); the ties are given (YtdmgmfdmakheiaaDoorTie.lean); close each card by the builder's one call (the guide's Derived/Test/ToyasCard.lean, 'card_holds'). Laid BY PROGRAM, IN A SANDBOX (cutbox-door.mjs). By AI agents, Wed Nov 11 2026. No macro, syntax, notation, axiom, sorry.
-/
import Derived.Test.YtdmgmfdmakheiaaDoorRows
import GoSem.ClaimSeven
namespace Go.Proofs.YtdmgmfdmakheiaaDoor
namespace Rows

/-- THE TIED CARD OF 'keyeventlaw04.StreamActs'. -/
def streamActsCard : Claim7 := { stood := { row := streamActsRow, standIns := [], harness := (true, "40251f66ede97a3d1b1881b59277408ea840aeefce2b7c673907f0af41e51cbf"), looks := false }, kinds := [], alts := [], laidByText := true, laidKinds := [.called, .data, .widerDeep], laidTests := true, laidLooks := .later }
def StreamActsCardSaid : Prop := Claim7.holds Tryd.pinned (.plain (OpenSpec.ofChange streamActsSpec)) streamActsCard

/-- THE TIED CARD OF 'keyeventlaw04.StreamLimit'. -/
def streamLimitCard : Claim7 := { stood := { row := streamLimitRow, standIns := [], harness := (true, "40251f66ede97a3d1b1881b59277408ea840aeefce2b7c673907f0af41e51cbf"), looks := false }, kinds := [], alts := [], laidByText := true, laidKinds := [.called, .data, .widerDeep], laidTests := true, laidLooks := .later }
def StreamLimitCardSaid : Prop := Claim7.holds Tryd.pinned (.plain (OpenSpec.ofChange streamLimitSpec)) streamLimitCard

/-- THE TIED CARD OF 'keyeventlaw04.StreamBack'. -/
def streamBackCard : Claim7 := { stood := { row := streamBackRow, standIns := [], harness := (true, "40251f66ede97a3d1b1881b59277408ea840aeefce2b7c673907f0af41e51cbf"), looks := false }, kinds := [], alts := [], laidByText := true, laidKinds := [.called, .data, .widerDeep], laidTests := true, laidLooks := .later }
def StreamBackCardSaid : Prop := Claim7.holds Tryd.pinned (.plain (OpenSpec.ofChange streamBackSpec)) streamBackCard

/-- THE TIED CARD OF 'keyeventlaw04.StreamMarks'. -/
def streamMarksCard : Claim7 := { stood := { row := streamMarksRow, standIns := [], harness := (true, "40251f66ede97a3d1b1881b59277408ea840aeefce2b7c673907f0af41e51cbf"), looks := false }, kinds := [], alts := [], laidByText := true, laidKinds := [.called, .data, .widerDeep], laidTests := true, laidLooks := .later }
def StreamMarksCardSaid : Prop := Claim7.holds Tryd.pinned (.plain (OpenSpec.ofChange streamMarksSpec)) streamMarksCard

/-- THE TIED CARD OF 'keyeventlaw04.StreamOnce'. -/
def streamOnceCard : Claim7 := { stood := { row := streamOnceRow, standIns := [], harness := (true, "40251f66ede97a3d1b1881b59277408ea840aeefce2b7c673907f0af41e51cbf"), looks := false }, kinds := [], alts := [], laidByText := true, laidKinds := [.called, .data, .widerDeep], laidTests := true, laidLooks := .later }
def StreamOnceCardSaid : Prop := Claim7.holds Tryd.pinned (.plain (OpenSpec.ofChange streamOnceSpec)) streamOnceCard

/-- THE SECOND FORM's CARD OF 'keyeventlaw04.StreamActs'. -/
def streamActsUptoCard : Claim7 := { stood := { row := streamActsUptoRow, standIns := [], harness := (true, "40251f66ede97a3d1b1881b59277408ea840aeefce2b7c673907f0af41e51cbf"), looks := false }, kinds := [], alts := [], laidByText := true, laidKinds := [.called, .data, .widerDeep], laidTests := true, laidLooks := .later }
def StreamActsUptoCardSaid : Prop := Claim7.holds Tryd.pinned (.plain (OpenSpec.upto streamActsSpec)) streamActsUptoCard

/-- THE SECOND FORM's CARD OF 'keyeventlaw04.StreamLimit'. -/
def streamLimitUptoCard : Claim7 := { stood := { row := streamLimitUptoRow, standIns := [], harness := (true, "40251f66ede97a3d1b1881b59277408ea840aeefce2b7c673907f0af41e51cbf"), looks := false }, kinds := [], alts := [], laidByText := true, laidKinds := [.called, .data, .widerDeep], laidTests := true, laidLooks := .later }
def StreamLimitUptoCardSaid : Prop := Claim7.holds Tryd.pinned (.plain (OpenSpec.upto streamLimitSpec)) streamLimitUptoCard

/-- THE SECOND FORM's CARD OF 'keyeventlaw04.StreamBack'. -/
def streamBackUptoCard : Claim7 := { stood := { row := streamBackUptoRow, standIns := [], harness := (true, "40251f66ede97a3d1b1881b59277408ea840aeefce2b7c673907f0af41e51cbf"), looks := false }, kinds := [], alts := [], laidByText := true, laidKinds := [.called, .data, .widerDeep], laidTests := true, laidLooks := .later }
def StreamBackUptoCardSaid : Prop := Claim7.holds Tryd.pinned (.plain (OpenSpec.upto streamBackSpec)) streamBackUptoCard

/-- THE SECOND FORM's CARD OF 'keyeventlaw04.StreamMarks'. -/
def streamMarksUptoCard : Claim7 := { stood := { row := streamMarksUptoRow, standIns := [], harness := (true, "40251f66ede97a3d1b1881b59277408ea840aeefce2b7c673907f0af41e51cbf"), looks := false }, kinds := [], alts := [], laidByText := true, laidKinds := [.called, .data, .widerDeep], laidTests := true, laidLooks := .later }
def StreamMarksUptoCardSaid : Prop := Claim7.holds Tryd.pinned (.plain (OpenSpec.upto streamMarksSpec)) streamMarksUptoCard

/-- THE SECOND FORM's CARD OF 'keyeventlaw04.StreamOnce'. -/
def streamOnceUptoCard : Claim7 := { stood := { row := streamOnceUptoRow, standIns := [], harness := (true, "40251f66ede97a3d1b1881b59277408ea840aeefce2b7c673907f0af41e51cbf"), looks := false }, kinds := [], alts := [], laidByText := true, laidKinds := [.called, .data, .widerDeep], laidTests := true, laidLooks := .later }
def StreamOnceUptoCardSaid : Prop := Claim7.holds Tryd.pinned (.plain (OpenSpec.upto streamOnceSpec)) streamOnceUptoCard
end Rows
end Go.Proofs.YtdmgmfdmakheiaaDoor
