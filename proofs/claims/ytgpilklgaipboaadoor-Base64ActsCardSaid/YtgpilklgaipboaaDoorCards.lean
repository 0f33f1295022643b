/-
  DERIVED. GIVEN WITH THE SEED: THE CARDS: each row of YtgpilklgaipboaaDoorRows.lean that lists a variable, with what it lists TIED to the program's text (the seventh form; the later family's looks); each row that meets fmt, with fmt's text TOLD by the authors' own Lean function (tested against real Go, not proved from fmt's source: count such statements apart). THE CARD IS WHAT COUNTS. Prove the row's statement (the work); the ties are given (YtgpilklgaipboaaDoorTie.lean); close each card by the builder's one call (the guide's Derived/Test/ToyasCard.lean, 'card_holds'). Laid BY PROGRAM, IN A SANDBOX (cutbox-door.mjs). By AI agents, Wed Nov 11 2026. No macro, syntax, notation, axiom, sorry.
-/
import Derived.Test.YtgpilklgaipboaaDoorRows
import GoSem.ClaimSeven
namespace Go.Proofs.YtgpilklgaipboaaDoor
namespace Rows

/-- THE TIED CARD OF 'keyeventlaw01.Base64Acts'. -/
def base64ActsCard : Claim7 := { stood := { row := base64ActsRow, standIns := [], harness := (true, "9a419b03c51c130527cb038aadf8618bbd11774f6131012c4061ce9d5ec8e2c3"), looks := false }, kinds := [], alts := [], laidByText := true, laidKinds := [.called], laidTests := true, laidLooks := .later }
def Base64ActsCardSaid : Prop := Claim7.holds Tryd.pinned (.plain (OpenSpec.ofChange base64ActsSpec)) base64ActsCard

/-- THE TIED CARD OF 'keyeventlaw01.Base64Back'. -/
def base64BackCard : Claim7 := { stood := { row := base64BackRow, standIns := [], harness := (true, "9a419b03c51c130527cb038aadf8618bbd11774f6131012c4061ce9d5ec8e2c3"), looks := false }, kinds := [], alts := [], laidByText := true, laidKinds := [.called], laidTests := true, laidLooks := .later }
def Base64BackCardSaid : Prop := Claim7.holds Tryd.pinned (.plain (OpenSpec.ofChange base64BackSpec)) base64BackCard

/-- THE TIED CARD OF 'keyeventlaw01.Base64Once'. -/
def base64OnceCard : Claim7 := { stood := { row := base64OnceRow, standIns := [], harness := (true, "9a419b03c51c130527cb038aadf8618bbd11774f6131012c4061ce9d5ec8e2c3"), looks := false }, kinds := [], alts := [], laidByText := true, laidKinds := [.called], laidTests := true, laidLooks := .later }
def Base64OnceCardSaid : Prop := Claim7.holds Tryd.pinned (.plain (OpenSpec.ofChange base64OnceSpec)) base64OnceCard

/-- THE TIED CARD OF 'keyeventlaw01.Base64Digits'. -/
def base64DigitsCard : Claim7 := { stood := { row := base64DigitsRow, standIns := [], harness := (true, "9a419b03c51c130527cb038aadf8618bbd11774f6131012c4061ce9d5ec8e2c3"), looks := false }, kinds := [], alts := [], laidByText := true, laidKinds := [.called], laidTests := true, laidLooks := .later }
def Base64DigitsCardSaid : Prop := Claim7.holds Tryd.pinned (.plain (OpenSpec.ofChange base64DigitsSpec)) base64DigitsCard

/-- THE SECOND FORM's CARD OF 'keyeventlaw01.Base64Acts'. -/
def base64ActsUptoCard : Claim7 := { stood := { row := base64ActsUptoRow, standIns := [], harness := (true, "9a419b03c51c130527cb038aadf8618bbd11774f6131012c4061ce9d5ec8e2c3"), looks := false }, kinds := [], alts := [], laidByText := true, laidKinds := [.called], laidTests := true, laidLooks := .later }
def Base64ActsUptoCardSaid : Prop := Claim7.holds Tryd.pinned (.plain (OpenSpec.upto base64ActsSpec)) base64ActsUptoCard

/-- THE SECOND FORM's CARD OF 'keyeventlaw01.Base64Back'. -/
def base64BackUptoCard : Claim7 := { stood := { row := base64BackUptoRow, standIns := [], harness := (true, "9a419b03c51c130527cb038aadf8618bbd11774f6131012c4061ce9d5ec8e2c3"), looks := false }, kinds := [], alts := [], laidByText := true, laidKinds := [.called], laidTests := true, laidLooks := .later }
def Base64BackUptoCardSaid : Prop := Claim7.holds Tryd.pinned (.plain (OpenSpec.upto base64BackSpec)) base64BackUptoCard

/-- THE SECOND FORM's CARD OF 'keyeventlaw01.Base64Once'. -/
def base64OnceUptoCard : Claim7 := { stood := { row := base64OnceUptoRow, standIns := [], harness := (true, "9a419b03c51c130527cb038aadf8618bbd11774f6131012c4061ce9d5ec8e2c3"), looks := false }, kinds := [], alts := [], laidByText := true, laidKinds := [.called], laidTests := true, laidLooks := .later }
def Base64OnceUptoCardSaid : Prop := Claim7.holds Tryd.pinned (.plain (OpenSpec.upto base64OnceSpec)) base64OnceUptoCard

/-- THE SECOND FORM's CARD OF 'keyeventlaw01.Base64Digits'. -/
def base64DigitsUptoCard : Claim7 := { stood := { row := base64DigitsUptoRow, standIns := [], harness := (true, "9a419b03c51c130527cb038aadf8618bbd11774f6131012c4061ce9d5ec8e2c3"), looks := false }, kinds := [], alts := [], laidByText := true, laidKinds := [.called], laidTests := true, laidLooks := .later }
def Base64DigitsUptoCardSaid : Prop := Claim7.holds Tryd.pinned (.plain (OpenSpec.upto base64DigitsSpec)) base64DigitsUptoCard
end Rows
end Go.Proofs.YtgpilklgaipboaaDoor
