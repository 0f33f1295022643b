/- The contract of Spoil: some string of the same length comes back, and no old memory is changed. -/
import Derived.Test.YtefhhfpdponabaaAwake
namespace Go.Proofs.Ytefhhfpdponabaa
open Go.ChangeShapes Go.WideShapes Go.ChangeAt Go.RowKit
set_option linter.unusedVariables false
set_option linter.unusedSimpArgs false

/-- Some string of this length. -/
def SomeStr (n : Nat) (w : World) (e : Ending) (w' : World) : Prop := ∃ r : ByteArray, e = .returned (.string r) ∧ r.size = n ∧ Below w.heap.size w w'


end Go.Proofs.Ytefhhfpdponabaa
