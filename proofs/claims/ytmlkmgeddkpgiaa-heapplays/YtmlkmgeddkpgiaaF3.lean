/- Walks of the document's own answer for layer 3 (tympanref3). -/
import Derived.Test.YtmlkmgeddkpgiaaM6
import Derived.Test.YtmlkmgeddkpgiaaB0
namespace Go.Proofs.Ytmlkmgeddkpgiaa
open Go.RowKit
set_option linter.unusedVariables false

end Go.Proofs.Ytmlkmgeddkpgiaa
