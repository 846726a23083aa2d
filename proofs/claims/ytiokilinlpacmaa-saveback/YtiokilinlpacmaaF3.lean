/- Walks of the document's own answer for layer 3 (tympanref3). -/
import Derived.Test.YtiokilinlpacmaaM6
import Derived.Test.YtiokilinlpacmaaB0
namespace Go.Proofs.Ytiokilinlpacmaa
open Go.RowKit
set_option linter.unusedVariables false

end Go.Proofs.Ytiokilinlpacmaa
