/- Walks of the document's own answer for layer 3 (tympanref3). -/
import Derived.Test.YtgmklagnngjlgaaM6
import Derived.Test.YtgmklagnngjlgaaB0
namespace Go.Proofs.Ytgmklagnngjlgaa
open Go.RowKit
set_option linter.unusedVariables false

end Go.Proofs.Ytgmklagnngjlgaa
