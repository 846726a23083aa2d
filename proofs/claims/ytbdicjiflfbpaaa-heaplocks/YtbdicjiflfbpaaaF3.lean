/- Walks of the document's own answer for layer 3 (tympanref3). -/
import Derived.Test.YtbdicjiflfbpaaaM6
import Derived.Test.YtbdicjiflfbpaaaB0
namespace Go.Proofs.Ytbdicjiflfbpaaa
open Go.RowKit
set_option linter.unusedVariables false

end Go.Proofs.Ytbdicjiflfbpaaa
