/- Walks of the document's own answer for layer 3 (tympanref3). -/
import Derived.Test.YtigboibcgpfphaaM6
import Derived.Test.YtigboibcgpfphaaB0
namespace Go.Proofs.Ytigboibcgpfphaa
open Go.RowKit
set_option linter.unusedVariables false

end Go.Proofs.Ytigboibcgpfphaa
