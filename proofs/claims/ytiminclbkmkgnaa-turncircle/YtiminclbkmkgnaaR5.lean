/- Sign and Cut within their ranges. -/
import Derived.Test.YtiminclbkmkgnaaR3
namespace Go.Proofs.Ytiminclbkmkgnaa
open Go.RowKit
set_option linter.unusedVariables false

theorem tmod_bd (p m : Int) (hm : 0 < m) : -m < p.tmod m ∧ p.tmod m < m := by
  have h1 := Int.lt_tmod_of_pos p hm
  have h2 := Int.tmod_lt_of_pos p hm
  exact ⟨h1, h2⟩
end Go.Proofs.Ytiminclbkmkgnaa
