/- Walks of root: scaled and its two function literals, Cut. -/
import Derived.Test.YtiminclbkmkgnaaR2
import Derived.Test.YtiminclbkmkgnaaW7
import Derived.Laws.EntriesVeiled
namespace Go.Proofs.Ytiminclbkmkgnaa
open Go.RowKit
set_option linter.unusedVariables false

theorem cmp_fit (n v : Int) : decide (cmpI (v * v) n ≤ 0) = fitF n v := by
  unfold fitF cmpI
  exact decide_eq_decide.mpr (by repeat' split
                                 all_goals omega)

theorem isq_bd47 (n : Int) (hn : 0 ≤ n) (hn' : n ≤ 9903520314283042199192993792) : 0 ≤ isq n ∧ isq n < 140737488355328 ∧ isq n * isq n ≤ n := by
  obtain ⟨r0, r1, r2⟩ := isq_root n hn (by omega)
  have := lt_of_sq (by decide : (0 : Int) ≤ 140737488355328) (by omega : isq n * isq n < 140737488355328 * 140737488355328)
  exact ⟨r0, this, r1⟩

/-- What Cut answers. -/
def okC (p q d m : Int) : Bool := validR p 1152921504606846976 q d && divOkR m
def valC (p q d m : Int) : Int := if okC p q d m = true then cutR p q d m else 0

theorem ediv_bd (a m : Int) (hm : 1 ≤ m) (a0 : -9223372036854775808 ≤ a) (a1 : a ≤ 9223372036854775807) : -9223372036854775808 ≤ a / m ∧ a / m ≤ 9223372036854775807 := by
  constructor
  · rw [Int.le_ediv_iff_mul_le (by omega)]; omega
  · have : a / m < 9223372036854775807 + 1 := by
      rw [Int.ediv_lt_iff_lt_mul (by omega)]; omega
    omega

end Go.Proofs.Ytiminclbkmkgnaa
