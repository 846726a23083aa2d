/- Walks of root: Floor, Ceil, valid, magnitude, Sign. -/
import Derived.Test.YtiminclbkmkgnaaR1
namespace Go.Proofs.Ytiminclbkmkgnaa
open Go.RowKit
set_option linter.unusedVariables false

theorem ret_bool {a b : Bool} (h : a = b) : Ending.returned (.bool a) = .returned (.bool b) := by rw [h]

/-- The predicate of Floor. -/
def fitF (n x : Int) : Bool := decide (x * x ≤ n)

theorem sq32 (x : Int) (x0 : 0 ≤ x) (x1 : x < 4294967296) : 0 ≤ x * x ∧ x * x < 18446744073709551616 := by
  have := sq_le x0 (by omega : x ≤ 4294967295)
  exact ⟨sq_nonneg x, by omega⟩

theorem isq_bd (n : Int) (hn : 0 ≤ n) (hn' : n < 18446744073709551616) : 0 ≤ isq n ∧ isq n < 4294967296 ∧ 0 ≤ isq n * isq n ∧ isq n * isq n ≤ n := by
  obtain ⟨r0, r1, r2⟩ := isq_root n hn (by omega)
  have := lt_of_sq (by decide : (0 : Int) ≤ 4294967296) (by omega : isq n * isq n < 4294967296 * 4294967296)
  exact ⟨r0, this, sq_nonneg _, r1⟩

theorem sign_bd (q : Int) (q0 : -2147483648 ≤ q) (q1 : q ≤ 2147483648) : -4611686018427387904 ≤ -q * mag q ∧ -q * mag q ≤ 4611686018427387904 := by
  have hm : 0 ≤ mag q ∧ mag q ≤ 2147483648 := by unfold mag; split <;> omega
  have h1 := Int.mul_le_mul_of_nonneg_right (by omega : -q ≤ 2147483648) hm.1
  have h2 := Int.mul_le_mul_of_nonneg_right (by omega : q ≤ 2147483648) hm.1
  rw [Int.neg_mul] at *
  constructor <;> omega

/-- What Sign answers. -/
def okS (p q d : Int) : Bool := validR p 4611686018427387904 q d
def valS (p q d : Int) : Int := if okS p q d = true then sgnR p q d else 0

end Go.Proofs.Ytiminclbkmkgnaa
