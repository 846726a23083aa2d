/- Walks of the document's own answer for layer 2 (tympanref2): Floor, Ceil, sign, in, Sign. -/
import Derived.Test.YtiminclbkmkgnaaR5
import Derived.Test.YtiminclbkmkgnaaW9
namespace Go.Proofs.Ytiminclbkmkgnaa
open Go.RowKit
set_option linter.unusedVariables false

theorem grel_end (n x : Int) (hn : 0 ≤ n) (hn' : n < 18446744073709551616) (h : GRel (fitF n) 32 0 x) : x = isq n := by
  obtain ⟨x0, _, x2, x3, x4⟩ := h
  refine (isq_is hn (by omega) ⟨x0, by simpa [fitF] using x3, ?_⟩).symm
  simp only [Int.pow_zero] at x2 x4
  have e : (2 : Int) ^ 32 = 4294967296 := by decide
  rw [e] at x2 x4
  rcases Int.lt_or_le (x + 1) 4294967296 with h | h
  · have := x4 h
    simpa [fitF] using this
  · have h1 : x + 1 = 4294967296 := by omega
    rw [h1]; omega

theorem grel_at {P : Int → Bool} {n i : Nat} {y : Int} (h : GRel P n i y) : GRel P n ((i : Int) - 1 + 1).toNat y := by
  have e : ((i : Int) - 1 + 1).toNat = i := by omega
  rw [e]; exact h

theorem sg_bd (v : Int) : -1 ≤ sg v ∧ sg v ≤ 1 := by unfold sg; split <;> (try split) <;> omega
theorem sgsg_bd (v u : Int) (h : -1 ≤ v ∧ v ≤ 1) (h' : -1 ≤ u ∧ u ≤ 1) : -1 ≤ v * u ∧ v * u ≤ 1 := by
  obtain ⟨a, b⟩ := h
  obtain ⟨c, d⟩ := h'
  rcases (by omega : v = -1 ∨ v = 0 ∨ v = 1) with rfl | rfl | rfl <;> omega

end Go.Proofs.Ytiminclbkmkgnaa
