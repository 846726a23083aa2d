/- Magnitudes of numbers, and of products. -/
namespace Go.Proofs.Ytlkbnldpecolbaa

/-- The magnitude of a number. -/
def mag (a : Int) : Int := if a < 0 then -a else a

theorem mag_bd (a : Int) (h0 : -9223372036854775808 ≤ a) (h1 : a ≤ 9223372036854775807) : 0 ≤ mag a ∧ mag a ≤ 9223372036854775808 := by unfold mag; split <;> omega

theorem mul_pos (a b : Int) (h : (!decide (a < 0) == decide (b < 0)) = false) : mag a * mag b = a * b := by
  unfold mag
  by_cases h1 : a < 0 <;> by_cases h2 : b < 0 <;> simp [h1, h2] at h ⊢
  exact Int.neg_mul_neg a b

theorem mul_neg (a b : Int) (h : (!decide (a < 0) == decide (b < 0)) = true) : mag a * mag b = -(a * b) := by
  unfold mag
  by_cases h1 : a < 0 <;> by_cases h2 : b < 0 <;> simp [h1, h2] at h ⊢
  · exact Int.neg_mul a b
  · exact Int.mul_neg a b

theorem mags_bd (a b : Int) (ha0 : -9223372036854775808 ≤ a) (ha1 : a ≤ 9223372036854775807) (hb0 : -9223372036854775808 ≤ b) (hb1 : b ≤ 9223372036854775807) : 0 ≤ mag a * mag b ∧ mag a * mag b ≤ 85070591730234615865843651857942052864 := by
  have h1 := mag_bd a ha0 ha1
  have h2 := mag_bd b hb0 hb1
  exact ⟨Int.mul_nonneg h1.1 h2.1, Int.mul_le_mul h1.2 h2.2 h2.1 (by decide)⟩
end Go.Proofs.Ytlkbnldpecolbaa
