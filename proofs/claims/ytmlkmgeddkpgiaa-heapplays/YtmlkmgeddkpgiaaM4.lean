/- What the layer's calls answer, as plain functions of integers. -/
import Derived.Test.YtmlkmgeddkpgiaaM0
namespace Go.Proofs.Ytmlkmgeddkpgiaa
set_option linter.unusedVariables false

/-- Which of two numbers is greater. -/
def cmpI (x y : Int) : Int := if x < y then -1 else if y < x then 1 else 0

/-- The greatest integer not above n / d (d not 0). -/
def sdiv (n d : Int) : Int := if d < 0 then (-n) / (-d) else n / d
/-- What is left of n, in the sign of the magnitude of d. -/
def smod (n d : Int) : Int := if d < 0 then (-n) % (-d) else n % d
/-- The integer nearest to n / d, of two the even one. -/
def near (n d : Int) : Int := if 2 * smod n d < mag d then sdiv n d else if mag d < 2 * smod n d then sdiv n d + 1 else if sdiv n d % 2 = 0 then sdiv n d else sdiv n d + 1
/-- A quotient is answered: the divisor is not 0 and the number fits. -/
def okOf (d q : Int) : Bool := decide (d ≠ 0 ∧ -9223372036854775808 ≤ q ∧ q ≤ 9223372036854775807)
def valOf (d q : Int) : Int := if okOf d q = true then q else 0

/-- A quotient of magnitudes with a sign. -/
def sgnOk (neg : Bool) (n : Int) : Bool := if neg then decide (n ≤ 9223372036854775808) else decide (n < 9223372036854775808)
def sgnVal (neg : Bool) (n : Int) : Int := if sgnOk neg n = true then (if neg then -n else n) else 0
/-- The quotient's sign. -/
def neg3 (a b d : Int) : Bool := !((!decide (a < 0) == decide (b < 0)) == decide (d < 0))
/-- The quotient of magnitudes, rounded to the nearest, of two the even one. -/
def nearM (p m : Int) : Int := if m < 2 * (p % m) ∨ (2 * (p % m) = m ∧ p / m % 2 = 1) then p / m + 1 else p / m
/-- The quotient of magnitudes, rounded away from 0 where it is negative. -/
def floorM (neg : Bool) (p m : Int) : Int := if neg = true ∧ 0 < p % m then p / m + 1 else p / m

theorem neg3_true (a b d : Int) (hd : d ≠ 0) (h : neg3 a b d = true) : mag a * mag b = (if d < 0 then a * b else -(a * b)) := by
  unfold neg3 at h
  by_cases hd' : d < 0
  · rw [if_pos hd']
    exact mul_pos a b (by simpa [hd'] using h)
  · rw [if_neg hd']
    exact mul_neg a b (by simpa [hd'] using h)
theorem neg3_false (a b d : Int) (hd : d ≠ 0) (h : neg3 a b d = false) : mag a * mag b = (if d < 0 then -(a * b) else a * b) := by
  unfold neg3 at h
  by_cases hd' : d < 0
  · rw [if_pos hd']
    exact mul_neg a b (by simpa [hd'] using h)
  · rw [if_neg hd']
    exact mul_pos a b (by simpa [hd'] using h)

theorem div_neg_exact (n m : Int) (hm : 0 < m) (h : n % m = 0) : (-n) / m = -(n / m) ∧ (-n) % m = 0 := by
  have e := Int.mul_ediv_add_emod n m
  have hq : (-n) / m = -(n / m) := by
    have e2 : -n = m * (-(n / m)) := by rw [Int.mul_neg]; omega
    rw [e2, Int.mul_ediv_cancel_left _ (by omega)]
  have e3 := Int.mul_ediv_add_emod (-n) m
  rw [hq, Int.mul_neg] at e3
  exact ⟨hq, by omega⟩

theorem div_neg_rest (n m : Int) (hm : 0 < m) (h : 0 < n % m) : (-n) / m = -(n / m) - 1 ∧ (-n) % m = m - n % m := by
  have e := Int.mul_ediv_add_emod n m
  have r1 := Int.emod_lt_of_pos n hm
  have e4 : -n = (m - n % m) + m * (-(n / m) - 1) := by rw [Int.mul_sub, Int.mul_neg, Int.mul_one]; omega
  constructor
  · rw [e4, Int.add_mul_ediv_left _ _ (by omega), Int.ediv_eq_zero_of_lt (by omega) (by omega)]; omega
  · rw [e4, Int.add_mul_emod_self_left, Int.emod_eq_of_lt (by omega) (by omega)]

theorem mag_pos (d : Int) (hd : d ≠ 0) : 0 < mag d := by unfold mag; split <;> omega

/-- n and d with d made positive. -/
def up (n d : Int) : Int := if d < 0 then -n else n
theorem sdiv_up (n d : Int) : sdiv n d = up n d / mag d := by unfold sdiv up mag; split <;> rfl
theorem smod_up (n d : Int) : smod n d = up n d % mag d := by unfold smod up mag; split <;> rfl

theorem neg3_up_true (a b d : Int) (hd : d ≠ 0) (h : neg3 a b d = true) : up (a * b) d = -(mag a * mag b) := by
  rw [neg3_true a b d hd h]; unfold up; split <;> omega
theorem neg3_up_false (a b d : Int) (hd : d ≠ 0) (h : neg3 a b d = false) : up (a * b) d = mag a * mag b := by
  rw [neg3_false a b d hd h]; unfold up; split <;> omega

theorem floor_signed (a b d : Int) (hd : d ≠ 0) : (if neg3 a b d = true then -(floorM (neg3 a b d) (mag a * mag b) (mag d)) else floorM (neg3 a b d) (mag a * mag b) (mag d)) = sdiv (a * b) d := by
  rw [sdiv_up]
  have hm := mag_pos d hd
  unfold floorM
  cases h : neg3 a b d
  · rw [neg3_up_false a b d hd h]; simp
  · rw [neg3_up_true a b d hd h]
    have r0 := Int.emod_nonneg (mag a * mag b) (by omega : mag d ≠ 0)
    by_cases hr : 0 < mag a * mag b % mag d
    · rw [(div_neg_rest _ _ hm hr).1]; simp [hr]; omega
    · rw [(div_neg_exact _ _ hm (by omega)).1]; simp [hr]

theorem near_signed (a b d : Int) (hd : d ≠ 0) : (if neg3 a b d = true then -(nearM (mag a * mag b) (mag d)) else nearM (mag a * mag b) (mag d)) = near (a * b) d := by
  unfold near
  rw [sdiv_up, smod_up]
  have hm := mag_pos d hd
  unfold nearM
  cases h : neg3 a b d
  · rw [neg3_up_false a b d hd h]
    simp only [Bool.false_eq_true, if_false]
    repeat' split
    all_goals omega
  · rw [neg3_up_true a b d hd h]
    have r0 := Int.emod_nonneg (mag a * mag b) (by omega : mag d ≠ 0)
    have r1 := Int.emod_lt_of_pos (mag a * mag b) hm
    simp only [if_true]
    by_cases hr : 0 < mag a * mag b % mag d
    · rw [(div_neg_rest _ _ hm hr).1, (div_neg_rest _ _ hm hr).2]
      repeat' split
      all_goals omega
    · rw [(div_neg_exact _ _ hm (by omega)).1, (div_neg_exact _ _ hm (by omega)).2]
      repeat' split
      all_goals omega

theorem sgn_of (neg : Bool) (n q d : Int) (hd : d ≠ 0) (hn : 0 ≤ n) (h : (if neg = true then -n else n) = q) : sgnOk neg n = okOf d q ∧ sgnVal neg n = valOf d q := by
  have h1 : sgnOk neg n = okOf d q := by
    unfold sgnOk okOf
    cases neg
    · simp only [Bool.false_eq_true, if_false] at h ⊢
      subst h
      exact decide_eq_decide.mpr (by omega)
    · simp only [if_true] at h ⊢
      subst h
      exact decide_eq_decide.mpr (by omega)
  refine ⟨h1, ?_⟩
  unfold sgnVal valOf
  rw [h1]
  split
  · exact h
  · rfl
end Go.Proofs.Ytmlkmgeddkpgiaa
