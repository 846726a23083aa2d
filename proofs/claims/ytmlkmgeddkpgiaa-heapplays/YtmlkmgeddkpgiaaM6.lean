/- What layer 3 (fix) answers, as plain functions of integers. -/
import Derived.Test.YtmlkmgeddkpgiaaM4
import Derived.Test.YtmlkmgeddkpgiaaM5
namespace Go.Proofs.Ytmlkmgeddkpgiaa
set_option linter.unusedVariables false

/-- A valid fix. -/
def mayF (a : Int) : Bool := decide (-1073741823 ≤ a ∧ a ≤ 1073741823)
/-- A value that is answered only if ok, else 0. -/
def gate (ok : Bool) (v : Int) : Int := if ok = true then v else 0
/-- The nearest valid fix. -/
def clampF (a : Int) : Int := if a < -1073741823 then -1073741823 else if 1073741823 < a then 1073741823 else a
def wholeF (a : Int) : Int := clampF a / 65536
def floorF (a : Int) : Int := clampF a / 65536 * 65536
def ceilF (a : Int) : Int := -(-clampF a / 65536 * 65536)
def roundF (a : Int) : Int := near (clampF a) 65536 * 65536
def truncF (a : Int) : Int := (clampF a).tdiv 65536 * 65536
def okAdd (a b : Int) : Bool := mayF a && mayF b && mayF (a + b)
def okSub (a b : Int) : Bool := mayF a && mayF b && mayF (a - b)
def okMul (a b : Int) : Bool := mayF a && mayF b && mayF (near (a * b) 65536)
def okDiv (a b : Int) : Bool := mayF a && mayF b && (decide (b ≠ 0) && mayF (near (a * 65536) b))
def okSqrt (a : Int) : Bool := decide (0 ≤ a) && mayF a

theorem may_iff (a : Int) : mayF a = true ↔ -1073741823 ≤ a ∧ a ≤ 1073741823 := by unfold mayF; simp
theorem may_not (a : Int) : mayF a = false ↔ ¬(-1073741823 ≤ a ∧ a ≤ 1073741823) := by unfold mayF; exact decide_eq_false_iff_not

theorem clamp_bd (a : Int) : -1073741823 ≤ clampF a ∧ clampF a ≤ 1073741823 := by unfold clampF; split <;> (try split) <;> omega
theorem clamp_in (a : Int) (h0 : -1073741823 ≤ a) (h1 : a ≤ 1073741823) : clampF a = a := by unfold clampF; rw [if_neg (by omega), if_neg (by omega)]
theorem clamp_neg (a : Int) : clampF (-clampF a) = -clampF a := by have := clamp_bd a; exact clamp_in _ (by omega) (by omega)

/-- What MulDiv answers and what of it is a valid fix. -/
theorem div_may (d n : Int) : (okOf d n && mayF (valOf d n)) = (decide (d ≠ 0) && mayF n) := by
  by_cases hd : d = 0
  · have : okOf d n = false := by unfold okOf; exact decide_eq_false (by omega)
    rw [this]; simp [hd]
  · have hd' : decide (d ≠ 0) = true := decide_eq_true hd
    by_cases h : -9223372036854775808 ≤ n ∧ n ≤ 9223372036854775807
    · have ho : okOf d n = true := by unfold okOf; exact decide_eq_true ⟨hd, h⟩
      unfold valOf
      rw [if_pos ho, ho, hd']
    · have ho : okOf d n = false := by unfold okOf; exact decide_eq_false (by omega)
      have hm : mayF n = false := (may_not n).2 (by omega)
      rw [ho, hm]; simp
theorem div_val (d n : Int) (x : Bool) : gate (x && (okOf d n && mayF (valOf d n))) (valOf d n) = gate (x && (decide (d ≠ 0) && mayF n)) n := by
  rw [div_may]
  unfold gate
  split
  · rename_i h
    have h2 : (decide (d ≠ 0) && mayF n) = true := by cases x <;> simp_all
    rw [← div_may] at h2
    have h3 : okOf d n = true := by cases ho : okOf d n <;> simp_all
    unfold valOf; rw [if_pos h3]
  · rfl

theorem sdiv_pos (n d : Int) (hd : 0 < d) : sdiv n d = n / d := by unfold sdiv; rw [if_neg (by omega)]
theorem smod_pos (n d : Int) (hd : 0 < d) : smod n d = n % d := by unfold smod; rw [if_neg (by omega)]
theorem val_in (d n : Int) (hd : d ≠ 0) (h0 : -9223372036854775808 ≤ n) (h1 : n ≤ 9223372036854775807) : valOf d n = n := by
  unfold valOf okOf; rw [if_pos (decide_eq_true ⟨hd, h0, h1⟩)]
theorem near_cases (n d : Int) : near n d = sdiv n d ∨ near n d = sdiv n d + 1 := by
  unfold near; repeat' split
  all_goals simp
theorem whole_val (a : Int) : valOf 65536 (sdiv (clampF a * 1) 65536) = wholeF a := by
  have := clamp_bd a
  rw [sdiv_pos _ _ (by decide), Int.mul_one, val_in _ _ (by decide) (by omega) (by omega)]
  rfl
theorem round_bd (a : Int) : -16384 ≤ near (clampF a) 65536 ∧ near (clampF a) 65536 ≤ 16384 := by
  have := clamp_bd a
  have h := near_cases (clampF a) 65536
  rw [sdiv_pos _ _ (by decide)] at h
  omega
theorem round_val (a : Int) : valOf 65536 (near (clampF a * 1) 65536) = near (clampF a) 65536 := by
  have := round_bd a
  rw [Int.mul_one, val_in _ _ (by decide) (by omega) (by omega)]
theorem whole_bd (a : Int) : -16384 ≤ wholeF a ∧ wholeF a ≤ 16383 := by have := clamp_bd a; unfold wholeF; omega
theorem trunc_bd (a : Int) : -16384 ≤ (clampF a).tdiv 65536 ∧ (clampF a).tdiv 65536 ≤ 16383 := by
  have := clamp_bd a
  rcases Int.lt_or_le (clampF a) 0 with h | h
  · have e : (clampF a).tdiv 65536 = -((-clampF a) / 65536) := by
      rw [← Int.tdiv_eq_ediv_of_nonneg (by omega : 0 ≤ -clampF a), Int.neg_tdiv]; omega
    omega
  · rw [Int.tdiv_eq_ediv_of_nonneg h]; omega
theorem sqrt_bd (a : Int) (h0 : 0 ≤ a) (h1 : a ≤ 1073741823) : 0 ≤ isq (a * 65536) ∧ isq (a * 65536) < 16777216 := by
  obtain ⟨r0, r1, r2⟩ := isq_root (a * 65536) (by omega) (by omega)
  exact ⟨r0, lt_of_sq (by decide : (0 : Int) ≤ 16777216) (by omega)⟩
end Go.Proofs.Ytmlkmgeddkpgiaa
