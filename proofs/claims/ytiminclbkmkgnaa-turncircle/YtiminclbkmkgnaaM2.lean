/- Plain facts for the long division of two words by one (school division with a guessed digit). -/
import Derived.Test.YtiminclbkmkgnaaM1
import Derived.Lib.BitFns
namespace Go.Proofs.Ytiminclbkmkgnaa
set_option linter.unusedVariables false

theorem ediv_of (a y q : Int) (h0 : 0 < y) (h1 : q * y ≤ a) (h2 : a < q * y + y) : a / y = q := by
  have h := Int.mul_ediv_add_emod a y
  have r0 := Int.emod_nonneg a (by omega : y ≠ 0)
  have r1 := Int.emod_lt_of_pos a h0
  have hc : y * (a / y) = (a / y) * y := Int.mul_comm _ _
  rcases Int.lt_trichotomy (a / y) q with hlt | heq | hgt
  · have : (a / y + 1) * y ≤ q * y := Int.mul_le_mul_of_nonneg_right (by omega) (by omega)
    rw [Int.add_mul] at this
    omega
  · exact heq
  · have : (q + 1) * y ≤ (a / y) * y := Int.mul_le_mul_of_nonneg_right (by omega) (by omega)
    rw [Int.add_mul] at this
    omega

/-- The quotient of a step: two words and a half by one word. -/
def qd (n d y : Int) : Int := (n * 4294967296 + d) / y

theorem qd_mul (n d y : Int) (h0 : 0 < y) : qd n d y * y ≤ n * 4294967296 + d ∧ n * 4294967296 + d < qd n d y * y + y := by
  unfold qd
  have h := Int.mul_ediv_add_emod (n * 4294967296 + d) y
  have r0 := Int.emod_nonneg (n * 4294967296 + d) (by omega : y ≠ 0)
  have r1 := Int.emod_lt_of_pos (n * 4294967296 + d) h0
  have hc : y * ((n * 4294967296 + d) / y) = ((n * 4294967296 + d) / y) * y := Int.mul_comm _ _
  omega

theorem lt_of_mul_lt (a b y : Int) (hy : 0 < y) (h : a * y < b * y) : a < b := Int.lt_of_mul_lt_mul_right h (by omega)

theorem qd_lt (n d y : Int) (h0 : 0 < y) (hn : n < y) (hn0 : 0 ≤ n) (hd0 : 0 ≤ d) (hd : d < 4294967296) : 0 ≤ qd n d y ∧ qd n d y < 4294967296 := by
  obtain ⟨a, b⟩ := qd_mul n d y h0
  constructor
  · exact Int.ediv_nonneg (by omega) (by omega)
  · apply lt_of_mul_lt _ _ y h0
    have : 4294967296 * y = y * 4294967296 := Int.mul_comm _ _
    omega

/-- The guess is too great: the test says so. -/
theorem guess_high (n d y y1 y0 q r : Int) (h0 : 0 < y) (hy : y = y1 * 4294967296 + y0) (hn : n = q * y1 + r)
    (ht : 4294967296 * r + d < q * y0) : qd n d y < q := by
  obtain ⟨a, b⟩ := qd_mul n d y h0
  apply lt_of_mul_lt _ _ y h0
  have e : q * y = q * y1 * 4294967296 + q * y0 := by rw [hy, Int.mul_add, ← Int.mul_assoc]
  omega

/-- The guess is not too great: the test says so. -/
theorem guess_low (n d y y1 y0 q r : Int) (h0 : 0 < y) (hy : y = y1 * 4294967296 + y0) (hn : n = q * y1 + r)
    (ht : q * y0 ≤ 4294967296 * r + d) : q ≤ qd n d y := by
  obtain ⟨a, b⟩ := qd_mul n d y h0
  have e : q * y = q * y1 * 4294967296 + q * y0 := by rw [hy, Int.mul_add, ← Int.mul_assoc]
  have : q < qd n d y + 1 := by
    apply lt_of_mul_lt _ _ y h0
    rw [Int.add_mul]
    omega
  omega

/-- The guess is at most one above the base; and it is not below the digit. -/
theorem guess_first (n d y y1 y0 : Int) (hy : y = y1 * 4294967296 + y0) (h1 : 2147483648 ≤ y1) (h1' : y1 < 4294967296) (h0 : 0 ≤ y0) (h0' : y0 < 4294967296)
    (hn0 : 0 ≤ n) (hn : n < y) (hd0 : 0 ≤ d) (hd : d < 4294967296) :
    n / y1 ≤ 4294967297 ∧ 0 ≤ n / y1 ∧ qd n d y ≤ n / y1 ∧ n = n / y1 * y1 + (n - n / y1 * y1) ∧ 0 ≤ n - n / y1 * y1 ∧ n - n / y1 * y1 < y1 ∧ n / y1 * y1 ≤ n := by
  have h := Int.mul_ediv_add_emod n y1
  have r0 := Int.emod_nonneg n (by omega : y1 ≠ 0)
  have r1 := Int.emod_lt_of_pos n (by omega : 0 < y1)
  have hc : y1 * (n / y1) = n / y1 * y1 := Int.mul_comm _ _
  obtain ⟨a, b⟩ := qd_mul n d y (by omega)
  refine ⟨?_, Int.ediv_nonneg hn0 (by omega), ?_, by omega, by omega, by omega, by omega⟩
  · have : n / y1 < 4294967298 := by
      apply lt_of_mul_lt _ _ y1 (by omega)
      omega
    omega
  · have hq0 : 0 ≤ qd n d y := (qd_lt n d y (by omega) hn hn0 hd0 hd).1
    have : qd n d y < n / y1 + 1 := by
      apply lt_of_mul_lt _ _ y1 (by omega)
      have e : qd n d y * y = qd n d y * y1 * 4294967296 + qd n d y * y0 := by
        have := congrArg (fun t => qd n d y * t) hy
        rw [this, Int.mul_add, ← Int.mul_assoc]
      have f : 0 ≤ qd n d y * y0 := Int.mul_nonneg hq0 h0
      rw [Int.add_mul]
      omega
    omega

/-- The loop ends because the remainder has passed the base. -/
theorem guess_break (n d y y1 y0 q r : Int) (h0 : 0 < y) (hy : y = y1 * 4294967296 + y0) (hy0 : 0 ≤ y0) (hy0' : y0 < 4294967296) (hn : n = q * y1 + r) (hq : q ≤ 4294967296) (hr : 4294967296 ≤ r) (hd : 0 ≤ d) :
    q ≤ qd n d y := by
  apply guess_low n d y y1 y0 q r h0 hy hn
  have : q * y0 ≤ 4294967296 * 4294967295 := Int.mul_le_mul hq (by omega) hy0 (by decide)
  omega

theorem step_rest (n d y : Int) (h0 : 0 < y) : n * 4294967296 + d - qd n d y * y = (n * 4294967296 + d) % y := by
  unfold qd
  have h := Int.mul_ediv_add_emod (n * 4294967296 + d) y
  have hc : y * ((n * 4294967296 + d) / y) = ((n * 4294967296 + d) / y) * y := Int.mul_comm _ _
  omega

/-- Two digits make the whole quotient. -/
theorem two_digits (n d1 d0 y : Int) (h0 : 0 < y) (hd0 : 0 ≤ d0) (hd0' : d0 < 4294967296) :
    qd n d1 y * 4294967296 + qd ((n * 4294967296 + d1) % y) d0 y = (n * 18446744073709551616 + d1 * 4294967296 + d0) / y ∧
    (((n * 4294967296 + d1) % y) * 4294967296 + d0) % y = (n * 18446744073709551616 + d1 * 4294967296 + d0) % y := by
  have s1 := step_rest n d1 y h0
  have s2 := step_rest ((n * 4294967296 + d1) % y) d0 y h0
  have r2 := Int.emod_nonneg (((n * 4294967296 + d1) % y) * 4294967296 + d0) (by omega : y ≠ 0)
  have r3 := Int.emod_lt_of_pos (((n * 4294967296 + d1) % y) * 4294967296 + d0) h0
  have e : (qd n d1 y * 4294967296 + qd ((n * 4294967296 + d1) % y) d0 y) * y = qd n d1 y * y * 4294967296 + qd ((n * 4294967296 + d1) % y) d0 y * y := by
    rw [Int.add_mul, Int.mul_right_comm]
  have hq : (n * 18446744073709551616 + d1 * 4294967296 + d0) / y = qd n d1 y * 4294967296 + qd ((n * 4294967296 + d1) % y) d0 y := by
    apply ediv_of _ _ _ h0 <;> omega
  refine ⟨hq.symm, ?_⟩
  have h := Int.mul_ediv_add_emod (n * 18446744073709551616 + d1 * 4294967296 + d0) y
  rw [hq] at h
  have hc : y * (qd n d1 y * 4294967296 + qd ((n * 4294967296 + d1) % y) d0 y) = (qd n d1 y * 4294967296 + qd ((n * 4294967296 + d1) % y) d0 y) * y := Int.mul_comm _ _
  omega

/-- A quotient does not change where both sides are scaled; a remainder is scaled. -/
theorem scaled (a y k : Int) (hk : 0 < k) : (a * k) / (y * k) = a / y ∧ (a * k) % (y * k) = a % y * k :=
  ⟨Int.mul_ediv_mul_of_pos_left a y hk, by rw [Int.mul_comm a k, Int.mul_comm y k, Int.mul_emod_mul_of_pos _ _ hk, Int.mul_comm]⟩

/-- What holds of a guessed digit a and its remainder b at the head of the loop. -/
def Guess (n d y y1 a b : Int) : Prop := n = a * y1 + b ∧ 0 ≤ b ∧ b < 4294967296 ∧ 0 ≤ a ∧ a ≤ 4294967297 ∧ qd n d y ≤ a

/-- A normalized divisor and its halves. -/
def Halves (y y1 y0 : Int) : Prop := y = y1 * 4294967296 + y0 ∧ 2147483648 ≤ y1 ∧ y1 < 4294967296 ∧ 0 ≤ y0 ∧ y0 < 4294967296

theorem guess_start {n d y y1 y0 : Int} (h : Halves y y1 y0) (hn0 : 0 ≤ n) (hn : n < y) (hd0 : 0 ≤ d) (hd : d < 4294967296) (p : Int) (hp : p = n / y1 * y1) : Guess n d y y1 (n / y1) (n - p) := by
  obtain ⟨h1, h2, h3, h4, h5⟩ := h
  obtain ⟨a1, a2, a3, a4, a5, a6, a7⟩ := guess_first n d y y1 y0 h1 h2 h3 h4 h5 hn0 hn hd0 hd
  subst hp
  exact ⟨a4, a5, by omega, a2, a1, a3⟩

theorem guess_next {n d y y1 a b : Int} (g : Guess n d y y1 a b) (hq : qd n d y < a) (hq0 : 0 ≤ qd n d y) (hb : b + y1 < 4294967296) (hy : 0 ≤ y1) : Guess n d y y1 (a - 1) (b + y1) := by
  obtain ⟨g1, g2, g3, g4, g5, g6⟩ := g
  have e : (a - 1) * y1 = a * y1 - y1 := by rw [Int.sub_mul, Int.one_mul]
  exact ⟨by omega, by omega, by omega, by omega, by omega, by omega⟩

theorem guess_out_break {n d y y1 y0 a b : Int} (h : Halves y y1 y0) (g : Guess n d y y1 a b) (hq : qd n d y < a) (hd : 0 ≤ d) (hb : 4294967296 ≤ b + y1) : a - 1 = qd n d y := by
  obtain ⟨g1, g2, g3, g4, g5, g6⟩ := g
  obtain ⟨h1, h2, h3, h4, h5⟩ := h
  have e : (a - 1) * y1 = a * y1 - y1 := by rw [Int.sub_mul, Int.one_mul]
  have := guess_break n d y y1 y0 (a - 1) (b + y1) (by omega) h1 h4 h5 (by omega) (by omega) hb hd
  omega

theorem guess_out_low {n d y y1 y0 a b : Int} (h : Halves y y1 y0) (g : Guess n d y y1 a b) (ht : a * y0 ≤ 4294967296 * b + d) : a = qd n d y := by
  obtain ⟨g1, g2, g3, g4, g5, g6⟩ := g
  obtain ⟨h1, h2, h3, h4, h5⟩ := h
  have := guess_low n d y y1 y0 a b (by omega) h1 g1 ht
  omega

theorem guess_hi {n d y y1 y0 a b : Int} (h : Halves y y1 y0) (g : Guess n d y y1 a b) (ht : 4294967296 * b + d < a * y0) : qd n d y < a := by
  obtain ⟨g1, g2, g3, g4, g5, g6⟩ := g
  obtain ⟨h1, h2, h3, h4, h5⟩ := h
  exact guess_high n d y y1 y0 a b (by omega) h1 g1 ht

theorem small_mul {a y0 : Int} (h0 : 0 ≤ a) (h1 : a < 4294967296) (h2 : 0 ≤ y0) (h3 : y0 < 4294967296) : IntKind.u64.wrap (a * y0) = a * y0 ∧ 0 ≤ a * y0 ∧ a * y0 ≤ 18446744065119617025 := by
  have h := half_mul a y0 h0 h1 h2 h3
  exact ⟨wrapu_in _ h.1 (by omega), h.1, h.2⟩
end Go.Proofs.Ytiminclbkmkgnaa
