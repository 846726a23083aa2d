/- Y01: M4, M5, M6, M12. -/
import Derived.Test.YtlkbnldpecolbaaM0
/- What the layer's calls answer, as plain functions of integers. -/
namespace Go.Proofs.Ytlkbnldpecolbaa
set_option linter.unusedVariables false

/-- Which of two numbers is greater. -/
def cmpI (x y : Int) : Int := if x < y then -1 else if y < x then 1 else 0

/-- The greatest integer not above n / d (d not 0). -/
def sdiv (n d : Int) : Int := if d < 0 then (-n) / (-d) else n / d
/-- What is left of n, in the sign of the magnitude of d. -/
def smod (n d : Int) : Int := if d < 0 then (-n) % (-d) else n % d
/-- The integer nearest to n / d, of two the even one. -/
def near (n d : Int) : Int := if 2 * smod n d < mag d then sdiv n d else if mag d < 2 * smod n d then sdiv n d + 1 else if sdiv n d % 2 = 0 then sdiv n d else sdiv n d + 1
/-- A quotient is answered: the divisor is not 0 and the number fits. -/
def okOf (d q : Int) : Bool := decide (d ≠ 0 ∧ -9223372036854775808 ≤ q ∧ q ≤ 9223372036854775807)
def valOf (d q : Int) : Int := if okOf d q = true then q else 0

/-- A quotient of magnitudes with a sign. -/
def sgnOk (neg : Bool) (n : Int) : Bool := if neg then decide (n ≤ 9223372036854775808) else decide (n < 9223372036854775808)
def sgnVal (neg : Bool) (n : Int) : Int := if sgnOk neg n = true then (if neg then -n else n) else 0
/-- The quotient's sign. -/
def neg3 (a b d : Int) : Bool := !((!decide (a < 0) == decide (b < 0)) == decide (d < 0))
/-- The quotient of magnitudes, rounded to the nearest, of two the even one. -/
def nearM (p m : Int) : Int := if m < 2 * (p % m) ∨ (2 * (p % m) = m ∧ p / m % 2 = 1) then p / m + 1 else p / m
/-- The quotient of magnitudes, rounded away from 0 where it is negative. -/
def floorM (neg : Bool) (p m : Int) : Int := if neg = true ∧ 0 < p % m then p / m + 1 else p / m

theorem neg3_true (a b d : Int) (hd : d ≠ 0) (h : neg3 a b d = true) : mag a * mag b = (if d < 0 then a * b else -(a * b)) := by
  unfold neg3 at h
  by_cases hd' : d < 0
  · rw [if_pos hd']
    exact mul_pos a b (by simpa [hd'] using h)
  · rw [if_neg hd']
    exact mul_neg a b (by simpa [hd'] using h)
theorem neg3_false (a b d : Int) (hd : d ≠ 0) (h : neg3 a b d = false) : mag a * mag b = (if d < 0 then -(a * b) else a * b) := by
  unfold neg3 at h
  by_cases hd' : d < 0
  · rw [if_pos hd']
    exact mul_neg a b (by simpa [hd'] using h)
  · rw [if_neg hd']
    exact mul_pos a b (by simpa [hd'] using h)

theorem div_neg_exact (n m : Int) (hm : 0 < m) (h : n % m = 0) : (-n) / m = -(n / m) ∧ (-n) % m = 0 := by
  have e := Int.mul_ediv_add_emod n m
  have hq : (-n) / m = -(n / m) := by
    have e2 : -n = m * (-(n / m)) := by rw [Int.mul_neg]; omega
    rw [e2, Int.mul_ediv_cancel_left _ (by omega)]
  have e3 := Int.mul_ediv_add_emod (-n) m
  rw [hq, Int.mul_neg] at e3
  exact ⟨hq, by omega⟩

theorem div_neg_rest (n m : Int) (hm : 0 < m) (h : 0 < n % m) : (-n) / m = -(n / m) - 1 ∧ (-n) % m = m - n % m := by
  have e := Int.mul_ediv_add_emod n m
  have r1 := Int.emod_lt_of_pos n hm
  have e4 : -n = (m - n % m) + m * (-(n / m) - 1) := by rw [Int.mul_sub, Int.mul_neg, Int.mul_one]; omega
  constructor
  · rw [e4, Int.add_mul_ediv_left _ _ (by omega), Int.ediv_eq_zero_of_lt (by omega) (by omega)]; omega
  · rw [e4, Int.add_mul_emod_self_left, Int.emod_eq_of_lt (by omega) (by omega)]

theorem mag_pos (d : Int) (hd : d ≠ 0) : 0 < mag d := by unfold mag; split <;> omega

/-- n and d with d made positive. -/
def up (n d : Int) : Int := if d < 0 then -n else n
theorem sdiv_up (n d : Int) : sdiv n d = up n d / mag d := by unfold sdiv up mag; split <;> rfl
theorem smod_up (n d : Int) : smod n d = up n d % mag d := by unfold smod up mag; split <;> rfl

theorem neg3_up_true (a b d : Int) (hd : d ≠ 0) (h : neg3 a b d = true) : up (a * b) d = -(mag a * mag b) := by
  rw [neg3_true a b d hd h]; unfold up; split <;> omega
theorem neg3_up_false (a b d : Int) (hd : d ≠ 0) (h : neg3 a b d = false) : up (a * b) d = mag a * mag b := by
  rw [neg3_false a b d hd h]; unfold up; split <;> omega

theorem floor_signed (a b d : Int) (hd : d ≠ 0) : (if neg3 a b d = true then -(floorM (neg3 a b d) (mag a * mag b) (mag d)) else floorM (neg3 a b d) (mag a * mag b) (mag d)) = sdiv (a * b) d := by
  rw [sdiv_up]
  have hm := mag_pos d hd
  unfold floorM
  cases h : neg3 a b d
  · rw [neg3_up_false a b d hd h]; simp
  · rw [neg3_up_true a b d hd h]
    have r0 := Int.emod_nonneg (mag a * mag b) (by omega : mag d ≠ 0)
    by_cases hr : 0 < mag a * mag b % mag d
    · rw [(div_neg_rest _ _ hm hr).1]; simp [hr]; omega
    · rw [(div_neg_exact _ _ hm (by omega)).1]; simp [hr]

theorem near_signed (a b d : Int) (hd : d ≠ 0) : (if neg3 a b d = true then -(nearM (mag a * mag b) (mag d)) else nearM (mag a * mag b) (mag d)) = near (a * b) d := by
  unfold near
  rw [sdiv_up, smod_up]
  have hm := mag_pos d hd
  unfold nearM
  cases h : neg3 a b d
  · rw [neg3_up_false a b d hd h]
    simp only [Bool.false_eq_true, if_false]
    repeat' split
    all_goals omega
  · rw [neg3_up_true a b d hd h]
    have r0 := Int.emod_nonneg (mag a * mag b) (by omega : mag d ≠ 0)
    have r1 := Int.emod_lt_of_pos (mag a * mag b) hm
    simp only [if_true]
    by_cases hr : 0 < mag a * mag b % mag d
    · rw [(div_neg_rest _ _ hm hr).1, (div_neg_rest _ _ hm hr).2]
      repeat' split
      all_goals omega
    · rw [(div_neg_exact _ _ hm (by omega)).1, (div_neg_exact _ _ hm (by omega)).2]
      repeat' split
      all_goals omega

theorem sgn_of (neg : Bool) (n q d : Int) (hd : d ≠ 0) (hn : 0 ≤ n) (h : (if neg = true then -n else n) = q) : sgnOk neg n = okOf d q ∧ sgnVal neg n = valOf d q := by
  have h1 : sgnOk neg n = okOf d q := by
    unfold sgnOk okOf
    cases neg
    · simp only [Bool.false_eq_true, if_false] at h ⊢
      subst h
      exact decide_eq_decide.mpr (by omega)
    · simp only [if_true] at h ⊢
      subst h
      exact decide_eq_decide.mpr (by omega)
  refine ⟨h1, ?_⟩
  unfold sgnVal valOf
  rw [h1]
  split
  · exact h
  · rfl
end Go.Proofs.Ytlkbnldpecolbaa

/- Integer roots, signs of p + q sqrt(d), and floors of (p + q sqrt(d)) / m, as plain functions of integers. -/
namespace Go.Proofs.Ytlkbnldpecolbaa
set_option linter.unusedVariables false

/-- The root, a bit behind the other: j bits are still to be tried, x is what stands. -/
def isqB (n : Int) : Nat → Int → Int
  | 0, x => x
  | j + 1, x => isqB n j (if (x + 2 ^ j) * (x + 2 ^ j) ≤ n then x + 2 ^ j else x)
/-- The integer root of a number below 2^96. -/
def isq (n : Int) : Int := isqB n 48 0

/-- r is the integer root of n. -/
def IsRoot (n r : Int) : Prop := 0 ≤ r ∧ r * r ≤ n ∧ n < (r + 1) * (r + 1)

theorem sq_le {a b : Int} (h0 : 0 ≤ a) (h : a ≤ b) : a * a ≤ b * b := Int.mul_le_mul h h h0 (by omega)
theorem sq_lt {a b : Int} (h0 : 0 ≤ a) (h : a < b) : a * a < b * b := by
  have h1 := sq_le (by omega : 0 ≤ a + 1) (by omega : a + 1 ≤ b)
  have h2 : (a + 1) * (a + 1) = a * a + 2 * a + 1 := by rw [Int.add_mul, Int.mul_add]; omega
  omega
theorem le_of_sq {a b : Int} (hb : 0 ≤ b) (h : a * a ≤ b * b) : a ≤ b := by
  rcases Int.lt_or_le b a with h1 | h1
  · have := sq_lt hb h1; omega
  · exact h1
theorem lt_of_sq {a b : Int} (hb : 0 ≤ b) (h : a * a < b * b) : a < b := by
  rcases Int.lt_or_le a b with h1 | h1
  · exact h1
  · have := sq_le hb h1; omega
theorem sq_nonneg (a : Int) : 0 ≤ a * a := by
  rcases Int.le_total 0 a with h | h
  · exact Int.mul_nonneg h h
  · exact Int.mul_nonneg_of_nonpos_of_nonpos h h

theorem root_one {n r s : Int} (h : IsRoot n r) (h' : IsRoot n s) : r = s := by
  obtain ⟨a0, a1, a2⟩ := h
  obtain ⟨b0, b1, b2⟩ := h'
  have := lt_of_sq (by omega : 0 ≤ s + 1) (by omega : r * r < (s + 1) * (s + 1))
  have := lt_of_sq (by omega : 0 ≤ r + 1) (by omega : s * s < (r + 1) * (r + 1))
  omega

theorem isqB_root (n : Int) : ∀ (j : Nat) (x : Int), 0 ≤ x → x * x ≤ n → n < (x + 2 ^ j) * (x + 2 ^ j) → IsRoot n (isqB n j x) := by
  intro j
  induction j with
  | zero => intro x h0 h1 h2; exact ⟨h0, h1, by simpa [isqB] using h2⟩
  | succ j ih =>
    intro x h0 h1 h2
    have hp : (0 : Int) < 2 ^ j := Int.pow_pos (by decide)
    unfold isqB
    split
    · refine ih _ (by omega) (by assumption) ?_
      have e : x + 2 ^ j + 2 ^ j = x + 2 ^ (j + 1) := by rw [Int.pow_succ]; omega
      rw [e]; exact h2
    · exact ih _ h0 h1 (by omega)

theorem isq_root (n : Int) (h0 : 0 ≤ n) (h1 : n < 79228162514264337593543950336) : IsRoot n (isq n) :=
  isqB_root n 48 0 (by decide) (by simpa using h0) (by
    have e : ((0 : Int) + 2 ^ 48) * (0 + 2 ^ 48) = 79228162514264337593543950336 := by decide
    rw [e]; exact h1)

theorem isq_is {n r : Int} (h0 : 0 ≤ n) (h1 : n < 79228162514264337593543950336) (h : IsRoot n r) : isq n = r := root_one (isq_root n h0 h1) h

theorem isq_sq (k : Int) (h0 : 0 ≤ k) (h1 : k * k < 79228162514264337593543950336) : isq (k * k) = k :=
  isq_is (sq_nonneg k) h1 ⟨h0, Int.le_refl _, sq_lt h0 (by omega)⟩

/-- The least integer whose square is not below n. -/
def csq (n : Int) : Int := if isq n * isq n < n then isq n + 1 else isq n

/-- The sign of p + q sqrt(d). -/
def sgnR (p q d : Int) : Int := cmpI (p * mag p) (-q * mag q * d)
/-- The greatest integer not above q sqrt(d). -/
def rt (q d : Int) : Int := if 0 ≤ q then isq (q * q * d) else -(csq (q * q * d))
/-- The greatest integer not above (p + q sqrt(d)) / m. -/
def cutR (p q d m : Int) : Int := (p + rt q d) / m

/-- p, q, d lie in the ranges, with p from -t to t. -/
def validR (p t q d : Int) : Bool := decide (-t ≤ p ∧ p ≤ t ∧ -2147483648 ≤ q ∧ q ≤ 2147483648 ∧ 0 ≤ d ∧ d ≤ 2147483648)
def divOkR (m : Int) : Bool := decide (1 ≤ m ∧ m ≤ 1099511627776)

theorem cmpI_bd (x y : Int) : -1 ≤ cmpI x y ∧ cmpI x y ≤ 1 := by unfold cmpI; split <;> (try split) <;> omega
theorem cmpI_nonneg (x y : Int) : 0 ≤ cmpI x y ↔ y ≤ x := by unfold cmpI; split <;> (try split) <;> omega
theorem cmpI_neg (x y : Int) : cmpI (-x) (-y) = -cmpI x y := by unfold cmpI; repeat' split
                                                                all_goals omega
theorem cmpI_mono {x x' y : Int} (h : x ≤ x') : cmpI x y ≤ cmpI x' y := by unfold cmpI; repeat' split
                                                                           all_goals omega

theorem mag_neg (a : Int) : mag (-a) = mag a := by unfold mag; split <;> split <;> omega
theorem mag_mul (a b : Int) : mag (a * b) = mag a * mag b := by
  rcases Int.lt_or_le a 0 with ha | ha <;> rcases Int.lt_or_le b 0 with hb | hb
  · have h := Int.mul_pos_of_neg_of_neg ha hb
    unfold mag; rw [if_neg (by omega), if_pos ha, if_pos hb]; exact (Int.neg_mul_neg a b).symm
  · have h := Int.mul_nonneg (by omega : 0 ≤ -a) hb
    rw [Int.neg_mul] at h
    unfold mag; rw [if_pos ha, if_neg (by omega : ¬ b < 0), Int.neg_mul]; split <;> omega
  · have h := Int.mul_nonneg ha (by omega : 0 ≤ -b)
    rw [Int.mul_neg] at h
    unfold mag; rw [if_neg (by omega : ¬ a < 0), if_pos hb, Int.mul_neg]; split <;> omega
  · have h := Int.mul_nonneg ha hb
    unfold mag; rw [if_neg (by omega : ¬ a < 0), if_neg (by omega : ¬ b < 0), if_neg (by omega)]

/-- x |x| rises with x. -/
theorem ss_lt {a b : Int} (h : a < b) : a * mag a < b * mag b := by
  rcases Int.lt_or_le a 0 with ha | ha
  · have e : a * mag a = -(a * a) := by unfold mag; rw [if_pos ha, Int.mul_neg]
    rcases Int.lt_or_le b 0 with hb | hb
    · have e' : b * mag b = -(b * b) := by unfold mag; rw [if_pos hb, Int.mul_neg]
      have := sq_lt (by omega : 0 ≤ -b) (by omega : -b < -a)
      rw [Int.neg_mul_neg, Int.neg_mul_neg] at this
      omega
    · have e' : b * mag b = b * b := by unfold mag; rw [if_neg (by omega)]
      have := sq_nonneg b
      have := Int.mul_pos_of_neg_of_neg ha ha
      omega
  · have e : a * mag a = a * a := by unfold mag; rw [if_neg (by omega)]
    have e' : b * mag b = b * b := by unfold mag; rw [if_neg (by omega)]
    have := sq_lt ha h
    omega
theorem cmp_ss (a b : Int) : cmpI (a * mag a) (b * mag b) = cmpI a b := by
  rcases Int.lt_trichotomy a b with h | h | h
  · have := ss_lt h
    unfold cmpI; rw [if_pos h, if_pos this]
  · subst h; unfold cmpI; simp
  · have := ss_lt h
    unfold cmpI; rw [if_neg (by omega : ¬ a < b), if_neg (by omega), if_pos h, if_pos this]

theorem csq_spec (n c : Int) (h0 : 0 ≤ n) (h1 : n < 79228162514264337593543950336) (hc : 0 ≤ c) : csq n ≤ c ↔ n ≤ c * c := by
  obtain ⟨r0, r1, r2⟩ := isq_root n h0 h1
  unfold csq
  split
  · constructor
    · intro h
      have := sq_le (by omega : 0 ≤ isq n + 1) h
      omega
    · intro h
      have := lt_of_sq hc (by omega : isq n * isq n < c * c)
      omega
  · constructor
    · intro h
      have := sq_le r0 h
      omega
    · intro h
      exact le_of_sq hc (by omega)
theorem csq_nonneg (n : Int) (h0 : 0 ≤ n) (h1 : n < 79228162514264337593543950336) : 0 ≤ csq n := by
  obtain ⟨r0, r1, r2⟩ := isq_root n h0 h1
  unfold csq; split <;> omega

/-- q q d stays below 2^93 + 1. -/
theorem qqd_bd (q d : Int) (q0 : -2147483648 ≤ q) (q1 : q ≤ 2147483648) (d0 : 0 ≤ d) (d1 : d ≤ 2147483648) :
    0 ≤ q * q ∧ q * q ≤ 4611686018427387904 ∧ 0 ≤ q * q * d ∧ q * q * d ≤ 9903520314283042199192993792 := by
  have a0 := sq_nonneg q
  have a1 : q * q ≤ 4611686018427387904 := by
    have e : q * q = mag q * mag q := by unfold mag; split <;> simp [Int.neg_mul_neg]
    have b : 0 ≤ mag q ∧ mag q ≤ 2147483648 := by unfold mag; split <;> omega
    rw [e]
    exact Int.mul_le_mul b.2 b.2 b.1 (by decide)
  exact ⟨a0, a1, Int.mul_nonneg a0 d0, Int.mul_le_mul a1 d1 d0 (by decide)⟩

/-- The sign decides as the rounded root does. -/
theorem sgn_rt (p q d : Int) (q0 : -2147483648 ≤ q) (q1 : q ≤ 2147483648) (d0 : 0 ≤ d) (d1 : d ≤ 2147483648) : 0 ≤ sgnR p q d ↔ 0 ≤ p + rt q d := by
  obtain ⟨a0, a1, a2, a3⟩ := qqd_bd q d q0 q1 d0 d1
  unfold sgnR
  rw [cmpI_nonneg]
  unfold rt
  by_cases hq : 0 ≤ q
  · rw [if_pos hq]
    have e : -q * mag q * d = -(q * q * d) := by
      have : mag q = q := by unfold mag; rw [if_neg (by omega)]
      rw [this, Int.neg_mul, Int.neg_mul]
    rw [e]
    generalize q * q * d = n at *
    obtain ⟨r0, r1, r2⟩ := isq_root n a2 (by omega)
    rcases Int.lt_or_le p 0 with hp | hp
    · have e' : p * mag p = -(p * p) := by unfold mag; rw [if_pos hp, Int.mul_neg]
      rw [e']
      constructor
      · intro h
        have := lt_of_sq (by omega : 0 ≤ isq n + 1) (show -p * -p < _ by rw [Int.neg_mul_neg]; omega)
        omega
      · intro h
        have := sq_le (by omega : 0 ≤ -p) (by omega : -p ≤ isq n)
        rw [Int.neg_mul_neg] at this
        omega
    · have e' : p * mag p = p * p := by unfold mag; rw [if_neg (by omega)]
      have := sq_nonneg p
      omega
  · rw [if_neg hq]
    have e : -q * mag q * d = q * q * d := by
      have : mag q = -q := by unfold mag; rw [if_pos (by omega)]
      rw [this, Int.neg_mul_neg]
    rw [e]
    generalize q * q * d = n at *
    have c0 := csq_nonneg n a2 (by omega)
    rcases Int.lt_or_le p 0 with hp | hp
    · have e' : p * mag p = -(p * p) := by unfold mag; rw [if_pos hp, Int.mul_neg]
      have := Int.mul_pos_of_neg_of_neg hp hp
      omega
    · have e' : p * mag p = p * p := by unfold mag; rw [if_neg (by omega)]
      rw [e']
      have := csq_spec n p a2 (by omega) hp
      omega

theorem rt_bd (q d : Int) (q0 : -2147483648 ≤ q) (q1 : q ≤ 2147483648) (d0 : 0 ≤ d) (d1 : d ≤ 2147483648) : -(mag q * 50000) ≤ rt q d ∧ rt q d ≤ mag q * 50000 ∧ -107374182400000 ≤ rt q d ∧ rt q d ≤ 107374182400000 := by
  obtain ⟨a0, a1, a2, a3⟩ := qqd_bd q d q0 q1 d0 d1
  have hm : 0 ≤ mag q ∧ mag q ≤ 2147483648 := by unfold mag; split <;> omega
  have em : q * q = mag q * mag q := by unfold mag; split <;> simp [Int.neg_mul_neg]
  have hb : q * q * d ≤ (mag q * 50000) * (mag q * 50000) := by
    have e : (mag q * 50000) * (mag q * 50000) = q * q * 2500000000 := by
      rw [em, Int.mul_assoc, Int.mul_assoc, Int.mul_left_comm 50000 (mag q) 50000]
      rfl
    rw [e]
    exact Int.mul_le_mul_of_nonneg_left (by omega) a0
  have c := csq_spec (q * q * d) (mag q * 50000) a2 (by omega) (by omega)
  have c0 := csq_nonneg (q * q * d) a2 (by omega)
  have c1 := c.2 hb
  obtain ⟨r0, r1, r2⟩ := isq_root (q * q * d) a2 (by omega)
  have c2 : isq (q * q * d) ≤ csq (q * q * d) := by unfold csq; split <;> omega
  unfold rt
  split <;> omega

theorem rt_whole (q k : Int) (q0 : -2147483648 ≤ q) (q1 : q ≤ 2147483648) (k0 : 0 ≤ k) (k1 : k ≤ 46340) : rt q (k * k) = q * k := by
  have kk : k * k ≤ 46340 * 46340 := sq_le k0 k1
  obtain ⟨a0, a1, a2, a3⟩ := qqd_bd q (k * k) q0 q1 (sq_nonneg k) (by omega)
  have e : q * q * (k * k) = (mag q * k) * (mag q * k) := by
    have em : q * q = mag q * mag q := by unfold mag; split <;> simp [Int.neg_mul_neg]
    rw [em, Int.mul_assoc, Int.mul_assoc, Int.mul_left_comm (mag q) k k]
  have hm : 0 ≤ mag q := by unfold mag; split <;> omega
  have hi : isq (q * q * (k * k)) = mag q * k := by
    rw [e]
    exact isq_sq _ (Int.mul_nonneg hm k0) (by rw [← e]; omega)
  unfold rt csq
  rw [hi]
  by_cases hq : 0 ≤ q
  · rw [if_pos hq]; unfold mag; rw [if_neg (by omega)]
  · rw [if_neg hq, if_neg (by omega)]; unfold mag; rw [if_pos (by omega), Int.neg_mul]; omega

theorem sgn_whole (q k more : Int) (k0 : 0 ≤ k) : sgnR (-q * k + more) q (k * k) = cmpI more 0 := by
  unfold sgnR
  have e : -q * mag q * (k * k) = (-q * k) * mag (-q * k) := by
    rw [mag_mul, mag_neg]
    have : mag k = k := by unfold mag; rw [if_neg (by omega)]
    rw [this, Int.mul_assoc, Int.mul_assoc, Int.mul_left_comm (mag q) k k]
  rw [e, cmp_ss]
  unfold cmpI
  repeat' split
  all_goals omega

theorem sgn_flip (p q d : Int) : sgnR (-p) (-q) d = -sgnR p q d := by
  unfold sgnR
  rw [mag_neg, mag_neg, ← cmpI_neg]
  congr 1
  · rw [Int.neg_mul]
  · rw [Int.neg_mul, Int.neg_mul]

theorem sgn_less (p q d l : Int) (h : 0 ≤ l) : sgnR (p - l) q d ≤ sgnR p q d := by
  unfold sgnR
  rcases Int.lt_or_le (p - l) p with h1 | h1
  · exact cmpI_mono (Int.le_of_lt (ss_lt h1))
  · have : p - l = p := by omega
    rw [this]; exact Int.le_refl _

theorem cut_more (p q d m k : Int) (hm : 0 < m) : cutR (p + k * m) q d m = cutR p q d m + k := by
  unfold cutR
  have e : p + k * m + rt q d = p + rt q d + k * m := by omega
  rw [e, Int.add_mul_ediv_right _ _ (by omega)]

/-- A quotient, rounded down, and what is left. -/
theorem cut_spec (p q d m : Int) (hm : 0 < m) : cutR p q d m * m ≤ p + rt q d ∧ p + rt q d < cutR p q d m * m + m := by
  unfold cutR
  have e := Int.mul_ediv_add_emod (p + rt q d) m
  have r0 := Int.emod_nonneg (p + rt q d) (by omega : m ≠ 0)
  have r1 := Int.emod_lt_of_pos (p + rt q d) hm
  rw [Int.mul_comm] at e
  omega

theorem le_cut (p q d m v : Int) (hm : 0 < m) (q0 : -2147483648 ≤ q) (q1 : q ≤ 2147483648) (d0 : 0 ≤ d) (d1 : d ≤ 2147483648) : 0 ≤ sgnR (p - v * m) q d ↔ v ≤ cutR p q d m := by
  rw [sgn_rt _ _ _ q0 q1 d0 d1]
  unfold cutR
  rw [Int.le_ediv_iff_mul_le hm]
  omega

/-- The document's own way to the sign. -/
def sg (v : Int) : Int := if v < 0 then -1 else if 0 < v then 1 else 0
theorem sg_cmp (v : Int) : sg v = cmpI v 0 := rfl

theorem sg_n {v : Int} (h : v < 0) : sg v = -1 := by unfold sg; rw [if_pos h]
theorem sg_p {v : Int} (h : 0 < v) : sg v = 1 := by unfold sg; rw [if_neg (by omega), if_pos h]
theorem cmp_n {x y : Int} (h : x < y) : cmpI x y = -1 := by unfold cmpI; rw [if_pos h]
theorem cmp_p {x y : Int} (h : y < x) : cmpI x y = 1 := by unfold cmpI; rw [if_neg (by omega), if_pos h]
theorem ss_n {p : Int} (h : p < 0) : p * mag p < 0 := by have := ss_lt h; simpa [mag] using this
theorem ss_p {p : Int} (h : 0 < p) : 0 < p * mag p := by have := ss_lt h; simpa [mag] using this

theorem ref_same (p q d : Int) (d0 : 0 < d) (h : 0 ≤ sg p * sg q) : sg (sg p + sg q) = sgnR p q d := by
  unfold sgnR
  rcases Int.lt_trichotomy q 0 with hq | hq | hq
  · have e2 : 0 < -q * mag q := by have := ss_p (by omega : 0 < -q); rwa [mag_neg] at this
    have e3 := Int.mul_pos e2 d0
    generalize -q * mag q * d = z at *
    rcases Int.lt_trichotomy p 0 with hp | hp | hp
    · have := ss_n hp
      rw [sg_n hp, sg_n hq, cmp_n (by omega)]; rfl
    · subst hp
      rw [sg_n hq, cmp_n (by simpa using e3)]; rfl
    · rw [sg_n hq, sg_p hp] at h; omega
  · subst hq
    have e2 : -(0 : Int) * mag 0 * d = 0 := by simp
    rw [e2]
    rcases Int.lt_trichotomy p 0 with hp | hp | hp
    · rw [sg_n hp, cmp_n (ss_n hp)]; rfl
    · subst hp; rfl
    · rw [sg_p hp, cmp_p (ss_p hp)]; rfl
  · have e2 : -q * mag q < 0 := by have := ss_n (by omega : -q < 0); rwa [mag_neg] at this
    have e3 := Int.mul_neg_of_neg_of_pos e2 d0
    generalize -q * mag q * d = z at *
    rcases Int.lt_trichotomy p 0 with hp | hp | hp
    · rw [sg_n hp, sg_p hq] at h; omega
    · subst hp
      rw [sg_p hq, cmp_p (by simpa using e3)]; rfl
    · have := ss_p hp
      rw [sg_p hp, sg_p hq, cmp_p (by omega)]; rfl

theorem ref_zero (p q : Int) : sg (sg p + 0) = sgnR p q 0 := by
  unfold sgnR
  rw [Int.mul_zero]
  rcases Int.lt_trichotomy p 0 with hp | hp | hp
  · rw [sg_n hp, cmp_n (ss_n hp)]; rfl
  · subst hp; rfl
  · rw [sg_p hp, cmp_p (ss_p hp)]; rfl

theorem ref_apart (p q d : Int) (h : sg p * sg q < 0) : sg p * cmpI (p * p) (q * (q * d)) = sgnR p q d := by
  unfold sgnR
  have e : q * (q * d) = q * q * d := by rw [Int.mul_assoc]
  rw [e]
  rcases Int.lt_trichotomy p 0 with hp | hp | hp <;> rcases Int.lt_trichotomy q 0 with hq | hq | hq
  · unfold sg at h; rw [if_pos hp, if_pos hq] at h; omega
  · subst hq; simp [sg] at h
  · have e1 : p * mag p = -(p * p) := by unfold mag; rw [if_pos hp, Int.mul_neg]
    have e2 : -q * mag q * d = -(q * q * d) := by unfold mag; rw [if_neg (by omega), Int.neg_mul, Int.neg_mul]
    have e3 : sg p = -1 := by unfold sg; rw [if_pos hp]
    rw [e1, e2, e3, cmpI_neg]; omega
  · subst hp; simp [sg] at h
  · subst hp; simp [sg] at h
  · subst hp; simp [sg] at h
  · have e1 : p * mag p = p * p := by unfold mag; rw [if_neg (by omega)]
    have e2 : -q * mag q * d = q * q * d := by unfold mag; rw [if_pos hq, Int.neg_mul_neg]
    have e3 : sg p = 1 := by unfold sg; rw [if_neg (by omega), if_pos hp]
    rw [e1, e2, e3]; omega
  · subst hq; simp [sg] at h
  · unfold sg at h; rw [if_neg (by omega : ¬ p < 0), if_pos hp, if_neg (by omega : ¬ q < 0), if_pos hq] at h; omega

end Go.Proofs.Ytlkbnldpecolbaa

/- What layer 3 (fix) answers, as plain functions of integers. -/
namespace Go.Proofs.Ytlkbnldpecolbaa
set_option linter.unusedVariables false

/-- A valid fix. -/
def mayF (a : Int) : Bool := decide (-1073741823 ≤ a ∧ a ≤ 1073741823)
/-- A value that is answered only if ok, else 0. -/
def gate (ok : Bool) (v : Int) : Int := if ok = true then v else 0
/-- The nearest valid fix. -/
def clampF (a : Int) : Int := if a < -1073741823 then -1073741823 else if 1073741823 < a then 1073741823 else a
def wholeF (a : Int) : Int := clampF a / 65536
def floorF (a : Int) : Int := clampF a / 65536 * 65536
def ceilF (a : Int) : Int := -(-clampF a / 65536 * 65536)
def roundF (a : Int) : Int := near (clampF a) 65536 * 65536
def truncF (a : Int) : Int := (clampF a).tdiv 65536 * 65536
def okAdd (a b : Int) : Bool := mayF a && mayF b && mayF (a + b)
def okSub (a b : Int) : Bool := mayF a && mayF b && mayF (a - b)
def okMul (a b : Int) : Bool := mayF a && mayF b && mayF (near (a * b) 65536)
def okDiv (a b : Int) : Bool := mayF a && mayF b && (decide (b ≠ 0) && mayF (near (a * 65536) b))
def okSqrt (a : Int) : Bool := decide (0 ≤ a) && mayF a

theorem may_iff (a : Int) : mayF a = true ↔ -1073741823 ≤ a ∧ a ≤ 1073741823 := by unfold mayF; simp
theorem may_not (a : Int) : mayF a = false ↔ ¬(-1073741823 ≤ a ∧ a ≤ 1073741823) := by unfold mayF; exact decide_eq_false_iff_not

theorem clamp_bd (a : Int) : -1073741823 ≤ clampF a ∧ clampF a ≤ 1073741823 := by unfold clampF; split <;> (try split) <;> omega
theorem clamp_in (a : Int) (h0 : -1073741823 ≤ a) (h1 : a ≤ 1073741823) : clampF a = a := by unfold clampF; rw [if_neg (by omega), if_neg (by omega)]
theorem clamp_neg (a : Int) : clampF (-clampF a) = -clampF a := by have := clamp_bd a; exact clamp_in _ (by omega) (by omega)

/-- What MulDiv answers and what of it is a valid fix. -/
theorem div_may (d n : Int) : (okOf d n && mayF (valOf d n)) = (decide (d ≠ 0) && mayF n) := by
  by_cases hd : d = 0
  · have : okOf d n = false := by unfold okOf; exact decide_eq_false (by omega)
    rw [this]; simp [hd]
  · have hd' : decide (d ≠ 0) = true := decide_eq_true hd
    by_cases h : -9223372036854775808 ≤ n ∧ n ≤ 9223372036854775807
    · have ho : okOf d n = true := by unfold okOf; exact decide_eq_true ⟨hd, h⟩
      unfold valOf
      rw [if_pos ho, ho, hd']
    · have ho : okOf d n = false := by unfold okOf; exact decide_eq_false (by omega)
      have hm : mayF n = false := (may_not n).2 (by omega)
      rw [ho, hm]; simp
theorem div_val (d n : Int) (x : Bool) : gate (x && (okOf d n && mayF (valOf d n))) (valOf d n) = gate (x && (decide (d ≠ 0) && mayF n)) n := by
  rw [div_may]
  unfold gate
  split
  · rename_i h
    have h2 : (decide (d ≠ 0) && mayF n) = true := by cases x <;> simp_all
    rw [← div_may] at h2
    have h3 : okOf d n = true := by cases ho : okOf d n <;> simp_all
    unfold valOf; rw [if_pos h3]
  · rfl

theorem sdiv_pos (n d : Int) (hd : 0 < d) : sdiv n d = n / d := by unfold sdiv; rw [if_neg (by omega)]
theorem smod_pos (n d : Int) (hd : 0 < d) : smod n d = n % d := by unfold smod; rw [if_neg (by omega)]
theorem val_in (d n : Int) (hd : d ≠ 0) (h0 : -9223372036854775808 ≤ n) (h1 : n ≤ 9223372036854775807) : valOf d n = n := by
  unfold valOf okOf; rw [if_pos (decide_eq_true ⟨hd, h0, h1⟩)]
theorem near_cases (n d : Int) : near n d = sdiv n d ∨ near n d = sdiv n d + 1 := by
  unfold near; repeat' split
  all_goals simp
theorem whole_val (a : Int) : valOf 65536 (sdiv (clampF a * 1) 65536) = wholeF a := by
  have := clamp_bd a
  rw [sdiv_pos _ _ (by decide), Int.mul_one, val_in _ _ (by decide) (by omega) (by omega)]
  rfl
theorem round_bd (a : Int) : -16384 ≤ near (clampF a) 65536 ∧ near (clampF a) 65536 ≤ 16384 := by
  have := clamp_bd a
  have h := near_cases (clampF a) 65536
  rw [sdiv_pos _ _ (by decide)] at h
  omega
theorem round_val (a : Int) : valOf 65536 (near (clampF a * 1) 65536) = near (clampF a) 65536 := by
  have := round_bd a
  rw [Int.mul_one, val_in _ _ (by decide) (by omega) (by omega)]
theorem whole_bd (a : Int) : -16384 ≤ wholeF a ∧ wholeF a ≤ 16383 := by have := clamp_bd a; unfold wholeF; omega
theorem trunc_bd (a : Int) : -16384 ≤ (clampF a).tdiv 65536 ∧ (clampF a).tdiv 65536 ≤ 16383 := by
  have := clamp_bd a
  rcases Int.lt_or_le (clampF a) 0 with h | h
  · have e : (clampF a).tdiv 65536 = -((-clampF a) / 65536) := by
      rw [← Int.tdiv_eq_ediv_of_nonneg (by omega : 0 ≤ -clampF a), Int.neg_tdiv]; omega
    omega
  · rw [Int.tdiv_eq_ediv_of_nonneg h]; omega
theorem sqrt_bd (a : Int) (h0 : 0 ≤ a) (h1 : a ≤ 1073741823) : 0 ≤ isq (a * 65536) ∧ isq (a * 65536) < 16777216 := by
  obtain ⟨r0, r1, r2⟩ := isq_root (a * 65536) (by omega) (by omega)
  exact ⟨r0, lt_of_sq (by decide : (0 : Int) ≤ 16777216) (by omega)⟩
end Go.Proofs.Ytlkbnldpecolbaa

/- Plain answers of layer 10 (obj): which objects are valid, what they stand for, which are the same. -/
namespace Go.Proofs.Ytlkbnldpecolbaa
set_option linter.unusedVariables false

/-- N from lo to hi, the other fields zero. -/
def onlyP (n a l : Int) (s : ByteArray) (lo hi : Int) : Bool := decide (lo ≤ n ∧ n ≤ hi ∧ a = 0 ∧ l = 0 ∧ s = ⟨#[]⟩)
def nameP (n a l : Int) (s : ByteArray) : Bool := decide (s.size ≤ 100 ∧ n = 0 ∧ a = 0 ∧ l = 0)
def pieceP (n a l : Int) (s : ByteArray) : Bool := decide (0 ≤ n ∧ n ≤ 40000 ∧ 0 ≤ a ∧ a ≤ 40000 ∧ 0 ≤ l ∧ l ≤ 40000 ∧ s = ⟨#[]⟩)
/-- May. -/
def mayO (k n a l : Int) (s : ByteArray) : Bool :=
  if k = 1 then onlyP n a l s 0 0 else if k = 2 then onlyP n a l s 0 1 else if k = 3 then onlyP n a l s (-2147483647) 2147483647 else if k = 4 then onlyP n a l s (-1073741823) 1073741823
  else if k = 5 then nameP n a l s else if k = 6 then onlyP n a l s 0 0 else if k = 7 then onlyP n a l s 1 200 else if k = 8 then pieceP n a l s else if k = 9 then pieceP n a l s
  else if k = 10 then onlyP n a l s 0 40000 else if k = 11 then onlyP n a l s 1 2147483647 else false
/-- A number. -/
def numO (k n a l : Int) (s : ByteArray) : Bool := decide (k = 3 ∨ k = 4) && mayO k n a l s
/-- 65536 times what it stands for. -/
def sizeO (k n : Int) : Int := if k = 3 then n * 65536 else n
/-- Same. -/
def sameO (k n a l : Int) (s : ByteArray) (k' n' a' l' : Int) (s' : ByteArray) : Bool :=
  if numO k n a l s = true ∧ numO k' n' a' l' s' = true then decide (sizeO k n = sizeO k' n') else decide (k = k' ∧ n = n' ∧ a = a' ∧ l = l' ∧ s = s')
/-- Less. -/
def lessOk (k n a l : Int) (s : ByteArray) (k' n' a' l' : Int) (s' : ByteArray) : Bool := numO k n a l s && numO k' n' a' l' s'
def lessO (k n a l : Int) (s : ByteArray) (k' n' a' l' : Int) (s' : ByteArray) : Bool := lessOk k n a l s k' n' a' l' s' && decide (sizeO k n < sizeO k' n')
/-- Num. -/
def numOk (k n : Int) : Bool := if k = 3 then mayF (n * 65536) else if k = 4 then mayF n else false
def numV (k n : Int) : Int := gate (numOk k n) (sizeO k n)
/-- Type. -/
def typeO (k : Int) : ByteArray :=
  if k = 1 then ByteArray.mk ("nulltype".toUTF8.data) else if k = 2 then ByteArray.mk ("booltype".toUTF8.data) else if k = 3 then ByteArray.mk ("inttype".toUTF8.data) else if k = 4 then ByteArray.mk ("fixtype".toUTF8.data)
  else if k = 5 then ByteArray.mk ("nametype".toUTF8.data) else if k = 6 then ByteArray.mk ("marktype".toUTF8.data) else if k = 7 then ByteArray.mk ("optype".toUTF8.data) else if k = 8 then ByteArray.mk ("stringtype".toUTF8.data)
  else if k = 9 then ByteArray.mk ("arraytype".toUTF8.data) else if k = 10 then ByteArray.mk ("dicttype".toUTF8.data) else if k = 11 then ByteArray.mk ("savetype".toUTF8.data) else ⟨#[]⟩

theorem num_iff {k n a l : Int} {s : ByteArray} : numO k n a l s = true ↔ (k = 3 ∧ -2147483647 ≤ n ∧ n ≤ 2147483647 ∨ k = 4 ∧ -1073741823 ≤ n ∧ n ≤ 1073741823) ∧ a = 0 ∧ l = 0 ∧ s = ⟨#[]⟩ := by
  unfold numO
  by_cases h3 : k = 3
  · subst h3
    simp [mayO, onlyP]
    constructor <;> (rintro ⟨h, h'⟩; simp_all)
  · by_cases h4 : k = 4
    · subst h4
      simp [mayO, onlyP]
      constructor <;> (rintro ⟨h, h'⟩; simp_all)
    · simp [h3, h4]

theorem num_bd {k n a l : Int} {s : ByteArray} (h : numO k n a l s = true) : -2147483647 ≤ n ∧ n ≤ 2147483647 := by
  have := num_iff.1 h
  omega
end Go.Proofs.Ytlkbnldpecolbaa
