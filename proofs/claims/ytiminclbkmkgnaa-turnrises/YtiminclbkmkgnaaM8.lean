/- Laws of the plain sines and directions: symmetries, rising, the circle, directions of whole degrees and of multiples. -/
import Derived.Test.YtiminclbkmkgnaaM7
namespace Go.Proofs.Ytiminclbkmkgnaa
set_option linter.unusedVariables false

/-! Symmetries -/
theorem sinP_eq (a b : Int) (h : a % 23592960 = b % 23592960) : sinP a = sinP b := by unfold sinP; rw [h]
theorem cosP_sin (d : Int) : cosP d = sinP (d + 5898240) := sinP_eq _ _ (by omega)
theorem sinH_sym (d : Int) : sinH (11796480 - d) = sinH d := by unfold sinH; congr 1; omega
theorem sinH_zero : sinH 0 = 0 := by decide +kernel
theorem sinP_supp (d : Int) : sinP (11796480 - d) = sinP d := by
  have e : (11796480 - d) % 23592960 = if d % 23592960 ≤ 11796480 then 11796480 - d % 23592960 else 35389440 - d % 23592960 := by split <;> omega
  have h0 := Int.emod_nonneg d (by decide : (23592960 : Int) ≠ 0)
  have h1 := Int.emod_lt_of_pos d (by decide : (0 : Int) < 23592960)
  unfold sinP
  rw [e]
  generalize d % 23592960 = r at *
  by_cases h : r ≤ 11796480
  · rw [if_pos h, if_neg (by omega), if_neg (by omega), sinH_sym]
  · rw [if_neg h, if_pos (by omega), if_pos (by omega), ← sinH_sym (r - 11796480)]
    congr 2; omega
theorem sinP_neg (d : Int) : sinP (-d) = -sinP d := by
  have e : (-d) % 23592960 = if d % 23592960 = 0 then 0 else 23592960 - d % 23592960 := by split <;> omega
  have h0 := Int.emod_nonneg d (by decide : (23592960 : Int) ≠ 0)
  have h1 := Int.emod_lt_of_pos d (by decide : (0 : Int) < 23592960)
  unfold sinP
  rw [e]
  generalize d % 23592960 = r at *
  by_cases hz : r = 0
  · rw [if_pos hz, hz, if_neg (by decide), sinH_zero]; rfl
  · rw [if_neg hz]
    by_cases h : 11796480 < r
    · rw [if_pos h, if_neg (by omega), Int.neg_neg, ← sinH_sym (r - 11796480)]
      congr 1; omega
    · rw [if_neg h]
      by_cases hh : r = 11796480
      · subst hh
        rw [if_neg (by decide)]
        have : sinH 11796480 = 0 := by decide +kernel
        have e2 : (23592960 : Int) - 11796480 = 11796480 := by decide
        rw [e2, this]; rfl
      · rw [if_pos (by omega), ← sinH_sym r]
        congr 2; omega
theorem cosP_neg (d : Int) : cosP (-d) = cosP d := by
  rw [cosP_sin, cosP_sin, ← sinP_supp (d + 5898240)]
  exact sinP_eq _ _ (by omega)
theorem cosP_supp (d : Int) : cosP (11796480 - d) = -cosP d := by
  rw [cosP_sin, cosP_sin, ← sinP_neg (d + 5898240)]
  exact sinP_eq _ _ (by omega)
theorem cosP_more (d : Int) : cosP (d + 5898240) = -sinP d := by
  rw [cosP_sin, ← sinP_neg d, ← sinP_supp (-d)]
  exact sinP_eq _ _ (by omega)
theorem cosP_eq (a b : Int) (h : a % 23592960 = b % 23592960) : cosP a = cosP b := by unfold cosP; rw [h]

/-! Rising -/
theorem sinP_first (d : Int) (h0 : 0 ≤ d) (h1 : d ≤ 5898240) : sinP d = sinQ d := by
  unfold sinP sinH
  rw [Int.emod_eq_of_lt h0 (by omega), if_neg (by omega)]
  congr 1; omega
theorem cosP_first (d : Int) (h0 : 0 ≤ d) (h1 : d ≤ 5898240) : cosP d = sinQ (5898240 - d) := by
  rw [cosP_sin, ← sinP_supp, ← sinP_first _ (by omega) (by omega)]
  exact sinP_eq _ _ (by omega)

theorem tab_ups (n k : Nat) (h : k + n < 91) : tab k ≤ tab (k + n) := by
  induction n with
  | zero => exact Int.le_refl _
  | succ n ih =>
    have h1 := (tab_up (k + n) (by omega)).1
    have h2 := ih (by omega)
    rw [← Nat.add_assoc]; omega

theorem sinQ_low (d : Int) (h0 : 0 ≤ d) (h1 : d ≤ 5898240) : tab (d / 65536).toNat ≤ sinQ d := by
  unfold sinQ
  have f0 := Int.emod_nonneg d (by decide : (65536 : Int) ≠ 0)
  have f1 := Int.emod_lt_of_pos d (by decide : (0 : Int) < 65536)
  have hk : (d / 65536).toNat < 90 ∨ ((d / 65536).toNat = 90 ∧ d % 65536 = 0) := by omega
  generalize (d / 65536).toNat = k at *
  rcases hk with hk | ⟨hk, hf⟩
  · have := (tab_up k hk).1
    have := step_bd (tab (k + 1) - tab k) (d % 65536) (by omega) f0 (by omega)
    omega
  · rw [hf, Int.mul_zero]
    have : near 0 65536 = 0 := by decide
    omega
theorem sinQ_high (d : Int) (h0 : 0 ≤ d) (h1 : d < 5898240) : sinQ d ≤ tab ((d / 65536).toNat + 1) := by
  unfold sinQ
  have f0 := Int.emod_nonneg d (by decide : (65536 : Int) ≠ 0)
  have f1 := Int.emod_lt_of_pos d (by decide : (0 : Int) < 65536)
  have hk : (d / 65536).toNat < 90 := by omega
  generalize (d / 65536).toNat = k at *
  have := (tab_up k hk).1
  have := step_bd (tab (k + 1) - tab k) (d % 65536) (by omega) f0 (by omega)
  omega
theorem sinQ_up (x y : Int) (h0 : 0 ≤ x) (h : x ≤ y) (h1 : y ≤ 5898240) : sinQ x ≤ sinQ y := by
  by_cases hk : (x / 65536).toNat < (y / 65536).toNat
  · have a := sinQ_high x h0 (by omega)
    have b := sinQ_low y (by omega) h1
    have c := tab_ups ((y / 65536).toNat - ((x / 65536).toNat + 1)) ((x / 65536).toNat + 1) (by omega)
    have e : (x / 65536).toNat + 1 + ((y / 65536).toNat - ((x / 65536).toNat + 1)) = (y / 65536).toNat := by omega
    rw [e] at c
    omega
  · have e : (x / 65536).toNat = (y / 65536).toNat := by omega
    have hm : x % 65536 ≤ y % 65536 := by omega
    by_cases hl : (y / 65536).toNat < 90
    · unfold sinQ
      rw [e]
      generalize (y / 65536).toNat = k at *
      have hu := (tab_up k hl).1
      have := near_up ((tab (k + 1) - tab k) * (x % 65536)) ((tab (k + 1) - tab k) * (y % 65536)) 65536 (by decide) (Int.mul_le_mul_of_nonneg_left hm (by omega))
      omega
    · have : x = y := by omega
      rw [this]; exact Int.le_refl _

/-! The circle -/
theorem circ_tab : ∀ k < 91, -51996 ≤ tab k * tab k + tab (90 - k) * tab (90 - k) - 4294967296 ∧ tab k * tab k + tab (90 - k) * tab (90 - k) - 4294967296 ≤ 67177 := by decide +kernel
theorem circ_mix : ∀ k < 90, -701714 ≤ tab k * (tab (k + 1) - tab k) - tab (90 - k) * (tab (90 - k) - tab (89 - k)) ∧
    tab k * (tab (k + 1) - tab k) - tab (90 - k) * (tab (90 - k) - tab (89 - k)) ≤ 0 ∧ tab k + tab (90 - k) ≤ 92682 := by decide +kernel

/-- One half of a degree, from a whole one on: all numbers written out. -/
theorem circ_half (A B p q f g h : Int) (a0 : 0 ≤ A) (b0 : 0 ≤ B) (f0 : 0 ≤ f) (f1 : 2 * f ≤ 65536) (g0 : 0 ≤ g) (h0 : 0 ≤ h) (p0 : 0 ≤ p) (q0 : 0 ≤ q) (p1 : p ≤ 1144) (q1 : q ≤ 1144)
    (e1 : -51996 ≤ A * A + B * B - 4294967296) (e2 : A * A + B * B - 4294967296 ≤ 67177) (m1 : -701714 ≤ A * p - B * q) (m2 : A * p - B * q ≤ 0) (s : A + B ≤ 92682)
    (g1 : 2 * (g * 65536) ≤ 2 * (p * f) + 65536) (g2 : 2 * (p * f) - 65536 ≤ 2 * (g * 65536)) (h1 : 2 * (h * 65536) ≤ 2 * (q * f) + 65536) (h2 : 2 * (q * f) - 65536 ≤ 2 * (h * 65536)) :
    -1048576 < (A + g) * (A + g) + (B - h) * (B - h) - 4294967296 ∧ (A + g) * (A + g) + (B - h) * (B - h) - 4294967296 < 1048576 := by
  -- the products with A and B
  have x1 := Int.mul_le_mul_of_nonneg_left g1 a0
  have x2 := Int.mul_le_mul_of_nonneg_left g2 a0
  have x3 := Int.mul_le_mul_of_nonneg_left h1 b0
  have x4 := Int.mul_le_mul_of_nonneg_left h2 b0
  have r1 : A * (2 * (g * 65536)) = 131072 * (A * g) := by rw [← Int.mul_assoc 2, Int.mul_comm 2 g, Int.mul_assoc g, ← Int.mul_assoc A, Int.mul_comm (A * g)]; rfl
  have r2 : A * (2 * (p * f) + 65536) = 2 * (A * p * f) + 65536 * A := by rw [Int.mul_add, Int.mul_comm A 65536, ← Int.mul_assoc A 2, Int.mul_comm A 2, Int.mul_assoc 2 A, Int.mul_assoc A p f]
  have r3 : A * (2 * (p * f) - 65536) = 2 * (A * p * f) - 65536 * A := by rw [Int.mul_sub, Int.mul_comm A 65536, ← Int.mul_assoc A 2, Int.mul_comm A 2, Int.mul_assoc 2 A, Int.mul_assoc A p f]
  have r4 : B * (2 * (h * 65536)) = 131072 * (B * h) := by rw [← Int.mul_assoc 2, Int.mul_comm 2 h, Int.mul_assoc h, ← Int.mul_assoc B, Int.mul_comm (B * h)]; rfl
  have r5 : B * (2 * (q * f) + 65536) = 2 * (B * q * f) + 65536 * B := by rw [Int.mul_add, Int.mul_comm B 65536, ← Int.mul_assoc B 2, Int.mul_comm B 2, Int.mul_assoc 2 B, Int.mul_assoc B q f]
  have r6 : B * (2 * (q * f) - 65536) = 2 * (B * q * f) - 65536 * B := by rw [Int.mul_sub, Int.mul_comm B 65536, ← Int.mul_assoc B 2, Int.mul_comm B 2, Int.mul_assoc 2 B, Int.mul_assoc B q f]
  rw [r1, r2] at x1
  rw [r1, r3] at x2
  rw [r4, r5] at x3
  rw [r4, r6] at x4
  -- f times the difference
  have y1 : 2 * (A * p * f - B * q * f) ≤ 0 := by
    have := Int.mul_le_mul_of_nonneg_right m2 f0
    rw [Int.sub_mul, Int.zero_mul] at this; omega
  have y2 : -(701714 * 65536) ≤ 2 * (A * p * f - B * q * f) := by
    have := Int.mul_le_mul_of_nonneg_right m1 f0
    rw [Int.sub_mul] at this; omega
  -- the squares of what is added
  have z1 : 2 * g ≤ 1145 := by
    have := Int.mul_le_mul_of_nonneg_right p1 f0
    omega
  have z2 : 2 * h ≤ 1145 := by
    have := Int.mul_le_mul_of_nonneg_right q1 f0
    omega
  have gg : 0 ≤ g * g ∧ g * g ≤ 572 * 572 := ⟨Int.mul_nonneg g0 g0, Int.mul_le_mul (by omega) (by omega) g0 (by decide)⟩
  have hh : 0 ≤ h * h ∧ h * h ≤ 572 * 572 := ⟨Int.mul_nonneg h0 h0, Int.mul_le_mul (by omega) (by omega) h0 (by decide)⟩
  have t1 : (A + g) * (A + g) = A * A + 2 * (A * g) + g * g := by rw [Int.add_mul, Int.mul_add, Int.mul_add, Int.mul_comm g A]; omega
  have t2 : (B - h) * (B - h) = B * B - 2 * (B * h) + h * h := by rw [Int.sub_mul, Int.mul_sub, Int.mul_sub, Int.mul_comm h B]; omega
  rw [t1, t2]
  generalize A * g = Ag at *
  generalize B * h = Bh at *
  generalize A * p * f = Apf at *
  generalize B * q * f = Bqf at *
  generalize A * A = AA at *
  generalize B * B = BB at *
  generalize g * g = G at *
  generalize h * h = HH at *
  clear r1 r2 r3 r4 r5 r6 t1 t2 g1 g2 h1 h2 m1 m2
  constructor <;> omega

theorem circ_low (e : Int) (h0 : 0 ≤ e) (h1 : e ≤ 5898240) (hf : 2 * (e % 65536) ≤ 65536) :
    -1048576 < sinQ e * sinQ e + sinQ (5898240 - e) * sinQ (5898240 - e) - 4294967296 ∧ sinQ e * sinQ e + sinQ (5898240 - e) * sinQ (5898240 - e) - 4294967296 < 1048576 := by
  by_cases hz : e % 65536 = 0
  · have k1 : sinQ e = tab (e / 65536).toNat := by unfold sinQ; rw [hz, Int.mul_zero, show near 0 65536 = 0 by decide]; omega
    have k2 : sinQ (5898240 - e) = tab (90 - (e / 65536).toNat) := by
      unfold sinQ
      rw [show (5898240 - e) % 65536 = 0 by omega, Int.mul_zero, show near 0 65536 = 0 by decide, show ((5898240 - e) / 65536).toNat = 90 - (e / 65536).toNat by omega]; omega
    have := circ_tab (e / 65536).toNat (by omega)
    rw [k1, k2]; omega
  · obtain ⟨k, hk⟩ : ∃ k, (e / 65536).toNat = k := ⟨_, rfl⟩
    have hk9 : k < 90 := by omega
    have ek : ((5898240 - e) / 65536).toNat = 89 - k := by omega
    have ef : (5898240 - e) % 65536 = 65536 - e % 65536 := by omega
    have e90 : 89 - k + 1 = 90 - k := by omega
    unfold sinQ
    rw [hk, ek, ef, e90]
    have c := circ_tab k (by omega)
    obtain ⟨d1, d2, d3⟩ := circ_mix k hk9
    have u1 := tab_up k hk9
    have u2 := tab_up (89 - k) (by omega)
    rw [e90] at u2
    have b1 := tab_bd k
    have b2 := tab_bd (90 - k)
    have n1 := near_off ((tab (k + 1) - tab k) * (e % 65536)) 65536 (by decide)
    have n2 := near_off ((tab (90 - k) - tab (89 - k)) * (65536 - e % 65536)) 65536 (by decide)
    have s1 := step_bd (tab (k + 1) - tab k) (e % 65536) (by omega) (by omega) (by omega)
    have s2 := step_bd (tab (90 - k) - tab (89 - k)) (65536 - e % 65536) (by omega) (by omega) (by omega)
    have f0 : 0 ≤ e % 65536 := by omega
    generalize e % 65536 = f at *
    generalize near ((tab (k + 1) - tab k) * f) 65536 = g at *
    generalize near ((tab (90 - k) - tab (89 - k)) * (65536 - f)) 65536 = h' at *
    have eh : tab (89 - k) + h' = tab (90 - k) - (tab (90 - k) - tab (89 - k) - h') := by omega
    rw [eh]
    have em : (tab (90 - k) - tab (89 - k)) * (65536 - f) = (tab (90 - k) - tab (89 - k)) * 65536 - (tab (90 - k) - tab (89 - k)) * f := Int.mul_sub _ _ _
    rw [em] at n2
    refine circ_half (tab k) (tab (90 - k)) (tab (k + 1) - tab k) (tab (90 - k) - tab (89 - k)) f g (tab (90 - k) - tab (89 - k) - h') b1.1 b2.1 f0 hf s1.1 (by omega) (by omega) (by omega) (by omega) (by omega)
      c.1 c.2 d1 d2 d3 n1.1 n1.2 ?_ ?_ <;> omega

theorem circ (e : Int) (h0 : 0 ≤ e) (h1 : e ≤ 5898240) :
    -1048576 < sinQ e * sinQ e + sinQ (5898240 - e) * sinQ (5898240 - e) - 4294967296 ∧ sinQ e * sinQ e + sinQ (5898240 - e) * sinQ (5898240 - e) - 4294967296 < 1048576 := by
  by_cases hf : 2 * (e % 65536) ≤ 65536
  · exact circ_low e h0 h1 hf
  · have h := circ_low (5898240 - e) (by omega) (by omega) (by omega)
    rw [show 5898240 - (5898240 - e) = e by omega] at h
    omega

theorem circ_any (d : Int) : -1048576 < sinP d * sinP d + cosP d * cosP d - 4294967296 ∧ sinP d * sinP d + cosP d * cosP d - 4294967296 < 1048576 := by
  have key : ∃ e, 0 ≤ e ∧ e ≤ 5898240 ∧ (sinP d = sinQ e ∨ sinP d = -sinQ e) ∧ (cosP d = sinQ (5898240 - e) ∨ cosP d = -sinQ (5898240 - e)) := by
    have low : ∀ r, 0 ≤ r → r ≤ 11796480 → ∃ e, 0 ≤ e ∧ e ≤ 5898240 ∧ sinP r = sinQ e ∧ (cosP r = sinQ (5898240 - e) ∨ cosP r = -sinQ (5898240 - e)) := by
      intro r r0 r1
      by_cases h : r ≤ 5898240
      · exact ⟨r, r0, h, sinP_first r r0 h, .inl (cosP_first r r0 h)⟩
      · refine ⟨11796480 - r, by omega, by omega, ?_, .inr ?_⟩
        · rw [← sinP_supp, sinP_first _ (by omega) (by omega)]
        · have := cosP_supp r
          rw [cosP_first _ (by omega) (by omega)] at this
          omega
    have h0 := Int.emod_nonneg d (by decide : (23592960 : Int) ≠ 0)
    have h1 := Int.emod_lt_of_pos d (by decide : (0 : Int) < 23592960)
    rw [sinP_eq d (d % 23592960) (by omega), cosP_eq d (d % 23592960) (by omega)]
    generalize d % 23592960 = r at *
    by_cases h : r ≤ 11796480
    · obtain ⟨e, e0, e1, a, b⟩ := low r h0 h
      exact ⟨e, e0, e1, .inl a, b⟩
    · obtain ⟨e, e0, e1, a, b⟩ := low (r - 11796480) (by omega) (by omega)
      refine ⟨e, e0, e1, .inr ?_, ?_⟩
      · rw [← a, ← sinP_neg, ← sinP_supp (-(r - 11796480))]
        exact sinP_eq _ _ (by omega)
      · have e2 : cosP r = -cosP (r - 11796480) := by
          rw [← cosP_supp, ← cosP_neg r]
          exact cosP_eq _ _ (by omega)
        rw [e2]
        rcases b with b | b
        · exact .inr (by rw [b])
        · exact .inl (by rw [b, Int.neg_neg])
  obtain ⟨e, e0, e1, a, b⟩ := key
  have h := circ e e0 e1
  have a' : sinP d * sinP d = sinQ e * sinQ e := by rcases a with a | a <;> rw [a]; rw [Int.neg_mul_neg]
  have b' : cosP d * cosP d = sinQ (5898240 - e) * sinQ (5898240 - e) := by rcases b with b | b <;> rw [b]; rw [Int.neg_mul_neg]
  rw [a', b']; exact h
end Go.Proofs.Ytiminclbkmkgnaa
