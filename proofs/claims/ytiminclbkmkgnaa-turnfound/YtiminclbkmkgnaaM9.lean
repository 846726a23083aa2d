/- Directions: of whole degrees, of multiples of a vector, and their quarter. -/
import Derived.Test.YtiminclbkmkgnaaM7
namespace Go.Proofs.Ytiminclbkmkgnaa
set_option linter.unusedVariables false

theorem dir_whole : ∀ (k : Nat), k < 360 → okDir (sinP ((k : Int) * 65536)) (cosP ((k : Int) * 65536)) = true ∧ dirP (sinP ((k : Int) * 65536)) (cosP ((k : Int) * 65536)) = (k : Int) * 65536 := by decide +kernel

theorem near_scale (a b n : Int) (hb : 0 < b) (hn : 0 < n) : near (a * n) (b * n) = near a b := by
  have hbn : 0 < b * n := Int.mul_pos hb hn
  have e1 : a * n / (b * n) = a / b := Int.mul_ediv_mul_of_pos_left _ _ hn
  have e2 : a * n % (b * n) = a % b * n := by
    have h1 := Int.mul_ediv_add_emod (a * n) (b * n)
    have h2 := Int.mul_ediv_add_emod a b
    rw [e1] at h1
    have h3 : b * n * (a / b) = b * (a / b) * n := by rw [Int.mul_assoc, Int.mul_comm n, ← Int.mul_assoc]
    have h4 : a * n = b * (a / b) * n + a % b * n := by rw [← Int.add_mul, h2]
    omega
  have m1 : mag (b * n) = b * n := by unfold mag; rw [if_neg (by omega)]
  have m2 : mag b = b := by unfold mag; rw [if_neg (by omega)]
  unfold near
  rw [sdiv_pos _ _ hbn, sdiv_pos _ _ hb, smod_pos _ _ hbn, smod_pos _ _ hb, e1, e2, m1, m2]
  have c1 : (2 * (a % b * n) < b * n) = (2 * (a % b) < b) := by
    rw [← Int.mul_assoc]
    exact propext ⟨fun h => Int.lt_of_mul_lt_mul_right h (by omega), fun h => Int.mul_lt_mul_of_pos_right h hn⟩
  have c2 : (b * n < 2 * (a % b * n)) = (b < 2 * (a % b)) := by
    rw [← Int.mul_assoc]
    exact propext ⟨fun h => Int.lt_of_mul_lt_mul_right h (by omega), fun h => Int.mul_lt_mul_of_pos_right h hn⟩
  simp only [c1, c2]

theorem pos_scale (x n : Int) (hn : 0 < n) : (0 < x * n) = (0 < x) ∧ (0 ≤ x * n) = (0 ≤ x) ∧ (x * n ≤ 0) = (x ≤ 0) ∧ (x * n < 0) = (x < 0) := by
  have h1 : 0 < x → 0 < x * n := fun h => Int.mul_pos h hn
  have h2 : x < 0 → x * n < 0 := fun h => Int.mul_neg_of_neg_of_pos h hn
  have h3 : x = 0 → x * n = 0 := fun h => by rw [h, Int.zero_mul]
  generalize x * n = z at *
  refine ⟨propext ?_, propext ?_, propext ?_, propext ?_⟩ <;> (constructor <;> intro h <;> rcases Int.lt_trichotomy x 0 with g | g | g <;> first | omega | (have := h1 g; omega) | (have := h2 g; omega) | (have := h3 g; omega))

theorem quad_scale (y x n : Int) (hn : 0 < n) : quadP (y * n) (x * n) = quadP y x := by
  obtain ⟨x1, x2, x3, x4⟩ := pos_scale x n hn
  obtain ⟨y1, y2, y3, y4⟩ := pos_scale y n hn
  unfold quadP
  simp only [x1, x2, x3, x4, y1, y2, y3, y4]
theorem uv_scale (y x n : Int) (hn : 0 < n) : uP (y * n) (x * n) = uP y x * n ∧ vP (y * n) (x * n) = vP y x * n := by
  unfold uP vP
  rw [quad_scale y x n hn]
  constructor <;> (repeat' split) <;> first | rfl | (rw [Int.neg_mul])
theorem side_scale (u v n : Int) (k : Nat) : sideN (u * n) (v * n) k = sideN u v k * n := by
  unfold sideN
  rw [Int.sub_mul, Int.mul_assoc, Int.mul_assoc]
theorem kOf_scale (u v n : Int) (hn : 0 < n) : kOf (u * n) (v * n) = kOf u v := by
  unfold kOf
  congr 1
  funext k
  rw [side_scale]
  exact decide_eq_decide.mpr (by rw [(pos_scale _ n hn).2.2.1])
theorem part_scale (u v n : Int) (hn : 0 < n) (hu : 0 ≤ u) (hv : 0 < v) : partN (u * n) (v * n) = partN u v := by
  have h2 := kOf_at u v hu hv
  have h3 := kOf_before u v
  unfold partN
  rw [kOf_scale u v n hn]
  generalize kOf u v = k at *
  unfold partAt
  split
  · rfl
  · have h4 := h3 (k - 1) (by omega)
    rw [side_scale, side_scale, ← Int.sub_mul, Int.mul_assoc _ n 65536, Int.mul_comm n 65536, ← Int.mul_assoc, near_scale _ _ n (by omega) hn]
theorem dir_scale (y x n : Int) (hn : 0 < n) (h : ¬(y = 0 ∧ x = 0)) : dirP (y * n) (x * n) = dirP y x := by
  obtain ⟨hu, hv⟩ := quad_uv y x h
  unfold dirP begP
  rw [quad_scale y x n hn, (uv_scale y x n hn).1, (uv_scale y x n hn).2, part_scale _ _ n hn hu hv]

theorem dir_quad (y x : Int) (h : ¬(y = 0 ∧ x = 0)) : 0 ≤ dirP y x ∧ dirP y x < 23592960 ∧ (dirP y x / 5898240 = (quadP y x : Int) ∨ dirP y x = ((quadP y x : Int) + 1) % 4 * 5898240) := by
  obtain ⟨hu, hv⟩ := quad_uv y x h
  obtain ⟨p0, p1⟩ := partN_bd _ _ hu hv
  have hq := quad_lt y x
  unfold dirP begP
  generalize partN (uP y x) (vP y x) = p at *
  generalize quadP y x = q at *
  omega

theorem okDir_in (y x : Int) (h : ¬(y = 0 ∧ x = 0)) (y0 : -1073741823 ≤ y) (y1 : y ≤ 1073741823) (x0 : -1073741823 ≤ x) (x1 : x ≤ 1073741823) : okDir y x = true := by
  unfold okDir
  rw [(may_iff y).2 ⟨y0, y1⟩, (may_iff x).2 ⟨x0, x1⟩]
  by_cases hy : y = 0
  · have h' : x ≠ 0 := fun h' => h ⟨hy, h'⟩
    simp [h']
  · simp [hy]

theorem quad_cases (y x : Int) : (0 < x ∧ 0 ≤ y ∧ quadP y x = 0) ∨ (x ≤ 0 ∧ 0 < y ∧ quadP y x = 1) ∨ (x < 0 ∧ y ≤ 0 ∧ quadP y x = 2) ∨ (0 ≤ x ∧ (x ≤ 0 → y ≤ 0) ∧ (0 < x → y < 0) ∧ quadP y x = 3) := by
  unfold quadP
  by_cases h1 : 0 < x ∧ 0 ≤ y
  · rw [if_pos h1]; omega
  · rw [if_neg h1]
    by_cases h2 : x ≤ 0 ∧ 0 < y
    · rw [if_pos h2]; omega
    · rw [if_neg h2]
      by_cases h3 : x < 0
      · rw [if_pos h3]; omega
      · rw [if_neg h3]; omega
end Go.Proofs.Ytiminclbkmkgnaa
