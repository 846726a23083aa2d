/- The plain answers of layer 4: sines by a table, and directions. -/
import Derived.Test.YtiminclbkmkgnaaM6
namespace Go.Proofs.Ytiminclbkmkgnaa
set_option linter.unusedVariables false

/-- The sines of 0 to 90 degrees. -/
def tabL : List Int := [0, 1144, 2287, 3430, 4572, 5712, 6850, 7987, 9121, 10252, 11380, 12505, 13626, 14742, 15855, 16962, 18064, 19161, 20252, 21336, 22415, 23486, 24550, 25607, 26656, 27697, 28729, 29753, 30767, 31772, 32768, 33754, 34729, 35693, 36647, 37590, 38521, 39441, 40348, 41243, 42126, 42995, 43852, 44695, 45525, 46341, 47143, 47930, 48703, 49461, 50203, 50931, 51643, 52339, 53020, 53684, 54332, 54963, 55578, 56175, 56756, 57319, 57865, 58393, 58903, 59396, 59870, 60326, 60764, 61183, 61584, 61966, 62328, 62672, 62997, 63303, 63589, 63856, 64104, 64332, 64540, 64729, 64898, 65048, 65177, 65287, 65376, 65446, 65496, 65526, 65536]
def tab (k : Nat) : Int := tabL.getD k 0
/-- The sine of 0 to 90 degrees. -/
def sinQ (d : Int) : Int := tab (d / 65536).toNat + near ((tab ((d / 65536).toNat + 1) - tab (d / 65536).toNat) * (d % 65536)) 65536
/-- The sine of 0 to 180 degrees. -/
def sinH (d : Int) : Int := sinQ (min d (11796480 - d))
def sinP (deg : Int) : Int := if 11796480 < deg % 23592960 then -sinH (deg % 23592960 - 11796480) else sinH (deg % 23592960)
def cosP (deg : Int) : Int := sinP (deg % 23592960 + 5898240)

/-- On which side of k degrees the vector (v, u) of the first quarter lies. -/
def sideN (u v : Int) (k : Nat) : Int := tab (90 - k) * u - tab k * v
/-- The first of n numbers from k on with a property, else the next one. -/
def least (p : Nat → Bool) : Nat → Nat → Nat
  | 0, k => k
  | n + 1, k => if p k = true then k else least p n (k + 1)
def kOf (u v : Int) : Nat := least (fun k => decide (sideN u v k ≤ 0)) 90 0
/-- What is behind the beginning of the quarter. -/
def partAt (u v : Int) (k : Nat) : Int := if k = 0 then 0 else ((k - 1 : Nat) : Int) * 65536 + near (sideN u v (k - 1) * 65536) (sideN u v (k - 1) - sideN u v k)
def partN (u v : Int) : Int := partAt u v (kOf u v)
/-- The quarter of a vector. -/
def quadP (y x : Int) : Nat := if 0 < x ∧ 0 ≤ y then 0 else if x ≤ 0 ∧ 0 < y then 1 else if x < 0 then 2 else 3
def uP (y x : Int) : Int := match quadP y x with | 0 => y | 1 => -x | 2 => -y | _ => x
def vP (y x : Int) : Int := match quadP y x with | 0 => x | 1 => y | 2 => -x | _ => -y
def begP (y x : Int) : Int := (quadP y x : Int) * 5898240
def dirP (y x : Int) : Int := (begP y x + partN (uP y x) (vP y x)) % 23592960
def okDir (y x : Int) : Bool := mayF y && mayF x && !(decide (y = 0) && decide (x = 0))

theorem tab_up : ∀ k < 90, tab k < tab (k + 1) ∧ tab (k + 1) ≤ tab k + 1144 := by decide +kernel
theorem tab_in : ∀ k < 91, 0 ≤ tab k ∧ tab k ≤ 65536 := by decide +kernel
theorem tab_out (k : Nat) (h : 91 ≤ k) : tab k = 0 := by
  unfold tab
  rw [List.getD_eq_getElem?_getD, List.getElem?_eq_none (by simpa [tabL] using h)]
  rfl
theorem tab_bd (k : Nat) : 0 ≤ tab k ∧ tab k ≤ 65536 := by
  by_cases h : k < 91
  · exact tab_in k h
  · rw [tab_out k (by omega)]; decide

theorem near_up (n m d : Int) (hd : 0 < d) (h : n ≤ m) : near n d ≤ near m d := by
  have hq := Int.ediv_le_ediv hd h
  have e1 := Int.mul_ediv_add_emod n d
  have e2 := Int.mul_ediv_add_emod m d
  have a0 := Int.emod_nonneg n (by omega : d ≠ 0)
  have a1 := Int.emod_lt_of_pos n hd
  have c0 := Int.emod_nonneg m (by omega : d ≠ 0)
  have c1 := Int.emod_lt_of_pos m hd
  rcases Int.lt_or_le (n / d) (m / d) with h1 | h1
  · have h2 := near_cases n d
    have h3 := near_cases m d
    rw [sdiv_pos _ _ hd] at h2
    rw [sdiv_pos _ _ hd] at h3
    omega
  · have he : n / d = m / d := by omega
    rw [he] at e1
    have hr : n % d ≤ m % d := by omega
    unfold near
    rw [sdiv_pos _ _ hd, sdiv_pos _ _ hd, smod_pos _ _ hd, smod_pos _ _ hd, he]
    have hm : mag d = d := by unfold mag; rw [if_neg (by omega)]
    rw [hm]
    repeat' split
    all_goals omega
theorem near_whole (n d : Int) (hd : 0 < d) : near (n * d) d = n := by
  unfold near
  rw [sdiv_pos _ _ hd, smod_pos _ _ hd, Int.mul_emod_left, Int.mul_ediv_cancel _ (by omega)]
  have hm : mag d = d := by unfold mag; rw [if_neg (by omega)]
  rw [hm, if_pos (by omega)]
/-- Near is off by at most a half. -/
theorem near_off (n d : Int) (hd : 0 < d) : 2 * (near n d * d) ≤ 2 * n + d ∧ 2 * n - d ≤ 2 * (near n d * d) := by
  have e1 := Int.mul_ediv_add_emod n d
  have a0 := Int.emod_nonneg n (by omega : d ≠ 0)
  have a1 := Int.emod_lt_of_pos n hd
  have hm : mag d = d := by unfold mag; rw [if_neg (by omega)]
  have h : (near n d = n / d ∧ 2 * (n % d) ≤ d) ∨ (near n d = n / d + 1 ∧ d ≤ 2 * (n % d)) := by
    unfold near
    rw [sdiv_pos _ _ hd, smod_pos _ _ hd, hm]
    repeat' split
    all_goals omega
  have c : n / d * d = d * (n / d) := Int.mul_comm _ _
  rcases h with ⟨h, h'⟩ | ⟨h, h'⟩
  · rw [h, c]; omega
  · rw [h, Int.add_mul, Int.one_mul, c]; omega

/-- The part of a degree: between 0 and the step. -/
theorem step_bd (p f : Int) (hp : 0 ≤ p) (f0 : 0 ≤ f) (f1 : f ≤ 65536) : 0 ≤ near (p * f) 65536 ∧ near (p * f) 65536 ≤ p := by
  have h0 := near_up (0 * 65536) (p * f) 65536 (by decide) (by have := Int.mul_nonneg hp f0; omega)
  have h1 := near_up (p * f) (p * 65536) 65536 (by decide) (Int.mul_le_mul_of_nonneg_left f1 hp)
  rw [near_whole _ _ (by decide)] at h0
  rw [near_whole _ _ (by decide)] at h1
  exact ⟨h0, h1⟩

theorem sinQ_in (d : Int) (h0 : 0 ≤ d) (h1 : d ≤ 5898240) : 0 ≤ sinQ d ∧ sinQ d ≤ 65536 := by
  unfold sinQ
  have f0 := Int.emod_nonneg d (by decide : (65536 : Int) ≠ 0)
  have f1 := Int.emod_lt_of_pos d (by decide : (0 : Int) < 65536)
  have hk : (d / 65536).toNat < 90 ∨ ((d / 65536).toNat = 90 ∧ d % 65536 = 0) := by omega
  generalize (d / 65536).toNat = k at *
  have b0 := tab_bd k
  have b1 := tab_bd (k + 1)
  rcases hk with hk | ⟨hk, hf⟩
  · have := (tab_up k hk).1
    have := step_bd (tab (k + 1) - tab k) (d % 65536) (by omega) f0 (by omega)
    omega
  · rw [hf, Int.mul_zero]
    have : near 0 65536 = 0 := by decide
    omega
theorem sinP_in (d : Int) : -65536 ≤ sinP d ∧ sinP d ≤ 65536 := by
  unfold sinP sinH
  have f0 := Int.emod_nonneg d (by decide : (23592960 : Int) ≠ 0)
  have f1 := Int.emod_lt_of_pos d (by decide : (0 : Int) < 23592960)
  split
  · have := sinQ_in (min (d % 23592960 - 11796480) (11796480 - (d % 23592960 - 11796480))) (by omega) (by omega)
    omega
  · have := sinQ_in (min (d % 23592960) (11796480 - (d % 23592960))) (by omega) (by omega)
    omega
theorem cosP_in (d : Int) : -65536 ≤ cosP d ∧ cosP d ≤ 65536 := sinP_in _

/-- The sides of whole degrees, in every quarter. -/
theorem sin_quads : ∀ (k : Nat), k < 91 → sinP ((0 : Int) + (k : Int) * 65536) = tab k ∧ cosP ((0 : Int) + (k : Int) * 65536) = tab (90 - k) ∧
    sinP ((5898240 : Int) + (k : Int) * 65536) = tab (90 - k) ∧ cosP ((5898240 : Int) + (k : Int) * 65536) = -tab k ∧
    sinP ((11796480 : Int) + (k : Int) * 65536) = -tab k ∧ cosP ((11796480 : Int) + (k : Int) * 65536) = -tab (90 - k) ∧
    sinP ((17694720 : Int) + (k : Int) * 65536) = -tab (90 - k) ∧ cosP ((17694720 : Int) + (k : Int) * 65536) = tab k := by decide +kernel
theorem side_is (y x : Int) (k : Nat) (hk : k < 91) :
    cosP (begP y x + (k : Int) * 65536) * y - sinP (begP y x + (k : Int) * 65536) * x = sideN (uP y x) (vP y x) k := by
  obtain ⟨h1, h2, h3, h4, h5, h6, h7, h8⟩ := sin_quads k hk
  unfold begP uP vP sideN quadP
  by_cases q1 : 0 < x ∧ 0 ≤ y
  · simp only [q1, and_self, if_true]
    show cosP (0 + _) * y - sinP (0 + _) * x = _
    rw [h1, h2]
  · simp only [q1, if_false]
    by_cases q2 : x ≤ 0 ∧ 0 < y
    · simp only [q2, and_self, if_true]
      show cosP (5898240 + _) * y - sinP (5898240 + _) * x = _
      rw [h3, h4, Int.neg_mul, Int.mul_neg]; omega
    · simp only [q2, if_false]
      by_cases q3 : x < 0
      · simp only [q3, if_true]
        show cosP (11796480 + _) * y - sinP (11796480 + _) * x = _
        rw [h5, h6, Int.neg_mul, Int.neg_mul, Int.mul_neg, Int.mul_neg]
      · simp only [q3, if_false]
        show cosP (17694720 + _) * y - sinP (17694720 + _) * x = _
        rw [h7, h8, Int.neg_mul, Int.mul_neg]; omega

theorem quad_uv (y x : Int) (h : ¬(y = 0 ∧ x = 0)) : 0 ≤ uP y x ∧ 0 < vP y x := by
  unfold uP vP quadP
  by_cases h1 : 0 < x ∧ 0 ≤ y
  · simp [h1]
  · by_cases h2 : x ≤ 0 ∧ 0 < y
    · simp [h1, h2]
    · by_cases h3 : x < 0
      · simp [h1, h2, h3]; omega
      · simp [h1, h2, h3]; omega
theorem quad_lt (y x : Int) : quadP y x < 4 := by unfold quadP; repeat' split
                                                  all_goals decide

theorem side_down (u v : Int) (hu : 0 ≤ u) (hv : 0 < v) (k : Nat) (hk : k < 90) : sideN u v (k + 1) < sideN u v k := by
  unfold sideN
  have h1 := (tab_up k hk).1
  have h2 := (tab_up (90 - (k + 1)) (by omega)).1
  have e : 90 - (k + 1) + 1 = 90 - k := by omega
  rw [e] at h2
  have h3 := Int.mul_le_mul_of_nonneg_right (Int.le_of_lt h2) hu
  have h4 := Int.mul_lt_mul_of_pos_right h1 hv
  omega
theorem side_downs (u v : Int) (hu : 0 ≤ u) (hv : 0 < v) (n k : Nat) (hk : k + n < 91) : sideN u v (k + n) ≤ sideN u v k := by
  induction n with
  | zero => exact Int.le_refl _
  | succ n ih =>
    have := side_down u v hu hv (k + n) (by omega)
    have := ih (by omega)
    rw [← Nat.add_assoc]
    omega
theorem side_end (u v : Int) (hu : 0 ≤ u) (hv : 0 < v) : sideN u v 90 < 0 := by
  unfold sideN
  have e : tab (90 - 90) = 0 := by decide
  have e2 : tab 90 = 65536 := by decide
  rw [e, e2]; omega

theorem least_in (p : Nat → Bool) (n k : Nat) : k ≤ least p n k ∧ least p n k ≤ k + n := by
  induction n generalizing k with
  | zero => simp [least]
  | succ n ih =>
    unfold least
    split
    · omega
    · have := ih (k + 1); omega
theorem least_before (p : Nat → Bool) (n k j : Nat) (h0 : k ≤ j) (h : j < least p n k) : p j = false := by
  induction n generalizing k with
  | zero => simp [least] at h; omega
  | succ n ih =>
    unfold least at h
    split at h
    · omega
    · rename_i hp
      by_cases hj : j = k
      · subst hj; simpa using hp
      · exact ih (k + 1) (by omega) h
theorem least_at (p : Nat → Bool) (n k : Nat) (h : least p n k < k + n) : p (least p n k) = true := by
  induction n generalizing k with
  | zero => simp [least] at h
  | succ n ih =>
    unfold least at h ⊢
    split
    · assumption
    · rename_i hp
      rw [if_neg hp] at h
      exact ih (k + 1) (by omega)

theorem kOf_le (u v : Int) : kOf u v ≤ 90 := by have := least_in (fun k => decide (sideN u v k ≤ 0)) 90 0; unfold kOf; omega
theorem kOf_before (u v : Int) (j : Nat) (h : j < kOf u v) : 0 < sideN u v j := by
  have := least_before _ 90 0 j (by omega) h
  simp at this; omega
theorem kOf_at (u v : Int) (hu : 0 ≤ u) (hv : 0 < v) : sideN u v (kOf u v) ≤ 0 := by
  by_cases h : kOf u v < 90
  · have := least_at (fun k => decide (sideN u v k ≤ 0)) 90 0 (by unfold kOf at h; omega)
    exact of_decide_eq_true this
  · have e : kOf u v = 90 := by have := kOf_le u v; omega
    rw [e]; exact Int.le_of_lt (side_end u v hu hv)
theorem kOf_is (u v : Int) (k : Nat) (hk : k ≤ 90) (h : ∀ j, j < k → 0 < sideN u v j) (h' : k < 90 → sideN u v k ≤ 0) : kOf u v = k := by
  rcases Nat.lt_trichotomy (kOf u v) k with hlt | he | hgt
  · have := h _ hlt
    have h1 := least_at (fun k => decide (sideN u v k ≤ 0)) 90 0 (by unfold kOf at hlt; omega)
    have h2 : sideN u v (kOf u v) ≤ 0 := of_decide_eq_true h1
    omega
  · exact he
  · have h1 := kOf_before u v k hgt
    have := kOf_le u v
    have := h' (by omega)
    omega

theorem side_bd (u v : Int) (k : Nat) (hu : 0 ≤ u) (hv : 0 < v) (hu' : u ≤ 1073741823) (hv' : v ≤ 1073741823) :
    -70368744112128 ≤ sideN u v k ∧ sideN u v k ≤ 70368744112128 := by
  unfold sideN
  have h1 := tab_bd (90 - k)
  have h2 := tab_bd k
  have a0 := Int.mul_nonneg h1.1 hu
  have a1 := Int.mul_le_mul_of_nonneg_right h1.2 hu
  have c0 := Int.mul_nonneg h2.1 (by omega : 0 ≤ v)
  have c1 := Int.mul_le_mul_of_nonneg_right h2.2 (by omega : 0 ≤ v)
  omega
theorem uv_bd (y x : Int) (hy0 : -1073741823 ≤ y) (hy1 : y ≤ 1073741823) (hx0 : -1073741823 ≤ x) (hx1 : x ≤ 1073741823) : uP y x ≤ 1073741823 ∧ vP y x ≤ 1073741823 := by
  unfold uP vP
  repeat' split
  all_goals omega

/-- The share of a degree is between 0 and a degree. -/
theorem near_share (a b : Int) (ha : 0 < a) (hb : b ≤ 0) : 0 ≤ near (a * 65536) (a - b) ∧ near (a * 65536) (a - b) ≤ 65536 := by
  have h0 := near_up (0 * (a - b)) (a * 65536) (a - b) (by omega) (by omega)
  have h1 := near_up (a * 65536) (65536 * (a - b)) (a - b) (by omega) (by omega)
  rw [near_whole _ _ (by omega)] at h0
  rw [near_whole _ _ (by omega)] at h1
  exact ⟨h0, h1⟩
theorem partN_bd (u v : Int) (hu : 0 ≤ u) (hv : 0 < v) : 0 ≤ partN u v ∧ partN u v ≤ 5898240 := by
  have h1 := kOf_le u v
  have h2 := kOf_at u v hu hv
  have h3 := kOf_before u v
  unfold partN partAt
  generalize kOf u v = k at *
  split
  · decide
  · have h4 := h3 (k - 1) (by omega)
    have := near_share (sideN u v (k - 1)) (sideN u v k) h4 h2
    omega
end Go.Proofs.Ytiminclbkmkgnaa
