/- Plain facts: a divisor is normalized by its leading zeros. -/
import Derived.Test.YtiminclbkmkgnaaM2
import Derived.Lib.ItoaNum
namespace Go.Proofs.Ytiminclbkmkgnaa
set_option linter.unusedVariables false

theorem norm (y : Int) (h0 : 0 < y) (h1 : y < 18446744073709551616) :
    0 ≤ 64 - (Lib.bitLen y.toNat : Int) ∧ 64 - (Lib.bitLen y.toNat : Int) < 64 ∧
    9223372036854775808 ≤ y * 2 ^ (64 - (Lib.bitLen y.toNat : Int)).toNat ∧ y * 2 ^ (64 - (Lib.bitLen y.toNat : Int)).toNat < 18446744073709551616 := by
  obtain ⟨n, rfl⟩ := Int.eq_ofNat_of_zero_le (Int.le_of_lt h0)
  have hb := Lib.bitLenAux_bounds 64 n (by omega) (by omega)
  have hl := Lib.bitLen_le n 64 (by omega) (by omega)
  rw [Int.toNat_natCast]
  unfold Lib.bitLen at *
  generalize Lib.bitLenAux 64 n = b at *
  obtain ⟨c1, c2, c3⟩ := hb
  obtain ⟨s, hs⟩ : ∃ s, 64 = b + s := ⟨64 - b, by omega⟩
  have e : (64 - (b : Int)).toNat = s := by omega
  rw [e]
  refine ⟨by omega, by omega, ?_, ?_⟩
  · have h2 : 2 ^ (b - 1) * 2 ^ s ≤ n * 2 ^ s := Nat.mul_le_mul_right _ c2
    rw [← Nat.pow_add, show b - 1 + s = 63 by omega] at h2
    have : ((n * 2 ^ s : Nat) : Int) = (n : Int) * 2 ^ s := by simp
    omega
  · have h2 : n * 2 ^ s < 2 ^ b * 2 ^ s := Nat.mul_lt_mul_of_pos_right c3 (Nat.two_pow_pos s)
    rw [← Nat.pow_add, show b + s = 64 by omega] at h2
    have : ((n * 2 ^ s : Nat) : Int) = (n : Int) * 2 ^ s := by simp
    omega

theorem or_lowK (a l : Int) (k : Nat) (h0 : 0 ≤ a) (h1 : a * 2 ^ k < 18446744073709551616) (hl : 0 ≤ l) (hl' : l < 2 ^ k) (hk : k ≤ 64) : bits .or .u64 (a * 2 ^ k) l = a * 2 ^ k + l := by
  obtain ⟨n, rfl⟩ := Int.eq_ofNat_of_zero_le h0
  obtain ⟨m, rfl⟩ := Int.eq_ofNat_of_zero_le hl
  have hm : m < 2 ^ k := by
    have : ((2 ^ k : Nat) : Int) = 2 ^ k := by simp
    omega
  have e1 : ((n : Int) * 2 ^ k) = ((n * 2 ^ k : Nat) : Int) := by simp
  rw [e1] at h1 ⊢
  have hp : 2 ^ k ≤ 2 ^ 64 := Nat.pow_le_pow_right (by decide) hk
  have h := bits_or_u64_nat (n * 2 ^ k) m (by omega) (by omega)
  have e : n * 2 ^ k ||| m = n * 2 ^ k + m := by
    rw [Nat.mul_comm, ← Nat.two_pow_add_eq_or_of_lt hm]
  rw [e] at h
  rw [h]; omega

theorem pow_pos (k : Nat) : (0 : Int) < 2 ^ k := Int.pow_pos (by decide)

theorem pow_compl (s : Int) (h0 : 0 ≤ s) (h1 : s < 64) : (2 : Int) ^ (64 - s).toNat * 2 ^ s.toNat = 18446744073709551616 := by
  rw [← Int.pow_add, show (64 - s).toNat + s.toNat = 64 by omega]; rfl

/-- The low word, shifted: what leaves it above, and what stays. -/
theorem shifted (lo K J : Int) (hK : 0 < K) (hJ : 0 < J) (hJK : J * K = 18446744073709551616) (h0 : 0 ≤ lo) (h1 : lo < 18446744073709551616) :
    0 ≤ lo / J ∧ lo / J < K ∧ lo * K = lo / J * 18446744073709551616 + lo * K % 18446744073709551616 := by
  have e := Int.mul_ediv_add_emod lo J
  have r0 := Int.emod_nonneg lo (by omega : J ≠ 0)
  have r1 := Int.emod_lt_of_pos lo hJ
  have hd : lo * K / 18446744073709551616 = lo / J := by
    rw [← hJK]
    exact Int.mul_ediv_mul_of_pos_left lo J hK
  refine ⟨Int.ediv_nonneg h0 (by omega), ?_, ?_⟩
  · apply Int.ediv_lt_of_lt_mul hJ
    rw [Int.mul_comm]; omega
  · omega

theorem wrap_rest (n d y : Int) (h0 : 0 < y) (hy : y < 18446744073709551616) :
    IntKind.u64.wrap (IntKind.u64.wrap (IntKind.u64.wrap (n * 4294967296) + d) - IntKind.u64.wrap (qd n d y * y)) = (n * 4294967296 + d) % y := by
  have h := step_rest n d y h0
  have r0 := Int.emod_nonneg (n * 4294967296 + d) (by omega : y ≠ 0)
  have r1 := Int.emod_lt_of_pos (n * 4294967296 + d) h0
  simp only [wrapu_mod]
  omega

theorem part_bd (n y1 : Int) (h0 : 0 ≤ n) (hy : 0 < y1) : 0 ≤ n / y1 * y1 ∧ n / y1 * y1 ≤ n := by
  have e := Int.mul_ediv_add_emod n y1
  have r0 := Int.emod_nonneg n (by omega : y1 ≠ 0)
  have hc : y1 * (n / y1) = n / y1 * y1 := Int.mul_comm _ _
  exact ⟨Int.mul_nonneg (Int.ediv_nonneg h0 (by omega)) (by omega), by omega⟩
end Go.Proofs.Ytiminclbkmkgnaa
