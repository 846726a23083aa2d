/- Plain facts on 64-bit words: masks, disjoint or, products of halves. -/
import Derived.WalkKit
import Derived.Laws.BitsAllLaws
namespace Go.Proofs.Ytiminclbkmkgnaa

theorem and_mask32 (a : Int) (h0 : 0 ≤ a) (h1 : a < 18446744073709551616) : bits .and .u64 a 4294967295 = a % 4294967296 := by
  obtain ⟨n, rfl⟩ := Int.eq_ofNat_of_zero_le h0
  have h := bits_and_u64_nat n 4294967295 (by omega) (by omega)
  have e : n &&& 4294967295 = n % 4294967296 := Nat.and_two_pow_sub_one_eq_mod n 32
  rw [e] at h
  exact h

theorem or_low32 (a l : Int) (h0 : 0 ≤ a) (h1 : a < 18446744073709551616) (hd : a % 4294967296 = 0) (hl : 0 ≤ l) (hl' : l < 4294967296) : bits .or .u64 a l = a + l := by
  obtain ⟨n, rfl⟩ := Int.eq_ofNat_of_zero_le h0
  obtain ⟨k, rfl⟩ := Int.eq_ofNat_of_zero_le hl
  have h := bits_or_u64_nat n k (by omega) (by omega)
  have e : n ||| k = n + k := by
    have hn : n = 2 ^ 32 * (n / 4294967296) := by omega
    rw [hn, ← Nat.two_pow_add_eq_or_of_lt (by omega)]
  rw [e] at h
  rw [h]; omega

theorem half_mul (a b : Int) (a0 : 0 ≤ a) (a1 : a < 4294967296) (b0 : 0 ≤ b) (b1 : b < 4294967296) : 0 ≤ a * b ∧ a * b ≤ 18446744065119617025 :=
  ⟨Int.mul_nonneg a0 b0, Int.mul_le_mul (by omega : a ≤ 4294967295) (by omega : b ≤ 4294967295) b0 (by decide)⟩

theorem split_mul (x y : Int) : x * y = (x / 4294967296) * (y / 4294967296) * 18446744073709551616 + ((x / 4294967296) * (y % 4294967296) + (x % 4294967296) * (y / 4294967296)) * 4294967296 + (x % 4294967296) * (y % 4294967296) := by
  have hx : x = (x / 4294967296) * 4294967296 + x % 4294967296 := by omega
  have hy : y = (y / 4294967296) * 4294967296 + y % 4294967296 := by omega
  generalize x / 4294967296 = xh at *
  generalize x % 4294967296 = xl at *
  generalize y / 4294967296 = yh at *
  generalize y % 4294967296 = yl at *
  rw [hx, hy]
  simp only [Int.add_mul, Int.mul_add]
  have e1 : xh * 4294967296 * (yh * 4294967296) = xh * yh * 18446744073709551616 := by
    rw [show xh * 4294967296 * (yh * 4294967296) = xh * yh * (4294967296 * 4294967296) by simp only [Int.mul_assoc, Int.mul_left_comm]]
    rfl
  have e2 : xh * 4294967296 * yl = xh * yl * 4294967296 := Int.mul_right_comm _ _ _
  have e3 : xl * (yh * 4294967296) = xl * yh * 4294967296 := (Int.mul_assoc _ _ _).symm
  omega

theorem wrapu_in (n : Int) (h0 : 0 ≤ n) (h1 : n < 18446744073709551616) : IntKind.u64.wrap n = n := by rw [IntKind.wrap_u64]; omega
theorem wrapu_mod (n : Int) : IntKind.u64.wrap n = n % 18446744073709551616 := by rw [IntKind.wrap_u64]
end Go.Proofs.Ytiminclbkmkgnaa
