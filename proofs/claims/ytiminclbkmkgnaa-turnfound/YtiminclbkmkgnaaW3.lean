/- math/bits.Div64 divides: the contract out of the walk. -/
import Derived.Test.YtiminclbkmkgnaaW2
import Derived.Test.YtiminclbkmkgnaaM3
namespace Go.Proofs.Ytiminclbkmkgnaa
open Go.RowKit
set_option linter.unusedVariables false

theorem div64_any (hi lo y : Int) (w : World) (hh0 : 0 ≤ hi) (hh1 : hi < y) (hl0 : 0 ≤ lo) (hl1 : lo < 18446744073709551616) (hy1 : y < 18446744073709551616) :
    Calls Try.prog 38 #[.int .u64 hi, .int .u64 lo, .int .u64 y] w fun e w' => e = .returned (.tuple #[.int .u64 ((hi * 18446744073709551616 + lo) / y), .int .u64 ((hi * 18446744073709551616 + lo) % y)]) ∧ Below w.heap.size w w' := by
  by_cases hz : hi = 0
  · subst hz
    refine (div64_low lo y w hl0 hl1 (by omega) hy1).mono ?_
    rintro e w' ⟨rfl, hb⟩
    exact ⟨ret_two (by rw [Int.zero_mul, Int.zero_add]) (by rw [Int.zero_mul, Int.zero_add]), hb⟩
  · obtain ⟨s0, s1, n0, n1⟩ := norm y (by omega) hy1
    have hlz := fun w => Try.bits_LeadingZeros64 y w (by omega) (by omega)
    have hlz' : ∀ w, Calls Try.prog 44 #[.int .u64 y] w fun e w' => e = .returned (.int .i64 (64 - (Lib.bitLen y.toNat : Int))) ∧ w = w' :=
      fun w => (hlz w).mono fun _ _ ⟨a, b⟩ => ⟨a, b.symm⟩
    clear hlz
    generalize 64 - (Lib.bitLen y.toNat : Int) = s at *
    have hK := pow_pos s.toNat
    have hJ := pow_pos (64 - s).toNat
    have hJK := pow_compl s s0 s1
    have hs := shifted lo (2 ^ s.toNat) (2 ^ (64 - s).toNat) hK hJ hJK hl0 hl1
    have hA : hi * 2 ^ s.toNat + 2 ^ s.toNat ≤ y * 2 ^ s.toNat := by
      have := Int.mul_le_mul_of_nonneg_right (by omega : hi + 1 ≤ y) (Int.le_of_lt hK)
      rw [Int.add_mul, Int.one_mul] at this
      exact this
    have hA0 : 0 ≤ hi * 2 ^ s.toNat := Int.mul_nonneg hh0 (Int.le_of_lt hK)
    have hor := or_lowK hi (lo / 2 ^ (64 - s).toNat) s.toNat hh0 (by omega) hs.1 hs.2.1 (by omega)
    obtain ⟨hs0, hs1, hs2⟩ := hs
    have hdist : (hi * 18446744073709551616 + lo) * 2 ^ s.toNat = hi * 2 ^ s.toNat * 18446744073709551616 + lo * 2 ^ s.toNat := by rw [Int.add_mul, Int.mul_right_comm]
    have hsc := scaled (hi * 18446744073709551616 + lo) y (2 ^ s.toNat) hK
    have hU0 : 0 ≤ lo * 2 ^ s.toNat % 18446744073709551616 := by omega
    have hU1 : lo * 2 ^ s.toNat % 18446744073709551616 < 18446744073709551616 := by omega
    have hrem : ∀ x : Int, x * 2 ^ s.toNat / 2 ^ s.toNat = x := fun x => Int.mul_ediv_cancel x (by omega)
    have e1 := wrapu_in (y * 2 ^ s.toNat) (by omega) n1
    have e2 := wrapu_in (hi * 2 ^ s.toNat) hA0 (by omega)
    have e3 := wrapu_mod (lo * 2 ^ s.toNat)
    generalize hY : y * 2 ^ s.toNat = Y at *
    generalize hAA : hi * 2 ^ s.toNat = A at *
    generalize hU : lo * 2 ^ s.toNat % 18446744073709551616 = U at *
    generalize hL : lo / 2 ^ (64 - s).toNat = L at *
    have hN : A + L < Y := by omega
    have hHv : Halves Y (Y / 4294967296) (Y % 4294967296) := ⟨by omega, by omega, by omega, by omega, by omega⟩
    have p1 := part_bd (A + L) (Y / 4294967296) (by omega) (by omega)
    have hrest := wrap_rest (A + L) (U / 4294967296) Y (by omega) (by omega)
    have r0 := Int.emod_nonneg ((A + L) * 4294967296 + U / 4294967296) (by omega : Y ≠ 0)
    have r1 := Int.emod_lt_of_pos ((A + L) * 4294967296 + U / 4294967296) (by omega : 0 < Y)
    generalize hN' : ((A + L) * 4294967296 + U / 4294967296) % Y = N' at *
    have p2 := part_bd N' (Y / 4294967296) r0 (by omega)
    refine (div64_core hi lo y s Y (Y / 4294967296) (Y % 4294967296) A L (A + L) U (U / 4294967296) (U % 4294967296) _ _ N' w (by omega) hh1 hl0 hl1 hy1 s0 s1 hlz'
      (by rw [hY]; exact e1) rfl (and_mask32 Y (by omega) (by omega)) (by rw [hAA]; exact e2) hL hor e3 rfl (and_mask32 U hU0 hU1)
      (wrapu_in _ p1.1 (by omega)) (wrapu_in _ p2.1 (by omega)) hrest (by omega) (by omega) (by omega) (by omega) (by omega) hN n1 (by omega) (by omega) (by omega) (by omega)
      (Lib.hid hHv) (Lib.hid rfl) (Lib.hid rfl) p1.1 p1.2 p2.1 p2.2 r0 r1).mono ?_
    rintro e w' ⟨rfl, rfl⟩
    have td := two_digits (A + L) (U / 4294967296) (U % 4294967296) Y (by omega) (by omega) (by omega)
    rw [hN'] at td
    have hsum : (A + L) * 18446744073709551616 + U / 4294967296 * 4294967296 + U % 4294967296 = (hi * 18446744073709551616 + lo) * 2 ^ s.toNat := by omega
    rw [hsum] at td
    refine ⟨ret_two (td.1.trans hsc.1) ?_, Below.refl _ _⟩
    rw [wrap_rest N' (U % 4294967296) Y (by omega) n1, td.2, hsc.2, hrem]
end Go.Proofs.Ytiminclbkmkgnaa
