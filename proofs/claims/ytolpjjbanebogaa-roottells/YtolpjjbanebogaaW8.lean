/- Walks of the document's own answer for the layer (tympanref1). -/
import Derived.Test.YtolpjjbanebogaaW7
namespace Go.Proofs.Ytolpjjbanebogaa
open Go.RowKit
set_option linter.unusedVariables false

set_option maxHeartbeats 400000 in
theorem rmag_any (a : Int) (w : World) (h0 : -9223372036854775808 ≤ a) (h1 : a ≤ 9223372036854775807) :
    Calls Try.prog 25 #[.int .i64 a] w fun e w' => e = .returned (.int .u64 (mag a)) ∧ w = w' := by
  by_cases h : a < 0
  · go_enter Try.func25, Try.ntmps25
    go_wp2
    go_ret
    exact ⟨ret_int (by rw [mag, if_pos h]; omega), rfl⟩
  · go_enter Try.func25, Try.ntmps25
    go_wp2
    go_ret
    exact ⟨ret_int (by rw [mag, if_neg (by omega)]), rfl⟩

theorem mul64_any (x y : Int) (w : World) (hx0 : 0 ≤ x) (hx1 : x < 18446744073709551616) (hy0 : 0 ≤ y) (hy1 : y < 18446744073709551616) :
    Calls Try.prog 41 #[.int .u64 x, .int .u64 y] w fun e w' => e = .returned (.tuple #[.int .u64 (x * y / 18446744073709551616), .int .u64 (x * y % 18446744073709551616)]) ∧ w = w' := by
  obtain ⟨x, rfl⟩ := Int.eq_ofNat_of_zero_le hx0
  obtain ⟨y, rfl⟩ := Int.eq_ofNat_of_zero_le hy0
  refine (Try.bits_Mul64 x y (by omega) (by omega) w).mono ?_
  rintro e w' ⟨rfl, rfl⟩
  exact ⟨ret_two (by simp) (by simp), rfl⟩

theorem not64 (x : Int) (h0 : 0 ≤ x) (h1 : x < 18446744073709551616) : bits .xor .u64 (if IntKind.u64.signed = true then -1 else IntKind.u64.max) x = 18446744073709551615 - x := by
  obtain ⟨n, rfl⟩ := Int.eq_ofNat_of_zero_le h0
  have e : (if IntKind.u64.signed = true then (-1 : Int) else IntKind.u64.max) = ((18446744073709551615 : Nat) : Int) := rfl
  rw [e, bits_xor_u64_nat 18446744073709551615 n (by omega) (by omega)]
  have h2 : n < 2 ^ 64 := by omega
  have e2 : 18446744073709551615 ^^^ n = 18446744073709551615 - n := by
    have hb := BitVec.toNat_not (x := BitVec.ofNat 64 n)
    rw [← BitVec.allOnes_xor, BitVec.toNat_xor, BitVec.toNat_allOnes, BitVec.toNat_ofNat, Nat.mod_eq_of_lt h2] at hb
    have : (2 : Nat) ^ 64 - 1 = 18446744073709551615 := by decide
    rw [this] at hb
    omega
  rw [e2]; omega

set_option maxHeartbeats 400000 in
/-- Negated: the low word is not 0. -/
theorem rmul_neg1 (a b H L : Int) (w : World) (ha0 : -9223372036854775808 ≤ a) (ha1 : a ≤ 9223372036854775807) (hb0 : -9223372036854775808 ≤ b) (hb1 : b ≤ 9223372036854775807)
    (hX : Hid (∀ w, Calls Try.prog 41 #[.int .u64 (mag a), .int .u64 (mag b)] w fun e w' => e = .returned (.tuple #[.int .u64 H, .int .u64 L]) ∧ w = w'))
    (hs : (!decide (a < 0) == decide (b < 0)) = true) (h0 : 0 ≤ H) (h1 : H < 18446744073709551616) (l0 : 0 < L) (l1 : L < 18446744073709551616) :
    Calls Try.prog 31 #[.int .i64 a, .int .i64 b] w fun e w' => e = .returned (.tuple #[.int .i64 (wrap64 (18446744073709551615 - H)), .int .u64 (18446744073709551616 - L)]) ∧ w = w' := by
  have nl := not64 L (by omega) l1
  have nh := not64 H h0 h1
  have z : (18446744073709551615 - L + 1 == 0) = false := by simp; omega
  go_enter Try.func31, Try.ntmps31
  go_wp2_with (first | (go_at_call 25; refine (rmag_any _ _ (by omega) (by omega)).mono ?_; rintro e w' ⟨rfl, rfl⟩) | (go_at_call 41; refine (hX.out _).mono ?_; rintro e w' ⟨rfl, rfl⟩))
  go_ret2
  exact ⟨ret_two (by first | rfl | omega) (by omega), rfl⟩

set_option maxHeartbeats 400000 in
/-- Negated: the low word is 0. -/
theorem rmul_neg0 (a b H : Int) (w : World) (ha0 : -9223372036854775808 ≤ a) (ha1 : a ≤ 9223372036854775807) (hb0 : -9223372036854775808 ≤ b) (hb1 : b ≤ 9223372036854775807)
    (hX : Hid (∀ w, Calls Try.prog 41 #[.int .u64 (mag a), .int .u64 (mag b)] w fun e w' => e = .returned (.tuple #[.int .u64 H, .int .u64 0]) ∧ w = w'))
    (hs : (!decide (a < 0) == decide (b < 0)) = true) (h0 : 0 ≤ H) (h1 : H < 18446744073709551616) :
    Calls Try.prog 31 #[.int .i64 a, .int .i64 b] w fun e w' => e = .returned (.tuple #[.int .i64 (wrap64 (IntKind.u64.wrap (18446744073709551615 - H + 1))), .int .u64 0]) ∧ w = w' := by
  have nl : bits .xor .u64 (if IntKind.u64.signed = true then -1 else IntKind.u64.max) 0 = 18446744073709551615 := not64 0 (by decide) (by decide)
  have nh := not64 H h0 h1
  go_enter Try.func31, Try.ntmps31
  go_wp2_with (first | (go_at_call 25; refine (rmag_any _ _ (by omega) (by omega)).mono ?_; rintro e w' ⟨rfl, rfl⟩) | (go_at_call 41; refine (hX.out _).mono ?_; rintro e w' ⟨rfl, rfl⟩))
  go_ret2
  exact ⟨rfl, rfl⟩

set_option maxHeartbeats 400000 in
theorem rmul_any (a b : Int) (w : World) (ha0 : -9223372036854775808 ≤ a) (ha1 : a ≤ 9223372036854775807) (hb0 : -9223372036854775808 ≤ b) (hb1 : b ≤ 9223372036854775807) :
    Calls Try.prog 31 #[.int .i64 a, .int .i64 b] w fun e w' => e = .returned (.tuple #[.int .i64 (a * b / 18446744073709551616), .int .u64 (a * b % 18446744073709551616)]) ∧ w = w' := by
  obtain ⟨m0, m1⟩ := mag_bd a ha0 ha1
  obtain ⟨n0, n1⟩ := mag_bd b hb0 hb1
  obtain ⟨s0, s1⟩ := mags_bd a b ha0 ha1 hb0 hb1
  have g0 : 0 ≤ mag a * mag b / 18446744073709551616 := by omega
  have g1 : mag a * mag b / 18446744073709551616 < 18446744073709551616 := by omega
  have g2 : 0 ≤ mag a * mag b % 18446744073709551616 := by omega
  have g3 : mag a * mag b % 18446744073709551616 < 18446744073709551616 := by omega
  have hX := Lib.hid (fun w => mul64_any (mag a) (mag b) w (by omega) (by omega) (by omega) (by omega))
  by_cases hs : (!decide (a < 0) == decide (b < 0)) = true
  · have hp := mul_neg a b hs
    have ht := two_comp (mag a * mag b) s0 s1
    have hab : a * b = -(mag a * mag b) := by omega
    rw [hab]
    generalize mag a * mag b = p at *
    by_cases hl : p % 18446744073709551616 = 0
    · rw [hl] at hX
      refine (rmul_neg0 a b _ w ha0 ha1 hb0 hb1 hX hs g0 g1).mono ?_
      rintro e w' ⟨rfl, rfl⟩
      refine ⟨ret_two ?_ (by omega), rfl⟩
      rw [wrapu_mod]; unfold wrap64; omega
    · refine (rmul_neg1 a b _ _ w ha0 ha1 hb0 hb1 hX hs g0 g1 (by omega) g3).mono ?_
      rintro e w' ⟨rfl, rfl⟩
      refine ⟨ret_two ?_ (by omega), rfl⟩
      unfold wrap64; omega
  · have hs' : (!decide (a < 0) == decide (b < 0)) = false := by simpa using hs
    have hp := Lib.hid (mul_pos a b hs')
    clear hs
    go_enter Try.func31, Try.ntmps31
    go_wp2_with (first | (go_at_call 25; refine (rmag_any _ _ (by omega) (by omega)).mono ?_; rintro e w' ⟨rfl, rfl⟩) | (go_at_call 41; refine (hX.out _).mono ?_; rintro e w' ⟨rfl, rfl⟩))
    go_ret2
    refine ⟨ret_two ?_ ?_, rfl⟩
    · rw [hp.out]
    · rw [hp.out]
end Go.Proofs.Ytolpjjbanebogaa
