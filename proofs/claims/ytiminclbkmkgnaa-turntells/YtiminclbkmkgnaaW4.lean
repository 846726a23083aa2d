/- Walks of wide: Compare, Cmp, divide, signed. -/
import Derived.Test.YtiminclbkmkgnaaW3
import Derived.Test.YtiminclbkmkgnaaM4
namespace Go.Proofs.Ytiminclbkmkgnaa
open Go.RowKit
set_option linter.unusedVariables false

theorem cmp_high (p q : Int) (h : (p / 18446744073709551616 != q / 18446744073709551616) = true) : cmpI (p / 18446744073709551616) (q / 18446744073709551616) = cmpI p q := by
  have h' : p / 18446744073709551616 ≠ q / 18446744073709551616 := by simpa using h
  unfold cmpI
  repeat' split
  all_goals omega
theorem cmp_low (p q : Int) (h : (p / 18446744073709551616 != q / 18446744073709551616) = false) : cmpI (p % 18446744073709551616) (q % 18446744073709551616) = cmpI p q := by
  have h' : p / 18446744073709551616 = q / 18446744073709551616 := by simpa using h
  unfold cmpI
  repeat' split
  all_goals omega

/-- A pair of a number and whether it is answered. -/
theorem ret_ok {k : IntKind} {a b : Int} {c d : Bool} (h : a = b) (h' : c = d) : Ending.returned (.tuple #[.int k a, .bool c]) = .returned (.tuple #[.int k b, .bool d]) := by rw [h, h']

set_option maxHeartbeats 400000 in
theorem signed_any (n r m : Int) (neg : Bool) (w : World) (h0 : 0 ≤ n) (h1 : n < 18446744073709551616) :
    Calls Try.prog 46 #[.agg #[.int .u64 n, .int .u64 r, .int .u64 m, .bool neg]] w fun e w' => e = .returned (.tuple #[.int .i64 (sgnVal neg n), .bool (sgnOk neg n)]) ∧ Below w.heap.size w w' := by
  cases neg
  · by_cases h : n < 9223372036854775808
    · go_enter Try.func46, Try.ntmps46
      go_wp2
      go_ret2
      exact ⟨ret_ok (by simp [sgnVal, sgnOk, h]) (by simp [sgnOk, h]), (Below.refl _ _).alloc (Nat.le_refl _) _⟩
    · go_enter Try.func46, Try.ntmps46
      go_wp2
      go_ret2
      exact ⟨ret_ok (by simp [sgnVal, sgnOk]; omega) (by simp [sgnOk]; omega), (Below.refl _ _).alloc (Nat.le_refl _) _⟩
  · by_cases h : n ≤ 9223372036854775808
    · go_enter Try.func46, Try.ntmps46
      go_wp2
      go_ret2
      exact ⟨ret_ok (by rw [wrapu_mod]; unfold wrap64; simp [sgnVal, sgnOk, h]; omega) (by simp [sgnOk, h]), (Below.refl _ _).alloc (Nat.le_refl _) _⟩
    · go_enter Try.func46, Try.ntmps46
      go_wp2
      go_ret2
      exact ⟨ret_ok (by simp [sgnVal, sgnOk]; omega) (by simp [sgnOk]; omega), (Below.refl _ _).alloc (Nat.le_refl _) _⟩
end Go.Proofs.Ytiminclbkmkgnaa
