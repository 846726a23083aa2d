/- Walks of wide: Compare, Cmp, divide, signed. -/
import Derived.Test.YtolpjjbanebogaaW3
import Derived.Test.YtolpjjbanebogaaM4
namespace Go.Proofs.Ytolpjjbanebogaa
open Go.RowKit
set_option linter.unusedVariables false

set_option maxHeartbeats 400000 in
theorem compareI_any (x y : Int) (w : World) :
    Calls Try.prog 29 #[.int .i64 x, .int .i64 y] w fun e w' => e = .returned (.int .i64 (cmpI x y)) ∧ w = w' := by
  unfold cmpI
  by_cases h1 : x < y
  · go_enter Try.func29, Try.ntmps29
    go_wp2
    go_ret
    exact ⟨rfl, rfl⟩
  · by_cases h2 : y < x
    · go_enter Try.func29, Try.ntmps29
      go_wp2
      go_ret
      exact ⟨rfl, rfl⟩
    · go_enter Try.func29, Try.ntmps29
      go_wp2
      go_ret
      exact ⟨rfl, rfl⟩

set_option maxHeartbeats 400000 in
theorem compareU_any (x y : Int) (w : World) :
    Calls Try.prog 30 #[.int .u64 x, .int .u64 y] w fun e w' => e = .returned (.int .i64 (cmpI x y)) ∧ w = w' := by
  unfold cmpI
  by_cases h1 : x < y
  · go_enter Try.func30, Try.ntmps30
    go_wp2
    go_ret
    exact ⟨rfl, rfl⟩
  · by_cases h2 : y < x
    · go_enter Try.func30, Try.ntmps30
      go_wp2
      go_ret
      exact ⟨rfl, rfl⟩
    · go_enter Try.func30, Try.ntmps30
      go_wp2
      go_ret
      exact ⟨rfl, rfl⟩

theorem cmp_high (p q : Int) (h : (p / 18446744073709551616 != q / 18446744073709551616) = true) : cmpI (p / 18446744073709551616) (q / 18446744073709551616) = cmpI p q := by
  have h' : p / 18446744073709551616 ≠ q / 18446744073709551616 := by simpa using h
  unfold cmpI
  repeat' split
  all_goals omega
theorem cmp_low (p q : Int) (h : (p / 18446744073709551616 != q / 18446744073709551616) = false) : cmpI (p % 18446744073709551616) (q % 18446744073709551616) = cmpI p q := by
  have h' : p / 18446744073709551616 = q / 18446744073709551616 := by simpa using h
  unfold cmpI
  repeat' split
  all_goals omega

set_option maxHeartbeats 400000 in
theorem cmp_any (a b c d : Int) (w : World) (ha0 : -9223372036854775808 ≤ a) (ha1 : a ≤ 9223372036854775807) (hb0 : -9223372036854775808 ≤ b) (hb1 : b ≤ 9223372036854775807)
    (hc0 : -9223372036854775808 ≤ c) (hc1 : c ≤ 9223372036854775807) (hd0 : -9223372036854775808 ≤ d) (hd1 : d ≤ 9223372036854775807) :
    Calls Try.prog 18 #[.int .i64 a, .int .i64 b, .int .i64 c, .int .i64 d] w fun e w' => e = .returned (.int .i64 (cmpI (a * b) (c * d))) ∧ Below w.heap.size w w' := by
  have m1 := Lib.hid (fun w => mul_any a b w ha0 ha1 hb0 hb1)
  have m2 := Lib.hid (fun w => mul_any c d w hc0 hc1 hd0 hd1)
  by_cases h : (a * b / 18446744073709551616 != c * d / 18446744073709551616) = true
  · have hr := Lib.hid (cmp_high _ _ h)
    go_enter Try.func18, Try.ntmps18
    go_wp2_with fail
    refine (m1.out _).mono ?_
    rintro e w1 ⟨rfl, k1⟩
    go_wp2_with fail
    refine (m2.out _).mono ?_
    rintro e w2 ⟨rfl, k2⟩
    go_wp2_with (go_at_call 29; refine (compareI_any _ _ _).mono ?_; rintro e w' ⟨rfl, rfl⟩)
    go_ret
    exact ⟨ret_int hr.out, k1.trans (k2.mono k1.size)⟩
  · have h : (a * b / 18446744073709551616 != c * d / 18446744073709551616) = false := by simpa using h
    have hr := Lib.hid (cmp_low _ _ h)
    go_enter Try.func18, Try.ntmps18
    go_wp2_with fail
    refine (m1.out _).mono ?_
    rintro e w1 ⟨rfl, k1⟩
    go_wp2_with fail
    refine (m2.out _).mono ?_
    rintro e w2 ⟨rfl, k2⟩
    go_wp2_with (go_at_call 30; refine (compareU_any _ _ _).mono ?_; rintro e w' ⟨rfl, rfl⟩)
    go_ret
    exact ⟨ret_int hr.out, k1.trans (k2.mono k1.size)⟩

/-- A pair of a number and whether it is answered. -/
theorem ret_ok {k : IntKind} {a b : Int} {c d : Bool} (h : a = b) (h' : c = d) : Ending.returned (.tuple #[.int k a, .bool c]) = .returned (.tuple #[.int k b, .bool d]) := by rw [h, h']

set_option maxHeartbeats 400000 in
theorem signed_any (n r m : Int) (neg : Bool) (w : World) (h0 : 0 ≤ n) (h1 : n < 18446744073709551616) :
    Calls Try.prog 33 #[.agg #[.int .u64 n, .int .u64 r, .int .u64 m, .bool neg]] w fun e w' => e = .returned (.tuple #[.int .i64 (sgnVal neg n), .bool (sgnOk neg n)]) ∧ Below w.heap.size w w' := by
  cases neg
  · by_cases h : n < 9223372036854775808
    · go_enter Try.func33, Try.ntmps33
      go_wp2
      go_ret2
      exact ⟨ret_ok (by simp [sgnVal, sgnOk, h]) (by simp [sgnOk, h]), (Below.refl _ _).alloc (Nat.le_refl _) _⟩
    · go_enter Try.func33, Try.ntmps33
      go_wp2
      go_ret2
      exact ⟨ret_ok (by simp [sgnVal, sgnOk]; omega) (by simp [sgnOk]; omega), (Below.refl _ _).alloc (Nat.le_refl _) _⟩
  · by_cases h : n ≤ 9223372036854775808
    · go_enter Try.func33, Try.ntmps33
      go_wp2
      go_ret2
      exact ⟨ret_ok (by rw [wrapu_mod]; unfold wrap64; simp [sgnVal, sgnOk, h]; omega) (by simp [sgnOk, h]), (Below.refl _ _).alloc (Nat.le_refl _) _⟩
    · go_enter Try.func33, Try.ntmps33
      go_wp2
      go_ret2
      exact ⟨ret_ok (by simp [sgnVal, sgnOk]; omega) (by simp [sgnOk]; omega), (Below.refl _ _).alloc (Nat.le_refl _) _⟩
end Go.Proofs.Ytolpjjbanebogaa
