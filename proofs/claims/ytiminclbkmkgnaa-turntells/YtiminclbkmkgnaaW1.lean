/- Walks of layer wide: magnitude, Sub64, negate, multiply, Mul. -/
import Derived.Test.YtiminclbkmkgnaaProg
import Derived.Test.YtiminclbkmkgnaaM0
import Derived.Test.YtiminclbkmkgnaaM1
import Derived.WalkKit
import Derived.WalkSpells
import Derived.StillTactics
import Derived.Laws.Pointers
import Derived.Deep.RegionHeld3
import Derived.RowKit3
import Derived.Below
import Derived.BigQuiet
import Derived.Lib.Hide
import Derived.Shelf.Spec.BitsCarry
import Derived.Handy
namespace Go.Proofs.Ytiminclbkmkgnaa
open Go.RowKit
set_option linter.unusedVariables false


theorem ret_int {k : IntKind} {a b : Int} (h : a = b) : Ending.returned (.int k a) = .returned (.int k b) := by rw [h]
theorem ret_two {k l : IntKind} {a b c d : Int} (h : a = b) (h' : c = d) : Ending.returned (.tuple #[.int k a, .int l c]) = .returned (.tuple #[.int k b, .int l d]) := by rw [h, h']


set_option maxHeartbeats 400000 in
theorem mag_any (a : Int) (w : World) (h0 : -9223372036854775808 ≤ a) (h1 : a ≤ 9223372036854775807) :
    Calls Try.prog 51 #[.int .i64 a] w fun e w' => e = .returned (.int .u64 (mag a)) ∧ w = w' := by
  by_cases h : a < 0
  · go_enter Try.func51, Try.ntmps51
    go_wp2
    go_ret
    exact ⟨ret_int (by rw [mag, if_pos h, wrapu_mod, wrapu_mod]; omega), rfl⟩
  · go_enter Try.func51, Try.ntmps51
    go_wp2
    go_ret
    exact ⟨ret_int (by rw [mag, if_neg (by omega)]), rfl⟩

/-- The borrow of a difference. -/
def bor (x y : Int) : Int := if x < y then 1 else 0

theorem bor_bd (x y : Int) : 0 ≤ bor x y ∧ bor x y ≤ 1 := by unfold bor; split <;> decide

theorem below3d4 (w : World) (o1 o2 o3 : Obj) : Below w.heap.size w (((w.alloc o1).alloc o2).alloc o3).drew.drew.drew.drew :=
  (((((((Below.refl _ _).alloc (Nat.le_refl _) o1).alloc (by simp) o2).alloc (by simp; omega) o3).drew).drew).drew).drew

/-- The numbers of the school method, as multiply works them out of the four products of halves. -/
theorem school (x y p00 p01 p10 p11 q00 q01 q10 : Int)
    (e00 : p00 = (x % 4294967296) * (y % 4294967296)) (e01 : p01 = (x % 4294967296) * (y / 4294967296)) (e10 : p10 = (x / 4294967296) * (y % 4294967296)) (e11 : p11 = (x / 4294967296) * (y / 4294967296))
    (m00 : q00 = p00 % 4294967296) (m01 : q01 = p01 % 4294967296) (m10 : q10 = p10 % 4294967296) :
    p11 + p01 / 4294967296 + p10 / 4294967296 + (p00 / 4294967296 + q01 + q10) / 4294967296 = x * y / 18446744073709551616 ∧
    (p00 / 4294967296 + q01 + q10) * 4294967296 % 18446744073709551616 + q00 = x * y % 18446744073709551616 := by
  have h := split_mul x y
  rw [← e00, ← e01, ← e10, ← e11] at h
  constructor <;> omega

set_option maxHeartbeats 1000000 in
theorem multiply_core (x y xl xh yl yh p00 p01 p10 p11 q00 q01 q10 r : Int) (w : World)
    (ex : bits .and .u64 x 4294967295 = xl) (ex' : x / 4294967296 = xh) (ey : bits .and .u64 y 4294967295 = yl) (ey' : y / 4294967296 = yh)
    (hx0 : 0 ≤ x) (hx1 : x < 18446744073709551616) (hy0 : 0 ≤ y) (hy1 : y < 18446744073709551616)
    (e00 : IntKind.u64.wrap (xl * yl) = p00) (e01 : IntKind.u64.wrap (xl * yh) = p01) (e10 : IntKind.u64.wrap (xh * yl) = p10) (e11 : IntKind.u64.wrap (xh * yh) = p11)
    (b00 : 0 ≤ p00) (b00' : p00 ≤ 18446744065119617025) (b01 : 0 ≤ p01) (b01' : p01 ≤ 18446744065119617025) (b10 : 0 ≤ p10) (b10' : p10 ≤ 18446744065119617025) (b11 : 0 ≤ p11) (b11' : p11 ≤ 18446744065119617025)
    (m00 : bits .and .u64 p00 4294967295 = q00) (m01 : bits .and .u64 p01 4294967295 = q01) (m10 : bits .and .u64 p10 4294967295 = q10)
    (n01 : 0 ≤ q01) (n01' : q01 < 4294967296) (n10 : 0 ≤ q10) (n10' : q10 < 4294967296)
    (hb : p11 + p01 / 4294967296 + p10 / 4294967296 + (p00 / 4294967296 + q01 + q10) / 4294967296 < 18446744073709551616)
    (er : bits .or .u64 (IntKind.u64.wrap ((p00 / 4294967296 + q01 + q10) * 4294967296)) q00 = r) :
    Calls Try.prog 50 #[.int .u64 x, .int .u64 y] w fun e w' => e = .returned (.tuple #[.int .u64 (p11 + p01 / 4294967296 + p10 / 4294967296 + (p00 / 4294967296 + q01 + q10) / 4294967296), .int .u64 r]) ∧ Below w.heap.size w w' := by
  go_enter Try.func50, Try.ntmps50
  go_wp2
  refine wp_loop_rounds 3 ?_
  rw [rounds_succ]
  go_wp2
  refine wp_loop_rounds 3 ?_
  rw [rounds_succ]
  go_wp2
  go_region
  all_goals go_wp2
  rw [rounds_succ]
  go_wp2
  go_region
  go_wp2
  rw [rounds_succ]
  go_wp2
  rw [rounds_succ]
  go_wp2
  refine wp_loop_rounds 3 ?_
  rw [rounds_succ]
  go_wp2
  go_region
  all_goals go_wp2
  rw [rounds_succ]
  go_wp2
  go_region
  go_wp2
  rw [rounds_succ]
  go_wp2
  rw [rounds_succ]
  go_wp2
  go_ret2
  refine ⟨rfl, ?_⟩
  exact below3d4 w _ _ _

set_option maxHeartbeats 400000 in
theorem multiply_any (x y : Int) (w : World) (hx0 : 0 ≤ x) (hx1 : x < 18446744073709551616) (hy0 : 0 ≤ y) (hy1 : y < 18446744073709551616) :
    Calls Try.prog 50 #[.int .u64 x, .int .u64 y] w fun e w' => e = .returned (.tuple #[.int .u64 (x * y / 18446744073709551616), .int .u64 (x * y % 18446744073709551616)]) ∧ Below w.heap.size w w' := by
  have a0 := half_mul (x % 4294967296) (y % 4294967296) (by omega) (by omega) (by omega) (by omega)
  have a1 := half_mul (x % 4294967296) (y / 4294967296) (by omega) (by omega) (by omega) (by omega)
  have a2 := half_mul (x / 4294967296) (y % 4294967296) (by omega) (by omega) (by omega) (by omega)
  have a3 := half_mul (x / 4294967296) (y / 4294967296) (by omega) (by omega) (by omega) (by omega)
  have hs := school x y _ _ _ _ _ _ _ rfl rfl rfl rfl rfl rfl rfl
  have hm : 0 ≤ x * y ∧ x * y ≤ 340282366920938463426481119284349108225 := ⟨Int.mul_nonneg hx0 hy0, Int.mul_le_mul (by omega : x ≤ 18446744073709551615) (by omega : y ≤ 18446744073709551615) hy0 (by decide)⟩
  have hb : x * y / 18446744073709551616 < 18446744073709551616 := by omega
  rw [← hs.1] at hb
  refine (multiply_core x y (x % 4294967296) (x / 4294967296) (y % 4294967296) (y / 4294967296) _ _ _ _ _ _ _ _ w (and_mask32 x hx0 hx1) rfl (and_mask32 y hy0 hy1) rfl hx0 hx1 hy0 hy1
    (wrapu_in _ a0.1 (by omega)) (wrapu_in _ a1.1 (by omega)) (wrapu_in _ a2.1 (by omega)) (wrapu_in _ a3.1 (by omega)) a0.1 a0.2 a1.1 a1.2 a2.1 a2.2 a3.1 a3.2
    (and_mask32 _ a0.1 (by omega)) (and_mask32 _ a1.1 (by omega)) (and_mask32 _ a2.1 (by omega)) (by omega) (by omega) (by omega) (by omega) hb
    (or_low32 _ _ (by rw [wrapu_mod]; omega) (by rw [wrapu_mod]; omega) (by rw [wrapu_mod]; omega) (by omega) (by omega))).mono ?_
  rintro e w' ⟨rfl, hbw⟩
  refine ⟨ret_two hs.1 ?_, hbw⟩
  rw [wrapu_mod]
  exact hs.2



theorem two_comp (p : Int) (h0 : 0 ≤ p) (h1 : p ≤ 85070591730234615865843651857942052864) :
    wrap64 ((-(p / 18446744073709551616) - bor 0 (p % 18446744073709551616)) % 18446744073709551616) = (-p) / 18446744073709551616 ∧ (-(p % 18446744073709551616)) % 18446744073709551616 = (-p) % 18446744073709551616 := by
  unfold bor wrap64
  split <;> omega


end Go.Proofs.Ytiminclbkmkgnaa
