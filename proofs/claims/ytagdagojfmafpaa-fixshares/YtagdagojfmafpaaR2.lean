/- Walks of root: Floor, Ceil, valid, magnitude, Sign. -/
import Derived.Test.YtagdagojfmafpaaR1
namespace Go.Proofs.Ytagdagojfmafpaa
open Go.RowKit
set_option linter.unusedVariables false

theorem ret_bool {a b : Bool} (h : a = b) : Ending.returned (.bool a) = .returned (.bool b) := by rw [h]

/-- The predicate of Floor. -/
def fitF (n x : Int) : Bool := decide (x * x ≤ n)

set_option maxHeartbeats 400000 in
theorem floor1_any (n x : Int) (b : Nat) (w : World) (hc : w.cell? ⟨b, 0, none⟩ = some (.int .u64 n)) (x0 : 0 ≤ x) (x1 : x < 4294967296) (s0 : 0 ≤ x * x) (s1 : x * x < 18446744073709551616) :
    Calls Try.prog 53 #[.int .u64 x, .pointer (some ⟨b, 0, none⟩)] w fun e w' => e = .returned (.bool (fitF n x)) ∧ w = w' := by
  go_enter Try.func53, Try.ntmps53
  go_wp2
  go_ret
  exact ⟨rfl, rfl⟩

theorem sq32 (x : Int) (x0 : 0 ≤ x) (x1 : x < 4294967296) : 0 ≤ x * x ∧ x * x < 18446744073709551616 := by
  have := sq_le x0 (by omega : x ≤ 4294967295)
  exact ⟨sq_nonneg x, by omega⟩

theorem enters27 : Enters 53 := enters_of Try.func53 (by kernel_rfl) (by kernel_rfl)

theorem greatest32 (n : Int) (b : Nat) (w : World) (hn : 0 ≤ n) (hn' : n < 18446744073709551616) (hc : w.cell? ⟨b, 0, none⟩ = some (.int .u64 n)) (hb : b < w.heap.size) :
    Calls Try.prog 52 #[.int .i64 32, .func (.func 53) #[] #[.pointer (some ⟨b, 0, none⟩)]] w fun e w' => e = .returned (.int .u64 (isq n)) ∧ Below w.heap.size w w' := by
  refine (greatest_any 53 b 32 (fitF n) w (by decide) (Lib.hid enters27) (Lib.hid (by unfold fitF; simpa using hn)) (Lib.hid ?_)).mono ?_
  · intro x w1 x0 x1 hB
    have x1 : x < 4294967296 := by simpa using x1
    obtain ⟨s0, s1⟩ := sq32 x x0 x1
    refine (floor1_any n x b w1 ((hB.cell (p := ⟨b, 0, none⟩) hb).trans hc) x0 x1 s0 s1).mono ?_
    rintro e w2 ⟨rfl, rfl⟩
    exact ⟨rfl, Below.refl _ _⟩
  · rintro e w' ⟨x, ⟨x0, _, x2, x3, x4⟩, rfl, hB⟩
    refine ⟨ret_int (isq_is hn (by omega) ⟨x0, by simpa [fitF] using x3, ?_⟩).symm, hB⟩
    simp only [Int.pow_zero] at x2 x4
    have e : (2 : Int) ^ 32 = 4294967296 := by decide
    rw [e] at x2 x4
    rcases Int.lt_or_le (x + 1) 4294967296 with h | h
    · have := x4 h
      simpa [fitF] using this
    · have h1 : x + 1 = 4294967296 := by omega
      rw [h1]; omega

set_option maxHeartbeats 400000 in
theorem floorR_any (n : Int) (w : World) (hn : 0 ≤ n) (hn' : n < 18446744073709551616) :
    Calls Try.prog 41 #[.int .u64 n] w fun e w' => e = .returned (.int .u64 (isq n)) ∧ Below w.heap.size w w' := by
  have h := Lib.hid (greatest32 n w.heap.size (w.alloc (.cells #[.int .u64 n] 35)) hn hn' (by simp) (by simp))
  go_enter Try.func41, Try.ntmps41
  go_wp2_with fail
  refine h.out.mono ?_
  rintro e w1 ⟨rfl, k1⟩
  go_wp2
  go_ret
  exact ⟨rfl, ((Below.refl _ _).alloc (Nat.le_refl _) _).trans (k1.mono (by simp))⟩

theorem isq_bd (n : Int) (hn : 0 ≤ n) (hn' : n < 18446744073709551616) : 0 ≤ isq n ∧ isq n < 4294967296 ∧ 0 ≤ isq n * isq n ∧ isq n * isq n ≤ n := by
  obtain ⟨r0, r1, r2⟩ := isq_root n hn (by omega)
  have := lt_of_sq (by decide : (0 : Int) ≤ 4294967296) (by omega : isq n * isq n < 4294967296 * 4294967296)
  exact ⟨r0, this, sq_nonneg _, r1⟩

theorem sign_bd (q : Int) (q0 : -2147483648 ≤ q) (q1 : q ≤ 2147483648) : -4611686018427387904 ≤ -q * mag q ∧ -q * mag q ≤ 4611686018427387904 := by
  have hm : 0 ≤ mag q ∧ mag q ≤ 2147483648 := by unfold mag; split <;> omega
  have h1 := Int.mul_le_mul_of_nonneg_right (by omega : -q ≤ 2147483648) hm.1
  have h2 := Int.mul_le_mul_of_nonneg_right (by omega : q ≤ 2147483648) hm.1
  rw [Int.neg_mul] at *
  constructor <;> omega

/-- What Sign answers. -/
def okS (p q d : Int) : Bool := validR p 4611686018427387904 q d
def valS (p q d : Int) : Int := if okS p q d = true then sgnR p q d else 0

end Go.Proofs.Ytagdagojfmafpaa
