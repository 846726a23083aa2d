/- Walks of wide: MulDiv, Floor. -/
import Derived.Test.YtiminclbkmkgnaaW5
namespace Go.Proofs.Ytiminclbkmkgnaa
open Go.RowKit
set_option linter.unusedVariables false

/-- What divide answers where there is a quotient. -/
def DivYes (a b d q r m : Int) (neg : Bool) : Prop := ∀ w, Calls Try.prog 45 #[.int .i64 a, .int .i64 b, .int .i64 d] w fun e w' => e = .returned (.tuple #[.agg #[.int .u64 q, .int .u64 r, .int .u64 m, .bool neg], .bool true]) ∧ Below w.heap.size w w'
def DivNo (a b d : Int) : Prop := ∀ w, Calls Try.prog 45 #[.int .i64 a, .int .i64 b, .int .i64 d] w fun e w' => e = .returned (.tuple #[.agg #[.int .u64 0, .int .u64 0, .int .u64 0, .bool false], .bool false]) ∧ Below w.heap.size w w'

/-- A box that is laid behind a call, and a call behind it. -/
theorem box_end {w w1 w2 : World} {o : Obj} (k1 : Below w.heap.size w w1) (k2 : Below (w1.alloc o).heap.size (w1.alloc o) w2) : Below w.heap.size w w2 := by
  have z := k1.size
  exact (k1.trans (((Below.refl _ _).alloc (Nat.le_refl _) o).mono z)).trans (k2.mono (by simp; omega))

set_option maxHeartbeats 400000 in
theorem muldiv_up (a b d q r m : Int) (neg : Bool) (w : World) (H : Hid (DivYes a b d q r m neg)) (hq0 : 0 ≤ q) (hq1 : q ≤ 9223372036854775808) (hr0 : 0 ≤ r) (hr1 : r < m) (hm : m ≤ 9223372036854775808)
    (h : m < 2 * r ∨ (2 * r = m ∧ q % 2 = 1)) :
    Calls Try.prog 43 #[.int .i64 a, .int .i64 b, .int .i64 d] w fun e w' => e = .returned (.tuple #[.int .i64 (sgnVal neg (q + 1)), .bool (sgnOk neg (q + 1))]) ∧ Below w.heap.size w w' := by
  have hs := Lib.hid (fun w => signed_any (q + 1) r m neg w (by omega) (by omega))
  by_cases t1 : m < 2 * r
  · clear h
    go_enter Try.func43, Try.ntmps43
    go_wp2_with fail
    refine (H.out _).mono ?_
    rintro e w1 ⟨rfl, k1⟩
    go_wp2_with fail
    refine (hs.out _).mono ?_
    rintro e w2 ⟨rfl, k2⟩
    go_wp2
    go_ret2
    exact ⟨rfl, box_end k1 k2⟩
  · have t2 : (2 * r == m) = true := by simp; omega
    have t3 : (q % 2 == 1) = true := by simp; omega
    clear h
    go_enter Try.func43, Try.ntmps43
    go_wp2_with fail
    refine (H.out _).mono ?_
    rintro e w1 ⟨rfl, k1⟩
    go_wp2_with fail
    refine (hs.out _).mono ?_
    rintro e w2 ⟨rfl, k2⟩
    go_wp2
    go_ret2
    exact ⟨rfl, box_end k1 k2⟩

set_option maxHeartbeats 400000 in
theorem muldiv_down (a b d q r m : Int) (neg : Bool) (w : World) (H : Hid (DivYes a b d q r m neg)) (hq0 : 0 ≤ q) (hq1 : q ≤ 9223372036854775808) (hr0 : 0 ≤ r) (hr1 : r < m) (hm : m ≤ 9223372036854775808)
    (h : ¬ (m < 2 * r ∨ (2 * r = m ∧ q % 2 = 1))) :
    Calls Try.prog 43 #[.int .i64 a, .int .i64 b, .int .i64 d] w fun e w' => e = .returned (.tuple #[.int .i64 (sgnVal neg q), .bool (sgnOk neg q)]) ∧ Below w.heap.size w w' := by
  have hs := Lib.hid (fun w => signed_any q r m neg w (by omega) (by omega))
  have t1 : ¬ m < 2 * r := by omega
  by_cases t2 : 2 * r = m
  · have t2 : (2 * r == m) = true := by simpa using t2
    have t3 : (q % 2 == 1) = false := by simp at t2 ⊢; omega
    clear h
    go_enter Try.func43, Try.ntmps43
    go_wp2_with fail
    refine (H.out _).mono ?_
    rintro e w1 ⟨rfl, k1⟩
    go_wp2_with fail
    refine (hs.out _).mono ?_
    rintro e w2 ⟨rfl, k2⟩
    go_wp2
    go_ret2
    exact ⟨rfl, box_end k1 k2⟩
  · have t2 : (2 * r == m) = false := by simpa using t2
    clear h
    go_enter Try.func43, Try.ntmps43
    go_wp2_with fail
    refine (H.out _).mono ?_
    rintro e w1 ⟨rfl, k1⟩
    go_wp2_with fail
    refine (hs.out _).mono ?_
    rintro e w2 ⟨rfl, k2⟩
    go_wp2
    go_ret2
    exact ⟨rfl, box_end k1 k2⟩

set_option maxHeartbeats 400000 in
theorem muldiv_none (a b d : Int) (w : World) (H : Hid (DivNo a b d)) :
    Calls Try.prog 43 #[.int .i64 a, .int .i64 b, .int .i64 d] w fun e w' => e = .returned (.tuple #[.int .i64 0, .bool false]) ∧ Below w.heap.size w w' := by
  go_enter Try.func43, Try.ntmps43
  go_wp2_with fail
  refine (H.out _).mono ?_
  rintro e w1 ⟨rfl, k1⟩
  go_wp2
  go_ret2
  exact ⟨rfl, k1.trans (((Below.refl _ _).alloc (Nat.le_refl _) _).mono k1.size)⟩

set_option maxHeartbeats 400000 in
theorem floor_none (a b d : Int) (w : World) (H : Hid (DivNo a b d)) :
    Calls Try.prog 39 #[.int .i64 a, .int .i64 b, .int .i64 d] w fun e w' => e = .returned (.tuple #[.int .i64 0, .bool false]) ∧ Below w.heap.size w w' := by
  go_enter Try.func39, Try.ntmps39
  go_wp2_with fail
  refine (H.out _).mono ?_
  rintro e w1 ⟨rfl, k1⟩
  go_wp2
  go_ret2
  exact ⟨rfl, k1.trans (((Below.refl _ _).alloc (Nat.le_refl _) _).mono k1.size)⟩

set_option maxHeartbeats 400000 in
theorem floor_up (a b d q r m : Int) (w : World) (H : Hid (DivYes a b d q r m true)) (hq0 : 0 ≤ q) (hq1 : q ≤ 9223372036854775808) (hr0 : 0 < r) (hr1 : r < m) (hm : m ≤ 9223372036854775808) :
    Calls Try.prog 39 #[.int .i64 a, .int .i64 b, .int .i64 d] w fun e w' => e = .returned (.tuple #[.int .i64 (sgnVal true (q + 1)), .bool (sgnOk true (q + 1))]) ∧ Below w.heap.size w w' := by
  have hs := Lib.hid (fun w => signed_any (q + 1) r m true w (by omega) (by omega))
  go_enter Try.func39, Try.ntmps39
  go_wp2_with fail
  refine (H.out _).mono ?_
  rintro e w1 ⟨rfl, k1⟩
  go_wp2_with fail
  refine (hs.out _).mono ?_
  rintro e w2 ⟨rfl, k2⟩
  go_wp2
  go_ret2
  exact ⟨rfl, box_end k1 k2⟩

set_option maxHeartbeats 400000 in
theorem floor_down (a b d q r m : Int) (neg : Bool) (w : World) (H : Hid (DivYes a b d q r m neg)) (hq0 : 0 ≤ q) (hq1 : q ≤ 9223372036854775808) (hr0 : 0 ≤ r) (hr1 : r < m) (hm : m ≤ 9223372036854775808) (h : ¬ (neg = true ∧ 0 < r)) :
    Calls Try.prog 39 #[.int .i64 a, .int .i64 b, .int .i64 d] w fun e w' => e = .returned (.tuple #[.int .i64 (sgnVal neg q), .bool (sgnOk neg q)]) ∧ Below w.heap.size w w' := by
  have hs := Lib.hid (fun w => signed_any q r m neg w (by omega) (by omega))
  cases neg
  · clear h
    go_enter Try.func39, Try.ntmps39
    go_wp2_with fail
    refine (H.out _).mono ?_
    rintro e w1 ⟨rfl, k1⟩
    go_wp2_with fail
    refine (hs.out _).mono ?_
    rintro e w2 ⟨rfl, k2⟩
    go_wp2
    go_ret2
    exact ⟨rfl, box_end k1 k2⟩
  · have h : ¬ 0 < r := by simpa using h
    go_enter Try.func39, Try.ntmps39
    go_wp2_with fail
    refine (H.out _).mono ?_
    rintro e w1 ⟨rfl, k1⟩
    go_wp2_with fail
    refine (hs.out _).mono ?_
    rintro e w2 ⟨rfl, k2⟩
    go_wp2
    go_ret2
    exact ⟨rfl, box_end k1 k2⟩
end Go.Proofs.Ytiminclbkmkgnaa
