/- Walks of wide: divide, MulDiv, Floor. -/
import Derived.Test.YtiminclbkmkgnaaW4
namespace Go.Proofs.Ytiminclbkmkgnaa
open Go.RowKit
set_option linter.unusedVariables false

/-- A block of four cells that was laid last is as it was behind calls that write nothing old. -/
theorem box4 {w w1 w2 : World} {v0 v1 v2 v3 : Value} {t : TypeId} (k1 : Below (w.alloc (.cells #[v0, v1, v2, v3] t)).heap.size (w.alloc (.cells #[v0, v1, v2, v3] t)) w1) (k2 : Below w1.heap.size w1 w2) :
    (w2.cell? ⟨w.heap.size, 0, none⟩ = some v0 ∧ w2.cell? ⟨w.heap.size, 1, none⟩ = some v1 ∧ w2.cell? ⟨w.heap.size, 2, none⟩ = some v2 ∧ w2.cell? ⟨w.heap.size, 3, none⟩ = some v3) ∧
    (w2.frozen? ⟨w.heap.size, 0, none⟩ = false ∧ w2.frozen? ⟨w.heap.size, 1, none⟩ = false ∧ w2.frozen? ⟨w.heap.size, 2, none⟩ = false ∧ w2.frozen? ⟨w.heap.size, 3, none⟩ = false) ∧ w.heap.size < w2.heap.size ∧ Below w.heap.size w w2 := by
  have z1 := k1.size
  have z2 := k2.size
  simp at z1
  have c : ∀ o, w2.cell? ⟨w.heap.size, o, none⟩ = (w.alloc (.cells #[v0, v1, v2, v3] t)).cell? ⟨w.heap.size, o, none⟩ := fun o =>
    (k2.cell (p := ⟨w.heap.size, o, none⟩) (by simp; omega)).trans (k1.cell (p := ⟨w.heap.size, o, none⟩) (by simp))
  have f : ∀ o, w2.frozen? ⟨w.heap.size, o, none⟩ = (w.alloc (.cells #[v0, v1, v2, v3] t)).frozen? ⟨w.heap.size, o, none⟩ := fun o =>
    (k2.frozen (p := ⟨w.heap.size, o, none⟩) (by simp; omega)).trans (k1.frozen (p := ⟨w.heap.size, o, none⟩) (by simp))
  refine ⟨⟨?_, ?_, ?_, ?_⟩, ⟨?_, ?_, ?_, ?_⟩, by omega, (((Below.refl _ _).alloc (Nat.le_refl _) _).trans (k1.mono (by simp))).trans (k2.mono (by omega))⟩
  all_goals first | (rw [c]; simp [go_sem]) | (rw [f]; simp [go_sem])

set_option maxHeartbeats 400000 in
theorem divide_yes (a b d : Int) (w : World) (ha0 : -9223372036854775808 ≤ a) (ha1 : a ≤ 9223372036854775807) (hb0 : -9223372036854775808 ≤ b) (hb1 : b ≤ 9223372036854775807) (hd0 : -9223372036854775808 ≤ d) (hd1 : d ≤ 9223372036854775807)
    (hlt : mag a * mag b / 18446744073709551616 < mag d) (hle : mag a * mag b / mag d ≤ 9223372036854775808) :
    Calls Try.prog 45 #[.int .i64 a, .int .i64 b, .int .i64 d] w fun e w' => e = .returned (.tuple #[.agg #[.int .u64 (mag a * mag b / mag d), .int .u64 (mag a * mag b % mag d), .int .u64 (mag d), .bool (neg3 a b d)], .bool true]) ∧ Below w.heap.size w w' := by
  obtain ⟨m0, m1⟩ := mag_bd a ha0 ha1
  obtain ⟨n0, n1⟩ := mag_bd b hb0 hb1
  obtain ⟨d0, d1⟩ := mag_bd d hd0 hd1
  obtain ⟨s0, s1⟩ := mags_bd a b ha0 ha1 hb0 hb1
  have g0 : 0 ≤ mag a * mag b / 18446744073709551616 := by omega
  have g2 : 0 ≤ mag a * mag b % 18446744073709551616 := by omega
  have g3 : mag a * mag b % 18446744073709551616 < 18446744073709551616 := by omega
  have c1 := Lib.hid (fun w => multiply_any (mag a) (mag b) w m0 (by omega) n0 (by omega))
  have e : mag a * mag b / 18446744073709551616 * 18446744073709551616 + mag a * mag b % 18446744073709551616 = mag a * mag b := by omega
  have c2 := Lib.hid (fun w => div64_any (mag a * mag b / 18446744073709551616) (mag a * mag b % 18446744073709551616) (mag d) w g0 hlt g2 g3 (by omega))
  rw [e] at c2
  clear e
  go_enter Try.func45, Try.ntmps45
  go_wp2_with (first | (go_at_call 51; refine (mag_any _ _ (by omega) (by omega)).mono ?_; rintro e w' ⟨rfl, rfl⟩))
  refine (c1.out _).mono ?_
  rintro e w1 ⟨rfl, k1⟩
  go_wp2_with (first | (go_at_call 51; refine (mag_any _ _ (by omega) (by omega)).mono ?_; rintro e w' ⟨rfl, rfl⟩))
  refine (c2.out _).mono ?_
  rintro e w2 ⟨rfl, k2⟩
  obtain ⟨⟨q0, q1, q2, q3⟩, ⟨f0, f1, f2, f3⟩, z, kb0⟩ := box4 k1 k2
  have kb := Lib.hid kb0
  clear k1 k2 kb0
  go_wp2
  refine bodyPost_ret (v := .tuple #[.agg #[.int .u64 (mag a * mag b / mag d), .int .u64 (mag a * mag b % mag d), .int .u64 (mag d), .bool (neg3 a b d)], .bool true]) (by simp [results, Try.results45, go_sem, q0, q1, q2, q3, neg3]) rfl ⟨rfl, ?_⟩
  exact ((((kb.out.setCell (Nat.le_refl _) _).setCell (Nat.le_refl _) _).setCell (Nat.le_refl _) _).setCell (Nat.le_refl _) _)

set_option maxHeartbeats 400000 in
/-- No quotient: the divisor is 0, or the quotient has more than a word. -/
theorem divide_no (a b d : Int) (w : World) (ha0 : -9223372036854775808 ≤ a) (ha1 : a ≤ 9223372036854775807) (hb0 : -9223372036854775808 ≤ b) (hb1 : b ≤ 9223372036854775807) (hd0 : -9223372036854775808 ≤ d) (hd1 : d ≤ 9223372036854775807)
    (hge : mag d ≤ mag a * mag b / 18446744073709551616) :
    Calls Try.prog 45 #[.int .i64 a, .int .i64 b, .int .i64 d] w fun e w' => e = .returned (.tuple #[.agg #[.int .u64 0, .int .u64 0, .int .u64 0, .bool false], .bool false]) ∧ Below w.heap.size w w' := by
  obtain ⟨m0, m1⟩ := mag_bd a ha0 ha1
  obtain ⟨n0, n1⟩ := mag_bd b hb0 hb1
  obtain ⟨d0, d1⟩ := mag_bd d hd0 hd1
  have c1 := Lib.hid (fun w => multiply_any (mag a) (mag b) w m0 (by omega) n0 (by omega))
  go_enter Try.func45, Try.ntmps45
  go_wp2_with (first | (go_at_call 51; refine (mag_any _ _ (by omega) (by omega)).mono ?_; rintro e w' ⟨rfl, rfl⟩))
  refine (c1.out _).mono ?_
  rintro e w1 ⟨rfl, k1⟩
  obtain ⟨⟨q0, q1, q2, q3⟩, ⟨f0, f1, f2, f3⟩, z, kb0⟩ := box4 k1 (Below.refl _ _)
  have kb := Lib.hid kb0
  clear k1 kb0
  go_wp2_with (first | (go_at_call 51; refine (mag_any _ _ (by omega) (by omega)).mono ?_; rintro e w' ⟨rfl, rfl⟩))
  refine bodyPost_ret (v := .tuple #[.agg #[.int .u64 0, .int .u64 0, .int .u64 0, .bool false], .bool false]) (by simp [results, Try.results45, go_sem, q0, q1, q2, q3]) rfl ⟨rfl, ?_⟩
  exact ((((kb.out.setCell (Nat.le_refl _) _).setCell (Nat.le_refl _) _).setCell (Nat.le_refl _) _).setCell (Nat.le_refl _) _)

set_option maxHeartbeats 400000 in
/-- No quotient: it is too great for any rounding. -/
theorem divide_great (a b d : Int) (w : World) (ha0 : -9223372036854775808 ≤ a) (ha1 : a ≤ 9223372036854775807) (hb0 : -9223372036854775808 ≤ b) (hb1 : b ≤ 9223372036854775807) (hd0 : -9223372036854775808 ≤ d) (hd1 : d ≤ 9223372036854775807)
    (hlt : mag a * mag b / 18446744073709551616 < mag d) (hgt : 9223372036854775808 < mag a * mag b / mag d) :
    Calls Try.prog 45 #[.int .i64 a, .int .i64 b, .int .i64 d] w fun e w' => e = .returned (.tuple #[.agg #[.int .u64 0, .int .u64 0, .int .u64 0, .bool false], .bool false]) ∧ Below w.heap.size w w' := by
  obtain ⟨m0, m1⟩ := mag_bd a ha0 ha1
  obtain ⟨n0, n1⟩ := mag_bd b hb0 hb1
  obtain ⟨d0, d1⟩ := mag_bd d hd0 hd1
  obtain ⟨s0, s1⟩ := mags_bd a b ha0 ha1 hb0 hb1
  have g0 : 0 ≤ mag a * mag b / 18446744073709551616 := by omega
  have g2 : 0 ≤ mag a * mag b % 18446744073709551616 := by omega
  have g3 : mag a * mag b % 18446744073709551616 < 18446744073709551616 := by omega
  have c1 := Lib.hid (fun w => multiply_any (mag a) (mag b) w m0 (by omega) n0 (by omega))
  have e : mag a * mag b / 18446744073709551616 * 18446744073709551616 + mag a * mag b % 18446744073709551616 = mag a * mag b := by omega
  have c2 := Lib.hid (fun w => div64_any (mag a * mag b / 18446744073709551616) (mag a * mag b % 18446744073709551616) (mag d) w g0 hlt g2 g3 (by omega))
  rw [e] at c2
  clear e
  go_enter Try.func45, Try.ntmps45
  go_wp2_with (first | (go_at_call 51; refine (mag_any _ _ (by omega) (by omega)).mono ?_; rintro e w' ⟨rfl, rfl⟩))
  refine (c1.out _).mono ?_
  rintro e w1 ⟨rfl, k1⟩
  go_wp2_with (first | (go_at_call 51; refine (mag_any _ _ (by omega) (by omega)).mono ?_; rintro e w' ⟨rfl, rfl⟩))
  refine (c2.out _).mono ?_
  rintro e w2 ⟨rfl, k2⟩
  obtain ⟨⟨q0, q1, q2, q3⟩, ⟨f0, f1, f2, f3⟩, z, kb0⟩ := box4 k1 k2
  have kb := Lib.hid kb0
  clear k1 k2 kb0
  go_wp2
  refine bodyPost_ret (v := .tuple #[.agg #[.int .u64 0, .int .u64 0, .int .u64 0, .bool false], .bool false]) (by simp [results, Try.results45, go_sem, q0, q1, q2, q3]) rfl ⟨rfl, ?_⟩
  exact ((((kb.out.setCell (Nat.le_refl _) _).setCell (Nat.le_refl _) _).setCell (Nat.le_refl _) _).setCell (Nat.le_refl _) _)
end Go.Proofs.Ytiminclbkmkgnaa
