/- Walks of turn: reduced, firstHalf, Sin, Cos. -/
import Derived.Test.YtiminclbkmkgnaaT1
import Derived.Test.YtiminclbkmkgnaaH1
namespace Go.Proofs.Ytiminclbkmkgnaa
open Go.RowKit
set_option linter.unusedVariables false

set_option maxHeartbeats 400000 in
theorem reduced_any (v : Int) (w : World) : Calls Try.prog 20 #[.int .i64 v] w fun e w' => e = .returned (.int .i64 (v % 23592960)) ∧ w = w' := by
  have h0 := Int.emod_nonneg v (by decide : (23592960 : Int) ≠ 0)
  have h1 := Int.emod_lt_of_pos v (by decide : (0 : Int) < 23592960)
  obtain ⟨t, ht⟩ : ∃ t, v.tmod 23592960 = t := ⟨_, rfl⟩
  have hc := tmod_cases v 23592960 (by decide)
  rw [ht] at hc
  generalize v % 23592960 = r at *
  rcases hc with ⟨h, e⟩ | ⟨h, e⟩
  · have E := Lib.hid e
    have b : -23592960 ≤ t := by omega
    clear e
    go_enter Try.func20, Try.ntmps20
    go_wp2
    go_ret
    exact ⟨ret_int E.out, rfl⟩
  · have E := Lib.hid e
    clear e
    go_enter Try.func20, Try.ntmps20
    go_wp2
    go_ret
    exact ⟨ret_int E.out, rfl⟩

set_option maxHeartbeats 400000 in
theorem half_any (d : Int) (w : World) (h0 : 0 ≤ d) (h1 : d ≤ 11796480) : Calls Try.prog 26 #[.int .i64 d] w fun e w' => e = .returned (.int .i64 (sinH d)) ∧ Below w.heap.size w w' := by
  have c := Lib.hid (fun w => first_any (min d (11796480 - d)) w (by omega) (by omega))
  unfold sinH
  generalize hm : min d (11796480 - d) = m at *
  generalize sinQ m = s at *
  go_enter Try.func26, Try.ntmps26
  go_wp2_with fail
  refine (c.out _).mono ?_
  rintro e w1 ⟨rfl, k1⟩
  go_wp2
  go_ret
  exact ⟨rfl, k1⟩

theorem sinH_in (d : Int) (h0 : 0 ≤ d) (h1 : d ≤ 11796480) : 0 ≤ sinH d ∧ sinH d ≤ 65536 := sinQ_in _ (by omega) (by omega)

set_option maxHeartbeats 400000 in
theorem sin_any (deg : Int) (w : World) : Calls Try.prog 11 #[.int .i64 deg] w fun e w' => e = .returned (.int .i64 (sinP deg)) ∧ Below w.heap.size w w' := by
  have h0 := Int.emod_nonneg deg (by decide : (23592960 : Int) ≠ 0)
  have h1 := Int.emod_lt_of_pos deg (by decide : (0 : Int) < 23592960)
  have c1 := Lib.hid (fun w => reduced_any deg w)
  unfold sinP
  generalize deg % 23592960 = d at *
  by_cases h : 11796480 < d
  · rw [if_pos h]
    have c2 := Lib.hid (fun w => half_any (d - 11796480) w (by omega) (by omega))
    have b := sinH_in (d - 11796480) (by omega) (by omega)
    generalize sinH (d - 11796480) = s at *
    go_enter Try.func11, Try.ntmps11
    go_wp2_with fail
    refine (c1.out _).mono ?_
    rintro e w' ⟨rfl, rfl⟩
    go_wp2_with fail
    refine (c2.out _).mono ?_
    rintro e w1 ⟨rfl, k1⟩
    go_wp2
    go_ret
    exact ⟨rfl, k1⟩
  · rw [if_neg h]
    have c2 := Lib.hid (fun w => half_any d w (by omega) (by omega))
    generalize sinH d = s at *
    go_enter Try.func11, Try.ntmps11
    go_wp2_with fail
    refine (c1.out _).mono ?_
    rintro e w' ⟨rfl, rfl⟩
    go_wp2_with fail
    refine (c2.out _).mono ?_
    rintro e w1 ⟨rfl, k1⟩
    go_wp2
    go_ret
    exact ⟨rfl, k1⟩

set_option maxHeartbeats 400000 in
theorem cos_any (deg : Int) (w : World) : Calls Try.prog 13 #[.int .i64 deg] w fun e w' => e = .returned (.int .i64 (cosP deg)) ∧ Below w.heap.size w w' := by
  have h0 := Int.emod_nonneg deg (by decide : (23592960 : Int) ≠ 0)
  have h1 := Int.emod_lt_of_pos deg (by decide : (0 : Int) < 23592960)
  have c1 := Lib.hid (fun w => reduced_any deg w)
  unfold cosP
  generalize deg % 23592960 = d at *
  have c2 := Lib.hid (fun w => sin_any (d + 5898240) w)
  generalize sinP (d + 5898240) = s at *
  go_enter Try.func13, Try.ntmps13
  go_wp2_with fail
  refine (c1.out _).mono ?_
  rintro e w' ⟨rfl, rfl⟩
  go_wp2_with fail
  refine (c2.out _).mono ?_
  rintro e w1 ⟨rfl, k1⟩
  go_wp2
  go_ret
  exact ⟨rfl, k1⟩
end Go.Proofs.Ytiminclbkmkgnaa
