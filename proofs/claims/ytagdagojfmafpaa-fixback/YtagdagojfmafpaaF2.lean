/- Walks of fix: Whole, Floor, Ceil, Round, Trunc, Sqrt. -/
import Derived.Test.YtagdagojfmafpaaF1
namespace Go.Proofs.Ytagdagojfmafpaa
open Go.RowKit
set_option linter.unusedVariables false

set_option maxHeartbeats 400000 in
theorem wholeF_any (a : Int) (w : World) : Calls Try.prog 29 #[.int .i64 a] w fun e w' => e = .returned (.int .i64 (wholeF a)) ∧ Below w.heap.size w w' := by
  obtain ⟨b0, b1⟩ := clamp_bd a
  have h1 := Lib.hid (fun w => clamp_any a w)
  have h2 := Lib.hid (fun w => floor_any (clampF a) 1 65536 w (by omega) (by omega) (by decide) (by decide) (by decide) (by decide))
  rw [whole_val] at h2
  generalize okOf 65536 (sdiv (clampF a * 1) 65536) = t at *
  generalize clampF a = c at *
  go_enter Try.func29, Try.ntmps29
  go_wp2_with fail
  refine (h1.out _).mono ?_
  rintro e w' ⟨rfl, rfl⟩
  go_wp2_with fail
  refine (h2.out _).mono ?_
  rintro e w1 ⟨rfl, k1⟩
  go_wp2
  go_ret
  exact ⟨rfl, k1⟩

set_option maxHeartbeats 400000 in
theorem floorF_any (a : Int) (w : World) : Calls Try.prog 21 #[.int .i64 a] w fun e w' => e = .returned (.int .i64 (floorF a)) ∧ Below w.heap.size w w' := by
  obtain ⟨b0, b1⟩ := whole_bd a
  have h1 := Lib.hid (fun w => wholeF_any a w)
  have E := Lib.hid (show wholeF a * 65536 = floorF a from rfl)
  generalize wholeF a = c at *
  go_enter Try.func21, Try.ntmps21
  go_wp2_with fail
  refine (h1.out _).mono ?_
  rintro e w1 ⟨rfl, k1⟩
  go_wp2
  go_ret
  exact ⟨ret_int E.out, k1⟩

theorem floor_neg (a : Int) : floorF (-clampF a) = -clampF a / 65536 * 65536 := by unfold floorF; rw [clamp_neg]

set_option maxHeartbeats 400000 in
theorem ceilF_any (a : Int) (w : World) : Calls Try.prog 23 #[.int .i64 a] w fun e w' => e = .returned (.int .i64 (ceilF a)) ∧ Below w.heap.size w w' := by
  obtain ⟨b0, b1⟩ := clamp_bd a
  have h1 := Lib.hid (fun w => clamp_any a w)
  have h2 := Lib.hid (fun w => floorF_any (-clampF a) w)
  obtain ⟨f, hf⟩ : ∃ f, floorF (-clampF a) = f := ⟨_, rfl⟩
  rw [hf] at h2
  rw [floor_neg] at hf
  have f0 : -1073741824 ≤ f := by omega
  have f1 : f ≤ 1073741824 := by omega
  have E := Lib.hid (show -f = ceilF a by rw [← hf]; rfl)
  clear hf
  generalize clampF a = c at *
  go_enter Try.func23, Try.ntmps23
  go_wp2_with fail
  refine (h1.out _).mono ?_
  rintro e w' ⟨rfl, rfl⟩
  go_wp2_with fail
  refine (h2.out _).mono ?_
  rintro e w1 ⟨rfl, k1⟩
  go_wp2
  go_ret
  exact ⟨ret_int E.out, k1⟩

set_option maxHeartbeats 400000 in
theorem roundF_any (a : Int) (w : World) : Calls Try.prog 25 #[.int .i64 a] w fun e w' => e = .returned (.int .i64 (roundF a)) ∧ Below w.heap.size w w' := by
  obtain ⟨b0, b1⟩ := clamp_bd a
  obtain ⟨r0, r1⟩ := round_bd a
  have h1 := Lib.hid (fun w => clamp_any a w)
  have h2 := Lib.hid (fun w => muldiv_any (clampF a) 1 65536 w (by omega) (by omega) (by decide) (by decide) (by decide) (by decide))
  rw [round_val] at h2
  have E := Lib.hid (show near (clampF a) 65536 * 65536 = roundF a from rfl)
  generalize okOf 65536 (near (clampF a * 1) 65536) = t at *
  generalize near (clampF a) 65536 = r at *
  generalize clampF a = c at *
  go_enter Try.func25, Try.ntmps25
  go_wp2_with fail
  refine (h1.out _).mono ?_
  rintro e w' ⟨rfl, rfl⟩
  go_wp2_with fail
  refine (h2.out _).mono ?_
  rintro e w1 ⟨rfl, k1⟩
  go_wp2
  go_ret
  exact ⟨ret_int E.out, k1⟩

set_option maxHeartbeats 400000 in
theorem truncF_any (a : Int) (w : World) : Calls Try.prog 27 #[.int .i64 a] w fun e w' => e = .returned (.int .i64 (truncF a)) ∧ w = w' := by
  obtain ⟨b0, b1⟩ := clamp_bd a
  obtain ⟨r0, r1⟩ := trunc_bd a
  have h1 := Lib.hid (fun w => clamp_any a w)
  have E := Lib.hid (show (clampF a).tdiv 65536 * 65536 = truncF a from rfl)
  obtain ⟨r, hr⟩ : ∃ r, (clampF a).tdiv 65536 = r := ⟨_, rfl⟩
  rw [hr] at r0 r1 E
  generalize clampF a = c at *
  go_enter Try.func27, Try.ntmps27
  go_wp2_with fail
  refine (h1.out _).mono ?_
  rintro e w' ⟨rfl, rfl⟩
  go_wp2
  go_ret
  exact ⟨ret_int E.out, rfl⟩

set_option maxHeartbeats 400000 in
theorem sqrtF_any (a : Int) (w : World) : Calls Try.prog 19 #[.int .i64 a] w fun e w' => e = .returned (.tuple #[.int .i64 (gate (okSqrt a) (isq (a * 65536))), .bool (okSqrt a)]) ∧ Below w.heap.size w w' := by
  by_cases h : 0 ≤ a
  · have E : okSqrt a = mayF a := by unfold okSqrt; rw [decide_eq_true h, Bool.true_and]
    rw [E]
    clear E
    have hv := Lib.hid (fun w => validF_any a w)
    have hm := may_iff a
    generalize mayF a = x at *
    cases x
    · clear hm
      go_enter Try.func19, Try.ntmps19
      go_wp2_with fail
      refine (hv.out _).mono ?_
      rintro e w' ⟨rfl, rfl⟩
      go_wp2
      go_ret2
      exact ⟨ret_ok rfl rfl, Below.refl _ _⟩
    · obtain ⟨a0, a1⟩ := hm.1 rfl
      clear hm
      obtain ⟨r0, r1⟩ := sqrt_bd a h a1
      have hf := Lib.hid (fun w => floorR_any (a * 65536) w (by omega) (by omega))
      generalize isq (a * 65536) = r at *
      go_enter Try.func19, Try.ntmps19
      go_wp2_with fail
      refine (hv.out _).mono ?_
      rintro e w' ⟨rfl, rfl⟩
      go_wp2_with fail
      refine (hf.out _).mono ?_
      rintro e w1 ⟨rfl, k1⟩
      go_wp2
      go_ret2
      exact ⟨ret_ok rfl rfl, k1⟩
  · have E : okSqrt a = false := by unfold okSqrt; rw [decide_eq_false h]; rfl
    rw [E]
    clear E
    go_enter Try.func19, Try.ntmps19
    go_wp2
    go_ret2
    exact ⟨ret_ok rfl rfl, Below.refl _ _⟩
end Go.Proofs.Ytagdagojfmafpaa
