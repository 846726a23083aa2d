/- Walks of fix: Whole, Floor, Ceil, Round, Trunc, Sqrt. -/
import Derived.Test.YtiminclbkmkgnaaF1
namespace Go.Proofs.Ytiminclbkmkgnaa
open Go.RowKit
set_option linter.unusedVariables false

set_option maxHeartbeats 400000 in
theorem wholeF_any (a : Int) (w : World) : Calls Try.prog 35 #[.int .i64 a] w fun e w' => e = .returned (.int .i64 (wholeF a)) ∧ Below w.heap.size w w' := by
  obtain ⟨b0, b1⟩ := clamp_bd a
  have h1 := Lib.hid (fun w => clamp_any a w)
  have h2 := Lib.hid (fun w => floor_any (clampF a) 1 65536 w (by omega) (by omega) (by decide) (by decide) (by decide) (by decide))
  rw [whole_val] at h2
  generalize okOf 65536 (sdiv (clampF a * 1) 65536) = t at *
  generalize clampF a = c at *
  go_enter Try.func35, Try.ntmps35
  go_wp2_with fail
  refine (h1.out _).mono ?_
  rintro e w' ⟨rfl, rfl⟩
  go_wp2_with fail
  refine (h2.out _).mono ?_
  rintro e w1 ⟨rfl, k1⟩
  go_wp2
  go_ret
  exact ⟨rfl, k1⟩

theorem floor_neg (a : Int) : floorF (-clampF a) = -clampF a / 65536 * 65536 := by unfold floorF; rw [clamp_neg]

end Go.Proofs.Ytiminclbkmkgnaa
