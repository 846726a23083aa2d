/- The statements' function known. -/
import Derived.Test.YtiminclbkmkgnaaT8
namespace Go.Proofs.Ytiminclbkmkgnaa
open Go.RowKit
set_option linter.unusedVariables false

set_option maxHeartbeats 400000 in
theorem known_any (w : World) : Calls Try.prog 8 #[] w fun e w' => e = .returned (.bool true) ∧ Below w.heap.size w w' := by
  have hD := fun w => dir_any 1 0 w
  rw [show gate (okDir 1 0) (dirP 1 0) = 5898240 by decide +kernel, show okDir 1 0 = true by decide +kernel] at hD
  have hE := fun w => dir_any 0 (-1) w
  rw [show gate (okDir 0 (-1)) (dirP 0 (-1)) = 11796480 by decide +kernel, show okDir 0 (-1) = true by decide +kernel] at hE
  have hS := fun w => sin_any 1966080 w
  rw [show sinP 1966080 = 32768 by decide +kernel] at hS
  have HD := Lib.hid hD
  have HE := Lib.hid hE
  have HS := Lib.hid hS
  clear hD hE hS
  go_enter Try.func8, Try.ntmps8
  go_wp2_with fail
  refine (HD.out _).mono ?_
  rintro e w2 ⟨rfl, k2⟩
  go_wp2_with fail
  refine (HE.out _).mono ?_
  rintro e w3 ⟨rfl, k3⟩
  go_wp2_with fail
  refine (HS.out _).mono ?_
  rintro e w4 ⟨rfl, k4⟩
  go_wp2
  go_ret
  have z2 := k2.size; have z3 := k3.size
  exact ⟨rfl, (k2.trans (k3.mono (by omega))).trans (k4.mono (by omega))⟩
end Go.Proofs.Ytiminclbkmkgnaa
