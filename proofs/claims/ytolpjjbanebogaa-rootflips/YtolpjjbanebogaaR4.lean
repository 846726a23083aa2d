/- The statements' function known answers true. -/
import Derived.Test.YtolpjjbanebogaaR3
namespace Go.Proofs.Ytolpjjbanebogaa
open Go.RowKit
set_option linter.unusedVariables false

set_option maxHeartbeats 400000 in
theorem known_any (w : World) : Calls Try.prog 8 #[] w fun e w' => e = .returned (.bool true) ∧ Below w.heap.size w w' := by
  have hS := fun w => signR_any (-3) 2 2 w
  rw [show valS (-3) 2 2 = -1 by decide +kernel, show okS (-3) 2 2 = true by decide +kernel] at hS
  have hC := fun w => cutR_any 0 (-1) 2 1 w (by decide) (by decide)
  rw [show valC 0 (-1) 2 1 = -2 by decide +kernel, show okC 0 (-1) 2 1 = true by decide +kernel] at hC
  have hF := fun w => floorR_any 8 w (by decide) (by decide)
  rw [show isq 8 = 2 by decide +kernel] at hF
  have hG := fun w => ceilR_any 8 w (by decide) (by decide)
  rw [show csq 8 = 3 by decide +kernel] at hG
  have HS := Lib.hid hS
  have HC := Lib.hid hC
  have HF := Lib.hid hF
  have HG := Lib.hid hG
  clear hS hC hF hG
  go_enter Try.func8, Try.ntmps8
  go_wp2_with fail
  refine (HS.out _).mono ?_
  rintro e w1 ⟨rfl, k1⟩
  go_wp2_with fail
  refine (HC.out _).mono ?_
  rintro e w2 ⟨rfl, k2⟩
  go_wp2_with fail
  refine (HF.out _).mono ?_
  rintro e w3 ⟨rfl, k3⟩
  go_wp2_with fail
  refine (HG.out _).mono ?_
  rintro e w4 ⟨rfl, k4⟩
  go_wp2
  go_ret
  have z1 := k1.size; have z2 := k2.size; have z3 := k3.size
  exact ⟨rfl, ((k1.trans (k2.mono (by omega))).trans (k3.mono (by omega))).trans (k4.mono (by omega))⟩
end Go.Proofs.Ytolpjjbanebogaa
