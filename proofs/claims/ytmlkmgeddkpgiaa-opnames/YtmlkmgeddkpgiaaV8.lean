/- Walks of tympanlaw15: known. -/
import Derived.Test.YtmlkmgeddkpgiaaV7
namespace Go.Proofs.Ytmlkmgeddkpgiaa
open Go.RowKit
set_option linter.unusedVariables false

theorem byName_add : byName ⟨#[97, 100, 100]⟩ = (11, 1, ⟨#[97, 100, 100]⟩) := by kernel_rfl
theorem byNum_1 : byNum 1 = (1, 1, ⟨#[112, 111, 112]⟩) := by kernel_rfl
theorem byNum_11 : byNum 11 = (11, 1, ⟨#[97, 100, 100]⟩) := by kernel_rfl
set_option maxHeartbeats 1000000 in
set_option maxRecDepth 100000 in
theorem opKnown (w : World) : Calls Try.prog 56 #[] w fun e w' => e = .returned (.bool true) ∧ Below w.heap.size w w' := by
  go_enter Try.func56, Try.ntmps56
  go_wp2_with fail
  refine (number_core _ w (Lib.hid byName_add)).mono ?_
  rintro e w1 ⟨rfl, k1⟩
  go_wp2_with fail
  refine (name_core 1 w1 (Lib.hid byNum_1)).mono ?_
  rintro e w2 ⟨rfl, k2⟩
  go_wp2_with fail
  refine (family_core 11 w2 (Lib.hid byNum_11)).mono ?_
  rintro e w3 ⟨rfl, k3⟩
  go_wp2
  go_ret
  exact ⟨rfl, below_and (below_and k1 k2) k3⟩
end Go.Proofs.Ytmlkmgeddkpgiaa
