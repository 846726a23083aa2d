/- The statements' functions known and may. -/
import Derived.Test.YtagdagojfmafpaaF2
import Derived.Test.YtagdagojfmafpaaH1
namespace Go.Proofs.Ytagdagojfmafpaa
open Go.RowKit
set_option linter.unusedVariables false

set_option maxHeartbeats 400000 in
theorem known_any (w : World) : Calls Try.prog 8 #[] w fun e w' => e = .returned (.bool true) ∧ Below w.heap.size w w' := by
  have hS := fun w => from_any 2 w
  rw [show gate (mayF (2 * 65536)) (2 * 65536) = 131072 by decide +kernel, show mayF (2 * 65536) = true by decide +kernel] at hS
  have hC := fun w => mulF_any 3 32768 w (by decide) (by decide) (by decide) (by decide)
  rw [show gate (okMul 3 32768) (near (3 * 32768) 65536) = 2 by decide +kernel, show okMul 3 32768 = true by decide +kernel] at hC
  have hF := fun w => floorF_any (-1) w
  rw [show floorF (-1) = -65536 by decide +kernel] at hF
  have hG := fun w => roundF_any 98304 w
  rw [show roundF 98304 = 131072 by decide +kernel] at hG
  have HS := Lib.hid hS
  have HC := Lib.hid hC
  have HF := Lib.hid hF
  have HG := Lib.hid hG
  clear hS hC hF hG
  go_enter Try.func8, Try.ntmps8
  go_wp2_with fail
  refine (HS.out _).mono ?_
  rintro e w' ⟨rfl, rfl⟩
  go_wp2_with fail
  refine (HC.out _).mono ?_
  rintro e w2 ⟨rfl, k2⟩
  go_wp2_with fail
  refine (HF.out _).mono ?_
  rintro e w3 ⟨rfl, k3⟩
  go_wp2_with fail
  refine (HG.out _).mono ?_
  rintro e w4 ⟨rfl, k4⟩
  go_wp2
  go_ret
  have z2 := k2.size; have z3 := k3.size
  exact ⟨rfl, (k2.trans (k3.mono (by omega))).trans (k4.mono (by omega))⟩

/-- Any number as a valid fix. -/
def asF (v : Int) : Int := v % 2147483647 - 1073741823
theorem asF_bd (v : Int) : -1073741823 ≤ asF v ∧ asF v ≤ 1073741823 := by unfold asF; omega

set_option maxHeartbeats 400000 in
theorem asF_any (v : Int) (w : World) : Calls Try.prog 31 #[.int .i64 v] w fun e w' => e = .returned (.int .i64 (asF v)) ∧ w = w' := by
  have h := Lib.hid (fun w => place_any v 2147483647 w (by decide) (by decide))
  have E := Lib.hid (show v % 2147483647 - 1073741823 = asF v from rfl)
  have b0 : 0 ≤ v % 2147483647 := by omega
  have b1 : v % 2147483647 < 2147483647 := by omega
  generalize v % 2147483647 = r at *
  go_enter Try.func31, Try.ntmps31
  go_wp2_with fail
  refine (h.out _).mono ?_
  rintro e w' ⟨rfl, rfl⟩
  go_wp2
  go_ret
  exact ⟨ret_int E.out, rfl⟩
end Go.Proofs.Ytagdagojfmafpaa
