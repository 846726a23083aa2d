/- tympanlaw2.RootSquares returns true for every unsigned 64-bit integer, and its argument reads afterwards as before; no condition. -/
import Derived.Test.YtolpjjbanebogaaRows
import Derived.WalkKit
import Derived.ProofKit
import Derived.OpenShut
import Derived.ShutString
import Derived.ChangeOld
import Derived.Below
import Derived.Test.YtolpjjbanebogaaR4
namespace Go.Proofs.Ytolpjjbanebogaa.rootSquares
open Go.ChangeShapes Go.WideShapes Go.ChangeAt Go.RowKit
open Go.ChangeMaps (open_string shut_string)
set_option linter.unusedVariables false      -- a walk need not use every 'w<i>' (that an integer argument fits its kind)

theorem own : ownKnob Try.prog.godebug = none := by kernel_rfl

theorem walk (a0 : Int) (w0 : (Lit.int .u64 a0).wf = true) (w : World) :
    Calls Try.prog 4 #[.int .u64 a0] w fun e w' => e = .returned (.bool true) ∧ Below w.heap.size w w' := by
  obtain ⟨n0, n1⟩ := bounds_u64 w0
  have hK := Lib.hid known_any
  have hF := Lib.hid (fun w => floorR_any a0 w (by omega) (by omega))
  have hC := Lib.hid (fun w => ceilR_any a0 w (by omega) (by omega))
  obtain ⟨r0, r1, r2⟩ := isq_root a0 (by omega) (by omega)
  obtain ⟨b0, b1, b2, b3⟩ := isq_bd a0 (by omega) (by omega)
  have hs : csq a0 = if isq a0 * isq a0 < a0 then isq a0 + 1 else isq a0 := rfl
  have f1 : isq a0 ≤ 4294967295 := by omega
  have f2 : isq a0 < 4294967295 → (isq a0 + 1) * (isq a0 + 1) < 18446744073709551616 := fun h => (sq32 (isq a0 + 1) (by omega) (by omega)).2
  have f3 : 0 ≤ (isq a0 + 1) * (isq a0 + 1) := sq_nonneg _
  generalize isq a0 = r at *
  by_cases hl : r * r < a0
  · rw [if_pos hl] at hs
    rw [hs] at hC
    have t : (r * r == a0) = false := by simp; omega
    clear hs
    by_cases hm : r < 4294967295
    · have f2 := f2 hm
      go_enter Try.func4, Try.ntmps4
      go_wp2_with fail
      refine (hK.out _).mono ?_
      rintro e w1 ⟨rfl, k1⟩
      go_wp2_with fail
      refine (hF.out _).mono ?_
      rintro e w2 ⟨rfl, k2⟩
      go_wp2_with fail
      refine (hC.out _).mono ?_
      rintro e w3 ⟨rfl, k3⟩
      go_wp2
      go_ret
      have z1 := k1.size; have z2 := k2.size
      exact ⟨rfl, (k1.trans (k2.mono (by omega))).trans (k3.mono (by omega))⟩
    · clear f2 f3 r2
      go_enter Try.func4, Try.ntmps4
      go_wp2_with fail
      refine (hK.out _).mono ?_
      rintro e w1 ⟨rfl, k1⟩
      go_wp2_with fail
      refine (hF.out _).mono ?_
      rintro e w2 ⟨rfl, k2⟩
      go_wp2_with fail
      refine (hC.out _).mono ?_
      rintro e w3 ⟨rfl, k3⟩
      go_wp2
      go_ret
      have z1 := k1.size; have z2 := k2.size
      exact ⟨rfl, (k1.trans (k2.mono (by omega))).trans (k3.mono (by omega))⟩
  · rw [if_neg hl] at hs
    rw [hs] at hC
    have t : (r * r == a0) = true := by simp; omega
    clear hs
    by_cases hm : r < 4294967295
    · have f2 := f2 hm
      go_enter Try.func4, Try.ntmps4
      go_wp2_with fail
      refine (hK.out _).mono ?_
      rintro e w1 ⟨rfl, k1⟩
      go_wp2_with fail
      refine (hF.out _).mono ?_
      rintro e w2 ⟨rfl, k2⟩
      go_wp2_with fail
      refine (hC.out _).mono ?_
      rintro e w3 ⟨rfl, k3⟩
      go_wp2
      go_ret
      have z1 := k1.size; have z2 := k2.size
      exact ⟨rfl, (k1.trans (k2.mono (by omega))).trans (k3.mono (by omega))⟩
    · clear f2 f3 r2
      go_enter Try.func4, Try.ntmps4
      go_wp2_with fail
      refine (hK.out _).mono ?_
      rintro e w1 ⟨rfl, k1⟩
      go_wp2_with fail
      refine (hF.out _).mono ?_
      rintro e w2 ⟨rfl, k2⟩
      go_wp2_with fail
      refine (hC.out _).mono ?_
      rintro e w3 ⟨rfl, k3⟩
      go_wp2
      go_ret
      have z1 := k1.size; have z2 := k2.size
      exact ⟨rfl, (k1.trans (k2.mono (by omega))).trans (k3.mono (by omega))⟩

set_option maxRecDepth 100000 in
theorem lifted (os : Os) (started : os.Started) (H : Type) (enc : TypeId × Value → H) :
    ReturnsInHanded {} Try.checked os 4 .any (Rows.rootSquaresSpec.pre6 enc Try.prog Try.f4 Rows.rootSquaresRow.domain false) (Rows.rootSquaresSpec.post enc Try.prog Try.f4 false true false false) := by
  refine returnsInHanded_of_change (C := Try.checked) own started (by kernel_rfl) Try.func4
    (ChangeSpec.witness6 (enc := enc) (C := Try.checked) false ⟨#[], #[.int .u64 0], []⟩ 8 (by kernel_rfl) (by kernel_rfl) (by kernel_rfl) (by kernel_rfl)) ?_
  intro W base args ds gs before hval0 hW hcnd _
  have hval : ∀ (j : Nat) t v, Try.f4.params[j]? = some t → args[j]? = some v → Value.okWide Try.prog W .any base t v := hval0
  have hW' := hW
  obtain ⟨p, q, hA0, hV, rfl, hfz, hnd⟩ := hW
  have hA : DataW.TrodAll enc Try.prog W 0 (fun _ => true) true Try.f4.params.toList args.toList ds p := hA0
  rw [Try.params4] at hA hval
  obtain ⟨v0, vs0, d0, ds0, p0, q0, hargs, rfl, rfl, h0, r0⟩ := trodAll_cons hA
  obtain ⟨rfl, rfl, rfl⟩ := trodAll_nil r0
  obtain rfl : args = #[v0] := by cases args; simp_all
  obtain ⟨rfl, rfl⟩ := trodVars_none hV
  obtain ⟨a0, rfl, rfl, rfl, w0⟩ := open_int Try.underlying22 (hval 0 22 v0 rfl rfl) h0
  clear hA0 hval0
  simp only [List.append_nil] at hW'
  refine (walk a0 w0 W).mono fun e W' ⟨he, bel⟩ => ?_
  subst he
  exact ⟨_, rfl, _, _, _, [], _, [], hW', trodAll_mk1 (shut_bool Try.underlying4 _), (trodAll_cons_mk (shut_int Try.underlying22 w0) trodAll_mk0), rfl, bel.frame _, fun h => by cases h⟩

theorem over : Rows.rootSquaresRow.holds Try.pinned (OpenSpec.ofChange Rows.rootSquaresSpec) :=
  OpenClaim.holds_of_wide 4 Try.f4 rfl rfl rfl rfl rfl rfl rfl ⟨rfl, rfl, rfl, rfl, rfl⟩ rfl rfl rfl rfl rfl (by kernel_rfl) Try.func4 (by kernel_rfl)
    (of_decide_eq_true (by kernel_rfl)) (by unfold Func.isWrapper; first | (rw [if_pos (by decide +kernel)]; kernel_rfl) | (rw [if_neg (by decide +kernel)]; exact ⟨rfl, rfl⟩))
    (fun os started H enc _ => lifted os started H enc)

theorem proved : Rows.RootSquaresSaid :=
  over
#print axioms proved
end Go.Proofs.Ytolpjjbanebogaa.rootSquares
