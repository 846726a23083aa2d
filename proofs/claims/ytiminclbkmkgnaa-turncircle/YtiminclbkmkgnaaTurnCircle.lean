/- tympanlaw4.TurnCircle returns true for every integer, and its argument reads afterwards as before; no condition. -/
import Derived.Test.YtiminclbkmkgnaaRows
import Derived.WalkKit
import Derived.ProofKit
import Derived.OpenShut
import Derived.ShutString
import Derived.ChangeOld
import Derived.Below
import Derived.Test.YtiminclbkmkgnaaM8
import Derived.Test.YtiminclbkmkgnaaT9
namespace Go.Proofs.Ytiminclbkmkgnaa.turnCircle
open Go.ChangeShapes Go.WideShapes Go.ChangeAt Go.RowKit
open Go.ChangeMaps (open_string shut_string)
set_option linter.unusedVariables false      -- a walk need not use every 'w<i>' (that an integer argument fits its kind)

theorem own : ownKnob Try.prog.godebug = none := by kernel_rfl

set_option maxHeartbeats 1000000 in
theorem core (deg s c p q : Int) (w : World) (s0 : -65536 ≤ s) (s1 : s ≤ 65536) (c0 : -65536 ≤ c) (c1 : c ≤ 65536) (ep : s * s = p) (eq : c * c = q) (p0 : 0 ≤ p) (p1 : p ≤ 4294967296) (q0 : 0 ≤ q) (q1 : q ≤ 4294967296)
    (l0 : -1048576 < p + q - 4294967296) (l1 : p + q - 4294967296 < 1048576)
    (hk : Hid (∀ w, Calls Try.prog 8 #[] w fun e w' => e = .returned (.bool true) ∧ Below w.heap.size w w'))
    (h1 : Hid (∀ w, Calls Try.prog 11 #[.int .i64 deg] w fun e w' => e = .returned (.int .i64 s) ∧ Below w.heap.size w w'))
    (h2 : Hid (∀ w, Calls Try.prog 13 #[.int .i64 deg] w fun e w' => e = .returned (.int .i64 c) ∧ Below w.heap.size w w')) :
    Calls Try.prog 6 #[.int .i64 deg] w fun e w' => e = .returned (.bool true) ∧ Below w.heap.size w w' := by
  go_enter Try.func6, Try.ntmps6
  go_wp2_with fail
  refine (hk.out _).mono ?_
  rintro e w1 ⟨rfl, k1⟩
  go_wp2_with fail
  refine (h1.out _).mono ?_
  rintro e w2 ⟨rfl, k2⟩
  go_wp2_with fail
  refine (h2.out _).mono ?_
  rintro e w3 ⟨rfl, k3⟩
  go_wp2
  go_ret
  have z1 := k1.size; have z2 := k2.size
  exact ⟨rfl, (k1.trans (k2.mono (by omega))).trans (k3.mono (by omega))⟩

theorem sq_bd (s : Int) (h : -65536 ≤ s ∧ s ≤ 65536) : 0 ≤ s * s ∧ s * s ≤ 4294967296 := by
  rcases Int.le_total 0 s with h0 | h0
  · exact ⟨Int.mul_nonneg h0 h0, Int.mul_le_mul h.2 h.2 h0 (by decide)⟩
  · have a := Int.mul_nonneg (by omega : 0 ≤ -s) (by omega : 0 ≤ -s)
    have b := Int.mul_le_mul (by omega : -s ≤ 65536) (by omega : -s ≤ 65536) (by omega) (by decide : (0 : Int) ≤ 65536)
    rw [Int.neg_mul_neg] at a b
    exact ⟨a, b⟩

theorem walk (a0 : Int) (w0 : (Lit.int .i64 a0).wf = true) (w : World) :
    Calls Try.prog 6 #[.int .i64 a0] w fun e w' => e = .returned (.bool true) ∧ Below w.heap.size w w' := by
  have bs := sinP_in a0
  have bc := cosP_in a0
  have b1 := sq_bd _ bs
  have b2 := sq_bd _ bc
  have h := circ_any a0
  exact core a0 _ _ _ _ w bs.1 bs.2 bc.1 bc.2 rfl rfl b1.1 b1.2 b2.1 b2.2 h.1 h.2 (Lib.hid (fun w => known_any w)) (Lib.hid (fun w => sin_any a0 w)) (Lib.hid (fun w => cos_any a0 w))

set_option maxRecDepth 100000 in
theorem lifted (os : Os) (started : os.Started) (H : Type) (enc : TypeId × Value → H) :
    ReturnsInHanded {} Try.checked os 6 .any (Rows.turnCircleSpec.pre6 enc Try.prog Try.f6 Rows.turnCircleRow.domain false) (Rows.turnCircleSpec.post enc Try.prog Try.f6 false true false false) := by
  refine returnsInHanded_of_change (C := Try.checked) own started (by kernel_rfl) Try.func6
    (ChangeSpec.witness6 (enc := enc) (C := Try.checked) false ⟨#[], #[.int .i64 0], []⟩ 8 (by kernel_rfl) (by kernel_rfl) (by kernel_rfl) (by kernel_rfl)) ?_
  intro W base args ds gs before hval0 hW hcnd _
  have hval : ∀ (j : Nat) t v, Try.f6.params[j]? = some t → args[j]? = some v → Value.okWide Try.prog W .any base t v := hval0
  have hW' := hW
  obtain ⟨p, q, hA0, hV, rfl, hfz, hnd⟩ := hW
  have hA : DataW.TrodAll enc Try.prog W 0 (fun _ => true) true Try.f6.params.toList args.toList ds p := hA0
  rw [Try.params6] at hA hval
  obtain ⟨v0, vs0, d0, ds0, p0, q0, hargs, rfl, rfl, h0, r0⟩ := trodAll_cons hA
  obtain ⟨rfl, rfl, rfl⟩ := trodAll_nil r0
  obtain rfl : args = #[v0] := by cases args; simp_all
  obtain ⟨rfl, rfl⟩ := trodVars_none hV
  obtain ⟨a0, rfl, rfl, rfl, w0⟩ := open_int Try.underlying3 (hval 0 3 v0 rfl rfl) h0
  clear hA0 hval0
  simp only [List.append_nil] at hW'
  refine (walk a0 w0 W).mono fun e W' ⟨he, bel⟩ => ?_
  subst he
  exact ⟨_, rfl, _, _, _, [], _, [], hW', trodAll_mk1 (shut_bool Try.underlying4 _), (trodAll_cons_mk (shut_int Try.underlying3 w0) trodAll_mk0), rfl, bel.frame _, fun h => by cases h⟩

theorem over : Rows.turnCircleRow.holds Try.pinned (OpenSpec.ofChange Rows.turnCircleSpec) :=
  OpenClaim.holds_of_wide 6 Try.f6 rfl rfl rfl rfl rfl rfl rfl ⟨rfl, rfl, rfl, rfl, rfl⟩ rfl rfl rfl rfl rfl (by kernel_rfl) Try.func6 (by kernel_rfl)
    (of_decide_eq_true (by kernel_rfl)) (by unfold Func.isWrapper; first | (rw [if_pos (by decide +kernel)]; kernel_rfl) | (rw [if_neg (by decide +kernel)]; exact ⟨rfl, rfl⟩))
    (fun os started H enc _ => lifted os started H enc)

theorem proved : Rows.TurnCircleSaid :=
  over
#print axioms proved
end Go.Proofs.Ytiminclbkmkgnaa.turnCircle
