/- tympanlaw3.FixRoot returns true for every integer, and its argument reads afterwards as before; no condition. -/
import Derived.Test.YtagdagojfmafpaaRows
import Derived.WalkKit
import Derived.ProofKit
import Derived.OpenShut
import Derived.ShutString
import Derived.ChangeOld
import Derived.Below
import Derived.Test.YtagdagojfmafpaaF4
namespace Go.Proofs.Ytagdagojfmafpaa.fixRoot
open Go.ChangeShapes Go.WideShapes Go.ChangeAt Go.RowKit
open Go.ChangeMaps (open_string shut_string)
set_option linter.unusedVariables false      -- a walk need not use every 'w<i>' (that an integer argument fits its kind)

theorem own : ownKnob Try.prog.godebug = none := by kernel_rfl

theorem may_yes (x : Int) (x0 : -1073741823 ≤ x) (x1 : x ≤ 1073741823) : mayF x = true := (may_iff x).2 ⟨x0, x1⟩

set_option maxHeartbeats 1000000 in
theorem core_neg (a x : Int) (w : World) (hx : x < 0) (x0 : -1073741823 ≤ x)
    (h1 : Hid (∀ w, Calls Try.prog 31 #[.int .i64 a] w fun e w' => e = .returned (.int .i64 x) ∧ w = w'))
    (h2 : Hid (∀ w, Calls Try.prog 19 #[.int .i64 x] w fun e w' => e = .returned (.tuple #[.int .i64 0, .bool false]) ∧ Below w.heap.size w w')) :
    Calls Try.prog 7 #[.int .i64 a] w fun e w' => e = .returned (.bool true) ∧ Below w.heap.size w w' := by
  have hK := Lib.hid known_any
  go_enter Try.func7, Try.ntmps7
  go_wp2_with fail
  refine (hK.out _).mono ?_
  rintro e w1 ⟨rfl, k1⟩
  go_wp2_with fail
  refine (h1.out _).mono ?_
  rintro e w' ⟨rfl, rfl⟩
  go_wp2_with fail
  refine (h2.out _).mono ?_
  rintro e w2 ⟨rfl, k2⟩
  go_wp2
  go_ret
  have z1 := k1.size
  exact ⟨rfl, k1.trans (k2.mono (by omega))⟩

set_option maxHeartbeats 1000000 in
theorem core_pos (a x r y z : Int) (w : World) (x0 : 0 ≤ x) (x1 : x ≤ 1073741823) (r0 : 0 ≤ r) (r1 : r < 16777216)
    (hz : r * r = z) (hy : (r + 1) * (r + 1) = y) (z0 : 0 ≤ z) (z1 : z ≤ x * 65536) (y0 : x * 65536 < y) (y1 : y ≤ 281474976710656)
    (h1 : Hid (∀ w, Calls Try.prog 31 #[.int .i64 a] w fun e w' => e = .returned (.int .i64 x) ∧ w = w'))
    (h2 : Hid (∀ w, Calls Try.prog 19 #[.int .i64 x] w fun e w' => e = .returned (.tuple #[.int .i64 r, .bool true]) ∧ Below w.heap.size w w')) :
    Calls Try.prog 7 #[.int .i64 a] w fun e w' => e = .returned (.bool true) ∧ Below w.heap.size w w' := by
  have hK := Lib.hid known_any
  go_enter Try.func7, Try.ntmps7
  go_wp2_with fail
  refine (hK.out _).mono ?_
  rintro e w1 ⟨rfl, k1⟩
  go_wp2_with fail
  refine (h1.out _).mono ?_
  rintro e w' ⟨rfl, rfl⟩
  go_wp2_with fail
  refine (h2.out _).mono ?_
  rintro e w2 ⟨rfl, k2⟩
  go_wp2
  go_ret
  have z1 := k1.size
  exact ⟨rfl, k1.trans (k2.mono (by omega))⟩

theorem walk (a0 : Int) (w0 : (Lit.int .i64 a0).wf = true) (w : World) :
    Calls Try.prog 7 #[.int .i64 a0] w fun e w' => e = .returned (.bool true) ∧ Below w.heap.size w w' := by
  obtain ⟨b0, b1⟩ := asF_bd a0
  have h1 := Lib.hid (fun w => asF_any a0 w)
  have h2 := fun w => sqrtF_any (asF a0) w
  generalize asF a0 = x at *
  by_cases hx : x < 0
  · have e : okSqrt x = false := by unfold okSqrt; rw [decide_eq_false (by omega)]; rfl
    rw [e] at h2
    exact core_neg a0 x w hx b0 h1 (Lib.hid h2)
  · have e : okSqrt x = true := by unfold okSqrt; rw [decide_eq_true (by omega), may_yes x b0 b1]; rfl
    rw [e] at h2
    obtain ⟨r0, r1⟩ := sqrt_bd x (by omega) b1
    obtain ⟨_, s1, s2⟩ := isq_root (x * 65536) (by omega) (by omega)
    have g : gate true (isq (x * 65536)) = isq (x * 65536) := rfl
    rw [g] at h2
    generalize isq (x * 65536) = r at *
    have u := sq_le (by omega : 0 ≤ r + 1) (by omega : r + 1 ≤ 16777216)
    exact core_pos a0 x r _ _ w (by omega) b1 r0 r1 rfl rfl (sq_nonneg r) s1 s2 (by omega) h1 (Lib.hid h2)

set_option maxRecDepth 100000 in
theorem lifted (os : Os) (started : os.Started) (H : Type) (enc : TypeId × Value → H) :
    ReturnsInHanded {} Try.checked os 7 .any (Rows.fixRootSpec.pre6 enc Try.prog Try.f7 Rows.fixRootRow.domain false) (Rows.fixRootSpec.post enc Try.prog Try.f7 false true false false) := by
  refine returnsInHanded_of_change (C := Try.checked) own started (by kernel_rfl) Try.func7
    (ChangeSpec.witness6 (enc := enc) (C := Try.checked) false ⟨#[], #[.int .i64 0], []⟩ 8 (by kernel_rfl) (by kernel_rfl) (by kernel_rfl) (by kernel_rfl)) ?_
  intro W base args ds gs before hval0 hW hcnd _
  have hval : ∀ (j : Nat) t v, Try.f7.params[j]? = some t → args[j]? = some v → Value.okWide Try.prog W .any base t v := hval0
  have hW' := hW
  obtain ⟨p, q, hA0, hV, rfl, hfz, hnd⟩ := hW
  have hA : DataW.TrodAll enc Try.prog W 0 (fun _ => true) true Try.f7.params.toList args.toList ds p := hA0
  rw [Try.params7] at hA hval
  obtain ⟨v0, vs0, d0, ds0, p0, q0, hargs, rfl, rfl, h0, r0⟩ := trodAll_cons hA
  obtain ⟨rfl, rfl, rfl⟩ := trodAll_nil r0
  obtain rfl : args = #[v0] := by cases args; simp_all
  obtain ⟨rfl, rfl⟩ := trodVars_none hV
  obtain ⟨a0, rfl, rfl, rfl, w0⟩ := open_int Try.underlying3 (hval 0 3 v0 rfl rfl) h0
  clear hA0 hval0
  simp only [List.append_nil] at hW'
  refine (walk a0 w0 W).mono fun e W' ⟨he, bel⟩ => ?_
  subst he
  exact ⟨_, rfl, _, _, _, [], _, [], hW', trodAll_mk1 (shut_bool Try.underlying4 _), (trodAll_cons_mk (shut_int Try.underlying3 w0) trodAll_mk0), rfl, bel.frame _, fun h => by cases h⟩

theorem over : Rows.fixRootRow.holds Try.pinned (OpenSpec.ofChange Rows.fixRootSpec) :=
  OpenClaim.holds_of_wide 7 Try.f7 rfl rfl rfl rfl rfl rfl rfl ⟨rfl, rfl, rfl, rfl, rfl⟩ rfl rfl rfl rfl rfl (by kernel_rfl) Try.func7 (by kernel_rfl)
    (of_decide_eq_true (by kernel_rfl)) (by unfold Func.isWrapper; first | (rw [if_pos (by decide +kernel)]; kernel_rfl) | (rw [if_neg (by decide +kernel)]; exact ⟨rfl, rfl⟩))
    (fun os started H enc _ => lifted os started H enc)

theorem proved : Rows.FixRootSaid :=
  over
#print axioms proved
end Go.Proofs.Ytagdagojfmafpaa.fixRoot
