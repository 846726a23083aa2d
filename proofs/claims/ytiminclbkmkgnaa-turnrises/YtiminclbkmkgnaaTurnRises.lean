/- tympanlaw4.TurnRises returns true for every two uint32, and its arguments read afterwards as before; no condition. -/
import Derived.Test.YtiminclbkmkgnaaRows
import Derived.WalkKit
import Derived.ProofKit
import Derived.OpenShut
import Derived.ShutString
import Derived.ChangeOld
import Derived.Below
import Derived.Test.YtiminclbkmkgnaaM8
import Derived.Test.YtiminclbkmkgnaaT9
namespace Go.Proofs.Ytiminclbkmkgnaa.turnRises
open Go.ChangeShapes Go.WideShapes Go.ChangeAt Go.RowKit
open Go.ChangeMaps (open_string shut_string)
set_option linter.unusedVariables false      -- a walk need not use every 'w<i>' (that an integer argument fits its kind)

theorem own : ownKnob Try.prog.godebug = none := by kernel_rfl

set_option maxHeartbeats 2000000 in
theorem core (a b x y p q c d : Int) (w : World) (a0 : 0 ≤ a) (a1 : a ≤ 4294967295) (b0 : 0 ≤ b) (b1 : b ≤ 4294967295) (ea : a.tmod 5898241 = x) (eb : b.tmod 5898241 = y) (x0 : 0 ≤ x) (x1 : x ≤ 5898240) (y0 : 0 ≤ y) (y1 : y ≤ 5898240)
    (hk : Hid (∀ w, Calls Try.prog 8 #[] w fun e w' => e = .returned (.bool true) ∧ Below w.heap.size w w'))
    (h1 : Hid (∀ w, Calls Try.prog 11 #[.int .i64 x] w fun e w' => e = .returned (.int .i64 p) ∧ Below w.heap.size w w'))
    (h2 : Hid (∀ w, Calls Try.prog 11 #[.int .i64 y] w fun e w' => e = .returned (.int .i64 q) ∧ Below w.heap.size w w'))
    (h3 : Hid (∀ w, Calls Try.prog 13 #[.int .i64 x] w fun e w' => e = .returned (.int .i64 c) ∧ Below w.heap.size w w'))
    (h4 : Hid (∀ w, Calls Try.prog 13 #[.int .i64 y] w fun e w' => e = .returned (.int .i64 d) ∧ Below w.heap.size w w'))
    (p0 : 0 ≤ p) (p1 : p ≤ 65536) (q0 : 0 ≤ q) (q1 : q ≤ 65536)
    (hc : (x ≤ y ∧ p ≤ q ∧ d ≤ c) ∨ (y < x ∧ q ≤ p ∧ c ≤ d)) :
    Calls Try.prog 5 #[.int .u32 a, .int .u32 b] w fun e w' => e = .returned (.bool true) ∧ Below w.heap.size w w' := by
  rcases hc with ⟨l1, l2, l3⟩ | ⟨l1, l2, l3⟩
  · go_enter Try.func5, Try.ntmps5
    go_wp2_with fail
    refine (hk.out _).mono ?_
    rintro e w1 ⟨rfl, k1⟩
    go_wp2_with fail
    refine (h1.out _).mono ?_
    rintro e w2 ⟨rfl, k2⟩
    go_wp2_with fail
    refine (h2.out _).mono ?_
    rintro e w3 ⟨rfl, k3⟩
    go_wp2_with fail
    refine (h3.out _).mono ?_
    rintro e w4 ⟨rfl, k4⟩
    go_wp2_with fail
    refine (h4.out _).mono ?_
    rintro e w5 ⟨rfl, k5⟩
    go_wp2_with fail
    refine (h1.out _).mono ?_
    rintro e w6 ⟨rfl, k6⟩
    go_wp2_with fail
    refine (h2.out _).mono ?_
    rintro e w7 ⟨rfl, k7⟩
    go_wp2
    go_ret
    have z1 := k1.size; have z2 := k2.size; have z3 := k3.size; have z4 := k4.size; have z5 := k5.size; have z6 := k6.size
    exact ⟨rfl, (((((k1.trans (k2.mono (by omega))).trans (k3.mono (by omega))).trans (k4.mono (by omega))).trans (k5.mono (by omega))).trans (k6.mono (by omega))).trans (k7.mono (by omega))⟩
  · go_enter Try.func5, Try.ntmps5
    go_wp2_with fail
    refine (hk.out _).mono ?_
    rintro e w1 ⟨rfl, k1⟩
    go_wp2_with fail
    refine (h2.out _).mono ?_
    rintro e w2 ⟨rfl, k2⟩
    go_wp2_with fail
    refine (h1.out _).mono ?_
    rintro e w3 ⟨rfl, k3⟩
    go_wp2_with fail
    refine (h4.out _).mono ?_
    rintro e w4 ⟨rfl, k4⟩
    go_wp2_with fail
    refine (h3.out _).mono ?_
    rintro e w5 ⟨rfl, k5⟩
    go_wp2_with fail
    refine (h2.out _).mono ?_
    rintro e w6 ⟨rfl, k6⟩
    go_wp2_with fail
    refine (h1.out _).mono ?_
    rintro e w7 ⟨rfl, k7⟩
    go_wp2
    go_ret
    have z1 := k1.size; have z2 := k2.size; have z3 := k3.size; have z4 := k4.size; have z5 := k5.size; have z6 := k6.size
    exact ⟨rfl, (((((k1.trans (k2.mono (by omega))).trans (k3.mono (by omega))).trans (k4.mono (by omega))).trans (k5.mono (by omega))).trans (k6.mono (by omega))).trans (k7.mono (by omega))⟩

theorem walk (a0 : Int) (a1 : Int) (w0 : (Lit.int .u32 a0).wf = true) (w1 : (Lit.int .u32 a1).wf = true) (w : World) :
    Calls Try.prog 5 #[.int .u32 a0, .int .u32 a1] w fun e w' => e = .returned (.bool true) ∧ Below w.heap.size w w' := by
  obtain ⟨p0, p1⟩ := bounds_u32 w0
  obtain ⟨q0, q1⟩ := bounds_u32 w1
  have ea : a0.tmod 5898241 = a0 % 5898241 := Int.tmod_eq_emod_of_nonneg p0
  have eb : a1.tmod 5898241 = a1 % 5898241 := Int.tmod_eq_emod_of_nonneg q0
  have x0 := Int.emod_nonneg a0 (by decide : (5898241 : Int) ≠ 0)
  have x1 := Int.emod_lt_of_pos a0 (by decide : (0 : Int) < 5898241)
  have y0 := Int.emod_nonneg a1 (by decide : (5898241 : Int) ≠ 0)
  have y1 := Int.emod_lt_of_pos a1 (by decide : (0 : Int) < 5898241)
  have sx := sinQ_in (a0 % 5898241) x0 (by omega)
  have sy := sinQ_in (a1 % 5898241) y0 (by omega)
  have H1 := fun w => sin_any (a0 % 5898241) w
  rw [sinP_first _ x0 (by omega)] at H1
  have H2 := fun w => sin_any (a1 % 5898241) w
  rw [sinP_first _ y0 (by omega)] at H2
  have H3 := fun w => cos_any (a0 % 5898241) w
  rw [cosP_first _ x0 (by omega)] at H3
  have H4 := fun w => cos_any (a1 % 5898241) w
  rw [cosP_first _ y0 (by omega)] at H4
  refine core a0 a1 _ _ _ _ _ _ w p0 (by omega) q0 (by omega) ea eb x0 (by omega) y0 (by omega) (Lib.hid (fun w => known_any w)) (Lib.hid H1) (Lib.hid H2) (Lib.hid H3) (Lib.hid H4) sx.1 sx.2 sy.1 sy.2 ?_
  by_cases h : a0 % 5898241 ≤ a1 % 5898241
  · exact .inl ⟨h, sinQ_up _ _ x0 h (by omega), sinQ_up _ _ (by omega) (by omega) (by omega)⟩
  · exact .inr ⟨by omega, sinQ_up _ _ y0 (by omega) (by omega), sinQ_up _ _ (by omega) (by omega) (by omega)⟩

set_option maxRecDepth 100000 in
theorem lifted (os : Os) (started : os.Started) (H : Type) (enc : TypeId × Value → H) :
    ReturnsInHanded {} Try.checked os 5 .any (Rows.turnRisesSpec.pre6 enc Try.prog Try.f5 Rows.turnRisesRow.domain false) (Rows.turnRisesSpec.post enc Try.prog Try.f5 false true false false) := by
  refine returnsInHanded_of_change (C := Try.checked) own started (by kernel_rfl) Try.func5
    (ChangeSpec.witness6 (enc := enc) (C := Try.checked) false ⟨#[], #[.int .u32 0, .int .u32 0], []⟩ 8 (by kernel_rfl) (by kernel_rfl) (by kernel_rfl) (by kernel_rfl)) ?_
  intro W base args ds gs before hval0 hW hcnd _
  have hval : ∀ (j : Nat) t v, Try.f5.params[j]? = some t → args[j]? = some v → Value.okWide Try.prog W .any base t v := hval0
  have hW' := hW
  obtain ⟨p, q, hA0, hV, rfl, hfz, hnd⟩ := hW
  have hA : DataW.TrodAll enc Try.prog W 0 (fun _ => true) true Try.f5.params.toList args.toList ds p := hA0
  rw [Try.params5] at hA hval
  obtain ⟨v0, vs0, d0, ds0, p0, q0, hargs, rfl, rfl, h0, r0⟩ := trodAll_cons hA
  obtain ⟨v1, vs1, d1, ds1, p1, q1, rfl, rfl, rfl, h1, r1⟩ := trodAll_cons r0
  obtain ⟨rfl, rfl, rfl⟩ := trodAll_nil r1
  obtain rfl : args = #[v0, v1] := by cases args; simp_all
  obtain ⟨rfl, rfl⟩ := trodVars_none hV
  obtain ⟨a0, rfl, rfl, rfl, w0⟩ := open_int Try.underlying29 (hval 0 29 v0 rfl rfl) h0
  obtain ⟨a1, rfl, rfl, rfl, w1⟩ := open_int Try.underlying29 (hval 1 29 v1 rfl rfl) h1
  clear hA0 hval0
  simp only [List.append_nil] at hW'
  refine (walk a0 a1 w0 w1 W).mono fun e W' ⟨he, bel⟩ => ?_
  subst he
  exact ⟨_, rfl, _, _, _, [], _, [], hW', trodAll_mk1 (shut_bool Try.underlying4 _), (trodAll_cons_mk (shut_int Try.underlying29 w0) (trodAll_cons_mk (shut_int Try.underlying29 w1) trodAll_mk0)), rfl, bel.frame _, fun h => by cases h⟩

theorem over : Rows.turnRisesRow.holds Try.pinned (OpenSpec.ofChange Rows.turnRisesSpec) :=
  OpenClaim.holds_of_wide 5 Try.f5 rfl rfl rfl rfl rfl rfl rfl ⟨rfl, rfl, rfl, rfl, rfl⟩ rfl rfl rfl rfl rfl (by kernel_rfl) Try.func5 (by kernel_rfl)
    (of_decide_eq_true (by kernel_rfl)) (by unfold Func.isWrapper; first | (rw [if_pos (by decide +kernel)]; kernel_rfl) | (rw [if_neg (by decide +kernel)]; exact ⟨rfl, rfl⟩))
    (fun os started H enc _ => lifted os started H enc)

theorem proved : Rows.TurnRisesSaid :=
  over
#print axioms proved
end Go.Proofs.Ytiminclbkmkgnaa.turnRises
