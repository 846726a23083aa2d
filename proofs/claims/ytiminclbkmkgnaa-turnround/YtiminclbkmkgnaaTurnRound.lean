/- tympanlaw4.TurnRound returns true for every int32 and every int16, and its arguments read afterwards as before; no condition. -/
import Derived.Test.YtiminclbkmkgnaaRows
import Derived.WalkKit
import Derived.ProofKit
import Derived.OpenShut
import Derived.ShutString
import Derived.ChangeOld
import Derived.Below
import Derived.Test.YtiminclbkmkgnaaM8
import Derived.Test.YtiminclbkmkgnaaT9
namespace Go.Proofs.Ytiminclbkmkgnaa.turnRound
open Go.ChangeShapes Go.WideShapes Go.ChangeAt Go.RowKit
open Go.ChangeMaps (open_string shut_string)
set_option linter.unusedVariables false      -- a walk need not use every 'w<i>' (that an integer argument fits its kind)

theorem own : ownKnob Try.prog.godebug = none := by kernel_rfl

set_option maxHeartbeats 2000000 in
theorem core (d t s c : Int) (w : World) (d0 : -2147483648 ≤ d) (d1 : d ≤ 2147483647) (t0 : -32768 ≤ t) (t1 : t ≤ 32767) (s0 : -65536 ≤ s) (s1 : s ≤ 65536) (c0 : -65536 ≤ c) (c1 : c ≤ 65536)
    (hk : Hid (∀ w, Calls Try.prog 8 #[] w fun e w' => e = .returned (.bool true) ∧ Below w.heap.size w w'))
    (hs0 : Hid (∀ w, Calls Try.prog 11 #[.int .i64 (d)] w fun e w' => e = .returned (.int .i64 (s)) ∧ Below w.heap.size w w'))
    (hc0 : Hid (∀ w, Calls Try.prog 13 #[.int .i64 (d)] w fun e w' => e = .returned (.int .i64 (c)) ∧ Below w.heap.size w w'))
    (hs1 : Hid (∀ w, Calls Try.prog 11 #[.int .i64 (d + t * 360 * 65536)] w fun e w' => e = .returned (.int .i64 (s)) ∧ Below w.heap.size w w'))
    (hc1 : Hid (∀ w, Calls Try.prog 13 #[.int .i64 (d + t * 360 * 65536)] w fun e w' => e = .returned (.int .i64 (c)) ∧ Below w.heap.size w w'))
    (hs2 : Hid (∀ w, Calls Try.prog 11 #[.int .i64 (-d)] w fun e w' => e = .returned (.int .i64 (-s)) ∧ Below w.heap.size w w'))
    (hc2 : Hid (∀ w, Calls Try.prog 13 #[.int .i64 (-d)] w fun e w' => e = .returned (.int .i64 (c)) ∧ Below w.heap.size w w'))
    (hs3 : Hid (∀ w, Calls Try.prog 11 #[.int .i64 (11796480 - d)] w fun e w' => e = .returned (.int .i64 (s)) ∧ Below w.heap.size w w'))
    (hc3 : Hid (∀ w, Calls Try.prog 13 #[.int .i64 (11796480 - d)] w fun e w' => e = .returned (.int .i64 (-c)) ∧ Below w.heap.size w w'))
    (hs4 : Hid (∀ w, Calls Try.prog 11 #[.int .i64 (d + 5898240)] w fun e w' => e = .returned (.int .i64 (c)) ∧ Below w.heap.size w w'))
    (hc4 : Hid (∀ w, Calls Try.prog 13 #[.int .i64 (d + 5898240)] w fun e w' => e = .returned (.int .i64 (-s)) ∧ Below w.heap.size w w')) :
    Calls Try.prog 4 #[.int .i32 d, .int .i16 t] w fun e w' => e = .returned (.bool true) ∧ Below w.heap.size w w' := by
  go_enter Try.func4, Try.ntmps4
  go_wp2_with fail
  refine (hk.out _).mono ?_
  rintro e w1 ⟨rfl, k1⟩
  go_wp2_with fail
  refine (hs0.out _).mono ?_
  rintro e w2 ⟨rfl, k2⟩
  go_wp2_with fail
  refine (hc0.out _).mono ?_
  rintro e w3 ⟨rfl, k3⟩
  go_wp2_with fail
  refine (hs1.out _).mono ?_
  rintro e w4 ⟨rfl, k4⟩
  go_wp2_with fail
  refine (hc1.out _).mono ?_
  rintro e w5 ⟨rfl, k5⟩
  go_wp2_with fail
  refine (hs2.out _).mono ?_
  rintro e w6 ⟨rfl, k6⟩
  go_wp2_with fail
  refine (hc2.out _).mono ?_
  rintro e w7 ⟨rfl, k7⟩
  go_wp2_with fail
  refine (hs3.out _).mono ?_
  rintro e w8 ⟨rfl, k8⟩
  go_wp2_with fail
  refine (hc3.out _).mono ?_
  rintro e w9 ⟨rfl, k9⟩
  go_wp2_with fail
  refine (hs4.out _).mono ?_
  rintro e w10 ⟨rfl, k10⟩
  go_wp2_with fail
  refine (hc4.out _).mono ?_
  rintro e w11 ⟨rfl, k11⟩
  go_wp2
  go_ret
  have z1 := k1.size; have z2 := k2.size; have z3 := k3.size; have z4 := k4.size; have z5 := k5.size; have z6 := k6.size; have z7 := k7.size; have z8 := k8.size; have z9 := k9.size; have z10 := k10.size
  exact ⟨rfl, (((((((((k1.trans (k2.mono (by omega))).trans (k3.mono (by omega))).trans (k4.mono (by omega))).trans (k5.mono (by omega))).trans (k6.mono (by omega))).trans (k7.mono (by omega))).trans (k8.mono (by omega))).trans (k9.mono (by omega))).trans (k10.mono (by omega))).trans (k11.mono (by omega))⟩

theorem walk (a0 : Int) (a1 : Int) (w0 : (Lit.int .i32 a0).wf = true) (w1 : (Lit.int .i16 a1).wf = true) (w : World) :
    Calls Try.prog 4 #[.int .i32 a0, .int .i16 a1] w fun e w' => e = .returned (.bool true) ∧ Below w.heap.size w w' := by
  obtain ⟨d0, d1⟩ := bounds_i32 w0
  obtain ⟨t0, t1⟩ := bounds_i16 w1
  have bs := sinP_in a0
  have bc := cosP_in a0
  have H1 := fun w => sin_any (a0 + a1 * 360 * 65536) w
  rw [sinP_eq (a0 + a1 * 360 * 65536) a0 (by omega)] at H1
  have H2 := fun w => cos_any (a0 + a1 * 360 * 65536) w
  rw [cosP_eq (a0 + a1 * 360 * 65536) a0 (by omega)] at H2
  have H3 := fun w => sin_any (-a0) w
  rw [sinP_neg] at H3
  have H4 := fun w => cos_any (-a0) w
  rw [cosP_neg] at H4
  have H5 := fun w => sin_any (11796480 - a0) w
  rw [sinP_supp] at H5
  have H6 := fun w => cos_any (11796480 - a0) w
  rw [cosP_supp] at H6
  have H7 := fun w => sin_any (a0 + 5898240) w
  rw [← cosP_sin] at H7
  have H8 := fun w => cos_any (a0 + 5898240) w
  rw [cosP_more] at H8
  exact core a0 a1 _ _ w d0 d1 t0 t1 bs.1 bs.2 bc.1 bc.2 (Lib.hid (fun w => known_any w)) (Lib.hid (fun w => sin_any a0 w)) (Lib.hid (fun w => cos_any a0 w)) (Lib.hid H1) (Lib.hid H2) (Lib.hid H3) (Lib.hid H4) (Lib.hid H5) (Lib.hid H6) (Lib.hid H7) (Lib.hid H8)

set_option maxRecDepth 100000 in
theorem lifted (os : Os) (started : os.Started) (H : Type) (enc : TypeId × Value → H) :
    ReturnsInHanded {} Try.checked os 4 .any (Rows.turnRoundSpec.pre6 enc Try.prog Try.f4 Rows.turnRoundRow.domain false) (Rows.turnRoundSpec.post enc Try.prog Try.f4 false true false false) := by
  refine returnsInHanded_of_change (C := Try.checked) own started (by kernel_rfl) Try.func4
    (ChangeSpec.witness6 (enc := enc) (C := Try.checked) false ⟨#[], #[.int .i32 0, .int .i16 0], []⟩ 8 (by kernel_rfl) (by kernel_rfl) (by kernel_rfl) (by kernel_rfl)) ?_
  intro W base args ds gs before hval0 hW hcnd _
  have hval : ∀ (j : Nat) t v, Try.f4.params[j]? = some t → args[j]? = some v → Value.okWide Try.prog W .any base t v := hval0
  have hW' := hW
  obtain ⟨p, q, hA0, hV, rfl, hfz, hnd⟩ := hW
  have hA : DataW.TrodAll enc Try.prog W 0 (fun _ => true) true Try.f4.params.toList args.toList ds p := hA0
  rw [Try.params4] at hA hval
  obtain ⟨v0, vs0, d0, ds0, p0, q0, hargs, rfl, rfl, h0, r0⟩ := trodAll_cons hA
  obtain ⟨v1, vs1, d1, ds1, p1, q1, rfl, rfl, rfl, h1, r1⟩ := trodAll_cons r0
  obtain ⟨rfl, rfl, rfl⟩ := trodAll_nil r1
  obtain rfl : args = #[v0, v1] := by cases args; simp_all
  obtain ⟨rfl, rfl⟩ := trodVars_none hV
  obtain ⟨a0, rfl, rfl, rfl, w0⟩ := open_int Try.underlying21 (hval 0 21 v0 rfl rfl) h0
  obtain ⟨a1, rfl, rfl, rfl, w1⟩ := open_int Try.underlying27 (hval 1 27 v1 rfl rfl) h1
  clear hA0 hval0
  simp only [List.append_nil] at hW'
  refine (walk a0 a1 w0 w1 W).mono fun e W' ⟨he, bel⟩ => ?_
  subst he
  exact ⟨_, rfl, _, _, _, [], _, [], hW', trodAll_mk1 (shut_bool Try.underlying4 _), (trodAll_cons_mk (shut_int Try.underlying21 w0) (trodAll_cons_mk (shut_int Try.underlying27 w1) trodAll_mk0)), rfl, bel.frame _, fun h => by cases h⟩

theorem over : Rows.turnRoundRow.holds Try.pinned (OpenSpec.ofChange Rows.turnRoundSpec) :=
  OpenClaim.holds_of_wide 4 Try.f4 rfl rfl rfl rfl rfl rfl rfl ⟨rfl, rfl, rfl, rfl, rfl⟩ rfl rfl rfl rfl rfl (by kernel_rfl) Try.func4 (by kernel_rfl)
    (of_decide_eq_true (by kernel_rfl)) (by unfold Func.isWrapper; first | (rw [if_pos (by decide +kernel)]; kernel_rfl) | (rw [if_neg (by decide +kernel)]; exact ⟨rfl, rfl⟩))
    (fun os started H enc _ => lifted os started H enc)

theorem proved : Rows.TurnRoundSaid :=
  over
#print axioms proved
end Go.Proofs.Ytiminclbkmkgnaa.turnRound
