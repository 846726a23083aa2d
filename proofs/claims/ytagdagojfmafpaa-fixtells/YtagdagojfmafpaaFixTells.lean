/- tympanlaw3.FixTells returns true for every three integers, and its arguments read afterwards as before; no condition. -/
import Derived.Test.YtagdagojfmafpaaRows
import Derived.WalkKit
import Derived.ProofKit
import Derived.OpenShut
import Derived.ShutString
import Derived.ChangeOld
import Derived.Below
import Derived.Test.YtagdagojfmafpaaF4
import Derived.Test.YtagdagojfmafpaaF5
namespace Go.Proofs.Ytagdagojfmafpaa.fixTells
open Go.ChangeShapes Go.WideShapes Go.ChangeAt Go.RowKit
open Go.ChangeMaps (open_string shut_string)
set_option linter.unusedVariables false      -- a walk need not use every 'w<i>' (that an integer argument fits its kind)

theorem own : ownKnob Try.prog.godebug = none := by kernel_rfl

set_option maxHeartbeats 4000000 in
set_option maxRecDepth 100000 in
theorem walk (a0 : Int) (a1 : Int) (a2 : Int) (w0 : (Lit.int .i64 a0).wf = true) (w1 : (Lit.int .i64 a1).wf = true) (w2 : (Lit.int .i64 a2).wf = true) (w : World) :
    Calls Try.prog 3 #[.int .i64 a0, .int .i64 a1, .int .i64 a2] w fun e w' => e = .returned (.bool true) ∧ Below w.heap.size w w' := by
  obtain ⟨a0l, a0h⟩ := bounds_i64 w0
  obtain ⟨a1l, a1h⟩ := bounds_i64 w1
  have hK := Lib.hid known_any
  have h1 := Lib.hid (fun w => from_any a2 w)
  have h2 := Lib.hid (fun w => rfrom_any a2 w)
  have h3 := Lib.hid (fun w => add_any a0 a1 w)
  have h4 := Lib.hid (fun w => radd_any a0 a1 w)
  have h5 := Lib.hid (fun w => sub_any a0 a1 w)
  have h6 := Lib.hid (fun w => rsub_any a0 a1 w)
  have h7 := Lib.hid (fun w => mulF_any a0 a1 w a0l a0h a1l a1h)
  have h8 := Lib.hid (fun w => rmulF_any a0 a1 w a0l a0h a1l a1h)
  have h9 := Lib.hid (fun w => divF_any a0 a1 w a0l a0h a1l a1h)
  have h10 := Lib.hid (fun w => rdivF_any a0 a1 w a0l a0h a1l a1h)
  have h11 := Lib.hid (fun w => sqrtF_any a0 w)
  have h12 := Lib.hid (fun w => rsqrtF_any a0 w)
  have h13 := Lib.hid (fun w => floorF_any a0 w)
  have h14 := Lib.hid (fun w => rfloorF_any a0 w)
  have h15 := Lib.hid (fun w => ceilF_any a0 w)
  have h16 := Lib.hid (fun w => rceilF_any a0 w)
  have h17 := Lib.hid (fun w => roundF_any a0 w)
  have h18 := Lib.hid (fun w => rroundF_any a0 w)
  have h19 := Lib.hid (fun w => truncF_any a0 w)
  have h20 := Lib.hid (fun w => rtruncF_any a0 w)
  have h21 := Lib.hid (fun w => wholeF_any a0 w)
  have h22 := Lib.hid (fun w => rwholeF_any a0 w)
  generalize gate (mayF (a2 * 65536)) (a2 * 65536) = v1 at *
  generalize mayF (a2 * 65536) = t1 at *
  generalize gate (okAdd a0 a1) (a0 + a1) = v2 at *
  generalize okAdd a0 a1 = t2 at *
  generalize gate (okSub a0 a1) (a0 - a1) = v3 at *
  generalize okSub a0 a1 = t3 at *
  generalize gate (okMul a0 a1) (near (a0 * a1) 65536) = v4 at *
  generalize okMul a0 a1 = t4 at *
  generalize gate (okDiv a0 a1) (near (a0 * 65536) a1) = v5 at *
  generalize okDiv a0 a1 = t5 at *
  generalize gate (okSqrt a0) (isq (a0 * 65536)) = v6 at *
  generalize okSqrt a0 = t6 at *
  generalize floorF a0 = v7 at *
  generalize ceilF a0 = v8 at *
  generalize roundF a0 = v9 at *
  generalize truncF a0 = v10 at *
  generalize wholeF a0 = v11 at *
  go_enter Try.func3, Try.ntmps3
  go_wp2_with fail
  refine (hK.out _).mono ?_
  rintro e w1 ⟨rfl, k1⟩
  go_wp2_with fail
  refine (h1.out _).mono ?_
  rintro e w' ⟨rfl, rfl⟩
  go_wp2_with fail
  refine (h2.out _).mono ?_
  rintro e w' ⟨rfl, rfl⟩
  go_wp2
  refine wp_loop_rounds 5 ?_
  rw [rounds_succ]
  go_wp2_with fail
  refine (h3.out _).mono ?_
  rintro e w' ⟨rfl, rfl⟩
  go_wp2_with fail
  refine (h4.out _).mono ?_
  rintro e w' ⟨rfl, rfl⟩
  go_wp2
  rw [rounds_succ]
  go_wp2_with fail
  refine (h5.out _).mono ?_
  rintro e w' ⟨rfl, rfl⟩
  go_wp2_with fail
  refine (h6.out _).mono ?_
  rintro e w' ⟨rfl, rfl⟩
  go_wp2
  rw [rounds_succ]
  go_wp2_with fail
  refine (h7.out _).mono ?_
  rintro e w2 ⟨rfl, k2⟩
  go_wp2_with fail
  refine (h8.out _).mono ?_
  rintro e w3 ⟨rfl, k3⟩
  go_wp2
  rw [rounds_succ]
  go_wp2_with fail
  refine (h9.out _).mono ?_
  rintro e w4 ⟨rfl, k4⟩
  go_wp2_with fail
  refine (h10.out _).mono ?_
  rintro e w5 ⟨rfl, k5⟩
  go_wp2
  rw [rounds_succ]
  go_wp2_with fail
  refine (h11.out _).mono ?_
  rintro e w6 ⟨rfl, k6⟩
  go_wp2_with fail
  refine (h12.out _).mono ?_
  rintro e w' ⟨rfl, rfl⟩
  go_wp2_with fail
  refine (h13.out _).mono ?_
  rintro e w7 ⟨rfl, k7⟩
  go_wp2_with fail
  refine (h14.out _).mono ?_
  rintro e w' ⟨rfl, rfl⟩
  go_wp2_with fail
  refine (h15.out _).mono ?_
  rintro e w8 ⟨rfl, k8⟩
  go_wp2_with fail
  refine (h16.out _).mono ?_
  rintro e w' ⟨rfl, rfl⟩
  go_wp2_with fail
  refine (h17.out _).mono ?_
  rintro e w9 ⟨rfl, k9⟩
  go_wp2_with fail
  refine (h18.out _).mono ?_
  rintro e w' ⟨rfl, rfl⟩
  go_wp2_with fail
  refine (h19.out _).mono ?_
  rintro e w' ⟨rfl, rfl⟩
  go_wp2_with fail
  refine (h20.out _).mono ?_
  rintro e w' ⟨rfl, rfl⟩
  go_wp2_with fail
  refine (h21.out _).mono ?_
  rintro e w10 ⟨rfl, k10⟩
  go_wp2_with fail
  refine (h22.out _).mono ?_
  rintro e w' ⟨rfl, rfl⟩
  go_wp2
  go_ret
  have z1 := k1.size; have z2 := k2.size; have z3 := k3.size; have z4 := k4.size; have z5 := k5.size; have z6 := k6.size; have z7 := k7.size; have z8 := k8.size; have z9 := k9.size
  exact ⟨rfl, ((((((((k1.trans (k2.mono (by omega))).trans (k3.mono (by omega))).trans (k4.mono (by omega))).trans (k5.mono (by omega))).trans (k6.mono (by omega))).trans (k7.mono (by omega))).trans (k8.mono (by omega))).trans (k9.mono (by omega))).trans (k10.mono (by omega))⟩

set_option maxRecDepth 100000 in
theorem lifted (os : Os) (started : os.Started) (H : Type) (enc : TypeId × Value → H) :
    ReturnsInHanded {} Try.checked os 3 .any (Rows.fixTellsSpec.pre6 enc Try.prog Try.f3 Rows.fixTellsRow.domain false) (Rows.fixTellsSpec.post enc Try.prog Try.f3 false true false false) := by
  refine returnsInHanded_of_change (C := Try.checked) own started (by kernel_rfl) Try.func3
    (ChangeSpec.witness6 (enc := enc) (C := Try.checked) false ⟨#[], #[.int .i64 0, .int .i64 0, .int .i64 0], []⟩ 8 (by kernel_rfl) (by kernel_rfl) (by kernel_rfl) (by kernel_rfl)) ?_
  intro W base args ds gs before hval0 hW hcnd _
  have hval : ∀ (j : Nat) t v, Try.f3.params[j]? = some t → args[j]? = some v → Value.okWide Try.prog W .any base t v := hval0
  have hW' := hW
  obtain ⟨p, q, hA0, hV, rfl, hfz, hnd⟩ := hW
  have hA : DataW.TrodAll enc Try.prog W 0 (fun _ => true) true Try.f3.params.toList args.toList ds p := hA0
  rw [Try.params3] at hA hval
  obtain ⟨v0, vs0, d0, ds0, p0, q0, hargs, rfl, rfl, h0, r0⟩ := trodAll_cons hA
  obtain ⟨v1, vs1, d1, ds1, p1, q1, rfl, rfl, rfl, h1, r1⟩ := trodAll_cons r0
  obtain ⟨v2, vs2, d2, ds2, p2, q2, rfl, rfl, rfl, h2, r2⟩ := trodAll_cons r1
  obtain ⟨rfl, rfl, rfl⟩ := trodAll_nil r2
  obtain rfl : args = #[v0, v1, v2] := by cases args; simp_all
  obtain ⟨rfl, rfl⟩ := trodVars_none hV
  obtain ⟨a0, rfl, rfl, rfl, w0⟩ := open_int Try.underlying3 (hval 0 3 v0 rfl rfl) h0
  obtain ⟨a1, rfl, rfl, rfl, w1⟩ := open_int Try.underlying3 (hval 1 3 v1 rfl rfl) h1
  obtain ⟨a2, rfl, rfl, rfl, w2⟩ := open_int Try.underlying3 (hval 2 3 v2 rfl rfl) h2
  clear hA0 hval0
  simp only [List.append_nil] at hW'
  refine (walk a0 a1 a2 w0 w1 w2 W).mono fun e W' ⟨he, bel⟩ => ?_
  subst he
  exact ⟨_, rfl, _, _, _, [], _, [], hW', trodAll_mk1 (shut_bool Try.underlying4 _), (trodAll_cons_mk (shut_int Try.underlying3 w0) (trodAll_cons_mk (shut_int Try.underlying3 w1) (trodAll_cons_mk (shut_int Try.underlying3 w2) trodAll_mk0))), rfl, bel.frame _, fun h => by cases h⟩

theorem over : Rows.fixTellsRow.holds Try.pinned (OpenSpec.ofChange Rows.fixTellsSpec) :=
  OpenClaim.holds_of_wide 3 Try.f3 rfl rfl rfl rfl rfl rfl rfl ⟨rfl, rfl, rfl, rfl, rfl⟩ rfl rfl rfl rfl rfl (by kernel_rfl) Try.func3 (by kernel_rfl)
    (of_decide_eq_true (by kernel_rfl)) (by unfold Func.isWrapper; first | (rw [if_pos (by decide +kernel)]; kernel_rfl) | (rw [if_neg (by decide +kernel)]; exact ⟨rfl, rfl⟩))
    (fun os started H enc _ => lifted os started H enc)

theorem proved : Rows.FixTellsSaid :=
  over
#print axioms proved
end Go.Proofs.Ytagdagojfmafpaa.fixTells
