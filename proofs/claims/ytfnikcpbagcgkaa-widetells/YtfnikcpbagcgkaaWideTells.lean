/- tympanlaw1.WideTells returns true for every four integers, and its arguments read afterwards as before; no condition. -/
import Derived.Test.YtfnikcpbagcgkaaRows
import Derived.WalkKit
import Derived.ProofKit
import Derived.OpenShut
import Derived.ShutString
import Derived.ChangeOld
import Derived.Below
import Derived.Test.YtfnikcpbagcgkaaW10
namespace Go.Proofs.Ytfnikcpbagcgkaa.wideTells
open Go.ChangeShapes Go.WideShapes Go.ChangeAt Go.RowKit
open Go.ChangeMaps (open_string shut_string)
set_option linter.unusedVariables false      -- a walk need not use every 'w<i>' (that an integer argument fits its kind)

theorem own : ownKnob Try.prog.godebug = none := by kernel_rfl

set_option maxHeartbeats 1000000 in
set_option maxRecDepth 100000 in
theorem walk (a0 : Int) (a1 : Int) (a2 : Int) (a3 : Int) (w0 : (Lit.int .i64 a0).wf = true) (w1 : (Lit.int .i64 a1).wf = true) (w2 : (Lit.int .i64 a2).wf = true) (w3 : (Lit.int .i64 a3).wf = true) (w : World) :
    Calls Try.prog 3 #[.int .i64 a0, .int .i64 a1, .int .i64 a2, .int .i64 a3] w fun e w' => e = .returned (.bool true) ∧ Below w.heap.size w w' := by
  obtain ⟨a0l, a0h⟩ := bounds_i64 w0
  obtain ⟨a1l, a1h⟩ := bounds_i64 w1
  obtain ⟨a2l, a2h⟩ := bounds_i64 w2
  obtain ⟨a3l, a3h⟩ := bounds_i64 w3
  have hK := Lib.hid known_any
  have c1 := Lib.hid (fun w => mul_any a0 a1 w a0l a0h a1l a1h)
  have c2 := Lib.hid (fun w => rmul_any a0 a1 w a0l a0h a1l a1h)
  have c3 := Lib.hid (fun w => muldiv_any a0 a1 a3 w a0l a0h a1l a1h a3l a3h)
  have c4 := Lib.hid (fun w => rmuldiv_any a0 a1 a3 w a0l a0h a1l a1h a3l a3h)
  have c5 := Lib.hid (fun w => floor_any a0 a1 a2 w a0l a0h a1l a1h a2l a2h)
  have c6 := Lib.hid (fun w => rfloor_any a0 a1 a2 w a0l a0h a1l a1h a2l a2h)
  have c7 := Lib.hid (fun w => cmp_any a0 a1 a2 a3 w a0l a0h a1l a1h a2l a2h a3l a3h)
  have c8 := Lib.hid (fun w => rcmp_any a0 a1 a2 a3 w a0l a0h a1l a1h a2l a2h a3l a3h)
  generalize cmpI (a0 * a1) (a2 * a3) = x at *
  generalize a0 * a1 / 18446744073709551616 = h at *
  generalize a0 * a1 % 18446744073709551616 = l at *
  generalize valOf a3 (near (a0 * a1) a3) = q at *
  generalize okOf a3 (near (a0 * a1) a3) = ok at *
  generalize valOf a2 (sdiv (a0 * a1) a2) = f at *
  generalize okOf a2 (sdiv (a0 * a1) a2) = ko at *
  go_enter Try.func3, Try.ntmps3
  go_wp2_with fail
  refine (hK.out _).mono ?_
  rintro e w1 ⟨rfl, k1⟩
  go_wp2_with fail
  refine (c1.out _).mono ?_
  rintro e w2 ⟨rfl, k2⟩
  go_wp2_with fail
  refine (c2.out _).mono ?_
  rintro e w3 ⟨rfl, rfl⟩
  go_wp2_with fail
  refine (c3.out _).mono ?_
  rintro e w4 ⟨rfl, k4⟩
  go_wp2_with fail
  refine (c4.out _).mono ?_
  rintro e w5 ⟨rfl, k5⟩
  go_wp2_with fail
  refine (c5.out _).mono ?_
  rintro e w6 ⟨rfl, k6⟩
  go_wp2_with fail
  refine (c6.out _).mono ?_
  rintro e w7 ⟨rfl, k7⟩
  go_wp2_with fail
  refine (c7.out _).mono ?_
  rintro e w8 ⟨rfl, k8⟩
  go_wp2_with fail
  refine (c8.out _).mono ?_
  rintro e w9 ⟨rfl, rfl⟩
  go_wp2
  go_ret
  have z1 := k1.size; have z2 := k2.size; have z4 := k4.size; have z5 := k5.size; have z6 := k6.size; have z7 := k7.size
  exact ⟨rfl, (((((k1.trans (k2.mono (by omega))).trans (k4.mono (by omega))).trans (k5.mono (by omega))).trans (k6.mono (by omega))).trans (k7.mono (by omega))).trans (k8.mono (by omega))⟩

set_option maxRecDepth 100000 in
theorem lifted (os : Os) (started : os.Started) (H : Type) (enc : TypeId × Value → H) :
    ReturnsInHanded {} Try.checked os 3 .any (Rows.wideTellsSpec.pre6 enc Try.prog Try.f3 Rows.wideTellsRow.domain false) (Rows.wideTellsSpec.post enc Try.prog Try.f3 false true false false) := by
  refine returnsInHanded_of_change (C := Try.checked) own started (by kernel_rfl) Try.func3
    (ChangeSpec.witness6 (enc := enc) (C := Try.checked) false ⟨#[], #[.int .i64 0, .int .i64 0, .int .i64 0, .int .i64 0], []⟩ 8 (by kernel_rfl) (by kernel_rfl) (by kernel_rfl) (by kernel_rfl)) ?_
  intro W base args ds gs before hval0 hW hcnd _
  have hval : ∀ (j : Nat) t v, Try.f3.params[j]? = some t → args[j]? = some v → Value.okWide Try.prog W .any base t v := hval0
  have hW' := hW
  obtain ⟨p, q, hA0, hV, rfl, hfz, hnd⟩ := hW
  have hA : DataW.TrodAll enc Try.prog W 0 (fun _ => true) true Try.f3.params.toList args.toList ds p := hA0
  rw [Try.params3] at hA hval
  obtain ⟨v0, vs0, d0, ds0, p0, q0, hargs, rfl, rfl, h0, r0⟩ := trodAll_cons hA
  obtain ⟨v1, vs1, d1, ds1, p1, q1, rfl, rfl, rfl, h1, r1⟩ := trodAll_cons r0
  obtain ⟨v2, vs2, d2, ds2, p2, q2, rfl, rfl, rfl, h2, r2⟩ := trodAll_cons r1
  obtain ⟨v3, vs3, d3, ds3, p3, q3, rfl, rfl, rfl, h3, r3⟩ := trodAll_cons r2
  obtain ⟨rfl, rfl, rfl⟩ := trodAll_nil r3
  obtain rfl : args = #[v0, v1, v2, v3] := by cases args; simp_all
  obtain ⟨rfl, rfl⟩ := trodVars_none hV
  obtain ⟨a0, rfl, rfl, rfl, w0⟩ := open_int Try.underlying3 (hval 0 3 v0 rfl rfl) h0
  obtain ⟨a1, rfl, rfl, rfl, w1⟩ := open_int Try.underlying3 (hval 1 3 v1 rfl rfl) h1
  obtain ⟨a2, rfl, rfl, rfl, w2⟩ := open_int Try.underlying3 (hval 2 3 v2 rfl rfl) h2
  obtain ⟨a3, rfl, rfl, rfl, w3⟩ := open_int Try.underlying3 (hval 3 3 v3 rfl rfl) h3
  clear hA0 hval0
  simp only [List.append_nil] at hW'
  refine (walk a0 a1 a2 a3 w0 w1 w2 w3 W).mono fun e W' ⟨he, bel⟩ => ?_
  subst he
  exact ⟨_, rfl, _, _, _, [], _, [], hW', trodAll_mk1 (shut_bool Try.underlying4 _), (trodAll_cons_mk (shut_int Try.underlying3 w0) (trodAll_cons_mk (shut_int Try.underlying3 w1) (trodAll_cons_mk (shut_int Try.underlying3 w2) (trodAll_cons_mk (shut_int Try.underlying3 w3) trodAll_mk0)))), rfl, bel.frame _, fun h => by cases h⟩

theorem over : Rows.wideTellsRow.holds Try.pinned (OpenSpec.ofChange Rows.wideTellsSpec) :=
  OpenClaim.holds_of_wide 3 Try.f3 rfl rfl rfl rfl rfl rfl rfl ⟨rfl, rfl, rfl, rfl, rfl⟩ rfl rfl rfl rfl rfl (by kernel_rfl) Try.func3 (by kernel_rfl)
    (of_decide_eq_true (by kernel_rfl)) (by unfold Func.isWrapper; first | (rw [if_pos (by decide +kernel)]; kernel_rfl) | (rw [if_neg (by decide +kernel)]; exact ⟨rfl, rfl⟩))
    (fun os started H enc _ => lifted os started H enc)

theorem proved : Rows.WideTellsSaid :=
  over
#print axioms proved
end Go.Proofs.Ytfnikcpbagcgkaa.wideTells
