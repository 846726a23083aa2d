/- Exec plays no part in May, Same, Less, Num and Type; Same is symmetric, and an object is the same as itself with another Exec. -/
import Derived.Test.YtelihdgpappklaaRows
import Derived.WalkKit
import Derived.ProofKit
import Derived.OpenShut
import Derived.ShutString
import Derived.ChangeOld
import Derived.Below
import Derived.Test.YtelihdgpappklaaX3
namespace Go.Proofs.Ytelihdgpappklaa.objExec
open Go.ChangeShapes Go.WideShapes Go.ChangeAt Go.RowKit
open Go.ChangeMaps (open_string shut_string)
set_option linter.unusedVariables false

theorem own : ownKnob Try.prog.godebug = none := by kernel_rfl

theorem walk (k0 : Int) (x0 : Bool) (n0 a0 l0 : Int) (s0 : ByteArray) (k1 : Int) (x1 : Bool) (n1 a1 l1 : Int) (s1 : ByteArray) (a2 : Bool) (a3 : Bool) (wk0 : (Lit.int .i64 k0).wf = true) (wn0 : (Lit.int .i64 n0).wf = true) (wa0 : (Lit.int .i64 a0).wf = true) (wl0 : (Lit.int .i64 l0).wf = true) (wk1 : (Lit.int .i64 k1).wf = true) (wn1 : (Lit.int .i64 n1).wf = true) (wa1 : (Lit.int .i64 a1).wf = true) (wl1 : (Lit.int .i64 l1).wf = true) (w : World) :
    Calls Try.prog 6 #[.agg #[.int .i64 k0, .bool x0, .int .i64 n0, .int .i64 a0, .int .i64 l0, .string s0], .agg #[.int .i64 k1, .bool x1, .int .i64 n1, .int .i64 a1, .int .i64 l1, .string s1], .bool a2, .bool a3] w fun e w' => e = .returned (.bool true) ∧ Below w.heap.size w w' :=
  exec_walk k0 n0 a0 l0 k1 n1 a1 l1 x0 x1 a2 a3 s0 s1 w

set_option maxRecDepth 100000 in
theorem lifted (os : Os) (started : os.Started) (H : Type) (enc : TypeId × Value → H) :
    ReturnsInHanded {} Try.checked os 6 .any (Rows.objExecSpec.pre6 enc Try.prog Try.f6 Rows.objExecRow.domain false) (Rows.objExecSpec.post enc Try.prog Try.f6 false true false false) := by
  refine returnsInHanded_of_change (C := Try.checked) own started (by kernel_rfl) Try.func6
    (ChangeSpec.witness6 (enc := enc) (C := Try.checked) false ⟨#[], #[.agg #[.int .i64 0, .bool false, .int .i64 0, .int .i64 0, .int .i64 0, .string ⟨#[]⟩], .agg #[.int .i64 0, .bool false, .int .i64 0, .int .i64 0, .int .i64 0, .string ⟨#[]⟩], .bool false, .bool false], []⟩ 8 (by kernel_rfl) (by kernel_rfl) (by kernel_rfl) (by kernel_rfl)) ?_
  intro W base args ds gs before hval0 hW hcnd _
  have hval : ∀ (j : Nat) t v, Try.f6.params[j]? = some t → args[j]? = some v → Value.okWide Try.prog W .any base t v := hval0
  have hW' := hW
  obtain ⟨p, q, hA0, hV, rfl, hfz, hnd⟩ := hW
  have hA : DataW.TrodAll enc Try.prog W 0 (fun _ => true) true Try.f6.params.toList args.toList ds p := hA0
  rw [Try.params6] at hA hval
  obtain ⟨v0, vs0, d0, ds0, p0, q0, hargs, rfl, rfl, h0, r0⟩ := trodAll_cons hA
  obtain ⟨v1, vs1, d1, ds1, p1, q1, rfl, rfl, rfl, h1, r1⟩ := trodAll_cons r0
  obtain ⟨v2, vs2, d2, ds2, p2, q2, rfl, rfl, rfl, h2, r2⟩ := trodAll_cons r1
  obtain ⟨v3, vs3, d3, ds3, p3, q3, rfl, rfl, rfl, h3, r3⟩ := trodAll_cons r2
  obtain ⟨rfl, rfl, rfl⟩ := trodAll_nil r3
  obtain rfl : args = #[v0, v1, v2, v3] := by cases args; simp_all
  obtain ⟨rfl, rfl⟩ := trodVars_none hV
  obtain ⟨k0, x0, n0, a0, l0, s0, rfl, rfl, rfl, wk0, wn0, wa0, wl0, ws0⟩ := open_ob (hval 0 23 v0 rfl rfl) h0
  obtain ⟨k1, x1, n1, a1, l1, s1, rfl, rfl, rfl, wk1, wn1, wa1, wl1, ws1⟩ := open_ob (hval 1 23 v1 rfl rfl) h1
  obtain ⟨a2, rfl, rfl, rfl⟩ := open_bool Try.underlying4 (hval 2 4 v2 rfl rfl) h2
  obtain ⟨a3, rfl, rfl, rfl⟩ := open_bool Try.underlying4 (hval 3 4 v3 rfl rfl) h3
  clear hA0 hval0
  simp only [List.append_nil] at hW'
  refine (walk k0 x0 n0 a0 l0 s0 k1 x1 n1 a1 l1 s1 a2 a3 wk0 wn0 wa0 wl0 wk1 wn1 wa1 wl1 W).mono fun e W' ⟨he, bel⟩ => ?_
  subst he
  exact ⟨_, rfl, _, _, _, [], _, [], hW', trodAll_mk1 (shut_bool Try.underlying4 _), (trodAll_cons_mk (shut_ob wk0 wn0 wa0 wl0 ws0) (trodAll_cons_mk (shut_ob wk1 wn1 wa1 wl1 ws1) (trodAll_cons_mk (shut_bool Try.underlying4 _) (trodAll_cons_mk (shut_bool Try.underlying4 _) trodAll_mk0)))), rfl, bel.frame _, fun h => by cases h⟩

theorem over : Rows.objExecRow.holds Try.pinned (OpenSpec.ofChange Rows.objExecSpec) :=
  OpenClaim.holds_of_wide 6 Try.f6 rfl rfl rfl rfl rfl rfl rfl ⟨rfl, rfl, rfl, rfl, rfl⟩ rfl rfl rfl rfl rfl (by kernel_rfl) Try.func6 (by kernel_rfl)
    (of_decide_eq_true (by kernel_rfl)) (by unfold Func.isWrapper; first | (rw [if_pos (by decide +kernel)]; kernel_rfl) | (rw [if_neg (by decide +kernel)]; exact ⟨rfl, rfl⟩))
    (fun os started H enc _ => lifted os started H enc)

theorem proved : Rows.ObjExecSaid :=
  over
#print axioms proved
end Go.Proofs.Ytelihdgpappklaa.objExec
