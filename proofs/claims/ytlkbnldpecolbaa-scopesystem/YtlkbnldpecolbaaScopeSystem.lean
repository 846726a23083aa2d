/- ScopeSystem -/
import Derived.Test.YtlkbnldpecolbaaRows
import Derived.WalkKit
import Derived.ProofKit
import Derived.OpenShut
import Derived.ShutString
import Derived.ChangeOld
import Derived.Below
import Derived.Test.YtlkbnldpecolbaaPE
import Derived.Test.YtlkbnldpecolbaaO9
namespace Go.Proofs.Ytlkbnldpecolbaa.scopeSystem
open Go.ChangeShapes Go.WideShapes Go.ChangeAt Go.RowKit
open Go.ChangeMaps (open_string shut_string)
set_option linter.unusedVariables false

theorem own : ownKnob Try.prog.godebug = none := by kernel_rfl

theorem walk (a0 : Int) (k1 : Int) (x1 : Bool) (n1 a1 l1 : Int) (s1 : ByteArray) (w0 : (Lit.int .u8 a0).wf = true) (wk1 : (Lit.int .i64 k1).wf = true) (wn1 : (Lit.int .i64 n1).wf = true) (wa1 : (Lit.int .i64 a1).wf = true) (wl1 : (Lit.int .i64 l1).wf = true) (w : World) :
    Calls Try.prog 5 #[.int .u8 a0, .agg #[.int .i64 k1, .bool x1, .int .i64 n1, .int .i64 a1, .int .i64 l1, .string s1]] w fun e w' => e = .returned (.bool true) ∧ Below w.heap.size w w' :=
  system_core a0 (bounds_u8 w0).1 (bounds_u8 w0).2 k1 x1 n1 a1 l1 s1 w

set_option maxRecDepth 100000 in
theorem lifted (os : Os) (started : os.Started) (H : Type) (enc : TypeId × Value → H) :
    ReturnsInHanded {} Try.checked os 5 .any (Rows.scopeSystemSpec.pre6 enc Try.prog Try.f5 Rows.scopeSystemRow.domain false) (Rows.scopeSystemSpec.post enc Try.prog Try.f5 false true false false) := by
  refine returnsInHanded_of_change (C := Try.checked) own started (by kernel_rfl) Try.func5
    (ChangeSpec.witness6 (enc := enc) (C := Try.checked) false ⟨#[], #[.int .u8 0, .agg #[.int .i64 0, .bool false, .int .i64 0, .int .i64 0, .int .i64 0, .string ⟨#[]⟩]], []⟩ 8 (by kernel_rfl) (by kernel_rfl) (by kernel_rfl) (by kernel_rfl)) ?_
  intro W base args ds gs before hval0 hW hcnd _
  have hval : ∀ (j : Nat) t v, Try.f5.params[j]? = some t → args[j]? = some v → Value.okWide Try.prog W .any base t v := hval0
  have hW' := hW
  obtain ⟨p, q, hA0, hV, rfl, hfz, hnd⟩ := hW
  have hA : DataW.TrodAll enc Try.prog W 0 (fun _ => true) true Try.f5.params.toList args.toList ds p := hA0
  rw [Try.params5] at hA hval
  obtain ⟨v0, vs0, d0, ds0, p0, q0, hargs, rfl, rfl, h0, r0⟩ := trodAll_cons hA
  obtain ⟨v1, vs1, d1, ds1, p1, q1, rfl, rfl, rfl, h1, r1⟩ := trodAll_cons r0
  obtain ⟨rfl, rfl, rfl⟩ := trodAll_nil r1
  obtain rfl : args = #[v0, v1] := by cases args; simp_all
  obtain ⟨rfl, rfl⟩ := trodVars_none hV
  obtain ⟨a0, rfl, rfl, rfl, w0⟩ := open_int Try.underlying5 (hval 0 5 v0 rfl rfl) h0
  obtain ⟨k1, x1, n1, a1, l1, s1, rfl, rfl, rfl, wk1, wn1, wa1, wl1, ws1⟩ := open_ob (hval 1 30 v1 rfl rfl) h1
  clear hA0 hval0
  simp only [List.append_nil] at hW'
  refine (walk a0 k1 x1 n1 a1 l1 s1 w0 wk1 wn1 wa1 wl1 W).mono fun e W' ⟨he, bel⟩ => ?_
  subst he
  exact ⟨_, rfl, _, _, _, [], _, [], hW', trodAll_mk1 (shut_bool Try.underlying4 _), (trodAll_cons_mk (shut_int Try.underlying5 w0) (trodAll_cons_mk (shut_ob wk1 wn1 wa1 wl1 ws1) trodAll_mk0)), rfl, bel.frame _, fun h => by cases h⟩

theorem over : Rows.scopeSystemRow.holds Try.pinned (OpenSpec.ofChange Rows.scopeSystemSpec) :=
  OpenClaim.holds_of_wide 5 Try.f5 rfl rfl rfl rfl rfl rfl rfl ⟨rfl, rfl, rfl, rfl, rfl⟩ rfl rfl rfl rfl rfl (by kernel_rfl) Try.func5 (by kernel_rfl)
    (of_decide_eq_true (by kernel_rfl)) (by unfold Func.isWrapper; first | (rw [if_pos (by decide +kernel)]; kernel_rfl) | (rw [if_neg (by decide +kernel)]; exact ⟨rfl, rfl⟩))
    (fun os started H enc _ => lifted os started H enc)

theorem proved : Rows.ScopeSystemSaid :=
  over
#print axioms proved
end Go.Proofs.Ytlkbnldpecolbaa.scopeSystem
