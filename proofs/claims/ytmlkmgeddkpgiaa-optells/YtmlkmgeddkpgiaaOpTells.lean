/- Proved: OpTells: Count, Name and Family of every number and Number of every string are what the reference returns; for every integer and every string (a string of more than 300 bytes is let by by the statement itself). -/
import Derived.Test.YtmlkmgeddkpgiaaRows
import Derived.WalkKit
import Derived.ProofKit
import Derived.OpenShut
import Derived.ShutString
import Derived.ChangeOld
import Derived.Below
import Derived.Test.YtmlkmgeddkpgiaaV8
namespace Go.Proofs.Ytmlkmgeddkpgiaa.opTells
open Go.ChangeShapes Go.WideShapes Go.ChangeAt Go.RowKit
open Go.ChangeMaps (open_string shut_string)
set_option linter.unusedVariables false      -- a walk need not use every 'w<i>' (that an integer argument fits its kind)

theorem own : ownKnob Try.prog.godebug = none := by kernel_rfl

theorem walk (a0 : Int) (a1 : ByteArray) (w0 : (Lit.int .i64 a0).wf = true) (w1 : a1.size ≤ maxLen) (w : World) :
    Calls Try.prog 6 #[.int .i64 a0, .string a1] w fun e w' => e = .returned (.bool true) ∧ Below w.heap.size w w' := by
  have b1 : -9223372036854775808 ≤ a0 := (bounds_i64 w0).1
  have b2 : a0 ≤ 9223372036854775807 := (bounds_i64 w0).2
  obtain ⟨x, hx⟩ : ∃ x, (byName a1).1 = x := ⟨_, rfl⟩
  obtain ⟨s, hs⟩ : ∃ s, (byNum a0).2.2 = s := ⟨_, rfl⟩
  obtain ⟨f, hf⟩ : ∃ f, (byNum a0).2.1 = f := ⟨_, rfl⟩
  have n1 := fun w => opNumber a1 w
  have n2 := fun w => ropNumber a1 w
  have m1 := fun w => opName a0 w
  have m2 := fun w => ropName a0 b1 b2 w
  have f1 := fun w => opFamily a0 w
  have f2 := fun w => ropFamily a0 b1 b2 w
  rw [hx] at n1 n2
  rw [hs] at m1 m2
  rw [hf] at f1 f2
  generalize decide (0 < x) = y at n1 n2
  clear hx hs hf b1 b2 w0 w1
  go_enter Try.func6, Try.ntmps6
  go_wp2_with fail
  refine (opKnown w).mono ?_
  rintro e wa ⟨rfl, ka⟩
  by_cases hq : 300 < a1.size
  · go_wp2
    go_ret
    exact ⟨rfl, ka⟩
  · go_wp2_with fail
    refine (n1 wa).mono ?_
    rintro e wb ⟨rfl, kb⟩
    go_wp2_with fail
    refine (n2 wb).mono ?_
    rintro e wc ⟨rfl, kc⟩
    go_wp2_with fail
    refine (opCount wc).mono ?_
    rintro e wd ⟨rfl, kd⟩
    go_wp2_with fail
    refine (ropCount wd).mono ?_
    rintro e we ⟨rfl, ke⟩
    have K1 := Lib.hid (below_and (below_and (below_and (below_and ka kb) kc) kd) ke)
    clear ka kb kc kd ke
    go_wp2_with fail
    refine (m1 we).mono ?_
    rintro e wf ⟨rfl, kf⟩
    go_wp2_with fail
    refine (m2 wf).mono ?_
    rintro e wg ⟨rfl, kg⟩
    go_wp2_with fail
    refine (f1 wg).mono ?_
    rintro e wh ⟨rfl, kh⟩
    go_wp2_with fail
    refine (f2 wh).mono ?_
    rintro e wi ⟨rfl, ki⟩
    have K2 := Lib.hid (below_and (below_and (below_and (below_and K1.out kf) kg) kh) ki)
    clear K1 kf kg kh ki
    go_wp2
    go_ret
    exact ⟨rfl, K2.out⟩

set_option maxRecDepth 100000 in
theorem lifted (os : Os) (started : os.Started) (H : Type) (enc : TypeId × Value → H) :
    ReturnsInHanded {} Try.checked os 6 .any (Rows.opTellsSpec.pre6 enc Try.prog Try.f6 Rows.opTellsRow.domain false) (Rows.opTellsSpec.post enc Try.prog Try.f6 false true false false) := by
  refine returnsInHanded_of_change (C := Try.checked) own started (by kernel_rfl) Try.func6
    (ChangeSpec.witness6 (enc := enc) (C := Try.checked) false ⟨#[], #[.int .i64 0, .string ByteArray.empty], []⟩ 8 (by kernel_rfl) (by kernel_rfl) (by kernel_rfl) (by kernel_rfl)) ?_
  intro W base args ds gs before hval0 hW hcnd _
  have hval : ∀ (j : Nat) t v, Try.f6.params[j]? = some t → args[j]? = some v → Value.okWide Try.prog W .any base t v := hval0
  have hW' := hW
  obtain ⟨p, q, hA0, hV, rfl, hfz, hnd⟩ := hW
  have hA : DataW.TrodAll enc Try.prog W 0 (fun _ => true) true Try.f6.params.toList args.toList ds p := hA0
  rw [Try.params6] at hA hval
  obtain ⟨v0, vs0, d0, ds0, p0, q0, hargs, rfl, rfl, h0, r0⟩ := trodAll_cons hA
  obtain ⟨v1, vs1, d1, ds1, p1, q1, rfl, rfl, rfl, h1, r1⟩ := trodAll_cons r0
  obtain ⟨rfl, rfl, rfl⟩ := trodAll_nil r1
  obtain rfl : args = #[v0, v1] := by cases args; simp_all
  obtain ⟨rfl, rfl⟩ := trodVars_none hV
  obtain ⟨a0, rfl, rfl, rfl, w0⟩ := open_int Try.underlying3 (hval 0 3 v0 rfl rfl) h0
  obtain ⟨a1, rfl, rfl, rfl, w1⟩ := open_string Try.underlying9 (hval 1 9 v1 rfl rfl) h1
  clear hA0 hval0
  simp only [List.append_nil] at hW'
  refine (walk a0 a1 w0 w1 W).mono fun e W' ⟨he, bel⟩ => ?_
  subst he
  exact ⟨_, rfl, _, _, _, [], _, [], hW', trodAll_mk1 (shut_bool Try.underlying4 _), (trodAll_cons_mk (shut_int Try.underlying3 w0) (trodAll_cons_mk (shut_string Try.underlying9 w1) trodAll_mk0)), rfl, bel.frame _, fun h => by cases h⟩

theorem over : Rows.opTellsRow.holds Try.pinned (OpenSpec.ofChange Rows.opTellsSpec) :=
  OpenClaim.holds_of_wide 6 Try.f6 rfl rfl rfl rfl rfl rfl rfl ⟨rfl, rfl, rfl, rfl, rfl⟩ rfl rfl rfl rfl rfl (by kernel_rfl) Try.func6 (by kernel_rfl)
    (of_decide_eq_true (by kernel_rfl)) (by unfold Func.isWrapper; first | (rw [if_pos (by decide +kernel)]; kernel_rfl) | (rw [if_neg (by decide +kernel)]; exact ⟨rfl, rfl⟩))
    (fun os started H enc _ => lifted os started H enc)

theorem proved : Rows.OpTellsSaid :=
  over
#print axioms proved
end Go.Proofs.Ytmlkmgeddkpgiaa.opTells
