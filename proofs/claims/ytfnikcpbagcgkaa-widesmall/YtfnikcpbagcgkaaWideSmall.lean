/- tympanlaw1.WideSmall returns true for every two 32-bit integers, and its arguments read afterwards as before; no condition. -/
import Derived.Test.YtfnikcpbagcgkaaRows
import Derived.WalkKit
import Derived.ProofKit
import Derived.OpenShut
import Derived.ShutString
import Derived.ChangeOld
import Derived.Below
import Derived.Test.YtfnikcpbagcgkaaW7
namespace Go.Proofs.Ytfnikcpbagcgkaa.wideSmall
open Go.ChangeShapes Go.WideShapes Go.ChangeAt Go.RowKit
open Go.ChangeMaps (open_string shut_string)
set_option linter.unusedVariables false      -- a walk need not use every 'w<i>' (that an integer argument fits its kind)

theorem own : ownKnob Try.prog.godebug = none := by kernel_rfl

theorem small_prod (a b : Int) (h1 : -2147483648 ≤ a) (h2 : a ≤ 2147483647) (h3 : -2147483648 ≤ b) (h4 : b ≤ 2147483647) : -4611686018427387904 ≤ a * b ∧ a * b ≤ 4611686018427387904 := by
  have p1 := Int.mul_nonneg (by omega : 0 ≤ a + 2147483648) (by omega : 0 ≤ b + 2147483648)
  have p2 := Int.mul_nonneg (by omega : 0 ≤ 2147483647 - a) (by omega : 0 ≤ 2147483647 - b)
  have p3 := Int.mul_nonneg (by omega : 0 ≤ a + 2147483648) (by omega : 0 ≤ 2147483647 - b)
  have p4 := Int.mul_nonneg (by omega : 0 ≤ 2147483647 - a) (by omega : 0 ≤ b + 2147483648)
  simp only [Int.mul_sub, Int.sub_mul, Int.mul_add, Int.add_mul] at p1 p2 p3 p4
  omega

theorem walk (a0 : Int) (a1 : Int) (w0 : (Lit.int .i32 a0).wf = true) (w1 : (Lit.int .i32 a1).wf = true) (w : World) :
    Calls Try.prog 5 #[.int .i32 a0, .int .i32 a1] w fun e w' => e = .returned (.bool true) ∧ Below w.heap.size w w' := by
  obtain ⟨a0l, a0h⟩ := bounds_i32 w0
  obtain ⟨a1l, a1h⟩ := bounds_i32 w1
  have hK := Lib.hid known_any
  obtain ⟨v0, v1⟩ := small_prod a0 a1 a0l a0h a1l a1h
  have hM := Lib.hid (fun w => mul_any a0 a1 w (by omega) (by omega) (by omega) (by omega))
  obtain ⟨v, hv⟩ : ∃ v, a0 * a1 = v := ⟨_, rfl⟩
  rw [hv] at v0 v1 hM
  by_cases hs : v < 0
  · have e1 : (v / 18446744073709551616 == -1) = true := by simp; omega
    have e2 : (v % 18446744073709551616 == IntKind.u64.wrap v) = true := by rw [wrapu_mod]; simp
    go_enter Try.func5, Try.ntmps5
    go_wp2_with fail
    refine (hK.out _).mono ?_
    rintro e w1 ⟨rfl, k1⟩
    go_wp2_with fail
    refine (hM.out _).mono ?_
    rintro e w2 ⟨rfl, k2⟩
    go_wp2
    go_ret
    exact ⟨rfl, k1.trans (k2.mono k1.size)⟩
  · have e1 : (v / 18446744073709551616 == 0) = true := by simp; omega
    have e2 : (v % 18446744073709551616 == v) = true := by simp; omega
    go_enter Try.func5, Try.ntmps5
    go_wp2_with fail
    refine (hK.out _).mono ?_
    rintro e w1 ⟨rfl, k1⟩
    go_wp2_with fail
    refine (hM.out _).mono ?_
    rintro e w2 ⟨rfl, k2⟩
    go_wp2
    go_ret
    exact ⟨rfl, k1.trans (k2.mono k1.size)⟩

set_option maxRecDepth 100000 in
theorem lifted (os : Os) (started : os.Started) (H : Type) (enc : TypeId × Value → H) :
    ReturnsInHanded {} Try.checked os 5 .any (Rows.wideSmallSpec.pre6 enc Try.prog Try.f5 Rows.wideSmallRow.domain false) (Rows.wideSmallSpec.post enc Try.prog Try.f5 false true false false) := by
  refine returnsInHanded_of_change (C := Try.checked) own started (by kernel_rfl) Try.func5
    (ChangeSpec.witness6 (enc := enc) (C := Try.checked) false ⟨#[], #[.int .i32 0, .int .i32 0], []⟩ 8 (by kernel_rfl) (by kernel_rfl) (by kernel_rfl) (by kernel_rfl)) ?_
  intro W base args ds gs before hval0 hW hcnd _
  have hval : ∀ (j : Nat) t v, Try.f5.params[j]? = some t → args[j]? = some v → Value.okWide Try.prog W .any base t v := hval0
  have hW' := hW
  obtain ⟨p, q, hA0, hV, rfl, hfz, hnd⟩ := hW
  have hA : DataW.TrodAll enc Try.prog W 0 (fun _ => true) true Try.f5.params.toList args.toList ds p := hA0
  rw [Try.params5] at hA hval
  obtain ⟨v0, vs0, d0, ds0, p0, q0, hargs, rfl, rfl, h0, r0⟩ := trodAll_cons hA
  obtain ⟨v1, vs1, d1, ds1, p1, q1, rfl, rfl, rfl, h1, r1⟩ := trodAll_cons r0
  obtain ⟨rfl, rfl, rfl⟩ := trodAll_nil r1
  obtain rfl : args = #[v0, v1] := by cases args; simp_all
  obtain ⟨rfl, rfl⟩ := trodVars_none hV
  obtain ⟨a0, rfl, rfl, rfl, w0⟩ := open_int Try.underlying21 (hval 0 21 v0 rfl rfl) h0
  obtain ⟨a1, rfl, rfl, rfl, w1⟩ := open_int Try.underlying21 (hval 1 21 v1 rfl rfl) h1
  clear hA0 hval0
  simp only [List.append_nil] at hW'
  refine (walk a0 a1 w0 w1 W).mono fun e W' ⟨he, bel⟩ => ?_
  subst he
  exact ⟨_, rfl, _, _, _, [], _, [], hW', trodAll_mk1 (shut_bool Try.underlying4 _), (trodAll_cons_mk (shut_int Try.underlying21 w0) (trodAll_cons_mk (shut_int Try.underlying21 w1) trodAll_mk0)), rfl, bel.frame _, fun h => by cases h⟩

theorem over : Rows.wideSmallRow.holds Try.pinned (OpenSpec.ofChange Rows.wideSmallSpec) :=
  OpenClaim.holds_of_wide 5 Try.f5 rfl rfl rfl rfl rfl rfl rfl ⟨rfl, rfl, rfl, rfl, rfl⟩ rfl rfl rfl rfl rfl (by kernel_rfl) Try.func5 (by kernel_rfl)
    (of_decide_eq_true (by kernel_rfl)) (by unfold Func.isWrapper; first | (rw [if_pos (by decide +kernel)]; kernel_rfl) | (rw [if_neg (by decide +kernel)]; exact ⟨rfl, rfl⟩))
    (fun os started H enc _ => lifted os started H enc)

theorem proved : Rows.WideSmallSaid :=
  over
#print axioms proved
end Go.Proofs.Ytfnikcpbagcgkaa.wideSmall
