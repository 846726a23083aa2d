/- Proved: OpNames: there are 162 operators with different names that are not empty, Number of Name of each number is the number, families rise and lie from 1 to 6, and there is none at 0 or behind the last; for all two bytes. -/
import Derived.Test.YtmlkmgeddkpgiaaRows
import Derived.WalkKit
import Derived.ProofKit
import Derived.OpenShut
import Derived.ShutString
import Derived.ChangeOld
import Derived.Below
import Derived.Test.YtmlkmgeddkpgiaaV8
namespace Go.Proofs.Ytmlkmgeddkpgiaa.opNames
open Go.ChangeShapes Go.WideShapes Go.ChangeAt Go.RowKit
open Go.ChangeMaps (open_string shut_string)
set_option linter.unusedVariables false      -- a walk need not use every 'w<i>' (that an integer argument fits its kind)

theorem own : ownKnob Try.prog.godebug = none := by kernel_rfl

set_option maxRecDepth 100000 in
theorem names_ne : (List.range 162).all (fun i => !((refAll.getD i ⟨#[]⟩).toList == (⟨#[]⟩ : ByteArray).toList)) = true := by kernel_rfl
set_option maxRecDepth 100000 in
theorem names_back : (List.range 162).all (fun i => (byName (refAll.getD i ⟨#[]⟩)).1 == (i : Int) + 1) = true := by kernel_rfl
set_option maxRecDepth 100000 in
theorem names_apart : (List.range 162).all (fun i => (List.range 162).all fun j => ((refAll.getD i ⟨#[]⟩).toList == (refAll.getD j ⟨#[]⟩).toList) == (i == j)) = true := by kernel_rfl
theorem all_range {n : Nat} {p : Nat → Bool} (h : (List.range n).all p = true) (i : Nat) (hi : i < n) : p i = true := List.all_eq_true.1 h i (List.mem_range.2 hi)
theorem fam_rises (i j : Nat) (hj : j < 162) (h : i ≤ j) : famE i ≤ famE j ∧ 1 ≤ famE i ∧ famE j ≤ 6 := by
  unfold famE
  refine ⟨?_, ?_, ?_⟩ <;> (repeat' split) <;> omega
/-- What is asked of each number. -/
structure OpFacts (x : Int) (s : ByteArray) (f : Int) : Prop where
  name : ∀ w, Calls Try.prog 61 #[.int .i64 x] w fun e w' => e = .returned (.string s) ∧ Below w.heap.size w w'
  number : ∀ w, Calls Try.prog 57 #[.string s] w fun e w' => e = .returned (.tuple #[.int .i64 x, .bool true]) ∧ Below w.heap.size w w'
  family : ∀ w, Calls Try.prog 63 #[.int .i64 x] w fun e w' => e = .returned (.int .i64 f) ∧ Below w.heap.size w w'
  some : ¬ s.toList = []
  low : 1 ≤ f
  high : f ≤ 6
set_option maxRecDepth 100000 in
theorem facts_of (i : Nat) (h : i < 162) : OpFacts ((i : Int) + 1) (refAll.getD i ⟨#[]⟩) (famE i) := by
  have e := byNum_in ((i : Int) + 1) (by omega) (by omega)
  rw [show ((i : Int) + 1 - 1).toNat = i from by omega] at e
  have hb := eq_of_beq (all_range names_back i h)
  refine ⟨fun w => name_core _ w (Lib.hid e), fun w => (opNumber (refAll.getD i ⟨#[]⟩) w).mono fun e w' g => ⟨?_, g.2⟩, fun w => family_core _ w (Lib.hid e), fun e => by
    have h1 := all_range names_ne i h
    have h2 : (⟨#[]⟩ : ByteArray).toList = [] := by kernel_rfl
    rw [e, h2] at h1
    simp at h1, (fam_rises i i h (Nat.le_refl _)).2.1, (fam_rises i i h (Nat.le_refl _)).2.2⟩
  rw [g.1, hb, decide_eq_true (by omega)]
theorem byName_none : byName ⟨#[]⟩ = (0, 0, ⟨#[]⟩) := by kernel_rfl
set_option maxHeartbeats 2000000 in
set_option maxRecDepth 100000 in
theorem opNamesCore (a b X Y x y : Int) (h1 : 0 ≤ a) (h2 : a ≤ 255) (h3 : 0 ≤ b) (h4 : b ≤ 255) (eX : Int.tmod a 162 = X) (eY : Int.tmod b 162 = Y) (wx : IntKind.i64.wrap (1 + X) = x) (wy : IntKind.i64.wrap (1 + Y) = y)
    (s t : ByteArray) (f g : Int) (FX : Hid (OpFacts x s f)) (FY : Hid (OpFacts y t g)) (st ts xy : Bool) (hst : (s.toList == t.toList) = st) (hts : (t.toList == s.toList) = st) (hxy : (x == y) = st) (hyx : (y == x) = st)
    (hfg : Hid (x ≤ y → f ≤ g)) (hgf : Hid (y ≤ x → g ≤ f)) (w : World) :
    Calls Try.prog 7 #[.int .u8 a, .int .u8 b] w fun e w' => e = .returned (.bool true) ∧ Below w.heap.size w w' := by
  have N0 := Lib.hid (byNum_out 0 (.inl (by omega)))
  have N1 := Lib.hid (byNum_out 163 (.inr (by omega)))
  go_enter Try.func7, Try.ntmps7
  go_wp2_with fail
  refine (opKnown w).mono ?_
  rintro e w1 ⟨rfl, k1⟩
  go_wp2_with fail
  refine (opCount w1).mono ?_
  rintro e w2 ⟨rfl, k2⟩
  have K2 := Lib.hid (below_and k1 k2)
  clear k1 k2
  go_wp2_with fail
  go_quiet (fail)
  have KK := Lib.hid (below_and K2.out (below_drewN w2 nq))
  clear K2
  generalize w2.drewN nq = w3 at KK
  go_wp2_with fail
  refine (FX.out.name w3).mono ?_
  rintro e w4 ⟨rfl, k⟩
  replace KK := Lib.hid (below_and KK.out k)
  clear k
  go_wp2_with fail
  refine (FX.out.number w4).mono ?_
  rintro e w5 ⟨rfl, k⟩
  replace KK := Lib.hid (below_and KK.out k)
  clear k
  go_wp2_with fail
  refine ((opNumber ⟨#[]⟩) w5).mono ?_
  rw [byName_none]
  rintro e w6 ⟨rfl, k⟩
  replace KK := Lib.hid (below_and KK.out k)
  clear k
  by_cases hgt : x > y
  · have low := FY.out.low
    have high := FX.out.high
    have hs := FY.out.some
    have fg := hgf.out (by omega)
    go_wp2_with fail
    refine (FY.out.name w6).mono ?_
    rintro e w7 ⟨rfl, k⟩
    replace KK := Lib.hid (below_and KK.out k)
    clear k
    go_wp2_with fail
    refine (FY.out.name w7).mono ?_
    rintro e w8 ⟨rfl, k⟩
    replace KK := Lib.hid (below_and KK.out k)
    clear k
    go_wp2_with fail
    refine (FX.out.name w8).mono ?_
    rintro e w9 ⟨rfl, k⟩
    replace KK := Lib.hid (below_and KK.out k)
    clear k
    go_wp2_with fail
    refine (FY.out.family w9).mono ?_
    rintro e w10 ⟨rfl, k⟩
    replace KK := Lib.hid (below_and KK.out k)
    clear k
    go_wp2_with fail
    refine (FX.out.family w10).mono ?_
    rintro e w11 ⟨rfl, k⟩
    replace KK := Lib.hid (below_and KK.out k)
    clear k
    go_wp2_with fail
    refine (FY.out.family w11).mono ?_
    rintro e w12 ⟨rfl, k⟩
    replace KK := Lib.hid (below_and KK.out k)
    clear k
    go_wp2_with fail
    refine (FX.out.family w12).mono ?_
    rintro e w13 ⟨rfl, k⟩
    replace KK := Lib.hid (below_and KK.out k)
    clear k
    go_wp2_with fail
    refine (name_core 0 w13 (f := 0) (n := 0) (s := ⟨#[]⟩) N0).mono ?_
    rintro e w14 ⟨rfl, k⟩
    replace KK := Lib.hid (below_and KK.out k)
    clear k
    go_wp2_with fail
    refine (name_core 163 w14 (f := 0) (n := 0) (s := ⟨#[]⟩) N1).mono ?_
    rintro e w15 ⟨rfl, k⟩
    replace KK := Lib.hid (below_and KK.out k)
    clear k
    go_wp2_with fail
    refine (family_core 163 w15 (f := 0) (n := 0) (s := ⟨#[]⟩) N1).mono ?_
    rintro e w16 ⟨rfl, k⟩
    replace KK := Lib.hid (below_and KK.out k)
    clear k
    go_wp2
    go_ret
    exact ⟨ret_bool (by simpa using hs), KK.out⟩
  · have low := FX.out.low
    have high := FY.out.high
    have hs := FX.out.some
    have fg := hfg.out (by omega)
    go_wp2_with fail
    refine (FX.out.name w6).mono ?_
    rintro e w7 ⟨rfl, k⟩
    replace KK := Lib.hid (below_and KK.out k)
    clear k
    go_wp2_with fail
    refine (FX.out.name w7).mono ?_
    rintro e w8 ⟨rfl, k⟩
    replace KK := Lib.hid (below_and KK.out k)
    clear k
    go_wp2_with fail
    refine (FY.out.name w8).mono ?_
    rintro e w9 ⟨rfl, k⟩
    replace KK := Lib.hid (below_and KK.out k)
    clear k
    go_wp2_with fail
    refine (FX.out.family w9).mono ?_
    rintro e w10 ⟨rfl, k⟩
    replace KK := Lib.hid (below_and KK.out k)
    clear k
    go_wp2_with fail
    refine (FY.out.family w10).mono ?_
    rintro e w11 ⟨rfl, k⟩
    replace KK := Lib.hid (below_and KK.out k)
    clear k
    go_wp2_with fail
    refine (FX.out.family w11).mono ?_
    rintro e w12 ⟨rfl, k⟩
    replace KK := Lib.hid (below_and KK.out k)
    clear k
    go_wp2_with fail
    refine (FY.out.family w12).mono ?_
    rintro e w13 ⟨rfl, k⟩
    replace KK := Lib.hid (below_and KK.out k)
    clear k
    go_wp2_with fail
    refine (name_core 0 w13 (f := 0) (n := 0) (s := ⟨#[]⟩) N0).mono ?_
    rintro e w14 ⟨rfl, k⟩
    replace KK := Lib.hid (below_and KK.out k)
    clear k
    go_wp2_with fail
    refine (name_core 163 w14 (f := 0) (n := 0) (s := ⟨#[]⟩) N1).mono ?_
    rintro e w15 ⟨rfl, k⟩
    replace KK := Lib.hid (below_and KK.out k)
    clear k
    go_wp2_with fail
    refine (family_core 163 w15 (f := 0) (n := 0) (s := ⟨#[]⟩) N1).mono ?_
    rintro e w16 ⟨rfl, k⟩
    replace KK := Lib.hid (below_and KK.out k)
    clear k
    go_wp2
    go_ret
    exact ⟨ret_bool (by simpa using hs), KK.out⟩
theorem place_of (a : Int) (h1 : 0 ≤ a) (h2 : a ≤ 255) : ∃ i : Nat, i < 162 ∧ Int.tmod a 162 = (i : Int) ∧ IntKind.i64.wrap (1 + (i : Int)) = (i : Int) + 1 := by
  refine ⟨(Int.tmod a 162).toNat, ?_, ?_, ?_⟩ <;> rw [Int.tmod_eq_emod_of_nonneg h1]
  · omega
  · omega
  · rw [IntWalk.i64_in _ (by omega)]; omega
theorem walk (a0 : Int) (a1 : Int) (w0 : (Lit.int .u8 a0).wf = true) (w1 : (Lit.int .u8 a1).wf = true) (w : World) :
    Calls Try.prog 7 #[.int .u8 a0, .int .u8 a1] w fun e w' => e = .returned (.bool true) ∧ Below w.heap.size w w' := by
  obtain ⟨h1, h2⟩ := bounds_u8 w0
  obtain ⟨h3, h4⟩ := bounds_u8 w1
  obtain ⟨i, hi, eX, wx⟩ := place_of a0 h1 h2
  obtain ⟨j, hj, eY, wy⟩ := place_of a1 h3 h4
  have hap := all_range (all_range names_apart i hi) j hj
  have hpa := all_range (all_range names_apart j hj) i hi
  have e1 : ((i : Int) + 1 == (j : Int) + 1) = (i == j) := by rw [Bool.eq_iff_iff, beq_iff_eq, beq_iff_eq]; omega
  have e2 : ((j : Int) + 1 == (i : Int) + 1) = (i == j) := by rw [Bool.eq_iff_iff, beq_iff_eq, beq_iff_eq]; omega
  have e3 : (j == i) = (i == j) := by rw [Bool.eq_iff_iff, beq_iff_eq, beq_iff_eq]; omega
  exact opNamesCore a0 a1 i j ((i : Int) + 1) ((j : Int) + 1) h1 h2 h3 h4 eX eY wx wy _ _ _ _ (Lib.hid (facts_of i hi)) (Lib.hid (facts_of j hj)) (i == j) (i == j) (i == j) (eq_of_beq hap) ((eq_of_beq hpa).trans e3) e1 e2
    (Lib.hid fun h => (fam_rises i j hj (by omega)).1) (Lib.hid fun h => (fam_rises j i hi (by omega)).1) w

set_option maxRecDepth 100000 in
theorem lifted (os : Os) (started : os.Started) (H : Type) (enc : TypeId × Value → H) :
    ReturnsInHanded {} Try.checked os 7 .any (Rows.opNamesSpec.pre6 enc Try.prog Try.f7 Rows.opNamesRow.domain false) (Rows.opNamesSpec.post enc Try.prog Try.f7 false true false false) := by
  refine returnsInHanded_of_change (C := Try.checked) own started (by kernel_rfl) Try.func7
    (ChangeSpec.witness6 (enc := enc) (C := Try.checked) false ⟨#[], #[.int .u8 0, .int .u8 0], []⟩ 8 (by kernel_rfl) (by kernel_rfl) (by kernel_rfl) (by kernel_rfl)) ?_
  intro W base args ds gs before hval0 hW hcnd _
  have hval : ∀ (j : Nat) t v, Try.f7.params[j]? = some t → args[j]? = some v → Value.okWide Try.prog W .any base t v := hval0
  have hW' := hW
  obtain ⟨p, q, hA0, hV, rfl, hfz, hnd⟩ := hW
  have hA : DataW.TrodAll enc Try.prog W 0 (fun _ => true) true Try.f7.params.toList args.toList ds p := hA0
  rw [Try.params7] at hA hval
  obtain ⟨v0, vs0, d0, ds0, p0, q0, hargs, rfl, rfl, h0, r0⟩ := trodAll_cons hA
  obtain ⟨v1, vs1, d1, ds1, p1, q1, rfl, rfl, rfl, h1, r1⟩ := trodAll_cons r0
  obtain ⟨rfl, rfl, rfl⟩ := trodAll_nil r1
  obtain rfl : args = #[v0, v1] := by cases args; simp_all
  obtain ⟨rfl, rfl⟩ := trodVars_none hV
  obtain ⟨a0, rfl, rfl, rfl, w0⟩ := open_int Try.underlying5 (hval 0 5 v0 rfl rfl) h0
  obtain ⟨a1, rfl, rfl, rfl, w1⟩ := open_int Try.underlying5 (hval 1 5 v1 rfl rfl) h1
  clear hA0 hval0
  simp only [List.append_nil] at hW'
  refine (walk a0 a1 w0 w1 W).mono fun e W' ⟨he, bel⟩ => ?_
  subst he
  exact ⟨_, rfl, _, _, _, [], _, [], hW', trodAll_mk1 (shut_bool Try.underlying4 _), (trodAll_cons_mk (shut_int Try.underlying5 w0) (trodAll_cons_mk (shut_int Try.underlying5 w1) trodAll_mk0)), rfl, bel.frame _, fun h => by cases h⟩

theorem over : Rows.opNamesRow.holds Try.pinned (OpenSpec.ofChange Rows.opNamesSpec) :=
  OpenClaim.holds_of_wide 7 Try.f7 rfl rfl rfl rfl rfl rfl rfl ⟨rfl, rfl, rfl, rfl, rfl⟩ rfl rfl rfl rfl rfl (by kernel_rfl) Try.func7 (by kernel_rfl)
    (of_decide_eq_true (by kernel_rfl)) (by unfold Func.isWrapper; first | (rw [if_pos (by decide +kernel)]; kernel_rfl) | (rw [if_neg (by decide +kernel)]; exact ⟨rfl, rfl⟩))
    (fun os started H enc _ => lifted os started H enc)

theorem proved : Rows.OpNamesSaid :=
  over
#print axioms proved
end Go.Proofs.Ytmlkmgeddkpgiaa.opNames
