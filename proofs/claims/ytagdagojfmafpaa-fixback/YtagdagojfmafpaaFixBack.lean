/- tympanlaw3.FixBack returns true for every two integers, and its arguments read afterwards as before; no condition. -/
import Derived.Test.YtagdagojfmafpaaRows
import Derived.WalkKit
import Derived.ProofKit
import Derived.OpenShut
import Derived.ShutString
import Derived.ChangeOld
import Derived.Below
import Derived.Test.YtagdagojfmafpaaF4
namespace Go.Proofs.Ytagdagojfmafpaa.fixBack
open Go.ChangeShapes Go.WideShapes Go.ChangeAt Go.RowKit
open Go.ChangeMaps (open_string shut_string)
set_option linter.unusedVariables false      -- a walk need not use every 'w<i>' (that an integer argument fits its kind)

theorem own : ownKnob Try.prog.godebug = none := by kernel_rfl

theorem may_yes (x : Int) (x0 : -1073741823 ≤ x) (x1 : x ≤ 1073741823) : mayF x = true := (may_iff x).2 ⟨x0, x1⟩
theorem near_exact (x d : Int) (hd : 0 < d) : near (x * d) d = x := by
  have e1 : sdiv (x * d) d = x := by rw [sdiv_pos _ _ hd, Int.mul_ediv_cancel _ (by omega)]
  have e2 : smod (x * d) d = 0 := by rw [smod_pos _ _ hd, Int.mul_emod_left]
  unfold near
  rw [e1, e2, if_pos (by have := mag_pos d (by omega); omega)]

abbrev Two (k : Nat) (x y v : Int) (t : Bool) : Prop := ∀ w, Calls Try.prog k #[.int .i64 x, .int .i64 y] w fun e w' => e = .returned (.tuple #[.int .i64 v, .bool t]) ∧ Below w.heap.size w w'

set_option maxHeartbeats 2000000 in
theorem core_in (a b x y p : Int) (up : Bool) (w : World) (x0 : -1073741823 ≤ x) (x1 : x ≤ 1073741823) (y0 : -1073741823 ≤ y) (y1 : y ≤ 1073741823) (s0 : -1073741823 ≤ x + y) (s1 : x + y ≤ 1073741823)
    (h1 : Hid (∀ w, Calls Try.prog 31 #[.int .i64 a] w fun e w' => e = .returned (.int .i64 x) ∧ w = w'))
    (h2 : Hid (∀ w, Calls Try.prog 31 #[.int .i64 b] w fun e w' => e = .returned (.int .i64 y) ∧ w = w'))
    (h3 : Hid (∀ w, Calls Try.prog 11 #[.int .i64 x, .int .i64 y] w fun e w' => e = .returned (.tuple #[.int .i64 (x + y), .bool true]) ∧ w = w'))
    (h4 : Hid (∀ w, Calls Try.prog 13 #[.int .i64 (x + y), .int .i64 y] w fun e w' => e = .returned (.tuple #[.int .i64 x, .bool true]) ∧ w = w'))
    (h5 : Hid (Two 15 x 65536 x true)) (h6 : Hid (Two 17 x 65536 x true)) (h7 : Hid (Two 15 x y p up)) (h8 : Hid (Two 15 y x p up)) (h9 : Hid (Two 17 x 0 0 false)) :
    Calls Try.prog 4 #[.int .i64 a, .int .i64 b] w fun e w' => e = .returned (.bool true) ∧ Below w.heap.size w w' := by
  have hK := Lib.hid known_any
  go_enter Try.func4, Try.ntmps4
  go_wp2_with fail
  refine (hK.out _).mono ?_
  rintro e w1 ⟨rfl, k1⟩
  go_wp2_with fail
  refine (h1.out _).mono ?_
  rintro e w' ⟨rfl, rfl⟩
  go_wp2_with fail
  refine (h2.out _).mono ?_
  rintro e w' ⟨rfl, rfl⟩
  go_wp2_with fail
  refine (h3.out _).mono ?_
  rintro e w' ⟨rfl, rfl⟩
  go_wp2_with fail
  refine (h4.out _).mono ?_
  rintro e w' ⟨rfl, rfl⟩
  go_wp2_with fail
  refine (h5.out _).mono ?_
  rintro e w5 ⟨rfl, k5⟩
  go_wp2_with fail
  refine (h6.out _).mono ?_
  rintro e w6 ⟨rfl, k6⟩
  go_wp2_with fail
  refine (h7.out _).mono ?_
  rintro e w7 ⟨rfl, k7⟩
  go_wp2_with fail
  refine (h8.out _).mono ?_
  rintro e w8 ⟨rfl, k8⟩
  go_wp2_with fail
  refine (h9.out _).mono ?_
  rintro e w9 ⟨rfl, k9⟩
  go_wp2
  go_ret
  have z1 := k1.size; have z5 := k5.size; have z6 := k6.size; have z7 := k7.size; have z8 := k8.size
  exact ⟨rfl, ((((k1.trans (k5.mono (by omega))).trans (k6.mono (by omega))).trans (k7.mono (by omega))).trans (k8.mono (by omega))).trans (k9.mono (by omega))⟩

set_option maxHeartbeats 2000000 in
theorem core_out (a b x y p t : Int) (up is : Bool) (w : World) (x0 : -1073741823 ≤ x) (x1 : x ≤ 1073741823) (y0 : -1073741823 ≤ y) (y1 : y ≤ 1073741823) (s0 : x + y < -1073741823 ∨ 1073741823 < x + y)
    (h1 : Hid (∀ w, Calls Try.prog 31 #[.int .i64 a] w fun e w' => e = .returned (.int .i64 x) ∧ w = w'))
    (h2 : Hid (∀ w, Calls Try.prog 31 #[.int .i64 b] w fun e w' => e = .returned (.int .i64 y) ∧ w = w'))
    (h3 : Hid (∀ w, Calls Try.prog 11 #[.int .i64 x, .int .i64 y] w fun e w' => e = .returned (.tuple #[.int .i64 0, .bool false]) ∧ w = w'))
    (h4 : Hid (∀ w, Calls Try.prog 13 #[.int .i64 0, .int .i64 y] w fun e w' => e = .returned (.tuple #[.int .i64 t, .bool is]) ∧ w = w'))
    (h5 : Hid (Two 15 x 65536 x true)) (h6 : Hid (Two 17 x 65536 x true)) (h7 : Hid (Two 15 x y p up)) (h8 : Hid (Two 15 y x p up)) (h9 : Hid (Two 17 x 0 0 false)) :
    Calls Try.prog 4 #[.int .i64 a, .int .i64 b] w fun e w' => e = .returned (.bool true) ∧ Below w.heap.size w w' := by
  have hK := Lib.hid known_any
  rcases s0 with s0 | s0
  · go_enter Try.func4, Try.ntmps4
    go_wp2_with fail
    refine (hK.out _).mono ?_
    rintro e w1 ⟨rfl, k1⟩
    go_wp2_with fail
    refine (h1.out _).mono ?_
    rintro e w' ⟨rfl, rfl⟩
    go_wp2_with fail
    refine (h2.out _).mono ?_
    rintro e w' ⟨rfl, rfl⟩
    go_wp2_with fail
    refine (h3.out _).mono ?_
    rintro e w' ⟨rfl, rfl⟩
    go_wp2_with fail
    refine (h4.out _).mono ?_
    rintro e w' ⟨rfl, rfl⟩
    go_wp2_with fail
    refine (h5.out _).mono ?_
    rintro e w5 ⟨rfl, k5⟩
    go_wp2_with fail
    refine (h6.out _).mono ?_
    rintro e w6 ⟨rfl, k6⟩
    go_wp2_with fail
    refine (h7.out _).mono ?_
    rintro e w7 ⟨rfl, k7⟩
    go_wp2_with fail
    refine (h8.out _).mono ?_
    rintro e w8 ⟨rfl, k8⟩
    go_wp2_with fail
    refine (h9.out _).mono ?_
    rintro e w9 ⟨rfl, k9⟩
    go_wp2
    go_ret
    have z1 := k1.size; have z5 := k5.size; have z6 := k6.size; have z7 := k7.size; have z8 := k8.size
    exact ⟨rfl, ((((k1.trans (k5.mono (by omega))).trans (k6.mono (by omega))).trans (k7.mono (by omega))).trans (k8.mono (by omega))).trans (k9.mono (by omega))⟩
  · go_enter Try.func4, Try.ntmps4
    go_wp2_with fail
    refine (hK.out _).mono ?_
    rintro e w1 ⟨rfl, k1⟩
    go_wp2_with fail
    refine (h1.out _).mono ?_
    rintro e w' ⟨rfl, rfl⟩
    go_wp2_with fail
    refine (h2.out _).mono ?_
    rintro e w' ⟨rfl, rfl⟩
    go_wp2_with fail
    refine (h3.out _).mono ?_
    rintro e w' ⟨rfl, rfl⟩
    go_wp2_with fail
    refine (h4.out _).mono ?_
    rintro e w' ⟨rfl, rfl⟩
    go_wp2_with fail
    refine (h5.out _).mono ?_
    rintro e w5 ⟨rfl, k5⟩
    go_wp2_with fail
    refine (h6.out _).mono ?_
    rintro e w6 ⟨rfl, k6⟩
    go_wp2_with fail
    refine (h7.out _).mono ?_
    rintro e w7 ⟨rfl, k7⟩
    go_wp2_with fail
    refine (h8.out _).mono ?_
    rintro e w8 ⟨rfl, k8⟩
    go_wp2_with fail
    refine (h9.out _).mono ?_
    rintro e w9 ⟨rfl, k9⟩
    go_wp2
    go_ret
    have z1 := k1.size; have z5 := k5.size; have z6 := k6.size; have z7 := k7.size; have z8 := k8.size
    exact ⟨rfl, ((((k1.trans (k5.mono (by omega))).trans (k6.mono (by omega))).trans (k7.mono (by omega))).trans (k8.mono (by omega))).trans (k9.mono (by omega))⟩

theorem walk (a0 : Int) (a1 : Int) (w0 : (Lit.int .i64 a0).wf = true) (w1 : (Lit.int .i64 a1).wf = true) (w : World) :
    Calls Try.prog 4 #[.int .i64 a0, .int .i64 a1] w fun e w' => e = .returned (.bool true) ∧ Below w.heap.size w w' := by
  obtain ⟨x0, x1⟩ := asF_bd a0
  obtain ⟨y0, y1⟩ := asF_bd a1
  have h1 := Lib.hid (fun w => asF_any a0 w)
  have h2 := Lib.hid (fun w => asF_any a1 w)
  generalize asF a0 = x at *
  generalize asF a1 = y at *
  have mx := may_yes x x0 x1
  have my := may_yes y y0 y1
  have h5 : Two 15 x 65536 x true := fun w => by
    have h := mulF_any x 65536 w (by omega) (by omega) (by decide) (by decide)
    have e : okMul x 65536 = true := by unfold okMul; rw [near_exact _ _ (by decide), mx]; rfl
    rw [e, near_exact _ _ (by decide)] at h
    exact h
  have h6 : Two 17 x 65536 x true := fun w => by
    have h := divF_any x 65536 w (by omega) (by omega) (by decide) (by decide)
    have e : okDiv x 65536 = true := by unfold okDiv; rw [near_exact _ _ (by decide), mx]; rfl
    rw [e, near_exact _ _ (by decide)] at h
    exact h
  have h7 : Two 15 x y _ _ := fun w => mulF_any x y w (by omega) (by omega) (by omega) (by omega)
  have h8 : Two 15 y x (gate (okMul x y) (near (x * y) 65536)) (okMul x y) := fun w => by
    have h := mulF_any y x w (by omega) (by omega) (by omega) (by omega)
    have e : okMul y x = okMul x y := by unfold okMul; rw [mx, my, Int.mul_comm]
    rw [e, Int.mul_comm y x] at h
    exact h
  have h9 : Two 17 x 0 0 false := fun w => by
    have h := divF_any x 0 w (by omega) (by omega) (by decide) (by decide)
    have e : okDiv x 0 = false := by unfold okDiv; rw [mx]; rfl
    rw [e] at h
    exact h
  by_cases hs : -1073741823 ≤ x + y ∧ x + y ≤ 1073741823
  · have e3 : okAdd x y = true := by unfold okAdd; rw [mx, my, may_yes _ hs.1 hs.2]; rfl
    have e4 : okSub (x + y) y = true := by unfold okSub; rw [my, may_yes _ hs.1 hs.2, show x + y - y = x by omega, mx]; rfl
    have h3 := fun w => add_any x y w
    have h4 := fun w => sub_any (x + y) y w
    rw [e3] at h3
    rw [e4, show x + y - y = x by omega] at h4
    exact core_in a0 a1 x y _ _ w x0 x1 y0 y1 hs.1 hs.2 h1 h2 (Lib.hid h3) (Lib.hid h4) (Lib.hid h5) (Lib.hid h6) (Lib.hid h7) (Lib.hid h8) (Lib.hid h9)
  · have e3 : okAdd x y = false := by unfold okAdd; rw [mx, my, (may_not _).2 hs]; rfl
    have h3 := fun w => add_any x y w
    have h4 := fun w => sub_any 0 y w
    rw [e3] at h3
    exact core_out a0 a1 x y _ _ _ _ w x0 x1 y0 y1 (by omega) h1 h2 (Lib.hid h3) (Lib.hid h4) (Lib.hid h5) (Lib.hid h6) (Lib.hid h7) (Lib.hid h8) (Lib.hid h9)

set_option maxRecDepth 100000 in
theorem lifted (os : Os) (started : os.Started) (H : Type) (enc : TypeId × Value → H) :
    ReturnsInHanded {} Try.checked os 4 .any (Rows.fixBackSpec.pre6 enc Try.prog Try.f4 Rows.fixBackRow.domain false) (Rows.fixBackSpec.post enc Try.prog Try.f4 false true false false) := by
  refine returnsInHanded_of_change (C := Try.checked) own started (by kernel_rfl) Try.func4
    (ChangeSpec.witness6 (enc := enc) (C := Try.checked) false ⟨#[], #[.int .i64 0, .int .i64 0], []⟩ 8 (by kernel_rfl) (by kernel_rfl) (by kernel_rfl) (by kernel_rfl)) ?_
  intro W base args ds gs before hval0 hW hcnd _
  have hval : ∀ (j : Nat) t v, Try.f4.params[j]? = some t → args[j]? = some v → Value.okWide Try.prog W .any base t v := hval0
  have hW' := hW
  obtain ⟨p, q, hA0, hV, rfl, hfz, hnd⟩ := hW
  have hA : DataW.TrodAll enc Try.prog W 0 (fun _ => true) true Try.f4.params.toList args.toList ds p := hA0
  rw [Try.params4] at hA hval
  obtain ⟨v0, vs0, d0, ds0, p0, q0, hargs, rfl, rfl, h0, r0⟩ := trodAll_cons hA
  obtain ⟨v1, vs1, d1, ds1, p1, q1, rfl, rfl, rfl, h1, r1⟩ := trodAll_cons r0
  obtain ⟨rfl, rfl, rfl⟩ := trodAll_nil r1
  obtain rfl : args = #[v0, v1] := by cases args; simp_all
  obtain ⟨rfl, rfl⟩ := trodVars_none hV
  obtain ⟨a0, rfl, rfl, rfl, w0⟩ := open_int Try.underlying3 (hval 0 3 v0 rfl rfl) h0
  obtain ⟨a1, rfl, rfl, rfl, w1⟩ := open_int Try.underlying3 (hval 1 3 v1 rfl rfl) h1
  clear hA0 hval0
  simp only [List.append_nil] at hW'
  refine (walk a0 a1 w0 w1 W).mono fun e W' ⟨he, bel⟩ => ?_
  subst he
  exact ⟨_, rfl, _, _, _, [], _, [], hW', trodAll_mk1 (shut_bool Try.underlying4 _), (trodAll_cons_mk (shut_int Try.underlying3 w0) (trodAll_cons_mk (shut_int Try.underlying3 w1) trodAll_mk0)), rfl, bel.frame _, fun h => by cases h⟩

theorem over : Rows.fixBackRow.holds Try.pinned (OpenSpec.ofChange Rows.fixBackSpec) :=
  OpenClaim.holds_of_wide 4 Try.f4 rfl rfl rfl rfl rfl rfl rfl ⟨rfl, rfl, rfl, rfl, rfl⟩ rfl rfl rfl rfl rfl (by kernel_rfl) Try.func4 (by kernel_rfl)
    (of_decide_eq_true (by kernel_rfl)) (by unfold Func.isWrapper; first | (rw [if_pos (by decide +kernel)]; kernel_rfl) | (rw [if_neg (by decide +kernel)]; exact ⟨rfl, rfl⟩))
    (fun os started H enc _ => lifted os started H enc)

theorem proved : Rows.FixBackSaid :=
  over
#print axioms proved
end Go.Proofs.Ytagdagojfmafpaa.fixBack
