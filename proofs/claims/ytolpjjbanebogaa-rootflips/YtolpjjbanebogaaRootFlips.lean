/- tympanlaw2.RootFlips returns true for every integer, two 32-bit integers and an unsigned 32-bit integer, and its arguments read afterwards as before; no condition. -/
import Derived.Test.YtolpjjbanebogaaRows
import Derived.WalkKit
import Derived.ProofKit
import Derived.OpenShut
import Derived.ShutString
import Derived.ChangeOld
import Derived.Below
import Derived.Test.YtolpjjbanebogaaR5
namespace Go.Proofs.Ytolpjjbanebogaa.rootFlips
open Go.ChangeShapes Go.WideShapes Go.ChangeAt Go.RowKit
open Go.ChangeMaps (open_string shut_string)
set_option linter.unusedVariables false      -- a walk need not use every 'w<i>' (that an integer argument fits its kind)

theorem own : ownKnob Try.prog.godebug = none := by kernel_rfl

set_option maxHeartbeats 1000000 in
set_option maxRecDepth 100000 in
theorem core (p q d l a s u : Int) (w : World)
    (ha : p.tmod 2305843009213693952 = a) (a0 : -2305843009213693952 < a) (a1 : a < 2305843009213693952)
    (q0 : -2147483648 ≤ q) (q1 : q ≤ 2147483647) (d0 : -2147483648 ≤ d) (d1 : d ≤ 2147483647) (l0 : 0 ≤ l) (l1 : l ≤ 4294967295)
    (s0 : -1 ≤ s) (s1 : s ≤ 1) (u0 : -1 ≤ u) (u1 : u ≤ s)
    (h1 : Hid (Signs a q (if d < 0 then -(d + 1) else d) s)) (h2 : Hid (Signs (-a) (-q) (if d < 0 then -(d + 1) else d) (-s))) (h3 : Hid (Signs (a - l) q (if d < 0 then -(d + 1) else d) u)) :
    Calls Try.prog 6 #[.int .i64 p, .int .i32 q, .int .i32 d, .int .u32 l] w fun e w' => e = .returned (.bool true) ∧ Below w.heap.size w w' := by
  have hK := Lib.hid known_any
  by_cases hd : d < 0
  · rw [if_pos hd] at h1 h2 h3
    go_enter Try.func6, Try.ntmps6
    go_wp2_with fail
    refine (hK.out _).mono ?_
    rintro e w1 ⟨rfl, k1⟩
    go_wp2_with fail
    refine (h1.out _).mono ?_
    rintro e w2 ⟨rfl, k2⟩
    go_wp2_with fail
    refine (h2.out _).mono ?_
    rintro e w3 ⟨rfl, k3⟩
    go_wp2_with fail
    refine (h3.out _).mono ?_
    rintro e w4 ⟨rfl, k4⟩
    go_wp2
    go_ret
    have z1 := k1.size; have z2 := k2.size; have z3 := k3.size
    exact ⟨rfl, ((k1.trans (k2.mono (by omega))).trans (k3.mono (by omega))).trans (k4.mono (by omega))⟩
  · rw [if_neg hd] at h1 h2 h3
    go_enter Try.func6, Try.ntmps6
    go_wp2_with fail
    refine (hK.out _).mono ?_
    rintro e w1 ⟨rfl, k1⟩
    go_wp2_with fail
    refine (h1.out _).mono ?_
    rintro e w2 ⟨rfl, k2⟩
    go_wp2_with fail
    refine (h2.out _).mono ?_
    rintro e w3 ⟨rfl, k3⟩
    go_wp2_with fail
    refine (h3.out _).mono ?_
    rintro e w4 ⟨rfl, k4⟩
    go_wp2
    go_ret
    have z1 := k1.size; have z2 := k2.size; have z3 := k3.size
    exact ⟨rfl, ((k1.trans (k2.mono (by omega))).trans (k3.mono (by omega))).trans (k4.mono (by omega))⟩

theorem walk (a0 : Int) (a1 : Int) (a2 : Int) (a3 : Int) (w0 : (Lit.int .i64 a0).wf = true) (w1 : (Lit.int .i32 a1).wf = true) (w2 : (Lit.int .i32 a2).wf = true) (w3 : (Lit.int .u32 a3).wf = true) (w : World) :
    Calls Try.prog 6 #[.int .i64 a0, .int .i32 a1, .int .i32 a2, .int .u32 a3] w fun e w' => e = .returned (.bool true) ∧ Below w.heap.size w w' := by
  obtain ⟨a1l, a1h⟩ := bounds_i32 w1
  obtain ⟨a2l, a2h⟩ := bounds_i32 w2
  obtain ⟨a3l, a3h⟩ := bounds_u32 w3
  obtain ⟨t0, t1⟩ := tmod_bd a0 2305843009213693952 (by decide)
  have n0 : 0 ≤ (if a2 < 0 then -(a2 + 1) else a2) ∧ (if a2 < 0 then -(a2 + 1) else a2) ≤ 2147483647 := by split <;> omega
  have h2 := sign_yes (-(a0.tmod 2305843009213693952)) (-a1) (if a2 < 0 then -(a2 + 1) else a2) (by omega) (by omega) (by omega) (by omega) n0.1 (by omega)
  rw [sgn_flip] at h2
  obtain ⟨s0, s1⟩ := cmpI_bd (a0.tmod 2305843009213693952 * mag (a0.tmod 2305843009213693952)) (-a1 * mag a1 * (if a2 < 0 then -(a2 + 1) else a2))
  obtain ⟨u0, _⟩ := cmpI_bd ((a0.tmod 2305843009213693952 - a3) * mag (a0.tmod 2305843009213693952 - a3)) (-a1 * mag a1 * (if a2 < 0 then -(a2 + 1) else a2))
  exact core a0 a1 a2 a3 _ _ _ w rfl t0 t1 a1l a1h a2l a2h (by omega) (by omega) s0 s1 u0 (sgn_less _ _ _ _ (by omega))
    (Lib.hid (sign_yes _ _ _ (by omega) (by omega) (by omega) (by omega) n0.1 (by omega))) (Lib.hid h2) (Lib.hid (sign_yes _ _ _ (by omega) (by omega) (by omega) (by omega) n0.1 (by omega)))

set_option maxRecDepth 100000 in
theorem lifted (os : Os) (started : os.Started) (H : Type) (enc : TypeId × Value → H) :
    ReturnsInHanded {} Try.checked os 6 .any (Rows.rootFlipsSpec.pre6 enc Try.prog Try.f6 Rows.rootFlipsRow.domain false) (Rows.rootFlipsSpec.post enc Try.prog Try.f6 false true false false) := by
  refine returnsInHanded_of_change (C := Try.checked) own started (by kernel_rfl) Try.func6
    (ChangeSpec.witness6 (enc := enc) (C := Try.checked) false ⟨#[], #[.int .i64 0, .int .i32 0, .int .i32 0, .int .u32 0], []⟩ 8 (by kernel_rfl) (by kernel_rfl) (by kernel_rfl) (by kernel_rfl)) ?_
  intro W base args ds gs before hval0 hW hcnd _
  have hval : ∀ (j : Nat) t v, Try.f6.params[j]? = some t → args[j]? = some v → Value.okWide Try.prog W .any base t v := hval0
  have hW' := hW
  obtain ⟨p, q, hA0, hV, rfl, hfz, hnd⟩ := hW
  have hA : DataW.TrodAll enc Try.prog W 0 (fun _ => true) true Try.f6.params.toList args.toList ds p := hA0
  rw [Try.params6] at hA hval
  obtain ⟨v0, vs0, d0, ds0, p0, q0, hargs, rfl, rfl, h0, r0⟩ := trodAll_cons hA
  obtain ⟨v1, vs1, d1, ds1, p1, q1, rfl, rfl, rfl, h1, r1⟩ := trodAll_cons r0
  obtain ⟨v2, vs2, d2, ds2, p2, q2, rfl, rfl, rfl, h2, r2⟩ := trodAll_cons r1
  obtain ⟨v3, vs3, d3, ds3, p3, q3, rfl, rfl, rfl, h3, r3⟩ := trodAll_cons r2
  obtain ⟨rfl, rfl, rfl⟩ := trodAll_nil r3
  obtain rfl : args = #[v0, v1, v2, v3] := by cases args; simp_all
  obtain ⟨rfl, rfl⟩ := trodVars_none hV
  obtain ⟨a0, rfl, rfl, rfl, w0⟩ := open_int Try.underlying3 (hval 0 3 v0 rfl rfl) h0
  obtain ⟨a1, rfl, rfl, rfl, w1⟩ := open_int Try.underlying21 (hval 1 21 v1 rfl rfl) h1
  obtain ⟨a2, rfl, rfl, rfl, w2⟩ := open_int Try.underlying21 (hval 2 21 v2 rfl rfl) h2
  obtain ⟨a3, rfl, rfl, rfl, w3⟩ := open_int Try.underlying33 (hval 3 33 v3 rfl rfl) h3
  clear hA0 hval0
  simp only [List.append_nil] at hW'
  refine (walk a0 a1 a2 a3 w0 w1 w2 w3 W).mono fun e W' ⟨he, bel⟩ => ?_
  subst he
  exact ⟨_, rfl, _, _, _, [], _, [], hW', trodAll_mk1 (shut_bool Try.underlying4 _), (trodAll_cons_mk (shut_int Try.underlying3 w0) (trodAll_cons_mk (shut_int Try.underlying21 w1) (trodAll_cons_mk (shut_int Try.underlying21 w2) (trodAll_cons_mk (shut_int Try.underlying33 w3) trodAll_mk0)))), rfl, bel.frame _, fun h => by cases h⟩

theorem over : Rows.rootFlipsRow.holds Try.pinned (OpenSpec.ofChange Rows.rootFlipsSpec) :=
  OpenClaim.holds_of_wide 6 Try.f6 rfl rfl rfl rfl rfl rfl rfl ⟨rfl, rfl, rfl, rfl, rfl⟩ rfl rfl rfl rfl rfl (by kernel_rfl) Try.func6 (by kernel_rfl)
    (of_decide_eq_true (by kernel_rfl)) (by unfold Func.isWrapper; first | (rw [if_pos (by decide +kernel)]; kernel_rfl) | (rw [if_neg (by decide +kernel)]; exact ⟨rfl, rfl⟩))
    (fun os started H enc _ => lifted os started H enc)

theorem proved : Rows.RootFlipsSaid :=
  over
#print axioms proved
end Go.Proofs.Ytolpjjbanebogaa.rootFlips
