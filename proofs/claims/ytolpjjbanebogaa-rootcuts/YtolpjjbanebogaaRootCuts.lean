/- tympanlaw2.RootCuts returns true for every integer, three 32-bit integers and a 16-bit integer, and its arguments read afterwards as before; no condition. -/
import Derived.Test.YtolpjjbanebogaaRows
import Derived.WalkKit
import Derived.ProofKit
import Derived.OpenShut
import Derived.ShutString
import Derived.ChangeOld
import Derived.Below
import Derived.Test.YtolpjjbanebogaaR5
namespace Go.Proofs.Ytolpjjbanebogaa.rootCuts
open Go.ChangeShapes Go.WideShapes Go.ChangeAt Go.RowKit
open Go.ChangeMaps (open_string shut_string)
set_option linter.unusedVariables false      -- a walk need not use every 'w<i>' (that an integer argument fits its kind)

theorem own : ownKnob Try.prog.godebug = none := by kernel_rfl

set_option maxHeartbeats 2000000 in
set_option maxRecDepth 100000 in
theorem core (p q d m more a n t V z y x1 x2 : Int) (w : World)
    (ha : p.tmod 288230376151711744 = a) (a0 : -288230376151711744 < a) (a1 : a < 288230376151711744)
    (q0 : -2147483648 ≤ q) (q1 : q ≤ 2147483647) (d0 : -2147483648 ≤ d) (d1 : d ≤ 2147483647) (m0 : -2147483648 ≤ m) (m1 : m ≤ 2147483647) (t0 : -32768 ≤ more) (t1 : more ≤ 32767)
    (n0 : 0 ≤ n) (n1 : n ≤ 2147483647) (u0 : 0 ≤ t) (u1 : t ≤ 2147483647)
    (hd : (d < 0 ∧ -(d + 1) = n) ∨ (0 ≤ d ∧ n = d)) (hm : (m < 0 ∧ -(m + 1) = t) ∨ (0 ≤ m ∧ t = m))
    (hy : more * (t + 1) = y) (y0 : -70368744177664 ≤ y) (y1 : y ≤ 70368744177664)
    (hz : V * (t + 1) = z) (hz1 : (V + 1) * (t + 1) = z + (t + 1)) (z0 : -576460752303423488 ≤ z) (z1 : z ≤ 576460752303423488) (V0 : -576460752303423488 ≤ V) (V1 : V ≤ 576460752303423488)
    (xx1 : 0 ≤ x1) (xx2 : x2 < 0)
    (h1 : Hid (Cuts a q n (t + 1) V)) (h2 : Hid (Cuts (a + y) q n (t + 1) (V + more))) (h3 : Hid (Signs (a - z) q n x1)) (h4 : Hid (Signs (a - (z + (t + 1))) q n x2)) :
    Calls Try.prog 7 #[.int .i64 p, .int .i32 q, .int .i32 d, .int .i32 m, .int .i16 more] w fun e w' => e = .returned (.bool true) ∧ Below w.heap.size w w' := by
  have hK := Lib.hid known_any
  rcases hd with ⟨hd, hn⟩ | ⟨hd, rfl⟩
  · rcases hm with ⟨hm, ht⟩ | ⟨hm, rfl⟩
    · go_enter Try.func7, Try.ntmps7
      go_wp2_with fail
      refine (hK.out _).mono ?_
      rintro e w1 ⟨rfl, k1⟩
      go_wp2_with fail
      refine (h1.out _).mono ?_
      rintro e w2 ⟨rfl, k2⟩
      go_wp2_with fail
      refine (h2.out _).mono ?_
      rintro e w3 ⟨rfl, k3⟩
      go_wp2_with fail
      refine (h3.out _).mono ?_
      rintro e w4 ⟨rfl, k4⟩
      go_wp2_with fail
      refine (h4.out _).mono ?_
      rintro e w5 ⟨rfl, k5⟩
      go_wp2
      go_ret
      have z1 := k1.size; have z2 := k2.size; have z3 := k3.size; have z4 := k4.size
      exact ⟨rfl, (((k1.trans (k2.mono (by omega))).trans (k3.mono (by omega))).trans (k4.mono (by omega))).trans (k5.mono (by omega))⟩
    · go_enter Try.func7, Try.ntmps7
      go_wp2_with fail
      refine (hK.out _).mono ?_
      rintro e w1 ⟨rfl, k1⟩
      go_wp2_with fail
      refine (h1.out _).mono ?_
      rintro e w2 ⟨rfl, k2⟩
      go_wp2_with fail
      refine (h2.out _).mono ?_
      rintro e w3 ⟨rfl, k3⟩
      go_wp2_with fail
      refine (h3.out _).mono ?_
      rintro e w4 ⟨rfl, k4⟩
      go_wp2_with fail
      refine (h4.out _).mono ?_
      rintro e w5 ⟨rfl, k5⟩
      go_wp2
      go_ret
      have z1 := k1.size; have z2 := k2.size; have z3 := k3.size; have z4 := k4.size
      exact ⟨rfl, (((k1.trans (k2.mono (by omega))).trans (k3.mono (by omega))).trans (k4.mono (by omega))).trans (k5.mono (by omega))⟩
  · rcases hm with ⟨hm, ht⟩ | ⟨hm, rfl⟩
    · go_enter Try.func7, Try.ntmps7
      go_wp2_with fail
      refine (hK.out _).mono ?_
      rintro e w1 ⟨rfl, k1⟩
      go_wp2_with fail
      refine (h1.out _).mono ?_
      rintro e w2 ⟨rfl, k2⟩
      go_wp2_with fail
      refine (h2.out _).mono ?_
      rintro e w3 ⟨rfl, k3⟩
      go_wp2_with fail
      refine (h3.out _).mono ?_
      rintro e w4 ⟨rfl, k4⟩
      go_wp2_with fail
      refine (h4.out _).mono ?_
      rintro e w5 ⟨rfl, k5⟩
      go_wp2
      go_ret
      have z1 := k1.size; have z2 := k2.size; have z3 := k3.size; have z4 := k4.size
      exact ⟨rfl, (((k1.trans (k2.mono (by omega))).trans (k3.mono (by omega))).trans (k4.mono (by omega))).trans (k5.mono (by omega))⟩
    · go_enter Try.func7, Try.ntmps7
      go_wp2_with fail
      refine (hK.out _).mono ?_
      rintro e w1 ⟨rfl, k1⟩
      go_wp2_with fail
      refine (h1.out _).mono ?_
      rintro e w2 ⟨rfl, k2⟩
      go_wp2_with fail
      refine (h2.out _).mono ?_
      rintro e w3 ⟨rfl, k3⟩
      go_wp2_with fail
      refine (h3.out _).mono ?_
      rintro e w4 ⟨rfl, k4⟩
      go_wp2_with fail
      refine (h4.out _).mono ?_
      rintro e w5 ⟨rfl, k5⟩
      go_wp2
      go_ret
      have z1 := k1.size; have z2 := k2.size; have z3 := k3.size; have z4 := k4.size
      exact ⟨rfl, (((k1.trans (k2.mono (by omega))).trans (k3.mono (by omega))).trans (k4.mono (by omega))).trans (k5.mono (by omega))⟩

theorem walk (a0 : Int) (a1 : Int) (a2 : Int) (a3 : Int) (a4 : Int) (w0 : (Lit.int .i64 a0).wf = true) (w1 : (Lit.int .i32 a1).wf = true) (w2 : (Lit.int .i32 a2).wf = true) (w3 : (Lit.int .i32 a3).wf = true) (w4 : (Lit.int .i16 a4).wf = true) (w : World) :
    Calls Try.prog 7 #[.int .i64 a0, .int .i32 a1, .int .i32 a2, .int .i32 a3, .int .i16 a4] w fun e w' => e = .returned (.bool true) ∧ Below w.heap.size w w' := by
  obtain ⟨a1l, a1h⟩ := bounds_i32 w1
  obtain ⟨a2l, a2h⟩ := bounds_i32 w2
  obtain ⟨a3l, a3h⟩ := bounds_i32 w3
  obtain ⟨a4l, a4h⟩ := bounds_i16 w4
  obtain ⟨t0, t1⟩ := tmod_bd a0 288230376151711744 (by decide)
  obtain ⟨n, hn, n0, n1⟩ : ∃ n, ((a2 < 0 ∧ -(a2 + 1) = n) ∨ (0 ≤ a2 ∧ n = a2)) ∧ 0 ≤ n ∧ n ≤ 2147483647 := by
    rcases Int.lt_or_le a2 0 with h | h
    · exact ⟨-(a2 + 1), .inl ⟨h, rfl⟩, by omega, by omega⟩
    · exact ⟨a2, .inr ⟨h, rfl⟩, by omega, by omega⟩
  obtain ⟨t, ht, u0, u1⟩ : ∃ t, ((a3 < 0 ∧ -(a3 + 1) = t) ∨ (0 ≤ a3 ∧ t = a3)) ∧ 0 ≤ t ∧ t ≤ 2147483647 := by
    rcases Int.lt_or_le a3 0 with h | h
    · exact ⟨-(a3 + 1), .inl ⟨h, rfl⟩, by omega, by omega⟩
    · exact ⟨a3, .inr ⟨h, rfl⟩, by omega, by omega⟩
  obtain ⟨a, ha⟩ : ∃ a, a0.tmod 288230376151711744 = a := ⟨_, rfl⟩
  rw [ha] at t0 t1
  have p1 := Int.mul_le_mul_of_nonneg_right (by omega : a4 ≤ 32768) (by omega : 0 ≤ t + 1)
  have p2 := Int.mul_le_mul_of_nonneg_right (by omega : -32768 ≤ a4) (by omega : 0 ≤ t + 1)
  obtain ⟨_, _, r0, r1⟩ := rt_bd a1 n (by omega) (by omega) n0 (by omega)
  obtain ⟨c0, c1⟩ := cut_spec a a1 n (t + 1) (by omega)
  have hC := cut_yes a a1 n (t + 1) (by omega) (by omega) (by omega) (by omega) n0 (by omega) (by omega) (by omega)
  have hD := cut_yes (a + a4 * (t + 1)) a1 n (t + 1) (by omega) (by omega) (by omega) (by omega) n0 (by omega) (by omega) (by omega)
  rw [cut_more _ _ _ _ _ (by omega)] at hD
  have V0 : -576460752303423488 ≤ cutR a a1 n (t + 1) ∧ cutR a a1 n (t + 1) ≤ 576460752303423488 := by
    unfold cutR
    constructor
    · rw [Int.le_ediv_iff_mul_le (by omega)]; omega
    · have : (a + rt a1 n) / (t + 1) < 576460752303423488 + 1 := by rw [Int.ediv_lt_iff_lt_mul (by omega)]; omega
      omega
  have e1 : (cutR a a1 n (t + 1) + 1) * (t + 1) = cutR a a1 n (t + 1) * (t + 1) + (t + 1) := by rw [Int.add_mul, Int.one_mul]
  have x1 := (le_cut a a1 n (t + 1) (cutR a a1 n (t + 1)) (by omega) (by omega) (by omega) n0 (by omega)).2 (Int.le_refl _)
  have x2 : sgnR (a - (cutR a a1 n (t + 1) * (t + 1) + (t + 1))) a1 n < 0 := by
    have h := le_cut a a1 n (t + 1) (cutR a a1 n (t + 1) + 1) (by omega) (by omega) (by omega) n0 (by omega)
    rw [e1] at h
    omega
  exact core a0 a1 a2 a3 a4 a n t _ _ _ _ _ w ha t0 t1 a1l a1h a2l a2h a3l a3h a4l a4h n0 n1 u0 u1 hn ht rfl (by omega) (by omega) rfl e1 (by omega) (by omega) V0.1 V0.2 x1 x2
    (Lib.hid hC) (Lib.hid hD) (Lib.hid (sign_yes _ _ _ (by omega) (by omega) (by omega) (by omega) n0 (by omega))) (Lib.hid (sign_yes _ _ _ (by omega) (by omega) (by omega) (by omega) n0 (by omega)))

set_option maxRecDepth 100000 in
theorem lifted (os : Os) (started : os.Started) (H : Type) (enc : TypeId × Value → H) :
    ReturnsInHanded {} Try.checked os 7 .any (Rows.rootCutsSpec.pre6 enc Try.prog Try.f7 Rows.rootCutsRow.domain false) (Rows.rootCutsSpec.post enc Try.prog Try.f7 false true false false) := by
  refine returnsInHanded_of_change (C := Try.checked) own started (by kernel_rfl) Try.func7
    (ChangeSpec.witness6 (enc := enc) (C := Try.checked) false ⟨#[], #[.int .i64 0, .int .i32 0, .int .i32 0, .int .i32 0, .int .i16 0], []⟩ 8 (by kernel_rfl) (by kernel_rfl) (by kernel_rfl) (by kernel_rfl)) ?_
  intro W base args ds gs before hval0 hW hcnd _
  have hval : ∀ (j : Nat) t v, Try.f7.params[j]? = some t → args[j]? = some v → Value.okWide Try.prog W .any base t v := hval0
  have hW' := hW
  obtain ⟨p, q, hA0, hV, rfl, hfz, hnd⟩ := hW
  have hA : DataW.TrodAll enc Try.prog W 0 (fun _ => true) true Try.f7.params.toList args.toList ds p := hA0
  rw [Try.params7] at hA hval
  obtain ⟨v0, vs0, d0, ds0, p0, q0, hargs, rfl, rfl, h0, r0⟩ := trodAll_cons hA
  obtain ⟨v1, vs1, d1, ds1, p1, q1, rfl, rfl, rfl, h1, r1⟩ := trodAll_cons r0
  obtain ⟨v2, vs2, d2, ds2, p2, q2, rfl, rfl, rfl, h2, r2⟩ := trodAll_cons r1
  obtain ⟨v3, vs3, d3, ds3, p3, q3, rfl, rfl, rfl, h3, r3⟩ := trodAll_cons r2
  obtain ⟨v4, vs4, d4, ds4, p4, q4, rfl, rfl, rfl, h4, r4⟩ := trodAll_cons r3
  obtain ⟨rfl, rfl, rfl⟩ := trodAll_nil r4
  obtain rfl : args = #[v0, v1, v2, v3, v4] := by cases args; simp_all
  obtain ⟨rfl, rfl⟩ := trodVars_none hV
  obtain ⟨a0, rfl, rfl, rfl, w0⟩ := open_int Try.underlying3 (hval 0 3 v0 rfl rfl) h0
  obtain ⟨a1, rfl, rfl, rfl, w1⟩ := open_int Try.underlying21 (hval 1 21 v1 rfl rfl) h1
  obtain ⟨a2, rfl, rfl, rfl, w2⟩ := open_int Try.underlying21 (hval 2 21 v2 rfl rfl) h2
  obtain ⟨a3, rfl, rfl, rfl, w3⟩ := open_int Try.underlying21 (hval 3 21 v3 rfl rfl) h3
  obtain ⟨a4, rfl, rfl, rfl, w4⟩ := open_int Try.underlying35 (hval 4 35 v4 rfl rfl) h4
  clear hA0 hval0
  simp only [List.append_nil] at hW'
  refine (walk a0 a1 a2 a3 a4 w0 w1 w2 w3 w4 W).mono fun e W' ⟨he, bel⟩ => ?_
  subst he
  exact ⟨_, rfl, _, _, _, [], _, [], hW', trodAll_mk1 (shut_bool Try.underlying4 _), (trodAll_cons_mk (shut_int Try.underlying3 w0) (trodAll_cons_mk (shut_int Try.underlying21 w1) (trodAll_cons_mk (shut_int Try.underlying21 w2) (trodAll_cons_mk (shut_int Try.underlying21 w3) (trodAll_cons_mk (shut_int Try.underlying35 w4) trodAll_mk0))))), rfl, bel.frame _, fun h => by cases h⟩

theorem over : Rows.rootCutsRow.holds Try.pinned (OpenSpec.ofChange Rows.rootCutsSpec) :=
  OpenClaim.holds_of_wide 7 Try.f7 rfl rfl rfl rfl rfl rfl rfl ⟨rfl, rfl, rfl, rfl, rfl⟩ rfl rfl rfl rfl rfl (by kernel_rfl) Try.func7 (by kernel_rfl)
    (of_decide_eq_true (by kernel_rfl)) (by unfold Func.isWrapper; first | (rw [if_pos (by decide +kernel)]; kernel_rfl) | (rw [if_neg (by decide +kernel)]; exact ⟨rfl, rfl⟩))
    (fun os started H enc _ => lifted os started H enc)

theorem proved : Rows.RootCutsSaid :=
  over
#print axioms proved
end Go.Proofs.Ytolpjjbanebogaa.rootCuts
