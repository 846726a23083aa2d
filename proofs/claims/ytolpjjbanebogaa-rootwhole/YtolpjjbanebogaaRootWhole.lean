/- tympanlaw2.RootWhole returns true for every 32-bit integer, two unsigned 16-bit integers and an 8-bit integer, and its arguments read afterwards as before; no condition. -/
import Derived.Test.YtolpjjbanebogaaRows
import Derived.WalkKit
import Derived.ProofKit
import Derived.OpenShut
import Derived.ShutString
import Derived.ChangeOld
import Derived.Below
import Derived.Test.YtolpjjbanebogaaR5
namespace Go.Proofs.Ytolpjjbanebogaa.rootWhole
open Go.ChangeShapes Go.WideShapes Go.ChangeAt Go.RowKit
open Go.ChangeMaps (open_string shut_string)
set_option linter.unusedVariables false      -- a walk need not use every 'w<i>' (that an integer argument fits its kind)

theorem own : ownKnob Try.prog.godebug = none := by kernel_rfl

set_option maxHeartbeats 2000000 in
set_option maxRecDepth 100000 in
theorem core (q r more m k v kk V z : Int) (w : World)
    (q0 : -2147483648 ≤ q) (q1 : q ≤ 2147483647) (r0 : 0 ≤ r) (r1 : r ≤ 65535) (t0 : -128 ≤ more) (t1 : more ≤ 127) (m0 : 0 ≤ m) (m1 : m ≤ 65535)
    (hk : min r 46340 = k) (k0 : 0 ≤ k) (k1 : k ≤ 46340) (hv : -q * k = v) (v0 : -99514403512320 ≤ v) (v1 : v ≤ 99514403512320) (hkk : k * k = kk) (kk0 : 0 ≤ kk) (kk1 : kk ≤ 2147395600)
    (hz : V * (m + 1) = z) (hz1 : (V + 1) * (m + 1) = z + (m + 1)) (z0 : z ≤ more) (z1 : more < z + (m + 1)) (V0 : -128 ≤ V) (V1 : V ≤ 127)
    (h1 : Hid (Signs (v + more) q kk (cmpI more 0))) (h2 : Hid (Cuts (v + more) q kk (m + 1) V)) :
    Calls Try.prog 5 #[.int .i32 q, .int .u16 r, .int .i8 more, .int .u16 m] w fun e w' => e = .returned (.bool true) ∧ Below w.heap.size w w' := by
  have hK := Lib.hid known_any
  rcases Int.lt_trichotomy more 0 with ht | ht | ht
  · rw [cmp_n ht] at h1
    go_enter Try.func5, Try.ntmps5
    go_wp2_with fail
    refine (hK.out _).mono ?_
    rintro e w1 ⟨rfl, k1⟩
    go_wp2_with fail
    refine (h1.out _).mono ?_
    rintro e w2 ⟨rfl, k2⟩
    go_wp2_with fail
    refine (h2.out _).mono ?_
    rintro e w3 ⟨rfl, k3⟩
    go_wp2
    go_ret
    have z1 := k1.size; have z2 := k2.size
    exact ⟨rfl, (k1.trans (k2.mono (by omega))).trans (k3.mono (by omega))⟩
  · have e : cmpI more 0 = 0 := by rw [ht]; rfl
    rw [e] at h1
    have ht0 : 0 ≤ more := by omega
    have ht1 : more ≤ 0 := by omega
    clear ht e
    go_enter Try.func5, Try.ntmps5
    go_wp2_with fail
    refine (hK.out _).mono ?_
    rintro e w1 ⟨rfl, k1⟩
    go_wp2_with fail
    refine (h1.out _).mono ?_
    rintro e w2 ⟨rfl, k2⟩
    go_wp2_with fail
    refine (h2.out _).mono ?_
    rintro e w3 ⟨rfl, k3⟩
    go_wp2
    go_ret
    have z1 := k1.size; have z2 := k2.size
    exact ⟨rfl, (k1.trans (k2.mono (by omega))).trans (k3.mono (by omega))⟩
  · rw [cmp_p ht] at h1
    go_enter Try.func5, Try.ntmps5
    go_wp2_with fail
    refine (hK.out _).mono ?_
    rintro e w1 ⟨rfl, k1⟩
    go_wp2_with fail
    refine (h1.out _).mono ?_
    rintro e w2 ⟨rfl, k2⟩
    go_wp2_with fail
    refine (h2.out _).mono ?_
    rintro e w3 ⟨rfl, k3⟩
    go_wp2
    go_ret
    have z1 := k1.size; have z2 := k2.size
    exact ⟨rfl, (k1.trans (k2.mono (by omega))).trans (k3.mono (by omega))⟩

theorem walk (a0 : Int) (a1 : Int) (a2 : Int) (a3 : Int) (w0 : (Lit.int .i32 a0).wf = true) (w1 : (Lit.int .u16 a1).wf = true) (w2 : (Lit.int .i8 a2).wf = true) (w3 : (Lit.int .u16 a3).wf = true) (w : World) :
    Calls Try.prog 5 #[.int .i32 a0, .int .u16 a1, .int .i8 a2, .int .u16 a3] w fun e w' => e = .returned (.bool true) ∧ Below w.heap.size w w' := by
  obtain ⟨a0l, a0h⟩ := bounds_i32 w0
  obtain ⟨a1l, a1h⟩ := bounds_u16 w1
  obtain ⟨a2l, a2h⟩ := bounds_i8 w2
  obtain ⟨a3l, a3h⟩ := bounds_u16 w3
  have k0 : 0 ≤ min a1 46340 ∧ min a1 46340 ≤ 46340 := by omega
  obtain ⟨k, hk⟩ : ∃ k, min a1 46340 = k := ⟨_, rfl⟩
  rw [hk] at k0
  have p1 := Int.mul_le_mul_of_nonneg_right (by omega : -a0 ≤ 2147483648) k0.1
  have p2 := Int.mul_le_mul_of_nonneg_right (by omega : a0 ≤ 2147483648) k0.1
  have e1 : -a0 * k = -(a0 * k) := Int.neg_mul _ _
  have s0 := sq_nonneg k
  have s1 := sq_le k0.1 k0.2
  have hS := sign_yes (-a0 * k + a2) a0 (k * k) (by omega) (by omega) (by omega) (by omega) s0 (by omega)
  rw [sgn_whole _ _ _ k0.1] at hS
  have hC := cut_yes (-a0 * k + a2) a0 (k * k) (a3 + 1) (by omega) (by omega) (by omega) (by omega) s0 (by omega) (by omega) (by omega)
  obtain ⟨c0, c1⟩ := cut_spec (-a0 * k + a2) a0 (k * k) (a3 + 1) (by omega)
  have er := rt_whole a0 k (by omega) (by omega) k0.1 k0.2
  have hV : cutR (-a0 * k + a2) a0 (k * k) (a3 + 1) = a2 / (a3 + 1) := by
    unfold cutR
    have : -a0 * k + a2 + rt a0 (k * k) = a2 := by rw [er]; omega
    rw [this]
  have V0 : -128 ≤ a2 / (a3 + 1) ∧ a2 / (a3 + 1) ≤ 127 := by
    constructor
    · rw [Int.le_ediv_iff_mul_le (by omega)]; omega
    · have : a2 / (a3 + 1) < 127 + 1 := by rw [Int.ediv_lt_iff_lt_mul (by omega)]; omega
      omega
  rw [← hV] at V0
  rw [er] at c0 c1
  generalize cutR (-a0 * k + a2) a0 (k * k) (a3 + 1) = V at *
  exact core a0 a1 a2 a3 k _ _ V _ w a0l a0h (by omega) (by omega) a2l a2h (by omega) (by omega) hk k0.1 k0.2 rfl (by omega) (by omega) rfl s0 (by omega)
    rfl (by rw [Int.add_mul, Int.one_mul]) (by omega) (by omega) V0.1 V0.2 (Lib.hid hS) (Lib.hid hC)

set_option maxRecDepth 100000 in
theorem lifted (os : Os) (started : os.Started) (H : Type) (enc : TypeId × Value → H) :
    ReturnsInHanded {} Try.checked os 5 .any (Rows.rootWholeSpec.pre6 enc Try.prog Try.f5 Rows.rootWholeRow.domain false) (Rows.rootWholeSpec.post enc Try.prog Try.f5 false true false false) := by
  refine returnsInHanded_of_change (C := Try.checked) own started (by kernel_rfl) Try.func5
    (ChangeSpec.witness6 (enc := enc) (C := Try.checked) false ⟨#[], #[.int .i32 0, .int .u16 0, .int .i8 0, .int .u16 0], []⟩ 8 (by kernel_rfl) (by kernel_rfl) (by kernel_rfl) (by kernel_rfl)) ?_
  intro W base args ds gs before hval0 hW hcnd _
  have hval : ∀ (j : Nat) t v, Try.f5.params[j]? = some t → args[j]? = some v → Value.okWide Try.prog W .any base t v := hval0
  have hW' := hW
  obtain ⟨p, q, hA0, hV, rfl, hfz, hnd⟩ := hW
  have hA : DataW.TrodAll enc Try.prog W 0 (fun _ => true) true Try.f5.params.toList args.toList ds p := hA0
  rw [Try.params5] at hA hval
  obtain ⟨v0, vs0, d0, ds0, p0, q0, hargs, rfl, rfl, h0, r0⟩ := trodAll_cons hA
  obtain ⟨v1, vs1, d1, ds1, p1, q1, rfl, rfl, rfl, h1, r1⟩ := trodAll_cons r0
  obtain ⟨v2, vs2, d2, ds2, p2, q2, rfl, rfl, rfl, h2, r2⟩ := trodAll_cons r1
  obtain ⟨v3, vs3, d3, ds3, p3, q3, rfl, rfl, rfl, h3, r3⟩ := trodAll_cons r2
  obtain ⟨rfl, rfl, rfl⟩ := trodAll_nil r3
  obtain rfl : args = #[v0, v1, v2, v3] := by cases args; simp_all
  obtain ⟨rfl, rfl⟩ := trodVars_none hV
  obtain ⟨a0, rfl, rfl, rfl, w0⟩ := open_int Try.underlying21 (hval 0 21 v0 rfl rfl) h0
  obtain ⟨a1, rfl, rfl, rfl, w1⟩ := open_int Try.underlying30 (hval 1 30 v1 rfl rfl) h1
  obtain ⟨a2, rfl, rfl, rfl, w2⟩ := open_int Try.underlying31 (hval 2 31 v2 rfl rfl) h2
  obtain ⟨a3, rfl, rfl, rfl, w3⟩ := open_int Try.underlying30 (hval 3 30 v3 rfl rfl) h3
  clear hA0 hval0
  simp only [List.append_nil] at hW'
  refine (walk a0 a1 a2 a3 w0 w1 w2 w3 W).mono fun e W' ⟨he, bel⟩ => ?_
  subst he
  exact ⟨_, rfl, _, _, _, [], _, [], hW', trodAll_mk1 (shut_bool Try.underlying4 _), (trodAll_cons_mk (shut_int Try.underlying21 w0) (trodAll_cons_mk (shut_int Try.underlying30 w1) (trodAll_cons_mk (shut_int Try.underlying31 w2) (trodAll_cons_mk (shut_int Try.underlying30 w3) trodAll_mk0)))), rfl, bel.frame _, fun h => by cases h⟩

theorem over : Rows.rootWholeRow.holds Try.pinned (OpenSpec.ofChange Rows.rootWholeSpec) :=
  OpenClaim.holds_of_wide 5 Try.f5 rfl rfl rfl rfl rfl rfl rfl ⟨rfl, rfl, rfl, rfl, rfl⟩ rfl rfl rfl rfl rfl (by kernel_rfl) Try.func5 (by kernel_rfl)
    (of_decide_eq_true (by kernel_rfl)) (by unfold Func.isWrapper; first | (rw [if_pos (by decide +kernel)]; kernel_rfl) | (rw [if_neg (by decide +kernel)]; exact ⟨rfl, rfl⟩))
    (fun os started H enc _ => lifted os started H enc)

theorem proved : Rows.RootWholeSaid :=
  over
#print axioms proved
end Go.Proofs.Ytolpjjbanebogaa.rootWhole
