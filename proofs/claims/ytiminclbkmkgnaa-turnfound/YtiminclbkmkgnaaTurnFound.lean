/- tympanlaw4.TurnFound returns true for every uint16, every two int16 and every uint8, and its arguments read afterwards as before; no condition. -/
import Derived.Test.YtiminclbkmkgnaaRows
import Derived.WalkKit
import Derived.ProofKit
import Derived.OpenShut
import Derived.ShutString
import Derived.ChangeOld
import Derived.Below
import Derived.Test.YtiminclbkmkgnaaM9
import Derived.Test.YtiminclbkmkgnaaT9
namespace Go.Proofs.Ytiminclbkmkgnaa.turnFound
open Go.ChangeShapes Go.WideShapes Go.ChangeAt Go.RowKit
open Go.ChangeMaps (open_string shut_string)
set_option linter.unusedVariables false      -- a walk need not use every 'w<i>' (that an integer argument fits its kind)

theorem own : ownKnob Try.prog.godebug = none := by kernel_rfl

set_option maxHeartbeats 2000000 in
theorem core_zero (g t r s c : Int) (w : World) (g0 : 0 ≤ g) (g1 : g ≤ 65535) (t0 : 0 ≤ t) (t1 : t ≤ 255) (er : g.tmod 360 = r) (r0 : 0 ≤ r) (r1 : r < 360)
    (hk : Hid (∀ w, Calls Try.prog 8 #[] w fun e w' => e = .returned (.bool true) ∧ Below w.heap.size w w'))
    (h1 : Hid (∀ w, Calls Try.prog 11 #[.int .i64 (r * 65536)] w fun e w' => e = .returned (.int .i64 s) ∧ Below w.heap.size w w'))
    (h2 : Hid (∀ w, Calls Try.prog 13 #[.int .i64 (r * 65536)] w fun e w' => e = .returned (.int .i64 c) ∧ Below w.heap.size w w'))
    (h3 : Hid (∀ w, Calls Try.prog 9 #[.int .i64 s, .int .i64 c] w fun e w' => e = .returned (.tuple #[.int .i64 (r * 65536), .bool true]) ∧ Below w.heap.size w w'))
    (h4 : Hid (∀ w, Calls Try.prog 9 #[.int .i64 0, .int .i64 0] w fun e w' => e = .returned (.tuple #[.int .i64 0, .bool false]) ∧ Below w.heap.size w w')) :
    Calls Try.prog 7 #[.int .u16 g, .int .i16 0, .int .i16 0, .int .u8 t] w fun e w' => e = .returned (.bool true) ∧ Below w.heap.size w w' := by
  go_enter Try.func7, Try.ntmps7
  go_wp2_with fail
  refine (hk.out _).mono ?_
  rintro e w1 ⟨rfl, k1⟩
  go_wp2_with fail
  refine (h1.out _).mono ?_
  rintro e w2 ⟨rfl, k2⟩
  go_wp2_with fail
  refine (h2.out _).mono ?_
  rintro e w3 ⟨rfl, k3⟩
  go_wp2_with fail
  refine (h3.out _).mono ?_
  rintro e w4 ⟨rfl, k4⟩
  go_wp2_with fail
  refine (h4.out _).mono ?_
  rintro e w5 ⟨rfl, k5⟩
  go_wp2_with fail
  refine (h4.out _).mono ?_
  rintro e w6 ⟨rfl, k6⟩
  go_wp2
  go_ret
  have z1 := k1.size; have z2 := k2.size; have z3 := k3.size; have z4 := k4.size; have z5 := k5.size
  exact ⟨rfl, ((((k1.trans (k2.mono (by omega))).trans (k3.mono (by omega))).trans (k4.mono (by omega))).trans (k5.mono (by omega))).trans (k6.mono (by omega))⟩

/-- In which quarter b lies, or at whose end. -/
abbrev Lies (b q e : Int) : Prop := b.tdiv 5898240 = q ∨ b = e

set_option maxHeartbeats 4000000 in
theorem core (g u v t r s c U V b : Int) (w : World) (g0 : 0 ≤ g) (g1 : g ≤ 65535) (t0 : 0 ≤ t) (t1 : t ≤ 255) (u0 : -32768 ≤ u) (u1 : u ≤ 32767) (v0 : -32768 ≤ v) (v1 : v ≤ 32767)
    (er : g.tmod 360 = r) (r0 : 0 ≤ r) (r1 : r < 360) (eU : u * (t + 1) = U) (eV : v * (t + 1) = V) (U0 : -8388608 ≤ U) (U1 : U ≤ 8388608) (V0 : -8388608 ≤ V) (V1 : V ≤ 8388608) (b0 : 0 ≤ b) (b1 : b < 23592960)
    (hk : Hid (∀ w, Calls Try.prog 8 #[] w fun e w' => e = .returned (.bool true) ∧ Below w.heap.size w w'))
    (h1 : Hid (∀ w, Calls Try.prog 11 #[.int .i64 (r * 65536)] w fun e w' => e = .returned (.int .i64 s) ∧ Below w.heap.size w w'))
    (h2 : Hid (∀ w, Calls Try.prog 13 #[.int .i64 (r * 65536)] w fun e w' => e = .returned (.int .i64 c) ∧ Below w.heap.size w w'))
    (h3 : Hid (∀ w, Calls Try.prog 9 #[.int .i64 s, .int .i64 c] w fun e w' => e = .returned (.tuple #[.int .i64 (r * 65536), .bool true]) ∧ Below w.heap.size w w'))
    (h4 : Hid (∀ w, Calls Try.prog 9 #[.int .i64 u, .int .i64 v] w fun e w' => e = .returned (.tuple #[.int .i64 b, .bool true]) ∧ Below w.heap.size w w'))
    (h5 : Hid (∀ w, Calls Try.prog 9 #[.int .i64 U, .int .i64 V] w fun e w' => e = .returned (.tuple #[.int .i64 b, .bool true]) ∧ Below w.heap.size w w'))
    (hz : ((u == 0) = true ∧ (v == 0) = false) ∨ (u == 0) = false)
    (hq : (0 < v ∧ 0 ≤ u ∧ Lies b 0 5898240) ∨ (v ≤ 0 ∧ 0 < u ∧ Lies b 1 11796480) ∨ (v < 0 ∧ u ≤ 0 ∧ Lies b 2 17694720) ∨ (0 < v ∧ u < 0 ∧ Lies b 3 0) ∨ ((0 ≤ v ∧ v ≤ 0) ∧ u < 0 ∧ Lies b 3 0)) :
    Calls Try.prog 7 #[.int .u16 g, .int .i16 u, .int .i16 v, .int .u8 t] w fun e w' => e = .returned (.bool true) ∧ Below w.heap.size w w' := by
  rcases hz with ⟨z1, z2⟩ | z1 <;> rcases hq with ⟨q1, q2, h | h⟩ | ⟨q1, q2, h | h⟩ | ⟨q1, q2, h | h⟩ | ⟨q1, q2, h | h⟩ | ⟨⟨q0, q1⟩, q2, h | h⟩ <;> (try subst h) <;> (
    go_enter Try.func7, Try.ntmps7
    go_wp2_with fail
    refine (hk.out _).mono ?_
    rintro e w1 ⟨rfl, k1⟩
    go_wp2_with fail
    refine (h1.out _).mono ?_
    rintro e w2 ⟨rfl, k2⟩
    go_wp2_with fail
    refine (h2.out _).mono ?_
    rintro e w3 ⟨rfl, k3⟩
    go_wp2_with fail
    refine (h3.out _).mono ?_
    rintro e w4 ⟨rfl, k4⟩
    go_wp2_with fail
    refine (h4.out _).mono ?_
    rintro e w5 ⟨rfl, k5⟩
    go_wp2_with fail
    refine (h5.out _).mono ?_
    rintro e w6 ⟨rfl, k6⟩
    go_wp2
    go_ret
    have z1 := k1.size; have z2 := k2.size; have z3 := k3.size; have z4 := k4.size; have z5 := k5.size
    exact ⟨rfl, ((((k1.trans (k2.mono (by omega))).trans (k3.mono (by omega))).trans (k4.mono (by omega))).trans (k5.mono (by omega))).trans (k6.mono (by omega))⟩)

theorem times_small (u n : Int) (u0 : -32768 ≤ u) (u1 : u ≤ 32767) (n0 : 0 < n) (n1 : n ≤ 256) : -8388608 ≤ u * n ∧ u * n ≤ 8388608 := by
  rcases Int.le_total 0 u with h | h
  · have a := Int.mul_nonneg h (by omega : 0 ≤ n)
    have b := Int.mul_le_mul (by omega : u ≤ 32768) n1 (by omega) (by decide : (0 : Int) ≤ 32768)
    omega
  · have a := Int.mul_nonneg (by omega : 0 ≤ -u) (by omega : 0 ≤ n)
    have b := Int.mul_le_mul (by omega : -u ≤ 32768) n1 (by omega) (by decide : (0 : Int) ≤ 32768)
    rw [Int.neg_mul] at a b
    omega

theorem walk (a0 : Int) (a1 : Int) (a2 : Int) (a3 : Int) (w0 : (Lit.int .u16 a0).wf = true) (w1 : (Lit.int .i16 a1).wf = true) (w2 : (Lit.int .i16 a2).wf = true) (w3 : (Lit.int .u8 a3).wf = true) (w : World) :
    Calls Try.prog 7 #[.int .u16 a0, .int .i16 a1, .int .i16 a2, .int .u8 a3] w fun e w' => e = .returned (.bool true) ∧ Below w.heap.size w w' := by
  obtain ⟨g0, g1⟩ := bounds_u16 w0
  obtain ⟨u0, u1⟩ := bounds_i16 w1
  obtain ⟨v0, v1⟩ := bounds_i16 w2
  obtain ⟨t0, t1⟩ := bounds_u8 w3
  have er : a0.tmod 360 = a0 % 360 := Int.tmod_eq_emod_of_nonneg g0
  obtain ⟨k, hk⟩ : ∃ k : Nat, a0 % 360 = (k : Int) := ⟨(a0 % 360).toNat, by omega⟩
  have hk' : k < 360 := by omega
  obtain ⟨d1, d2⟩ := dir_whole k hk'
  rw [hk] at er
  have H3 := fun w => dir_any (sinP ((k : Int) * 65536)) (cosP ((k : Int) * 65536)) w
  rw [d1, d2] at H3
  have C1 := Lib.hid (fun w => sin_any ((k : Int) * 65536) w)
  have C2 := Lib.hid (fun w => cos_any ((k : Int) * 65536) w)
  by_cases hz : a1 = 0 ∧ a2 = 0
  · obtain ⟨rfl, rfl⟩ := hz
    have H4 := fun w => dir_any 0 0 w
    rw [show okDir 0 0 = false by decide] at H4
    exact core_zero a0 a3 (k : Int) _ _ w g0 (by omega) t0 (by omega) er (by omega) (by omega) (Lib.hid (fun w => known_any w)) C1 C2 (Lib.hid H3) (Lib.hid H4)
  · have bu : -8388608 ≤ a1 * (a3 + 1) ∧ a1 * (a3 + 1) ≤ 8388608 := times_small a1 (a3 + 1) (by omega) (by omega) (by omega) (by omega)
    have bv : -8388608 ≤ a2 * (a3 + 1) ∧ a2 * (a3 + 1) ≤ 8388608 := times_small a2 (a3 + 1) (by omega) (by omega) (by omega) (by omega)
    have H4 := fun w => dir_any a1 a2 w
    rw [okDir_in a1 a2 hz (by omega) (by omega) (by omega) (by omega)] at H4
    have H5 := fun w => dir_any (a1 * (a3 + 1)) (a2 * (a3 + 1)) w
    have hz' : ¬(a1 * (a3 + 1) = 0 ∧ a2 * (a3 + 1) = 0) := by
      intro h
      rcases Int.mul_eq_zero.1 h.1 with h1 | h1
      · rcases Int.mul_eq_zero.1 h.2 with h2 | h2
        · exact hz ⟨h1, h2⟩
        · omega
      · omega
    rw [okDir_in _ _ hz' (by omega) (by omega) (by omega) (by omega), dir_scale a1 a2 (a3 + 1) (by omega) hz] at H5
    obtain ⟨b0, b1, hl⟩ := dir_quad a1 a2 hz
    have et : (dirP a1 a2).tdiv 5898240 = dirP a1 a2 / 5898240 := Int.tdiv_eq_ediv_of_nonneg b0
    refine core a0 a1 a2 a3 (k : Int) _ _ _ _ _ w g0 (by omega) t0 (by omega) (by omega) (by omega) (by omega) (by omega) er (by omega) (by omega) rfl rfl bu.1 bu.2 bv.1 bv.2 b0 b1
      (Lib.hid (fun w => known_any w)) C1 C2 (Lib.hid H3) (Lib.hid H4) (Lib.hid H5) ?_ ?_
    · by_cases h : a1 = 0
      · left; constructor
        · simpa using h
        · simp; omega
      · right; simpa using h
    · unfold Lies
      rw [et]
      generalize dirP a1 a2 = b at *
      rcases quad_cases a1 a2 with ⟨p1, p2, p3⟩ | ⟨p1, p2, p3⟩ | ⟨p1, p2, p3⟩ | ⟨p1, p2, p2', p3⟩ <;> rw [p3] at hl <;> clear et H3 H4 H5 C1 C2 d1 d2 <;> omega

set_option maxRecDepth 100000 in
theorem lifted (os : Os) (started : os.Started) (H : Type) (enc : TypeId × Value → H) :
    ReturnsInHanded {} Try.checked os 7 .any (Rows.turnFoundSpec.pre6 enc Try.prog Try.f7 Rows.turnFoundRow.domain false) (Rows.turnFoundSpec.post enc Try.prog Try.f7 false true false false) := by
  refine returnsInHanded_of_change (C := Try.checked) own started (by kernel_rfl) Try.func7
    (ChangeSpec.witness6 (enc := enc) (C := Try.checked) false ⟨#[], #[.int .u16 0, .int .i16 0, .int .i16 0, .int .u8 0], []⟩ 8 (by kernel_rfl) (by kernel_rfl) (by kernel_rfl) (by kernel_rfl)) ?_
  intro W base args ds gs before hval0 hW hcnd _
  have hval : ∀ (j : Nat) t v, Try.f7.params[j]? = some t → args[j]? = some v → Value.okWide Try.prog W .any base t v := hval0
  have hW' := hW
  obtain ⟨p, q, hA0, hV, rfl, hfz, hnd⟩ := hW
  have hA : DataW.TrodAll enc Try.prog W 0 (fun _ => true) true Try.f7.params.toList args.toList ds p := hA0
  rw [Try.params7] at hA hval
  obtain ⟨v0, vs0, d0, ds0, p0, q0, hargs, rfl, rfl, h0, r0⟩ := trodAll_cons hA
  obtain ⟨v1, vs1, d1, ds1, p1, q1, rfl, rfl, rfl, h1, r1⟩ := trodAll_cons r0
  obtain ⟨v2, vs2, d2, ds2, p2, q2, rfl, rfl, rfl, h2, r2⟩ := trodAll_cons r1
  obtain ⟨v3, vs3, d3, ds3, p3, q3, rfl, rfl, rfl, h3, r3⟩ := trodAll_cons r2
  obtain ⟨rfl, rfl, rfl⟩ := trodAll_nil r3
  obtain rfl : args = #[v0, v1, v2, v3] := by cases args; simp_all
  obtain ⟨rfl, rfl⟩ := trodVars_none hV
  obtain ⟨a0, rfl, rfl, rfl, w0⟩ := open_int Try.underlying32 (hval 0 32 v0 rfl rfl) h0
  obtain ⟨a1, rfl, rfl, rfl, w1⟩ := open_int Try.underlying27 (hval 1 27 v1 rfl rfl) h1
  obtain ⟨a2, rfl, rfl, rfl, w2⟩ := open_int Try.underlying27 (hval 2 27 v2 rfl rfl) h2
  obtain ⟨a3, rfl, rfl, rfl, w3⟩ := open_int Try.underlying5 (hval 3 5 v3 rfl rfl) h3
  clear hA0 hval0
  simp only [List.append_nil] at hW'
  refine (walk a0 a1 a2 a3 w0 w1 w2 w3 W).mono fun e W' ⟨he, bel⟩ => ?_
  subst he
  exact ⟨_, rfl, _, _, _, [], _, [], hW', trodAll_mk1 (shut_bool Try.underlying4 _), (trodAll_cons_mk (shut_int Try.underlying32 w0) (trodAll_cons_mk (shut_int Try.underlying27 w1) (trodAll_cons_mk (shut_int Try.underlying27 w2) (trodAll_cons_mk (shut_int Try.underlying5 w3) trodAll_mk0)))), rfl, bel.frame _, fun h => by cases h⟩

theorem over : Rows.turnFoundRow.holds Try.pinned (OpenSpec.ofChange Rows.turnFoundSpec) :=
  OpenClaim.holds_of_wide 7 Try.f7 rfl rfl rfl rfl rfl rfl rfl ⟨rfl, rfl, rfl, rfl, rfl⟩ rfl rfl rfl rfl rfl (by kernel_rfl) Try.func7 (by kernel_rfl)
    (of_decide_eq_true (by kernel_rfl)) (by unfold Func.isWrapper; first | (rw [if_pos (by decide +kernel)]; kernel_rfl) | (rw [if_neg (by decide +kernel)]; exact ⟨rfl, rfl⟩))
    (fun os started H enc _ => lifted os started H enc)

theorem proved : Rows.TurnFoundSaid :=
  over
#print axioms proved
end Go.Proofs.Ytiminclbkmkgnaa.turnFound
