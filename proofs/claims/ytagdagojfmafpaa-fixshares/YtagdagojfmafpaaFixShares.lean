/- tympanlaw3.FixShares returns true for every two integers, and its arguments read afterwards as before; no condition. -/
import Derived.Test.YtagdagojfmafpaaRows
import Derived.WalkKit
import Derived.ProofKit
import Derived.OpenShut
import Derived.ShutString
import Derived.ChangeOld
import Derived.Below
import Derived.Test.YtagdagojfmafpaaF4
namespace Go.Proofs.Ytagdagojfmafpaa.fixShares
open Go.ChangeShapes Go.WideShapes Go.ChangeAt Go.RowKit
open Go.ChangeMaps (open_string shut_string)
set_option linter.unusedVariables false      -- a walk need not use every 'w<i>' (that an integer argument fits its kind)

theorem own : ownKnob Try.prog.godebug = none := by kernel_rfl

abbrev Two (k : Nat) (x y v : Int) (t : Bool) : Prop := ∀ w, Calls Try.prog k #[.int .i64 x, .int .i64 y] w fun e w' => e = .returned (.tuple #[.int .i64 v, .bool t]) ∧ Below w.heap.size w w'

theorem near_half (n d : Int) (hd : d ≠ 0) : -mag d ≤ 2 * (n - near n d * d) ∧ 2 * (n - near n d * d) ≤ mag d := by
  have hm := mag_pos d hd
  have e := Int.mul_ediv_add_emod (up n d) (mag d)
  have r0 := Int.emod_nonneg (up n d) (by omega : mag d ≠ 0)
  have r1 := Int.emod_lt_of_pos (up n d) hm
  rw [← sdiv_up, ← smod_up] at *
  have hk : (near n d = sdiv n d ∧ 2 * smod n d ≤ mag d) ∨ (near n d = sdiv n d + 1 ∧ mag d ≤ 2 * smod n d) := by
    unfold near; repeat' split
    all_goals omega
  have hs : n - near n d * d = (if d < 0 then -1 else 1) * (up n d - mag d * near n d) := by
    unfold up mag
    split
    · rw [Int.neg_mul d, Int.mul_comm (near n d) d]; omega
    · rw [Int.mul_comm (near n d) d]; omega
  have hp : up n d - mag d * near n d = smod n d ∨ up n d - mag d * near n d = smod n d - mag d := by
    rcases hk with ⟨h, _⟩ | ⟨h, _⟩
    · left; rw [h]; omega
    · right; rw [h, Int.mul_add]; omega
  have hq : (up n d - mag d * near n d = smod n d ∧ 2 * smod n d ≤ mag d) ∨ (up n d - mag d * near n d = smod n d - mag d ∧ mag d ≤ 2 * smod n d) := by
    rcases hk with ⟨h, h'⟩ | ⟨h, h'⟩
    · left; refine ⟨?_, h'⟩; rw [h]; omega
    · right; refine ⟨?_, h'⟩; rw [h, Int.mul_add]; omega
  rw [hs]
  split <;> omega

set_option maxHeartbeats 1000000 in
theorem core_none (a b x y : Int) (w : World) (x0 : -1073741823 ≤ x) (x1 : x ≤ 1073741823) (y0 : -1073741823 ≤ y) (y1 : y ≤ 1073741823)
    (h1 : Hid (∀ w, Calls Try.prog 31 #[.int .i64 a] w fun e w' => e = .returned (.int .i64 x) ∧ w = w'))
    (h2 : Hid (∀ w, Calls Try.prog 31 #[.int .i64 b] w fun e w' => e = .returned (.int .i64 y) ∧ w = w'))
    (h3 : Hid (Two 17 x y 0 false)) :
    Calls Try.prog 6 #[.int .i64 a, .int .i64 b] w fun e w' => e = .returned (.bool true) ∧ Below w.heap.size w w' := by
  have hK := Lib.hid known_any
  go_enter Try.func6, Try.ntmps6
  go_wp2_with fail
  refine (hK.out _).mono ?_
  rintro e w1 ⟨rfl, k1⟩
  go_wp2_with fail
  refine (h1.out _).mono ?_
  rintro e w' ⟨rfl, rfl⟩
  go_wp2_with fail
  refine (h2.out _).mono ?_
  rintro e w' ⟨rfl, rfl⟩
  go_wp2_with fail
  refine (h3.out _).mono ?_
  rintro e w3 ⟨rfl, k3⟩
  go_wp2
  go_ret
  have z := k1.size
  exact ⟨rfl, k1.trans (k3.mono (by omega))⟩

set_option maxHeartbeats 1000000 in
theorem core_great (a b x y q : Int) (w : World) (x0 : -1073741823 ≤ x) (x1 : x ≤ 1073741823) (y0 : -1073741823 ≤ y) (y1 : y ≤ 1073741823) (hx : 1073709055 < x ∨ x < -1073709055)
    (h1 : Hid (∀ w, Calls Try.prog 31 #[.int .i64 a] w fun e w' => e = .returned (.int .i64 x) ∧ w = w'))
    (h2 : Hid (∀ w, Calls Try.prog 31 #[.int .i64 b] w fun e w' => e = .returned (.int .i64 y) ∧ w = w'))
    (h3 : Hid (Two 17 x y q true)) (h4 : Hid (Two 15 q y 0 false)) :
    Calls Try.prog 6 #[.int .i64 a, .int .i64 b] w fun e w' => e = .returned (.bool true) ∧ Below w.heap.size w w' := by
  have hK := Lib.hid known_any
  rcases hx with hx | hx
  · go_enter Try.func6, Try.ntmps6
    go_wp2_with fail
    refine (hK.out _).mono ?_
    rintro e w1 ⟨rfl, k1⟩
    go_wp2_with fail
    refine (h1.out _).mono ?_
    rintro e w' ⟨rfl, rfl⟩
    go_wp2_with fail
    refine (h2.out _).mono ?_
    rintro e w' ⟨rfl, rfl⟩
    go_wp2_with fail
    refine (h3.out _).mono ?_
    rintro e w3 ⟨rfl, k3⟩
    go_wp2_with fail
    refine (h4.out _).mono ?_
    rintro e w4 ⟨rfl, k4⟩
    go_wp2
    go_ret
    have z1 := k1.size; have z3 := k3.size
    exact ⟨rfl, (k1.trans (k3.mono (by omega))).trans (k4.mono (by omega))⟩
  · go_enter Try.func6, Try.ntmps6
    go_wp2_with fail
    refine (hK.out _).mono ?_
    rintro e w1 ⟨rfl, k1⟩
    go_wp2_with fail
    refine (h1.out _).mono ?_
    rintro e w' ⟨rfl, rfl⟩
    go_wp2_with fail
    refine (h2.out _).mono ?_
    rintro e w' ⟨rfl, rfl⟩
    go_wp2_with fail
    refine (h3.out _).mono ?_
    rintro e w3 ⟨rfl, k3⟩
    go_wp2_with fail
    refine (h4.out _).mono ?_
    rintro e w4 ⟨rfl, k4⟩
    go_wp2
    go_ret
    have z1 := k1.size; have z3 := k3.size
    exact ⟨rfl, (k1.trans (k3.mono (by omega))).trans (k4.mono (by omega))⟩

set_option maxHeartbeats 1000000 in
theorem core_near (a b x y q v : Int) (w : World) (x0 : -1073741823 ≤ x) (x1 : x ≤ 1073741823) (y0 : -1073741823 ≤ y) (y1 : y ≤ 1073741823)
    (hv : v - x < 0 ∨ 0 ≤ v - x) (hy : (y < 0 ∧ -(65536 - y) ≤ 131072 * (v - x) ∧ 131072 * (v - x) ≤ 65536 - y) ∨ (0 ≤ y ∧ -(65536 + y) ≤ 131072 * (v - x) ∧ 131072 * (v - x) ≤ 65536 + y))
    (h1 : Hid (∀ w, Calls Try.prog 31 #[.int .i64 a] w fun e w' => e = .returned (.int .i64 x) ∧ w = w'))
    (h2 : Hid (∀ w, Calls Try.prog 31 #[.int .i64 b] w fun e w' => e = .returned (.int .i64 y) ∧ w = w'))
    (h3 : Hid (Two 17 x y q true)) (h4 : Hid (Two 15 q y v true)) :
    Calls Try.prog 6 #[.int .i64 a, .int .i64 b] w fun e w' => e = .returned (.bool true) ∧ Below w.heap.size w w' := by
  have hK := Lib.hid known_any
  rcases hv with hv | hv
  · rcases hy with ⟨y2, y3, y4⟩ | ⟨y2, y3, y4⟩
    · go_enter Try.func6, Try.ntmps6
      go_wp2_with fail
      refine (hK.out _).mono ?_
      rintro e w1 ⟨rfl, k1⟩
      go_wp2_with fail
      refine (h1.out _).mono ?_
      rintro e w' ⟨rfl, rfl⟩
      go_wp2_with fail
      refine (h2.out _).mono ?_
      rintro e w' ⟨rfl, rfl⟩
      go_wp2_with fail
      refine (h3.out _).mono ?_
      rintro e w3 ⟨rfl, k3⟩
      go_wp2_with fail
      refine (h4.out _).mono ?_
      rintro e w4 ⟨rfl, k4⟩
      go_wp2
      go_ret
      have z1 := k1.size; have z3 := k3.size
      exact ⟨ret_bool (decide_eq_true (by omega)), (k1.trans (k3.mono (by omega))).trans (k4.mono (by omega))⟩
    · go_enter Try.func6, Try.ntmps6
      go_wp2_with fail
      refine (hK.out _).mono ?_
      rintro e w1 ⟨rfl, k1⟩
      go_wp2_with fail
      refine (h1.out _).mono ?_
      rintro e w' ⟨rfl, rfl⟩
      go_wp2_with fail
      refine (h2.out _).mono ?_
      rintro e w' ⟨rfl, rfl⟩
      go_wp2_with fail
      refine (h3.out _).mono ?_
      rintro e w3 ⟨rfl, k3⟩
      go_wp2_with fail
      refine (h4.out _).mono ?_
      rintro e w4 ⟨rfl, k4⟩
      go_wp2
      go_ret
      have z1 := k1.size; have z3 := k3.size
      exact ⟨ret_bool (decide_eq_true (by omega)), (k1.trans (k3.mono (by omega))).trans (k4.mono (by omega))⟩
  · rcases hy with ⟨y2, y3, y4⟩ | ⟨y2, y3, y4⟩
    · go_enter Try.func6, Try.ntmps6
      go_wp2_with fail
      refine (hK.out _).mono ?_
      rintro e w1 ⟨rfl, k1⟩
      go_wp2_with fail
      refine (h1.out _).mono ?_
      rintro e w' ⟨rfl, rfl⟩
      go_wp2_with fail
      refine (h2.out _).mono ?_
      rintro e w' ⟨rfl, rfl⟩
      go_wp2_with fail
      refine (h3.out _).mono ?_
      rintro e w3 ⟨rfl, k3⟩
      go_wp2_with fail
      refine (h4.out _).mono ?_
      rintro e w4 ⟨rfl, k4⟩
      go_wp2
      go_ret
      have z1 := k1.size; have z3 := k3.size
      exact ⟨ret_bool (decide_eq_true (by omega)), (k1.trans (k3.mono (by omega))).trans (k4.mono (by omega))⟩
    · go_enter Try.func6, Try.ntmps6
      go_wp2_with fail
      refine (hK.out _).mono ?_
      rintro e w1 ⟨rfl, k1⟩
      go_wp2_with fail
      refine (h1.out _).mono ?_
      rintro e w' ⟨rfl, rfl⟩
      go_wp2_with fail
      refine (h2.out _).mono ?_
      rintro e w' ⟨rfl, rfl⟩
      go_wp2_with fail
      refine (h3.out _).mono ?_
      rintro e w3 ⟨rfl, k3⟩
      go_wp2_with fail
      refine (h4.out _).mono ?_
      rintro e w4 ⟨rfl, k4⟩
      go_wp2
      go_ret
      have z1 := k1.size; have z3 := k3.size
      exact ⟨ret_bool (decide_eq_true (by omega)), (k1.trans (k3.mono (by omega))).trans (k4.mono (by omega))⟩

theorem walk (a0 : Int) (a1 : Int) (w0 : (Lit.int .i64 a0).wf = true) (w1 : (Lit.int .i64 a1).wf = true) (w : World) :
    Calls Try.prog 6 #[.int .i64 a0, .int .i64 a1] w fun e w' => e = .returned (.bool true) ∧ Below w.heap.size w w' := by
  obtain ⟨x0, x1⟩ := asF_bd a0
  obtain ⟨y0, y1⟩ := asF_bd a1
  have h1 := Lib.hid (fun w => asF_any a0 w)
  have h2 := Lib.hid (fun w => asF_any a1 w)
  generalize asF a0 = x at *
  generalize asF a1 = y at *
  have h3 : Two 17 x y _ _ := fun w => divF_any x y w (by omega) (by omega) (by omega) (by omega)
  cases hd : okDiv x y
  · rw [hd] at h3
    exact core_none a0 a1 x y w x0 x1 y0 y1 h1 h2 (Lib.hid h3)
  · rw [hd] at h3
    unfold okDiv at hd
    have hz : y ≠ 0 := by
      intro h
      rw [decide_eq_false (by omega : ¬ y ≠ 0)] at hd
      simp at hd
    have hq : mayF (near (x * 65536) y) = true := by
      cases hm : mayF (near (x * 65536) y)
      · rw [hm] at hd; simp at hd
      · rfl
    obtain ⟨q0, q1⟩ := (may_iff _).1 hq
    have n1 := near_half (x * 65536) y hz
    have n2 := near_half (near (x * 65536) y * y) 65536 (by decide)
    have h4 : Two 15 (near (x * 65536) y) y _ _ := fun w => mulF_any (near (x * 65536) y) y w (by omega) (by omega) (by omega) (by omega)
    have hm6 : mag 65536 = 65536 := by decide
    rw [hm6] at n2
    have hmy : (y < 0 ∧ mag y = -y) ∨ (0 ≤ y ∧ mag y = y) := by unfold mag; split <;> omega
    generalize hQ : near (x * 65536) y = q at *
    cases hm : okMul q y
    · rw [hm] at h4
      unfold okMul at hm
      rw [(may_iff q).2 ⟨q0, q1⟩, (may_iff y).2 ⟨y0, y1⟩] at hm
      have hm2 := (may_not _).1 (by simpa using hm)
      generalize q * y = p at *
      exact core_great a0 a1 x y q w x0 x1 y0 y1 (by omega) h1 h2 (Lib.hid h3) (Lib.hid h4)
    · have g : ∀ v, gate true v = v := fun _ => rfl
      rw [hm, g] at h4
      generalize q * y = p at *
      exact core_near a0 a1 x y q _ w x0 x1 y0 y1 (by omega) (by omega) h1 h2 (Lib.hid h3) (Lib.hid h4)

set_option maxRecDepth 100000 in
theorem lifted (os : Os) (started : os.Started) (H : Type) (enc : TypeId × Value → H) :
    ReturnsInHanded {} Try.checked os 6 .any (Rows.fixSharesSpec.pre6 enc Try.prog Try.f6 Rows.fixSharesRow.domain false) (Rows.fixSharesSpec.post enc Try.prog Try.f6 false true false false) := by
  refine returnsInHanded_of_change (C := Try.checked) own started (by kernel_rfl) Try.func6
    (ChangeSpec.witness6 (enc := enc) (C := Try.checked) false ⟨#[], #[.int .i64 0, .int .i64 0], []⟩ 8 (by kernel_rfl) (by kernel_rfl) (by kernel_rfl) (by kernel_rfl)) ?_
  intro W base args ds gs before hval0 hW hcnd _
  have hval : ∀ (j : Nat) t v, Try.f6.params[j]? = some t → args[j]? = some v → Value.okWide Try.prog W .any base t v := hval0
  have hW' := hW
  obtain ⟨p, q, hA0, hV, rfl, hfz, hnd⟩ := hW
  have hA : DataW.TrodAll enc Try.prog W 0 (fun _ => true) true Try.f6.params.toList args.toList ds p := hA0
  rw [Try.params6] at hA hval
  obtain ⟨v0, vs0, d0, ds0, p0, q0, hargs, rfl, rfl, h0, r0⟩ := trodAll_cons hA
  obtain ⟨v1, vs1, d1, ds1, p1, q1, rfl, rfl, rfl, h1, r1⟩ := trodAll_cons r0
  obtain ⟨rfl, rfl, rfl⟩ := trodAll_nil r1
  obtain rfl : args = #[v0, v1] := by cases args; simp_all
  obtain ⟨rfl, rfl⟩ := trodVars_none hV
  obtain ⟨a0, rfl, rfl, rfl, w0⟩ := open_int Try.underlying3 (hval 0 3 v0 rfl rfl) h0
  obtain ⟨a1, rfl, rfl, rfl, w1⟩ := open_int Try.underlying3 (hval 1 3 v1 rfl rfl) h1
  clear hA0 hval0
  simp only [List.append_nil] at hW'
  refine (walk a0 a1 w0 w1 W).mono fun e W' ⟨he, bel⟩ => ?_
  subst he
  exact ⟨_, rfl, _, _, _, [], _, [], hW', trodAll_mk1 (shut_bool Try.underlying4 _), (trodAll_cons_mk (shut_int Try.underlying3 w0) (trodAll_cons_mk (shut_int Try.underlying3 w1) trodAll_mk0)), rfl, bel.frame _, fun h => by cases h⟩

theorem over : Rows.fixSharesRow.holds Try.pinned (OpenSpec.ofChange Rows.fixSharesSpec) :=
  OpenClaim.holds_of_wide 6 Try.f6 rfl rfl rfl rfl rfl rfl rfl ⟨rfl, rfl, rfl, rfl, rfl⟩ rfl rfl rfl rfl rfl (by kernel_rfl) Try.func6 (by kernel_rfl)
    (of_decide_eq_true (by kernel_rfl)) (by unfold Func.isWrapper; first | (rw [if_pos (by decide +kernel)]; kernel_rfl) | (rw [if_neg (by decide +kernel)]; exact ⟨rfl, rfl⟩))
    (fun os started H enc _ => lifted os started H enc)

theorem proved : Rows.FixSharesSaid :=
  over
#print axioms proved
end Go.Proofs.Ytagdagojfmafpaa.fixShares
