/- tympanlaw3.FixRounds returns true for every integer, and its argument reads afterwards as before; no condition. -/
import Derived.Test.YtagdagojfmafpaaRows
import Derived.WalkKit
import Derived.ProofKit
import Derived.OpenShut
import Derived.ShutString
import Derived.ChangeOld
import Derived.Below
import Derived.Test.YtagdagojfmafpaaF4
namespace Go.Proofs.Ytagdagojfmafpaa.fixRounds
open Go.ChangeShapes Go.WideShapes Go.ChangeAt Go.RowKit
open Go.ChangeMaps (open_string shut_string)
set_option linter.unusedVariables false      -- a walk need not use every 'w<i>' (that an integer argument fits its kind)

theorem own : ownKnob Try.prog.godebug = none := by kernel_rfl

theorem may_yes (x : Int) (x0 : -1073741823 ≤ x) (x1 : x ≤ 1073741823) : mayF x = true := (may_iff x).2 ⟨x0, x1⟩

theorem near_x (x : Int) : let R := near x 65536; (-32768 < R * 65536 - x ∧ R * 65536 - x < 32768) ∨ (R % 2 = 0 ∧ (R * 65536 - x = 32768 ∨ x - R * 65536 = 32768)) := by
  have hm : mag 65536 = 65536 := by decide
  intro R
  show _
  have e : R = near x 65536 := rfl
  unfold near at e
  rw [sdiv_pos _ _ (by decide), smod_pos _ _ (by decide), hm] at e
  clear_value R
  split at e
  · omega
  · split at e
    · omega
    · split at e <;> omega

theorem trunc_neg (x : Int) (h : x < 0) : x.tdiv 65536 = -((-x) / 65536) := by
  rw [← Int.tdiv_eq_ediv_of_nonneg (by omega : 0 ≤ -x), Int.neg_tdiv]; omega

set_option maxHeartbeats 4000000 in
set_option maxRecDepth 100000 in
theorem core (a x f c r t W d : Int) (w : World) (x0 : -1073741823 ≤ x) (x1 : x ≤ 1073741823)
    (f0 : f ≤ x) (f1 : x < f + 65536) (c0 : x ≤ c) (c1 : c - 65536 < x)
    (mf : f.tmod 65536 = 0) (mc : c.tmod 65536 = 0) (mr : r.tmod 65536 = 0) (hd : r.tdiv 65536 = d) (d0 : -16385 ≤ d) (d1 : d ≤ 16385)
    (hW : W * 65536 = f) (W0 : -16384 ≤ W) (W1 : W ≤ 16384)
    (hx : (x < 0 ∧ c = t) ∨ (0 ≤ x ∧ f = t))
    (hr : (-32768 < r - x ∧ r - x < 0) ∨ (0 ≤ r - x ∧ r - x < 32768) ∨ (d.tmod 2 = 0 ∧ 32768 ≤ r - x ∧ r - x ≤ 32768) ∨ (d.tmod 2 = 0 ∧ -32768 ≤ r - x ∧ r - x ≤ -32768))
    (h1 : Hid (∀ w, Calls Try.prog 31 #[.int .i64 a] w fun e w' => e = .returned (.int .i64 x) ∧ w = w'))
    (h2 : Hid (∀ w, Calls Try.prog 21 #[.int .i64 x] w fun e w' => e = .returned (.int .i64 f) ∧ Below w.heap.size w w'))
    (h3 : Hid (∀ w, Calls Try.prog 23 #[.int .i64 x] w fun e w' => e = .returned (.int .i64 c) ∧ Below w.heap.size w w'))
    (h4 : Hid (∀ w, Calls Try.prog 25 #[.int .i64 x] w fun e w' => e = .returned (.int .i64 r) ∧ Below w.heap.size w w'))
    (h5 : Hid (∀ w, Calls Try.prog 27 #[.int .i64 x] w fun e w' => e = .returned (.int .i64 t) ∧ w = w'))
    (h6 : Hid (∀ w, Calls Try.prog 29 #[.int .i64 x] w fun e w' => e = .returned (.int .i64 W) ∧ Below w.heap.size w w'))
    (h7 : Hid (∀ w, Calls Try.prog 21 #[.int .i64 (-x)] w fun e w' => e = .returned (.int .i64 (-c)) ∧ Below w.heap.size w w')) :
    Calls Try.prog 5 #[.int .i64 a] w fun e w' => e = .returned (.bool true) ∧ Below w.heap.size w w' := by
  have hK := Lib.hid known_any
  rcases hx with ⟨hx, ht⟩ | ⟨hx, ht⟩
  · subst ht
    rcases hr with ⟨r0, r1⟩ | ⟨r0, r1⟩ | ⟨r2, r0, r1⟩ | ⟨r2, r0, r1⟩
    · have i0 : ∀ w : World, (Instr.index 29 (.agg #[.int .i64 f, .int .i64 c, .int .i64 r, .int .i64 c]) (.int .i64 0)).run Try.prog w = .ok (.int .i64 f) w := fun _ => by kernel_rfl
      have i1 : ∀ w : World, (Instr.index 29 (.agg #[.int .i64 f, .int .i64 c, .int .i64 r, .int .i64 c]) (.int .i64 1)).run Try.prog w = .ok (.int .i64 c) w := fun _ => by kernel_rfl
      have i2 : ∀ w : World, (Instr.index 29 (.agg #[.int .i64 f, .int .i64 c, .int .i64 r, .int .i64 c]) (.int .i64 2)).run Try.prog w = .ok (.int .i64 r) w := fun _ => by kernel_rfl
      have i3 : ∀ w : World, (Instr.index 29 (.agg #[.int .i64 f, .int .i64 c, .int .i64 r, .int .i64 c]) (.int .i64 3)).run Try.prog w = .ok (.int .i64 c) w := fun _ => by kernel_rfl
      go_enter Try.func5, Try.ntmps5
      go_wp2_with fail
      refine (hK.out _).mono ?_
      rintro e w1 ⟨rfl, k1⟩
      go_wp2_with fail
      refine (h1.out _).mono ?_
      rintro e w' ⟨rfl, rfl⟩
      go_wp2_with fail
      refine (h2.out _).mono ?_
      rintro e w2 ⟨rfl, k2⟩
      go_wp2_with fail
      refine (h3.out _).mono ?_
      rintro e w3 ⟨rfl, k3⟩
      go_wp2_with fail
      refine (h4.out _).mono ?_
      rintro e w4 ⟨rfl, k4⟩
      go_wp2_with fail
      refine (h5.out _).mono ?_
      rintro e w' ⟨rfl, rfl⟩
      go_wp2
      refine wp_loop_rounds 5 ?_
      rw [rounds_succ]
      go_wp2
      rw [rounds_succ]
      go_wp2
      rw [rounds_succ]
      go_wp2
      rw [rounds_succ]
      go_wp2
      rw [rounds_succ]
      go_wp2_with fail
      refine (h6.out _).mono ?_
      rintro e w6 ⟨rfl, k6⟩
      go_wp2_with fail
      refine (h7.out _).mono ?_
      rintro e w7 ⟨rfl, k7⟩
      go_wp2
      go_ret
      have z1 := k1.size; have z2 := k2.size; have z3 := k3.size; have z4 := k4.size; have z6 := k6.size
      exact ⟨rfl, ((((k1.trans (k2.mono (by omega))).trans (k3.mono (by omega))).trans (k4.mono (by omega))).trans (k6.mono (by omega))).trans (k7.mono (by omega))⟩
    · have i0 : ∀ w : World, (Instr.index 29 (.agg #[.int .i64 f, .int .i64 c, .int .i64 r, .int .i64 c]) (.int .i64 0)).run Try.prog w = .ok (.int .i64 f) w := fun _ => by kernel_rfl
      have i1 : ∀ w : World, (Instr.index 29 (.agg #[.int .i64 f, .int .i64 c, .int .i64 r, .int .i64 c]) (.int .i64 1)).run Try.prog w = .ok (.int .i64 c) w := fun _ => by kernel_rfl
      have i2 : ∀ w : World, (Instr.index 29 (.agg #[.int .i64 f, .int .i64 c, .int .i64 r, .int .i64 c]) (.int .i64 2)).run Try.prog w = .ok (.int .i64 r) w := fun _ => by kernel_rfl
      have i3 : ∀ w : World, (Instr.index 29 (.agg #[.int .i64 f, .int .i64 c, .int .i64 r, .int .i64 c]) (.int .i64 3)).run Try.prog w = .ok (.int .i64 c) w := fun _ => by kernel_rfl
      go_enter Try.func5, Try.ntmps5
      go_wp2_with fail
      refine (hK.out _).mono ?_
      rintro e w1 ⟨rfl, k1⟩
      go_wp2_with fail
      refine (h1.out _).mono ?_
      rintro e w' ⟨rfl, rfl⟩
      go_wp2_with fail
      refine (h2.out _).mono ?_
      rintro e w2 ⟨rfl, k2⟩
      go_wp2_with fail
      refine (h3.out _).mono ?_
      rintro e w3 ⟨rfl, k3⟩
      go_wp2_with fail
      refine (h4.out _).mono ?_
      rintro e w4 ⟨rfl, k4⟩
      go_wp2_with fail
      refine (h5.out _).mono ?_
      rintro e w' ⟨rfl, rfl⟩
      go_wp2
      refine wp_loop_rounds 5 ?_
      rw [rounds_succ]
      go_wp2
      rw [rounds_succ]
      go_wp2
      rw [rounds_succ]
      go_wp2
      rw [rounds_succ]
      go_wp2
      rw [rounds_succ]
      go_wp2_with fail
      refine (h6.out _).mono ?_
      rintro e w6 ⟨rfl, k6⟩
      go_wp2_with fail
      refine (h7.out _).mono ?_
      rintro e w7 ⟨rfl, k7⟩
      go_wp2
      go_ret
      have z1 := k1.size; have z2 := k2.size; have z3 := k3.size; have z4 := k4.size; have z6 := k6.size
      exact ⟨rfl, ((((k1.trans (k2.mono (by omega))).trans (k3.mono (by omega))).trans (k4.mono (by omega))).trans (k6.mono (by omega))).trans (k7.mono (by omega))⟩
    · have i0 : ∀ w : World, (Instr.index 29 (.agg #[.int .i64 f, .int .i64 c, .int .i64 r, .int .i64 c]) (.int .i64 0)).run Try.prog w = .ok (.int .i64 f) w := fun _ => by kernel_rfl
      have i1 : ∀ w : World, (Instr.index 29 (.agg #[.int .i64 f, .int .i64 c, .int .i64 r, .int .i64 c]) (.int .i64 1)).run Try.prog w = .ok (.int .i64 c) w := fun _ => by kernel_rfl
      have i2 : ∀ w : World, (Instr.index 29 (.agg #[.int .i64 f, .int .i64 c, .int .i64 r, .int .i64 c]) (.int .i64 2)).run Try.prog w = .ok (.int .i64 r) w := fun _ => by kernel_rfl
      have i3 : ∀ w : World, (Instr.index 29 (.agg #[.int .i64 f, .int .i64 c, .int .i64 r, .int .i64 c]) (.int .i64 3)).run Try.prog w = .ok (.int .i64 c) w := fun _ => by kernel_rfl
      go_enter Try.func5, Try.ntmps5
      go_wp2_with fail
      refine (hK.out _).mono ?_
      rintro e w1 ⟨rfl, k1⟩
      go_wp2_with fail
      refine (h1.out _).mono ?_
      rintro e w' ⟨rfl, rfl⟩
      go_wp2_with fail
      refine (h2.out _).mono ?_
      rintro e w2 ⟨rfl, k2⟩
      go_wp2_with fail
      refine (h3.out _).mono ?_
      rintro e w3 ⟨rfl, k3⟩
      go_wp2_with fail
      refine (h4.out _).mono ?_
      rintro e w4 ⟨rfl, k4⟩
      go_wp2_with fail
      refine (h5.out _).mono ?_
      rintro e w' ⟨rfl, rfl⟩
      go_wp2
      refine wp_loop_rounds 5 ?_
      rw [rounds_succ]
      go_wp2
      rw [rounds_succ]
      go_wp2
      rw [rounds_succ]
      go_wp2
      rw [rounds_succ]
      go_wp2
      rw [rounds_succ]
      go_wp2_with fail
      refine (h6.out _).mono ?_
      rintro e w6 ⟨rfl, k6⟩
      go_wp2_with fail
      refine (h7.out _).mono ?_
      rintro e w7 ⟨rfl, k7⟩
      go_wp2
      go_ret
      have z1 := k1.size; have z2 := k2.size; have z3 := k3.size; have z4 := k4.size; have z6 := k6.size
      exact ⟨rfl, ((((k1.trans (k2.mono (by omega))).trans (k3.mono (by omega))).trans (k4.mono (by omega))).trans (k6.mono (by omega))).trans (k7.mono (by omega))⟩
    · have i0 : ∀ w : World, (Instr.index 29 (.agg #[.int .i64 f, .int .i64 c, .int .i64 r, .int .i64 c]) (.int .i64 0)).run Try.prog w = .ok (.int .i64 f) w := fun _ => by kernel_rfl
      have i1 : ∀ w : World, (Instr.index 29 (.agg #[.int .i64 f, .int .i64 c, .int .i64 r, .int .i64 c]) (.int .i64 1)).run Try.prog w = .ok (.int .i64 c) w := fun _ => by kernel_rfl
      have i2 : ∀ w : World, (Instr.index 29 (.agg #[.int .i64 f, .int .i64 c, .int .i64 r, .int .i64 c]) (.int .i64 2)).run Try.prog w = .ok (.int .i64 r) w := fun _ => by kernel_rfl
      have i3 : ∀ w : World, (Instr.index 29 (.agg #[.int .i64 f, .int .i64 c, .int .i64 r, .int .i64 c]) (.int .i64 3)).run Try.prog w = .ok (.int .i64 c) w := fun _ => by kernel_rfl
      go_enter Try.func5, Try.ntmps5
      go_wp2_with fail
      refine (hK.out _).mono ?_
      rintro e w1 ⟨rfl, k1⟩
      go_wp2_with fail
      refine (h1.out _).mono ?_
      rintro e w' ⟨rfl, rfl⟩
      go_wp2_with fail
      refine (h2.out _).mono ?_
      rintro e w2 ⟨rfl, k2⟩
      go_wp2_with fail
      refine (h3.out _).mono ?_
      rintro e w3 ⟨rfl, k3⟩
      go_wp2_with fail
      refine (h4.out _).mono ?_
      rintro e w4 ⟨rfl, k4⟩
      go_wp2_with fail
      refine (h5.out _).mono ?_
      rintro e w' ⟨rfl, rfl⟩
      go_wp2
      refine wp_loop_rounds 5 ?_
      rw [rounds_succ]
      go_wp2
      rw [rounds_succ]
      go_wp2
      rw [rounds_succ]
      go_wp2
      rw [rounds_succ]
      go_wp2
      rw [rounds_succ]
      go_wp2_with fail
      refine (h6.out _).mono ?_
      rintro e w6 ⟨rfl, k6⟩
      go_wp2_with fail
      refine (h7.out _).mono ?_
      rintro e w7 ⟨rfl, k7⟩
      go_wp2
      go_ret
      have z1 := k1.size; have z2 := k2.size; have z3 := k3.size; have z4 := k4.size; have z6 := k6.size
      exact ⟨rfl, ((((k1.trans (k2.mono (by omega))).trans (k3.mono (by omega))).trans (k4.mono (by omega))).trans (k6.mono (by omega))).trans (k7.mono (by omega))⟩
  · subst ht
    rcases hr with ⟨r0, r1⟩ | ⟨r0, r1⟩ | ⟨r2, r0, r1⟩ | ⟨r2, r0, r1⟩
    · have i0 : ∀ w : World, (Instr.index 29 (.agg #[.int .i64 f, .int .i64 c, .int .i64 r, .int .i64 f]) (.int .i64 0)).run Try.prog w = .ok (.int .i64 f) w := fun _ => by kernel_rfl
      have i1 : ∀ w : World, (Instr.index 29 (.agg #[.int .i64 f, .int .i64 c, .int .i64 r, .int .i64 f]) (.int .i64 1)).run Try.prog w = .ok (.int .i64 c) w := fun _ => by kernel_rfl
      have i2 : ∀ w : World, (Instr.index 29 (.agg #[.int .i64 f, .int .i64 c, .int .i64 r, .int .i64 f]) (.int .i64 2)).run Try.prog w = .ok (.int .i64 r) w := fun _ => by kernel_rfl
      have i3 : ∀ w : World, (Instr.index 29 (.agg #[.int .i64 f, .int .i64 c, .int .i64 r, .int .i64 f]) (.int .i64 3)).run Try.prog w = .ok (.int .i64 f) w := fun _ => by kernel_rfl
      go_enter Try.func5, Try.ntmps5
      go_wp2_with fail
      refine (hK.out _).mono ?_
      rintro e w1 ⟨rfl, k1⟩
      go_wp2_with fail
      refine (h1.out _).mono ?_
      rintro e w' ⟨rfl, rfl⟩
      go_wp2_with fail
      refine (h2.out _).mono ?_
      rintro e w2 ⟨rfl, k2⟩
      go_wp2_with fail
      refine (h3.out _).mono ?_
      rintro e w3 ⟨rfl, k3⟩
      go_wp2_with fail
      refine (h4.out _).mono ?_
      rintro e w4 ⟨rfl, k4⟩
      go_wp2_with fail
      refine (h5.out _).mono ?_
      rintro e w' ⟨rfl, rfl⟩
      go_wp2
      refine wp_loop_rounds 5 ?_
      rw [rounds_succ]
      go_wp2
      rw [rounds_succ]
      go_wp2
      rw [rounds_succ]
      go_wp2
      rw [rounds_succ]
      go_wp2
      rw [rounds_succ]
      go_wp2_with fail
      refine (h6.out _).mono ?_
      rintro e w6 ⟨rfl, k6⟩
      go_wp2_with fail
      refine (h7.out _).mono ?_
      rintro e w7 ⟨rfl, k7⟩
      go_wp2
      go_ret
      have z1 := k1.size; have z2 := k2.size; have z3 := k3.size; have z4 := k4.size; have z6 := k6.size
      exact ⟨rfl, ((((k1.trans (k2.mono (by omega))).trans (k3.mono (by omega))).trans (k4.mono (by omega))).trans (k6.mono (by omega))).trans (k7.mono (by omega))⟩
    · have i0 : ∀ w : World, (Instr.index 29 (.agg #[.int .i64 f, .int .i64 c, .int .i64 r, .int .i64 f]) (.int .i64 0)).run Try.prog w = .ok (.int .i64 f) w := fun _ => by kernel_rfl
      have i1 : ∀ w : World, (Instr.index 29 (.agg #[.int .i64 f, .int .i64 c, .int .i64 r, .int .i64 f]) (.int .i64 1)).run Try.prog w = .ok (.int .i64 c) w := fun _ => by kernel_rfl
      have i2 : ∀ w : World, (Instr.index 29 (.agg #[.int .i64 f, .int .i64 c, .int .i64 r, .int .i64 f]) (.int .i64 2)).run Try.prog w = .ok (.int .i64 r) w := fun _ => by kernel_rfl
      have i3 : ∀ w : World, (Instr.index 29 (.agg #[.int .i64 f, .int .i64 c, .int .i64 r, .int .i64 f]) (.int .i64 3)).run Try.prog w = .ok (.int .i64 f) w := fun _ => by kernel_rfl
      go_enter Try.func5, Try.ntmps5
      go_wp2_with fail
      refine (hK.out _).mono ?_
      rintro e w1 ⟨rfl, k1⟩
      go_wp2_with fail
      refine (h1.out _).mono ?_
      rintro e w' ⟨rfl, rfl⟩
      go_wp2_with fail
      refine (h2.out _).mono ?_
      rintro e w2 ⟨rfl, k2⟩
      go_wp2_with fail
      refine (h3.out _).mono ?_
      rintro e w3 ⟨rfl, k3⟩
      go_wp2_with fail
      refine (h4.out _).mono ?_
      rintro e w4 ⟨rfl, k4⟩
      go_wp2_with fail
      refine (h5.out _).mono ?_
      rintro e w' ⟨rfl, rfl⟩
      go_wp2
      refine wp_loop_rounds 5 ?_
      rw [rounds_succ]
      go_wp2
      rw [rounds_succ]
      go_wp2
      rw [rounds_succ]
      go_wp2
      rw [rounds_succ]
      go_wp2
      rw [rounds_succ]
      go_wp2_with fail
      refine (h6.out _).mono ?_
      rintro e w6 ⟨rfl, k6⟩
      go_wp2_with fail
      refine (h7.out _).mono ?_
      rintro e w7 ⟨rfl, k7⟩
      go_wp2
      go_ret
      have z1 := k1.size; have z2 := k2.size; have z3 := k3.size; have z4 := k4.size; have z6 := k6.size
      exact ⟨rfl, ((((k1.trans (k2.mono (by omega))).trans (k3.mono (by omega))).trans (k4.mono (by omega))).trans (k6.mono (by omega))).trans (k7.mono (by omega))⟩
    · have i0 : ∀ w : World, (Instr.index 29 (.agg #[.int .i64 f, .int .i64 c, .int .i64 r, .int .i64 f]) (.int .i64 0)).run Try.prog w = .ok (.int .i64 f) w := fun _ => by kernel_rfl
      have i1 : ∀ w : World, (Instr.index 29 (.agg #[.int .i64 f, .int .i64 c, .int .i64 r, .int .i64 f]) (.int .i64 1)).run Try.prog w = .ok (.int .i64 c) w := fun _ => by kernel_rfl
      have i2 : ∀ w : World, (Instr.index 29 (.agg #[.int .i64 f, .int .i64 c, .int .i64 r, .int .i64 f]) (.int .i64 2)).run Try.prog w = .ok (.int .i64 r) w := fun _ => by kernel_rfl
      have i3 : ∀ w : World, (Instr.index 29 (.agg #[.int .i64 f, .int .i64 c, .int .i64 r, .int .i64 f]) (.int .i64 3)).run Try.prog w = .ok (.int .i64 f) w := fun _ => by kernel_rfl
      go_enter Try.func5, Try.ntmps5
      go_wp2_with fail
      refine (hK.out _).mono ?_
      rintro e w1 ⟨rfl, k1⟩
      go_wp2_with fail
      refine (h1.out _).mono ?_
      rintro e w' ⟨rfl, rfl⟩
      go_wp2_with fail
      refine (h2.out _).mono ?_
      rintro e w2 ⟨rfl, k2⟩
      go_wp2_with fail
      refine (h3.out _).mono ?_
      rintro e w3 ⟨rfl, k3⟩
      go_wp2_with fail
      refine (h4.out _).mono ?_
      rintro e w4 ⟨rfl, k4⟩
      go_wp2_with fail
      refine (h5.out _).mono ?_
      rintro e w' ⟨rfl, rfl⟩
      go_wp2
      refine wp_loop_rounds 5 ?_
      rw [rounds_succ]
      go_wp2
      rw [rounds_succ]
      go_wp2
      rw [rounds_succ]
      go_wp2
      rw [rounds_succ]
      go_wp2
      rw [rounds_succ]
      go_wp2_with fail
      refine (h6.out _).mono ?_
      rintro e w6 ⟨rfl, k6⟩
      go_wp2_with fail
      refine (h7.out _).mono ?_
      rintro e w7 ⟨rfl, k7⟩
      go_wp2
      go_ret
      have z1 := k1.size; have z2 := k2.size; have z3 := k3.size; have z4 := k4.size; have z6 := k6.size
      exact ⟨rfl, ((((k1.trans (k2.mono (by omega))).trans (k3.mono (by omega))).trans (k4.mono (by omega))).trans (k6.mono (by omega))).trans (k7.mono (by omega))⟩
    · have i0 : ∀ w : World, (Instr.index 29 (.agg #[.int .i64 f, .int .i64 c, .int .i64 r, .int .i64 f]) (.int .i64 0)).run Try.prog w = .ok (.int .i64 f) w := fun _ => by kernel_rfl
      have i1 : ∀ w : World, (Instr.index 29 (.agg #[.int .i64 f, .int .i64 c, .int .i64 r, .int .i64 f]) (.int .i64 1)).run Try.prog w = .ok (.int .i64 c) w := fun _ => by kernel_rfl
      have i2 : ∀ w : World, (Instr.index 29 (.agg #[.int .i64 f, .int .i64 c, .int .i64 r, .int .i64 f]) (.int .i64 2)).run Try.prog w = .ok (.int .i64 r) w := fun _ => by kernel_rfl
      have i3 : ∀ w : World, (Instr.index 29 (.agg #[.int .i64 f, .int .i64 c, .int .i64 r, .int .i64 f]) (.int .i64 3)).run Try.prog w = .ok (.int .i64 f) w := fun _ => by kernel_rfl
      go_enter Try.func5, Try.ntmps5
      go_wp2_with fail
      refine (hK.out _).mono ?_
      rintro e w1 ⟨rfl, k1⟩
      go_wp2_with fail
      refine (h1.out _).mono ?_
      rintro e w' ⟨rfl, rfl⟩
      go_wp2_with fail
      refine (h2.out _).mono ?_
      rintro e w2 ⟨rfl, k2⟩
      go_wp2_with fail
      refine (h3.out _).mono ?_
      rintro e w3 ⟨rfl, k3⟩
      go_wp2_with fail
      refine (h4.out _).mono ?_
      rintro e w4 ⟨rfl, k4⟩
      go_wp2_with fail
      refine (h5.out _).mono ?_
      rintro e w' ⟨rfl, rfl⟩
      go_wp2
      refine wp_loop_rounds 5 ?_
      rw [rounds_succ]
      go_wp2
      rw [rounds_succ]
      go_wp2
      rw [rounds_succ]
      go_wp2
      rw [rounds_succ]
      go_wp2
      rw [rounds_succ]
      go_wp2_with fail
      refine (h6.out _).mono ?_
      rintro e w6 ⟨rfl, k6⟩
      go_wp2_with fail
      refine (h7.out _).mono ?_
      rintro e w7 ⟨rfl, k7⟩
      go_wp2
      go_ret
      have z1 := k1.size; have z2 := k2.size; have z3 := k3.size; have z4 := k4.size; have z6 := k6.size
      exact ⟨rfl, ((((k1.trans (k2.mono (by omega))).trans (k3.mono (by omega))).trans (k4.mono (by omega))).trans (k6.mono (by omega))).trans (k7.mono (by omega))⟩

theorem walk (a0 : Int) (w0 : (Lit.int .i64 a0).wf = true) (w : World) :
    Calls Try.prog 5 #[.int .i64 a0] w fun e w' => e = .returned (.bool true) ∧ Below w.heap.size w w' := by
  obtain ⟨x0, x1⟩ := asF_bd a0
  have h1 := Lib.hid (fun w => asF_any a0 w)
  generalize asF a0 = x at *
  have ec := clamp_in x x0 x1
  have en := clamp_in (-x) (by omega) (by omega)
  have h2 := fun w => floorF_any x w
  have h3 := fun w => ceilF_any x w
  have h4 := fun w => roundF_any x w
  have h5 := fun w => truncF_any x w
  have h6 := fun w => wholeF_any x w
  have h7 := fun w => floorF_any (-x) w
  have e2 : floorF x = x / 65536 * 65536 := by unfold floorF; rw [ec]
  have e3 : ceilF x = -(-x / 65536 * 65536) := by unfold ceilF; rw [ec]
  have e4 : roundF x = near x 65536 * 65536 := by unfold roundF; rw [ec]
  have e5 : truncF x = x.tdiv 65536 * 65536 := by unfold truncF; rw [ec]
  have e6 : wholeF x = x / 65536 := by unfold wholeF; rw [ec]
  have e7 : floorF (-x) = -(-(-x / 65536 * 65536)) := by unfold floorF; rw [en]; omega
  rw [e2] at h2
  rw [e3] at h3
  rw [e4] at h4
  rw [e5] at h5
  rw [e6] at h6
  rw [e7] at h7
  have hn := near_x x
  refine core a0 x _ _ _ _ _ (near x 65536) w x0 x1 (by omega) (by omega) (by omega) (by omega) (Int.mul_tmod_left _ _) (by rw [← Int.neg_mul]; exact Int.mul_tmod_left _ _) (Int.mul_tmod_left _ _) (Int.mul_tdiv_cancel _ (by decide)) (by omega) (by omega) rfl (by omega) (by omega) ?_ ?_ h1 (Lib.hid h2) (Lib.hid h3) (Lib.hid h4) (Lib.hid h5) (Lib.hid h6) (Lib.hid h7)
  · rcases Int.lt_or_le x 0 with h | h
    · left; refine ⟨h, ?_⟩; rw [trunc_neg x h]; omega
    · right; refine ⟨h, ?_⟩; rw [Int.tdiv_eq_ediv_of_nonneg h]
  · rcases hn with ⟨n0, n1⟩ | ⟨n2, n0⟩
    · omega
    · have := Int.tmod_eq_zero_of_dvd (Int.dvd_of_emod_eq_zero n2)
      omega

set_option maxRecDepth 100000 in
theorem lifted (os : Os) (started : os.Started) (H : Type) (enc : TypeId × Value → H) :
    ReturnsInHanded {} Try.checked os 5 .any (Rows.fixRoundsSpec.pre6 enc Try.prog Try.f5 Rows.fixRoundsRow.domain false) (Rows.fixRoundsSpec.post enc Try.prog Try.f5 false true false false) := by
  refine returnsInHanded_of_change (C := Try.checked) own started (by kernel_rfl) Try.func5
    (ChangeSpec.witness6 (enc := enc) (C := Try.checked) false ⟨#[], #[.int .i64 0], []⟩ 8 (by kernel_rfl) (by kernel_rfl) (by kernel_rfl) (by kernel_rfl)) ?_
  intro W base args ds gs before hval0 hW hcnd _
  have hval : ∀ (j : Nat) t v, Try.f5.params[j]? = some t → args[j]? = some v → Value.okWide Try.prog W .any base t v := hval0
  have hW' := hW
  obtain ⟨p, q, hA0, hV, rfl, hfz, hnd⟩ := hW
  have hA : DataW.TrodAll enc Try.prog W 0 (fun _ => true) true Try.f5.params.toList args.toList ds p := hA0
  rw [Try.params5] at hA hval
  obtain ⟨v0, vs0, d0, ds0, p0, q0, hargs, rfl, rfl, h0, r0⟩ := trodAll_cons hA
  obtain ⟨rfl, rfl, rfl⟩ := trodAll_nil r0
  obtain rfl : args = #[v0] := by cases args; simp_all
  obtain ⟨rfl, rfl⟩ := trodVars_none hV
  obtain ⟨a0, rfl, rfl, rfl, w0⟩ := open_int Try.underlying3 (hval 0 3 v0 rfl rfl) h0
  clear hA0 hval0
  simp only [List.append_nil] at hW'
  refine (walk a0 w0 W).mono fun e W' ⟨he, bel⟩ => ?_
  subst he
  exact ⟨_, rfl, _, _, _, [], _, [], hW', trodAll_mk1 (shut_bool Try.underlying4 _), (trodAll_cons_mk (shut_int Try.underlying3 w0) trodAll_mk0), rfl, bel.frame _, fun h => by cases h⟩

theorem over : Rows.fixRoundsRow.holds Try.pinned (OpenSpec.ofChange Rows.fixRoundsSpec) :=
  OpenClaim.holds_of_wide 5 Try.f5 rfl rfl rfl rfl rfl rfl rfl ⟨rfl, rfl, rfl, rfl, rfl⟩ rfl rfl rfl rfl rfl (by kernel_rfl) Try.func5 (by kernel_rfl)
    (of_decide_eq_true (by kernel_rfl)) (by unfold Func.isWrapper; first | (rw [if_pos (by decide +kernel)]; kernel_rfl) | (rw [if_neg (by decide +kernel)]; exact ⟨rfl, rfl⟩))
    (fun os started H enc _ => lifted os started H enc)

theorem proved : Rows.FixRoundsSaid :=
  over
#print axioms proved
end Go.Proofs.Ytagdagojfmafpaa.fixRounds
