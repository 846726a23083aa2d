/- tympanlaw1.WideNear returns true for every three 32-bit integers, and its arguments read afterwards as before; no condition. -/
import Derived.Test.YtfnikcpbagcgkaaRows
import Derived.WalkKit
import Derived.ProofKit
import Derived.OpenShut
import Derived.ShutString
import Derived.ChangeOld
import Derived.Below
import Derived.Test.YtfnikcpbagcgkaaW7
namespace Go.Proofs.Ytfnikcpbagcgkaa.wideNear
open Go.ChangeShapes Go.WideShapes Go.ChangeAt Go.RowKit
open Go.ChangeMaps (open_string shut_string)
set_option linter.unusedVariables false      -- a walk need not use every 'w<i>' (that an integer argument fits its kind)

theorem own : ownKnob Try.prog.godebug = none := by kernel_rfl

theorem small_prod (a b : Int) (h1 : -2147483648 ≤ a) (h2 : a ≤ 2147483647) (h3 : -2147483648 ≤ b) (h4 : b ≤ 2147483647) : -4611686018427387904 ≤ a * b ∧ a * b ≤ 4611686018427387904 := by
  have p1 := Int.mul_nonneg (by omega : 0 ≤ a + 2147483648) (by omega : 0 ≤ b + 2147483648)
  have p2 := Int.mul_nonneg (by omega : 0 ≤ 2147483647 - a) (by omega : 0 ≤ 2147483647 - b)
  have p3 := Int.mul_nonneg (by omega : 0 ≤ a + 2147483648) (by omega : 0 ≤ 2147483647 - b)
  have p4 := Int.mul_nonneg (by omega : 0 ≤ 2147483647 - a) (by omega : 0 ≤ b + 2147483648)
  simp only [Int.mul_sub, Int.sub_mul, Int.mul_add, Int.add_mul] at p1 p2 p3 p4
  omega

/-- What a call of the layer's answers: a number and true. -/
def Tells (k : Nat) (a b d q : Int) : Prop := ∀ w, Calls Try.prog k #[.int .i64 a, .int .i64 b, .int .i64 d] w fun e w' => e = .returned (.tuple #[.int .i64 q, .bool true]) ∧ Below w.heap.size w w'

set_option maxHeartbeats 2000000 in
set_option maxRecDepth 100000 in
theorem core_pos (a b d v q f o r : Int) (w : World) (hM : Hid (Tells 11 a b d q)) (hF : Hid (Tells 13 a b d f))
    (al : -2147483648 ≤ a) (ah : a ≤ 2147483647) (bl : -2147483648 ≤ b) (bh : b ≤ 2147483647) (dl : -2147483648 ≤ d) (dh : d ≤ 2147483647)
    (hz : (d == 0) = false) (hv : a * b = v) (vl : -4611686018427387904 ≤ v) (vh : v ≤ 4611686018427387904)
    (ql : -4611686018427387904 ≤ q) (qh : q ≤ 4611686018427387904) (fl : -4611686018427387904 ≤ f) (fh : f ≤ 4611686018427387904)
    (eq : q * d = v - o) (ef : f * d = v - r) (ol : -2147483648 ≤ o) (oh : o ≤ 2147483648) (rl : -2147483648 ≤ r) (rh : r ≤ 2147483648)
    (s1 : 0 < d) (s3 : 0 ≤ r) (s4 : r < d)
    (ht : mag o < d - mag o ∨ (mag o = d - mag o ∧ (q.tmod 2 == 0) = true)) :
    Calls Try.prog 6 #[.int .i32 a, .int .i32 b, .int .i32 d] w fun e w' => e = .returned (.bool true) ∧ Below w.heap.size w w' := by
  have hK := Lib.hid known_any
  by_cases ho : o < 0
  · have em : mag o = -o := by unfold mag; rw [if_pos ho]
    rw [em] at ht
    clear em
    rcases ht with hlt | ⟨heq, hev⟩
    · go_enter Try.func6, Try.ntmps6
      go_wp2_with fail
      refine (hK.out _).mono ?_
      rintro e w1 ⟨rfl, k1⟩
      go_wp2_with fail
      refine (hM.out _).mono ?_
      rintro e w2 ⟨rfl, k2⟩
      go_wp2_with fail
      refine (hF.out _).mono ?_
      rintro e w3 ⟨rfl, k3⟩
      go_wp2
      go_ret
      have z1 := k1.size; have z2 := k2.size
      exact ⟨rfl, (k1.trans (k2.mono (by omega))).trans (k3.mono (by omega))⟩
    · have t1 : 2 * (-o) ≤ d := by omega
      have t2 : d ≤ 2 * (-o) := by omega
      clear heq
      go_enter Try.func6, Try.ntmps6
      go_wp2_with fail
      refine (hK.out _).mono ?_
      rintro e w1 ⟨rfl, k1⟩
      go_wp2_with fail
      refine (hM.out _).mono ?_
      rintro e w2 ⟨rfl, k2⟩
      go_wp2_with fail
      refine (hF.out _).mono ?_
      rintro e w3 ⟨rfl, k3⟩
      go_wp2
      go_ret
      have z1 := k1.size; have z2 := k2.size
      exact ⟨rfl, (k1.trans (k2.mono (by omega))).trans (k3.mono (by omega))⟩
  · have em : mag o = o := by unfold mag; rw [if_neg ho]
    rw [em] at ht
    clear em
    rcases ht with hlt | ⟨heq, hev⟩
    · go_enter Try.func6, Try.ntmps6
      go_wp2_with fail
      refine (hK.out _).mono ?_
      rintro e w1 ⟨rfl, k1⟩
      go_wp2_with fail
      refine (hM.out _).mono ?_
      rintro e w2 ⟨rfl, k2⟩
      go_wp2_with fail
      refine (hF.out _).mono ?_
      rintro e w3 ⟨rfl, k3⟩
      go_wp2
      go_ret
      have z1 := k1.size; have z2 := k2.size
      exact ⟨rfl, (k1.trans (k2.mono (by omega))).trans (k3.mono (by omega))⟩
    · have t1 : 2 * (o) ≤ d := by omega
      have t2 : d ≤ 2 * (o) := by omega
      have t3 : (v - (v - o) == d - (v - (v - o))) = true := by simp; omega
      clear heq
      go_enter Try.func6, Try.ntmps6
      go_wp2_with fail
      refine (hK.out _).mono ?_
      rintro e w1 ⟨rfl, k1⟩
      go_wp2_with fail
      refine (hM.out _).mono ?_
      rintro e w2 ⟨rfl, k2⟩
      go_wp2_with fail
      refine (hF.out _).mono ?_
      rintro e w3 ⟨rfl, k3⟩
      go_wp2
      go_ret
      have z1 := k1.size; have z2 := k2.size
      exact ⟨rfl, (k1.trans (k2.mono (by omega))).trans (k3.mono (by omega))⟩

set_option maxHeartbeats 2000000 in
set_option maxRecDepth 100000 in
theorem core_neg (a b d v q f o r : Int) (w : World) (hM : Hid (Tells 11 a b d q)) (hF : Hid (Tells 13 a b d f))
    (al : -2147483648 ≤ a) (ah : a ≤ 2147483647) (bl : -2147483648 ≤ b) (bh : b ≤ 2147483647) (dl : -2147483648 ≤ d) (dh : d ≤ 2147483647)
    (hz : (d == 0) = false) (hv : a * b = v) (vl : -4611686018427387904 ≤ v) (vh : v ≤ 4611686018427387904)
    (ql : -4611686018427387904 ≤ q) (qh : q ≤ 4611686018427387904) (fl : -4611686018427387904 ≤ f) (fh : f ≤ 4611686018427387904)
    (eq : q * d = v - o) (ef : f * d = v - r) (ol : -2147483648 ≤ o) (oh : o ≤ 2147483648) (rl : -2147483648 ≤ r) (rh : r ≤ 2147483648)
    (s1 : d < 0) (s3 : 0 ≤ -r) (s4 : -r < -d)
    (ht : mag o < -d - mag o ∨ (mag o = -d - mag o ∧ (q.tmod 2 == 0) = true)) :
    Calls Try.prog 6 #[.int .i32 a, .int .i32 b, .int .i32 d] w fun e w' => e = .returned (.bool true) ∧ Below w.heap.size w w' := by
  have hK := Lib.hid known_any
  by_cases ho : o ≤ 0
  · have em : mag o = -o := by unfold mag; split <;> omega
    rw [em] at ht
    clear em
    rcases ht with hlt | ⟨heq, hev⟩
    · go_enter Try.func6, Try.ntmps6
      go_wp2_with fail
      refine (hK.out _).mono ?_
      rintro e w1 ⟨rfl, k1⟩
      go_wp2_with fail
      refine (hM.out _).mono ?_
      rintro e w2 ⟨rfl, k2⟩
      go_wp2_with fail
      refine (hF.out _).mono ?_
      rintro e w3 ⟨rfl, k3⟩
      go_wp2
      go_ret
      have z1 := k1.size; have z2 := k2.size
      exact ⟨rfl, (k1.trans (k2.mono (by omega))).trans (k3.mono (by omega))⟩
    · have t1 : 2 * (-o) ≤ -d := by omega
      have t2 : -d ≤ 2 * (-o) := by omega
      clear heq
      go_enter Try.func6, Try.ntmps6
      go_wp2_with fail
      refine (hK.out _).mono ?_
      rintro e w1 ⟨rfl, k1⟩
      go_wp2_with fail
      refine (hM.out _).mono ?_
      rintro e w2 ⟨rfl, k2⟩
      go_wp2_with fail
      refine (hF.out _).mono ?_
      rintro e w3 ⟨rfl, k3⟩
      go_wp2
      go_ret
      have z1 := k1.size; have z2 := k2.size
      exact ⟨rfl, (k1.trans (k2.mono (by omega))).trans (k3.mono (by omega))⟩
  · have em : mag o = o := by unfold mag; split <;> omega
    rw [em] at ht
    clear em
    rcases ht with hlt | ⟨heq, hev⟩
    · go_enter Try.func6, Try.ntmps6
      go_wp2_with fail
      refine (hK.out _).mono ?_
      rintro e w1 ⟨rfl, k1⟩
      go_wp2_with fail
      refine (hM.out _).mono ?_
      rintro e w2 ⟨rfl, k2⟩
      go_wp2_with fail
      refine (hF.out _).mono ?_
      rintro e w3 ⟨rfl, k3⟩
      go_wp2
      go_ret
      have z1 := k1.size; have z2 := k2.size
      exact ⟨rfl, (k1.trans (k2.mono (by omega))).trans (k3.mono (by omega))⟩
    · have t1 : 2 * (o) ≤ -d := by omega
      have t2 : -d ≤ 2 * (o) := by omega
      have t3 : (v - (v - o) == -d - (v - (v - o))) = true := by simp; omega
      clear heq
      go_enter Try.func6, Try.ntmps6
      go_wp2_with fail
      refine (hK.out _).mono ?_
      rintro e w1 ⟨rfl, k1⟩
      go_wp2_with fail
      refine (hM.out _).mono ?_
      rintro e w2 ⟨rfl, k2⟩
      go_wp2_with fail
      refine (hF.out _).mono ?_
      rintro e w3 ⟨rfl, k3⟩
      go_wp2
      go_ret
      have z1 := k1.size; have z2 := k2.size
      exact ⟨rfl, (k1.trans (k2.mono (by omega))).trans (k3.mono (by omega))⟩

theorem even_tmod (q : Int) (h : q % 2 = 0) : (q.tmod 2 == 0) = true := by
  have e : q.tmod 2 = 0 := Int.tmod_eq_zero_of_dvd (Int.dvd_of_emod_eq_zero h)
  rw [e]; rfl

/-- The floor, and what is left: f d = v - r. -/
theorem rest_pos (v d : Int) (hd : 0 < d) : sdiv v d * d = v - smod v d ∧ 0 ≤ smod v d ∧ smod v d < d := by
  unfold sdiv smod
  rw [if_neg (by omega), if_neg (by omega)]
  have e := Int.mul_ediv_add_emod v d
  rw [Int.mul_comm] at e
  exact ⟨by omega, Int.emod_nonneg _ (by omega), Int.emod_lt_of_pos _ hd⟩
theorem rest_neg (v d : Int) (hd : d < 0) : sdiv v d * d = v - -(smod v d) ∧ 0 ≤ smod v d ∧ smod v d < -d := by
  unfold sdiv smod
  rw [if_pos hd, if_pos hd]
  have e := Int.mul_ediv_add_emod (-v) (-d)
  rw [Int.mul_comm, Int.mul_neg] at e
  exact ⟨by omega, Int.emod_nonneg _ (by omega), Int.emod_lt_of_pos _ (by omega)⟩

theorem near_cases (v d : Int) : (2 * smod v d < mag d ∧ near v d = sdiv v d) ∨ (mag d < 2 * smod v d ∧ near v d = sdiv v d + 1) ∨ (mag d = 2 * smod v d ∧ sdiv v d % 2 = 0 ∧ near v d = sdiv v d) ∨ (mag d = 2 * smod v d ∧ (sdiv v d + 1) % 2 = 0 ∧ near v d = sdiv v d + 1) := by
  unfold near
  repeat' split
  all_goals omega

/-- A quotient is no greater than the dividend. -/
theorem small_div (v d : Int) (hd : d ≠ 0) (vl : -4611686018427387904 ≤ v) (vh : v ≤ 4611686018427387904) :
    (-4611686018427387904 ≤ sdiv v d ∧ sdiv v d ≤ 4611686018427387904) ∧ (-4611686018427387904 ≤ near v d ∧ near v d ≤ 4611686018427387904) := by
  have hm := mag_pos d hd
  have hu : -4611686018427387904 ≤ up v d ∧ up v d ≤ 4611686018427387904 := by unfold up; split <;> omega
  have hc := near_cases v d
  have hs := smod_up v d
  rw [sdiv_up] at *
  have e := Int.mul_ediv_add_emod (up v d) (mag d)
  have r0 := Int.emod_nonneg (up v d) (by omega : mag d ≠ 0)
  have r1 := Int.emod_lt_of_pos (up v d) hm
  rw [← hs] at e r0 r1
  generalize hq : up v d / mag d = q at *
  generalize mag d = m at *
  generalize smod v d = r at *
  have l1 : q ≤ 4611686018427387904 := by
    rcases Int.lt_or_le q 0 with h | h
    · omega
    · have := Int.mul_le_mul_of_nonneg_right (by omega : 1 ≤ m) h
      rw [Int.one_mul] at this
      omega
  have l2 : -4611686018427387904 ≤ q := by
    rcases Int.lt_or_le q 0 with h | h
    · have := Int.mul_le_mul_of_nonneg_right (by omega : 1 ≤ m) (by omega : 0 ≤ -(q + 1))
      rw [Int.one_mul, Int.mul_neg, Int.mul_add, Int.mul_one] at this
      rcases Int.lt_or_le r 1 with h2 | h2
      · have := Int.mul_le_mul_of_nonneg_right (by omega : 1 ≤ m) (by omega : 0 ≤ -q)
        rw [Int.one_mul, Int.mul_neg] at this
        omega
      · omega
    · omega
  refine ⟨⟨l2, l1⟩, ?_⟩
  rcases hc with ⟨c1, c2⟩ | ⟨c1, c2⟩ | ⟨c1, c2, c3⟩ | ⟨c1, c2, c3⟩
  · omega
  · rw [c2]
    have : q ≠ 4611686018427387904 := by
      intro h; subst h
      have : m * 1 ≤ m * 4611686018427387904 := by omega
      omega
    omega
  · omega
  · rw [c3]
    have : q ≠ 4611686018427387904 := by
      intro h; subst h
      omega
    omega

theorem tells_of (k : Nat) (a b d q : Int) (hd : d ≠ 0) (ql : -4611686018427387904 ≤ q) (qh : q ≤ 4611686018427387904)
    (h : ∀ w, Calls Try.prog k #[.int .i64 a, .int .i64 b, .int .i64 d] w fun e w' => e = .returned (.tuple #[.int .i64 (valOf d q), .bool (okOf d q)]) ∧ Below w.heap.size w w') : Tells k a b d q := by
  have h1 : okOf d q = true := by unfold okOf; exact decide_eq_true ⟨hd, by omega, by omega⟩
  have h2 : valOf d q = q := by unfold valOf; rw [h1]; simp
  rw [h1, h2] at h
  exact h

theorem walk (a0 : Int) (a1 : Int) (a2 : Int) (w0 : (Lit.int .i32 a0).wf = true) (w1 : (Lit.int .i32 a1).wf = true) (w2 : (Lit.int .i32 a2).wf = true) (w : World) :
    Calls Try.prog 6 #[.int .i32 a0, .int .i32 a1, .int .i32 a2] w fun e w' => e = .returned (.bool true) ∧ Below w.heap.size w w' := by
  obtain ⟨a0l, a0h⟩ := bounds_i32 w0
  obtain ⟨a1l, a1h⟩ := bounds_i32 w1
  obtain ⟨a2l, a2h⟩ := bounds_i32 w2
  obtain ⟨v0, v1⟩ := small_prod a0 a1 a0l a0h a1l a1h
  by_cases hz : a2 = 0
  · subst hz
    have hK := Lib.hid known_any
    have hM := Lib.hid (fun w => muldiv_any a0 a1 0 w (by omega) (by omega) (by omega) (by omega) (by decide) (by decide))
    have hF := Lib.hid (fun w => floor_any a0 a1 0 w (by omega) (by omega) (by omega) (by omega) (by decide) (by decide))
    rw [(zero_none _).1, (zero_none _).2] at hM hF
    clear v0 v1
    go_enter Try.func6, Try.ntmps6
    go_wp2_with fail
    refine (hK.out _).mono ?_
    rintro e w1 ⟨rfl, k1⟩
    go_wp2_with fail
    refine (hM.out _).mono ?_
    rintro e w2 ⟨rfl, k2⟩
    go_wp2_with fail
    refine (hF.out _).mono ?_
    rintro e w3 ⟨rfl, k3⟩
    go_wp2
    go_ret
    have z1 := k1.size; have z2 := k2.size
    exact ⟨rfl, (k1.trans (k2.mono (by omega))).trans (k3.mono (by omega))⟩
  · obtain ⟨⟨f0, f1⟩, q0, q1⟩ := small_div (a0 * a1) a2 hz v0 v1
    have hM := Lib.hid (tells_of 11 a0 a1 a2 _ hz q0 q1 (fun w => muldiv_any a0 a1 a2 w (by omega) (by omega) (by omega) (by omega) (by omega) (by omega)))
    have hF := Lib.hid (tells_of 13 a0 a1 a2 _ hz f0 f1 (fun w => floor_any a0 a1 a2 w (by omega) (by omega) (by omega) (by omega) (by omega) (by omega)))
    have hc := near_cases (a0 * a1) a2
    have hz' : (a2 == 0) = false := by simpa using hz
    by_cases hd : a2 < 0
    · obtain ⟨e1, r0, r1⟩ := rest_neg (a0 * a1) a2 hd
      have em : mag a2 = -a2 := by unfold mag; rw [if_pos hd]
      rw [em] at hc
      have en : (sdiv (a0 * a1) a2 + 1) * a2 = a0 * a1 - (-(smod (a0 * a1) a2) - a2) := by rw [Int.add_mul, Int.one_mul, e1]; omega
      generalize sdiv (a0 * a1) a2 = f at *
      generalize near (a0 * a1) a2 = q at *
      generalize smod (a0 * a1) a2 = r at *
      have o1 : mag (-r) = r := by unfold mag; split <;> omega
      have o2 : mag (-r - a2) = -a2 - r := by unfold mag; split <;> omega
      rcases hc with ⟨c1, c2⟩ | ⟨c1, c2⟩ | ⟨c1, c2, c3⟩ | ⟨c1, c2, c3⟩
      · exact core_neg a0 a1 a2 _ q f (-r) (-r) w hM hF a0l a0h a1l a1h a2l a2h hz' rfl v0 v1 q0 q1 f0 f1 (by rw [c2]; exact e1) e1 (by omega) (by omega) (by omega) (by omega) hd (by omega) (by omega) (by rw [o1]; omega)
      · exact core_neg a0 a1 a2 _ q f (-r - a2) (-r) w hM hF a0l a0h a1l a1h a2l a2h hz' rfl v0 v1 q0 q1 f0 f1 (by rw [c2]; exact en) e1 (by omega) (by omega) (by omega) (by omega) hd (by omega) (by omega) (by rw [o2]; omega)
      · exact core_neg a0 a1 a2 _ q f (-r) (-r) w hM hF a0l a0h a1l a1h a2l a2h hz' rfl v0 v1 q0 q1 f0 f1 (by rw [c3]; exact e1) e1 (by omega) (by omega) (by omega) (by omega) hd (by omega) (by omega) (.inr ⟨by rw [o1]; omega, even_tmod q (by omega)⟩)
      · exact core_neg a0 a1 a2 _ q f (-r - a2) (-r) w hM hF a0l a0h a1l a1h a2l a2h hz' rfl v0 v1 q0 q1 f0 f1 (by rw [c3]; exact en) e1 (by omega) (by omega) (by omega) (by omega) hd (by omega) (by omega) (.inr ⟨by rw [o2]; omega, even_tmod q (by omega)⟩)
    · obtain ⟨e1, r0, r1⟩ := rest_pos (a0 * a1) a2 (by omega)
      have em : mag a2 = a2 := by unfold mag; rw [if_neg hd]
      rw [em] at hc
      have en : (sdiv (a0 * a1) a2 + 1) * a2 = a0 * a1 - (smod (a0 * a1) a2 - a2) := by rw [Int.add_mul, Int.one_mul, e1]; omega
      generalize sdiv (a0 * a1) a2 = f at *
      generalize near (a0 * a1) a2 = q at *
      generalize smod (a0 * a1) a2 = r at *
      have o1 : mag r = r := by unfold mag; split <;> omega
      have o2 : mag (r - a2) = a2 - r := by unfold mag; split <;> omega
      rcases hc with ⟨c1, c2⟩ | ⟨c1, c2⟩ | ⟨c1, c2, c3⟩ | ⟨c1, c2, c3⟩
      · exact core_pos a0 a1 a2 _ q f r r w hM hF a0l a0h a1l a1h a2l a2h hz' rfl v0 v1 q0 q1 f0 f1 (by rw [c2]; exact e1) e1 (by omega) (by omega) (by omega) (by omega) (by omega) (by omega) (by omega) (by rw [o1]; omega)
      · exact core_pos a0 a1 a2 _ q f (r - a2) r w hM hF a0l a0h a1l a1h a2l a2h hz' rfl v0 v1 q0 q1 f0 f1 (by rw [c2]; exact en) e1 (by omega) (by omega) (by omega) (by omega) (by omega) (by omega) (by omega) (by rw [o2]; omega)
      · exact core_pos a0 a1 a2 _ q f r r w hM hF a0l a0h a1l a1h a2l a2h hz' rfl v0 v1 q0 q1 f0 f1 (by rw [c3]; exact e1) e1 (by omega) (by omega) (by omega) (by omega) (by omega) (by omega) (by omega) (.inr ⟨by rw [o1]; omega, even_tmod q (by omega)⟩)
      · exact core_pos a0 a1 a2 _ q f (r - a2) r w hM hF a0l a0h a1l a1h a2l a2h hz' rfl v0 v1 q0 q1 f0 f1 (by rw [c3]; exact en) e1 (by omega) (by omega) (by omega) (by omega) (by omega) (by omega) (by omega) (.inr ⟨by rw [o2]; omega, even_tmod q (by omega)⟩)

set_option maxRecDepth 100000 in
theorem lifted (os : Os) (started : os.Started) (H : Type) (enc : TypeId × Value → H) :
    ReturnsInHanded {} Try.checked os 6 .any (Rows.wideNearSpec.pre6 enc Try.prog Try.f6 Rows.wideNearRow.domain false) (Rows.wideNearSpec.post enc Try.prog Try.f6 false true false false) := by
  refine returnsInHanded_of_change (C := Try.checked) own started (by kernel_rfl) Try.func6
    (ChangeSpec.witness6 (enc := enc) (C := Try.checked) false ⟨#[], #[.int .i32 0, .int .i32 0, .int .i32 0], []⟩ 8 (by kernel_rfl) (by kernel_rfl) (by kernel_rfl) (by kernel_rfl)) ?_
  intro W base args ds gs before hval0 hW hcnd _
  have hval : ∀ (j : Nat) t v, Try.f6.params[j]? = some t → args[j]? = some v → Value.okWide Try.prog W .any base t v := hval0
  have hW' := hW
  obtain ⟨p, q, hA0, hV, rfl, hfz, hnd⟩ := hW
  have hA : DataW.TrodAll enc Try.prog W 0 (fun _ => true) true Try.f6.params.toList args.toList ds p := hA0
  rw [Try.params6] at hA hval
  obtain ⟨v0, vs0, d0, ds0, p0, q0, hargs, rfl, rfl, h0, r0⟩ := trodAll_cons hA
  obtain ⟨v1, vs1, d1, ds1, p1, q1, rfl, rfl, rfl, h1, r1⟩ := trodAll_cons r0
  obtain ⟨v2, vs2, d2, ds2, p2, q2, rfl, rfl, rfl, h2, r2⟩ := trodAll_cons r1
  obtain ⟨rfl, rfl, rfl⟩ := trodAll_nil r2
  obtain rfl : args = #[v0, v1, v2] := by cases args; simp_all
  obtain ⟨rfl, rfl⟩ := trodVars_none hV
  obtain ⟨a0, rfl, rfl, rfl, w0⟩ := open_int Try.underlying21 (hval 0 21 v0 rfl rfl) h0
  obtain ⟨a1, rfl, rfl, rfl, w1⟩ := open_int Try.underlying21 (hval 1 21 v1 rfl rfl) h1
  obtain ⟨a2, rfl, rfl, rfl, w2⟩ := open_int Try.underlying21 (hval 2 21 v2 rfl rfl) h2
  clear hA0 hval0
  simp only [List.append_nil] at hW'
  refine (walk a0 a1 a2 w0 w1 w2 W).mono fun e W' ⟨he, bel⟩ => ?_
  subst he
  exact ⟨_, rfl, _, _, _, [], _, [], hW', trodAll_mk1 (shut_bool Try.underlying4 _), (trodAll_cons_mk (shut_int Try.underlying21 w0) (trodAll_cons_mk (shut_int Try.underlying21 w1) (trodAll_cons_mk (shut_int Try.underlying21 w2) trodAll_mk0))), rfl, bel.frame _, fun h => by cases h⟩

theorem over : Rows.wideNearRow.holds Try.pinned (OpenSpec.ofChange Rows.wideNearSpec) :=
  OpenClaim.holds_of_wide 6 Try.f6 rfl rfl rfl rfl rfl rfl rfl ⟨rfl, rfl, rfl, rfl, rfl⟩ rfl rfl rfl rfl rfl (by kernel_rfl) Try.func6 (by kernel_rfl)
    (of_decide_eq_true (by kernel_rfl)) (by unfold Func.isWrapper; first | (rw [if_pos (by decide +kernel)]; kernel_rfl) | (rw [if_neg (by decide +kernel)]; exact ⟨rfl, rfl⟩))
    (fun os started H enc _ => lifted os started H enc)

theorem proved : Rows.WideNearSaid :=
  over
#print axioms proved
end Go.Proofs.Ytfnikcpbagcgkaa.wideNear
