/- Walks of tympanref4: turn, first, Sin, Cos, quarter, side, between. -/
import Derived.Test.YtiminclbkmkgnaaT2
import Derived.Test.YtiminclbkmkgnaaW10
import Derived.Test.YtiminclbkmkgnaaF3
namespace Go.Proofs.Ytiminclbkmkgnaa
open Go.RowKit
set_option linter.unusedVariables false

theorem and_low16 (n : Int) : bits .and .i64 n 65535 = n % 65536 := by
  have h1 : (BitVec.ofInt 64 65535).toNat = 2 ^ 16 - 1 := by decide
  have key : (BitVec.ofInt 64 n &&& BitVec.ofInt 64 65535).toNat = (n % ((2 ^ 64 : Nat) : Int)).toNat % 2 ^ 16 := by
    rw [BitVec.toNat_and, BitVec.toNat_ofInt, h1, Nat.and_two_pow_sub_one_eq_mod]
  show IntKind.i64.wrap ((BitVec.ofInt 64 n &&& BitVec.ofInt 64 65535).toNat : Nat) = n % 65536
  rw [key, IntKind.wrap_i64]
  omega

set_option maxHeartbeats 400000 in
theorem rturn_any (v : Int) (w : World) : Calls Try.prog 27 #[.int .i64 v] w fun e w' => e = .returned (.int .i64 (v % 23592960)) ∧ w = w' := by
  have h0 := Int.emod_nonneg v (by decide : (23592960 : Int) ≠ 0)
  have h1 := Int.emod_lt_of_pos v (by decide : (0 : Int) < 23592960)
  obtain ⟨t, ht⟩ : ∃ t, v.tmod 23592960 = t := ⟨_, rfl⟩
  have hc := tmod_cases v 23592960 (by decide)
  rw [ht] at hc
  generalize v % 23592960 = r at *
  rcases hc with ⟨h, e⟩ | ⟨h, e⟩
  · have E := Lib.hid e
    have b : -23592960 ≤ t := by omega
    clear e
    go_enter Try.func27, Try.ntmps27
    go_wp2
    go_ret
    exact ⟨ret_int E.out, rfl⟩
  · have E := Lib.hid e
    clear e
    go_enter Try.func27, Try.ntmps27
    go_wp2
    go_ret
    exact ⟨ret_int E.out, rfl⟩

set_option maxHeartbeats 400000 in
theorem rfirst_whole (d : Int) (k : Nat) (w : World) (d0 : 0 ≤ d) (d1 : d ≤ 5898240) (hk : k < 91) (e : d / 65536 = (k : Int)) (ef : bits .and .i64 d 65535 = 0)
    (h1 : Hid (∀ w, Calls Try.prog 31 #[.int .i64 (k : Int)] w fun e w' => e = .returned (.int .i64 (tab k)) ∧ Below w.heap.size w w')) :
    Calls Try.prog 28 #[.int .i64 d] w fun e w' => e = .returned (.int .i64 (tab k)) ∧ Below w.heap.size w w' := by
  generalize tab k = t at *
  go_enter Try.func28, Try.ntmps28
  go_wp2_with fail
  refine (h1.out _).mono ?_
  rintro e w1 ⟨rfl, k1⟩
  go_wp2
  go_ret
  exact ⟨rfl, k1⟩

set_option maxHeartbeats 400000 in
theorem rfirst_part (d f g t0 t1 p : Int) (k : Nat) (w : World) (d0 : 0 ≤ d) (d1 : d ≤ 5898240) (hk : k < 90) (e : d / 65536 = (k : Int)) (ef : bits .and .i64 d 65535 = f) (f0 : 0 < f) (f1 : f < 65536)
    (a0 : 0 ≤ t0) (a1 : t0 ≤ 65536) (b0 : 0 ≤ t1) (b1 : t1 ≤ 65536) (g0 : 0 ≤ g) (g1 : g ≤ 65536) (ep : t1 - t0 = p) (p0 : 0 ≤ p)
    (h1 : Hid (∀ w, Calls Try.prog 31 #[.int .i64 (k : Int)] w fun e w' => e = .returned (.int .i64 t0) ∧ Below w.heap.size w w'))
    (h2 : Hid (∀ w, Calls Try.prog 31 #[.int .i64 ((k : Int) + 1)] w fun e w' => e = .returned (.int .i64 t1) ∧ Below w.heap.size w w'))
    (h3 : Hid (∀ w, Calls Try.prog 29 #[.int .i64 p, .int .i64 f, .int .i64 65536] w fun e w' => e = .returned (.tuple #[.int .i64 g, .bool true]) ∧ Below w.heap.size w w')) :
    Calls Try.prog 28 #[.int .i64 d] w fun e w' => e = .returned (.int .i64 (t0 + g)) ∧ Below w.heap.size w w' := by
  have p1 : p ≤ 65536 := by omega
  go_enter Try.func28, Try.ntmps28
  go_wp2_with fail
  refine (h2.out _).mono ?_
  rintro e w1 ⟨rfl, k1⟩
  go_wp2_with fail
  refine (h1.out _).mono ?_
  rintro e w2 ⟨rfl, k2⟩
  go_wp2_with fail
  refine (h3.out _).mono ?_
  rintro e w3 ⟨rfl, k3⟩
  go_wp2_with fail
  refine (h1.out _).mono ?_
  rintro e w4 ⟨rfl, k4⟩
  have z1 := k1.size
  have z2 := k2.size
  have z3 := k3.size
  go_wp2
  go_ret
  exact ⟨rfl, ((k1.trans (k2.mono (by omega))).trans (k3.mono (by omega))).trans (k4.mono (by omega))⟩

theorem rfirst_any (d : Int) (w : World) (h0 : 0 ≤ d) (h1 : d ≤ 5898240) : Calls Try.prog 28 #[.int .i64 d] w fun e w' => e = .returned (.int .i64 (sinQ d)) ∧ Below w.heap.size w w' := by
  obtain ⟨k, hk⟩ : ∃ k, (d / 65536).toNat = k := ⟨_, rfl⟩
  have c1 := Lib.hid (fun w => rtable_any k w (by omega))
  by_cases hf : d % 65536 = 0
  · rw [sinQ_whole d hf, hk]
    exact rfirst_whole d k w h0 h1 (by omega) (by omega) (by rw [and_low16, hf]) c1
  · have b0 := tab_bd k
    have b1 := tab_bd (k + 1)
    have hu := tab_up k (by omega)
    have hs := step_bd (tab (k + 1) - tab k) (d % 65536) (by omega) (by omega) (by omega)
    have c2 := Lib.hid (fun w => rtable_any (k + 1) w (by omega))
    have e1 : ((k + 1 : Nat) : Int) = (k : Int) + 1 := by omega
    rw [e1] at c2
    have c3 := Lib.hid (fun w => rmuldiv_any (tab (k + 1) - tab k) (d % 65536) 65536 w (by omega) (by omega) (by omega) (by omega) (by omega) (by omega))
    have ho : okOf 65536 (near ((tab (k + 1) - tab k) * (d % 65536)) 65536) = true := decide_eq_true ⟨by decide, by omega, by omega⟩
    rw [val_in _ _ (by decide) (by omega) (by omega), ho] at c3
    unfold sinQ
    rw [hk]
    exact rfirst_part d (d % 65536) _ (tab k) (tab (k + 1)) _ k w h0 h1 (by omega) (by omega) (and_low16 d) (by omega) (by omega) (by omega) (by omega) (by omega) (by omega) hs.1 (by omega) rfl (by omega) c1 c2 c3

theorem sinP_low (d : Int) (h0 : 0 ≤ d) (h1 : d ≤ 5898240) : sinP d = sinQ d := by
  unfold sinP sinH
  rw [Int.emod_eq_of_lt h0 (by omega), if_neg (by omega)]
  congr 1; omega
theorem sinP_mid (d : Int) (h0 : 5898240 < d) (h1 : d ≤ 11796480) : sinP d = sinQ (11796480 - d) := by
  unfold sinP sinH
  rw [Int.emod_eq_of_lt (by omega) (by omega), if_neg (by omega)]
  congr 1; omega
theorem sinP_high (d : Int) (h0 : 11796480 < d) (h1 : d < 23592960) : sinP d = -sinP (d - 11796480) := by
  unfold sinP
  rw [Int.emod_eq_of_lt (by omega) (by omega), if_pos h0, Int.emod_eq_of_lt (by omega) (by omega), if_neg (by omega)]
theorem sinP_mod (d : Int) : sinP (d % 23592960) = sinP d := by
  unfold sinP
  rw [Int.emod_emod_of_dvd d (Int.dvd_refl _)]

set_option maxHeartbeats 400000 in
theorem rsin_low (deg d : Int) (w : World) (ed : deg % 23592960 = d) (h0 : 0 ≤ d) (h1 : d ≤ 11796480) : Calls Try.prog 12 #[.int .i64 deg] w fun e w' => e = .returned (.int .i64 (sinP deg)) ∧ Below w.heap.size w w' := by
  have c1 := Lib.hid (fun w => rturn_any deg w)
  rw [← sinP_mod, ed]
  rw [ed] at c1
  clear ed
  by_cases h : d ≤ 5898240
  · have c2 := Lib.hid (fun w => rfirst_any d w h0 h)
    rw [sinP_low d h0 h]
    generalize sinQ d = s at *
    go_enter Try.func12, Try.ntmps12
    go_wp2_with fail
    refine (c1.out _).mono ?_
    rintro e w' ⟨rfl, rfl⟩
    go_wp2_with fail
    refine (c2.out _).mono ?_
    rintro e w1 ⟨rfl, k1⟩
    go_wp2
    go_ret
    exact ⟨rfl, k1⟩
  · have c2 := Lib.hid (fun w => rfirst_any (11796480 - d) w (by omega) (by omega))
    rw [sinP_mid d (by omega) h1]
    generalize sinQ (11796480 - d) = s at *
    go_enter Try.func12, Try.ntmps12
    go_wp2_with fail
    refine (c1.out _).mono ?_
    rintro e w' ⟨rfl, rfl⟩
    go_wp2_with fail
    refine (c2.out _).mono ?_
    rintro e w1 ⟨rfl, k1⟩
    go_wp2
    go_ret
    exact ⟨rfl, k1⟩

set_option maxHeartbeats 400000 in
theorem rsin_any (deg : Int) (w : World) : Calls Try.prog 12 #[.int .i64 deg] w fun e w' => e = .returned (.int .i64 (sinP deg)) ∧ Below w.heap.size w w' := by
  have h0 := Int.emod_nonneg deg (by decide : (23592960 : Int) ≠ 0)
  have h1 := Int.emod_lt_of_pos deg (by decide : (0 : Int) < 23592960)
  by_cases h : deg % 23592960 ≤ 11796480
  · exact rsin_low deg _ w rfl h0 h
  · have c1 := Lib.hid (fun w => rturn_any deg w)
    rw [← sinP_mod deg]
    generalize deg % 23592960 = d at *
    have c2 := Lib.hid (fun w => rsin_low (d - 11796480) (d - 11796480) w (Int.emod_eq_of_lt (by omega) (by omega)) (by omega) (by omega))
    rw [sinP_high d (by omega) h1]
    have b := sinP_in (d - 11796480)
    generalize sinP (d - 11796480) = s at *
    go_enter Try.func12, Try.ntmps12
    go_wp2_with fail
    refine (c1.out _).mono ?_
    rintro e w' ⟨rfl, rfl⟩
    go_wp2_with fail
    refine (c2.out _).mono ?_
    rintro e w1 ⟨rfl, k1⟩
    go_wp2
    go_ret
    exact ⟨rfl, k1⟩

set_option maxHeartbeats 400000 in
theorem rcos_any (deg : Int) (w : World) : Calls Try.prog 14 #[.int .i64 deg] w fun e w' => e = .returned (.int .i64 (cosP deg)) ∧ Below w.heap.size w w' := by
  have h0 := Int.emod_nonneg deg (by decide : (23592960 : Int) ≠ 0)
  have h1 := Int.emod_lt_of_pos deg (by decide : (0 : Int) < 23592960)
  have c1 := Lib.hid (fun w => rturn_any deg w)
  unfold cosP
  generalize deg % 23592960 = d at *
  have c2 := Lib.hid (fun w => rsin_any (d + 5898240) w)
  generalize sinP (d + 5898240) = s at *
  go_enter Try.func14, Try.ntmps14
  go_wp2_with fail
  refine (c1.out _).mono ?_
  rintro e w' ⟨rfl, rfl⟩
  go_wp2_with fail
  refine (c2.out _).mono ?_
  rintro e w1 ⟨rfl, k1⟩
  go_wp2
  go_ret
  exact ⟨rfl, k1⟩

theorem quad_beg (y x : Int) : begP y x = if 0 < x ∧ 0 ≤ y then 0 else if x ≤ 0 ∧ 0 < y then 5898240 else if x < 0 then 11796480 else 17694720 := by
  unfold begP quadP
  repeat' split
  all_goals rfl

set_option maxHeartbeats 400000 in
theorem rquarter_any (y x : Int) (w : World) : Calls Try.prog 23 #[.int .i64 y, .int .i64 x] w fun e w' => e = .returned (.int .i64 (begP y x)) ∧ w = w' := by
  have H := Lib.hid (quad_beg y x)
  generalize begP y x = b at *
  by_cases h1 : 0 < x
  · by_cases h2 : 0 ≤ y
    · have E := Lib.hid (H.out.trans (if_pos ⟨h1, h2⟩))
      go_enter Try.func23, Try.ntmps23
      go_wp2
      go_ret
      exact ⟨ret_int E.out.symm, rfl⟩
    · have E := Lib.hid (H.out.trans ((if_neg (by omega)).trans ((if_neg (by omega)).trans (if_neg (by omega)))))
      go_enter Try.func23, Try.ntmps23
      go_wp2
      go_ret
      exact ⟨ret_int E.out.symm, rfl⟩
  · by_cases h2 : 0 < y
    · have E := Lib.hid (H.out.trans ((if_neg (by omega)).trans (if_pos (by omega))))
      go_enter Try.func23, Try.ntmps23
      go_wp2
      go_ret
      exact ⟨ret_int E.out.symm, rfl⟩
    · by_cases h3 : x < 0
      · have E := Lib.hid (H.out.trans ((if_neg (by omega)).trans ((if_neg (by omega)).trans (if_pos h3))))
        go_enter Try.func23, Try.ntmps23
        go_wp2
        go_ret
        exact ⟨ret_int E.out.symm, rfl⟩
      · have E := Lib.hid (H.out.trans ((if_neg (by omega)).trans ((if_neg (by omega)).trans (if_neg h3))))
        go_enter Try.func23, Try.ntmps23
        go_wp2
        go_ret
        exact ⟨ret_int E.out.symm, rfl⟩

/-- A sine times a fix. -/
theorem times_bd (c y : Int) (hc : -65536 ≤ c ∧ c ≤ 65536) (h0 : -1073741823 ≤ y) (h1 : y ≤ 1073741823) : -70368744112128 ≤ c * y ∧ c * y ≤ 70368744112128 := by
  rcases Int.le_total 0 y with hy | hy
  · have a := Int.mul_le_mul_of_nonneg_right hc.1 hy
    have b := Int.mul_le_mul_of_nonneg_right hc.2 hy
    omega
  · have a := Int.mul_le_mul_of_nonpos_right hc.1 hy
    have b := Int.mul_le_mul_of_nonpos_right hc.2 hy
    omega

set_option maxHeartbeats 400000 in
theorem rside_core (deg y x c s p q : Int) (w : World) (ep : c * y = p) (eq : s * x = q) (p0 : -70368744112128 ≤ p) (p1 : p ≤ 70368744112128) (q0 : -70368744112128 ≤ q) (q1 : q ≤ 70368744112128)
    (c1 : Hid (∀ w, Calls Try.prog 14 #[.int .i64 deg] w fun e w' => e = .returned (.int .i64 c) ∧ Below w.heap.size w w'))
    (c2 : Hid (∀ w, Calls Try.prog 12 #[.int .i64 deg] w fun e w' => e = .returned (.int .i64 s) ∧ Below w.heap.size w w')) :
    Calls Try.prog 24 #[.int .i64 deg, .int .i64 y, .int .i64 x] w fun e w' => e = .returned (.int .i64 (p - q)) ∧ Below w.heap.size w w' := by
  go_enter Try.func24, Try.ntmps24
  go_wp2_with fail
  refine (c1.out _).mono ?_
  rintro e w1 ⟨rfl, k1⟩
  go_wp2_with fail
  refine (c2.out _).mono ?_
  rintro e w2 ⟨rfl, k2⟩
  have z1 := k1.size
  go_wp2
  go_ret
  exact ⟨rfl, k1.trans (k2.mono (by omega))⟩
theorem rside_any (deg y x : Int) (w : World) (y0 : -1073741823 ≤ y) (y1 : y ≤ 1073741823) (x0 : -1073741823 ≤ x) (x1 : x ≤ 1073741823) :
    Calls Try.prog 24 #[.int .i64 deg, .int .i64 y, .int .i64 x] w fun e w' => e = .returned (.int .i64 (cosP deg * y - sinP deg * x)) ∧ Below w.heap.size w w' := by
  have b1 := times_bd _ y (cosP_in deg) y0 y1
  have b2 := times_bd _ x (sinP_in deg) x0 x1
  exact rside_core deg y x _ _ _ _ w rfl rfl b1.1 b1.2 b2.1 b2.2 (Lib.hid (fun w => rcos_any deg w)) (Lib.hid (fun w => rsin_any deg w))

set_option maxHeartbeats 400000 in
theorem rbetween_core (deg a f n r : Int) (w : World) (d0 : 0 ≤ deg) (d1 : deg ≤ 23592960) (a0 : 0 < a) (a1 : a ≤ 140737488224256) (f0 : -140737488224256 ≤ f) (f1 : f ≤ 0)
    (n0 : 0 ≤ n) (n1 : n ≤ 65536) (er : (deg + n).tmod 23592960 = r) (r0 : 0 ≤ r) (r1 : r < 23592960)
    (c1 : Hid (∀ w, Calls Try.prog 29 #[.int .i64 a, .int .i64 65536, .int .i64 (a - f)] w fun e w' => e = .returned (.tuple #[.int .i64 n, .bool true]) ∧ Below w.heap.size w w')) :
    Calls Try.prog 25 #[.int .i64 deg, .int .i64 a, .int .i64 f] w fun e w' => e = .returned (.int .i64 r) ∧ Below w.heap.size w w' := by
  go_enter Try.func25, Try.ntmps25
  go_wp2_with fail
  refine (c1.out _).mono ?_
  rintro e w1 ⟨rfl, k1⟩
  go_wp2
  go_ret
  exact ⟨rfl, k1⟩
theorem rbetween_any (deg a f : Int) (w : World) (d0 : 0 ≤ deg) (d1 : deg ≤ 23592960) (a0 : 0 < a) (a1 : a ≤ 140737488224256) (f0 : -140737488224256 ≤ f) (f1 : f ≤ 0) :
    Calls Try.prog 25 #[.int .i64 deg, .int .i64 a, .int .i64 f] w fun e w' => e = .returned (.int .i64 ((deg + near (a * 65536) (a - f)) % 23592960)) ∧ Below w.heap.size w w' := by
  have b := near_share a f a0 f1
  have c1 := Lib.hid (fun w => rmuldiv_any a 65536 (a - f) w (by omega) (by omega) (by omega) (by omega) (by omega) (by omega))
  have ho : okOf (a - f) (near (a * 65536) (a - f)) = true := decide_eq_true ⟨by omega, by omega, by omega⟩
  rw [val_in _ _ (by omega) (by omega) (by omega), ho] at c1
  exact rbetween_core deg a f _ _ w d0 d1 a0 a1 f0 f1 b.1 b.2 (Int.tmod_eq_emod_of_nonneg (by omega)) (by omega) (by omega) c1
end Go.Proofs.Ytiminclbkmkgnaa
