/- Walks of the document's own answer for the layer (tympanref1): Cmp, share, signed, MulDiv, Floor. -/
import Derived.Test.YtiminclbkmkgnaaW8
namespace Go.Proofs.Ytiminclbkmkgnaa
open Go.RowKit
set_option linter.unusedVariables false

theorem cmp_words (p q : Int) : cmpI p q = if p / 18446744073709551616 < q / 18446744073709551616 ∨ (p / 18446744073709551616 = q / 18446744073709551616 ∧ p % 18446744073709551616 < q % 18446744073709551616) then -1 else if p / 18446744073709551616 = q / 18446744073709551616 ∧ p % 18446744073709551616 = q % 18446744073709551616 then 0 else 1 := by
  unfold cmpI
  repeat' split
  all_goals omega

set_option maxHeartbeats 400000 in
theorem rsigned_any (n : Int) (neg : Bool) (w : World) (h0 : 0 ≤ n) (h1 : n < 18446744073709551616) :
    Calls Try.prog 34 #[.int .u64 n, .bool neg] w fun e w' => e = .returned (.tuple #[.int .i64 (sgnVal neg n), .bool (sgnOk neg n)]) ∧ w = w' := by
  by_cases hz : n = 0
  · subst hz
    cases neg
    · go_enter Try.func34, Try.ntmps34
      go_wp2
      go_ret2
      exact ⟨rfl, rfl⟩
    · go_enter Try.func34, Try.ntmps34
      go_wp2
      go_ret2
      exact ⟨rfl, rfl⟩
  · have hz' : (n == 0) = false := by simpa using hz
    have hz2 : 0 < n := by omega
    clear hz
    cases neg
    · by_cases h : n < 9223372036854775808
      · go_enter Try.func34, Try.ntmps34
        go_wp2
        go_ret2
        exact ⟨ret_ok (by simp [sgnVal, sgnOk, h]) (by simp [sgnOk, h]), rfl⟩
      · go_enter Try.func34, Try.ntmps34
        go_wp2
        go_ret2
        exact ⟨ret_ok (by simp [sgnVal, sgnOk]; omega) (by simp [sgnOk]; omega), rfl⟩
    · by_cases h : n ≤ 9223372036854775808
      · go_enter Try.func34, Try.ntmps34
        go_wp2
        go_ret2
        exact ⟨ret_ok (by simp [sgnVal, sgnOk, h]; omega) (by simp [sgnOk, h]), rfl⟩
      · go_enter Try.func34, Try.ntmps34
        go_wp2
        go_ret2
        exact ⟨ret_ok (by simp [sgnVal, sgnOk]; omega) (by simp [sgnOk]; omega), rfl⟩

set_option maxHeartbeats 400000 in
theorem share_yes (a b d : Int) (w : World) (ha0 : -9223372036854775808 ≤ a) (ha1 : a ≤ 9223372036854775807) (hb0 : -9223372036854775808 ≤ b) (hb1 : b ≤ 9223372036854775807) (hd0 : -9223372036854775808 ≤ d) (hd1 : d ≤ 9223372036854775807)
    (hlt : mag a * mag b / 18446744073709551616 < mag d) :
    Calls Try.prog 32 #[.int .i64 a, .int .i64 b, .int .i64 d] w fun e w' => e = .returned (.tuple #[.int .u64 (mag a * mag b / mag d), .int .u64 (mag a * mag b % mag d), .bool (neg3 a b d), .bool true]) ∧ Below w.heap.size w w' := by
  obtain ⟨m0, m1⟩ := mag_bd a ha0 ha1
  obtain ⟨n0, n1⟩ := mag_bd b hb0 hb1
  obtain ⟨d0, d1⟩ := mag_bd d hd0 hd1
  obtain ⟨s0, s1⟩ := mags_bd a b ha0 ha1 hb0 hb1
  have g0 : 0 ≤ mag a * mag b / 18446744073709551616 := by omega
  have g2 : 0 ≤ mag a * mag b % 18446744073709551616 := by omega
  have g3 : mag a * mag b % 18446744073709551616 < 18446744073709551616 := by omega
  have c1 := Lib.hid (fun w => mul64_any (mag a) (mag b) w m0 (by omega) n0 (by omega))
  have e : mag a * mag b / 18446744073709551616 * 18446744073709551616 + mag a * mag b % 18446744073709551616 = mag a * mag b := by omega
  have c2 := Lib.hid (fun w => div64_any (mag a * mag b / 18446744073709551616) (mag a * mag b % 18446744073709551616) (mag d) w g0 hlt g2 g3 (by omega))
  rw [e] at c2
  clear e
  go_enter Try.func32, Try.ntmps32
  go_wp2_with (first | (go_at_call 33; refine (rmag_any _ _ (by omega) (by omega)).mono ?_; rintro e w' ⟨rfl, rfl⟩))
  refine (c1.out _).mono ?_
  rintro e w1 ⟨rfl, rfl⟩
  go_wp2_with (first | (go_at_call 33; refine (rmag_any _ _ (by omega) (by omega)).mono ?_; rintro e w' ⟨rfl, rfl⟩))
  refine (c2.out _).mono ?_
  rintro e w2 ⟨rfl, k2⟩
  go_wp2
  exact bodyPost_ret (v := .tuple #[.int .u64 (mag a * mag b / mag d), .int .u64 (mag a * mag b % mag d), .bool (neg3 a b d), .bool true]) (by simp [results, Try.results32, go_sem, neg3]) rfl ⟨rfl, k2⟩

set_option maxHeartbeats 400000 in
theorem share_no (a b d : Int) (w : World) (ha0 : -9223372036854775808 ≤ a) (ha1 : a ≤ 9223372036854775807) (hb0 : -9223372036854775808 ≤ b) (hb1 : b ≤ 9223372036854775807) (hd0 : -9223372036854775808 ≤ d) (hd1 : d ≤ 9223372036854775807)
    (hge : mag d ≤ mag a * mag b / 18446744073709551616) :
    Calls Try.prog 32 #[.int .i64 a, .int .i64 b, .int .i64 d] w fun e w' => e = .returned (.tuple #[.int .u64 0, .int .u64 0, .bool false, .bool false]) ∧ Below w.heap.size w w' := by
  obtain ⟨m0, m1⟩ := mag_bd a ha0 ha1
  obtain ⟨n0, n1⟩ := mag_bd b hb0 hb1
  have c1 := Lib.hid (fun w => mul64_any (mag a) (mag b) w m0 (by omega) n0 (by omega))
  go_enter Try.func32, Try.ntmps32
  go_wp2_with (first | (go_at_call 33; refine (rmag_any _ _ (by omega) (by omega)).mono ?_; rintro e w' ⟨rfl, rfl⟩) | (go_at_call 37; refine (c1.out _).mono ?_; rintro e w' ⟨rfl, rfl⟩))
  exact bodyPost_ret (v := .tuple #[.int .u64 0, .int .u64 0, .bool false, .bool false]) (by simp [results, Try.results32, go_sem]) rfl ⟨rfl, Below.refl _ _⟩

def ShYes (a b d q r : Int) (neg : Bool) : Prop := ∀ w, Calls Try.prog 32 #[.int .i64 a, .int .i64 b, .int .i64 d] w fun e w' => e = .returned (.tuple #[.int .u64 q, .int .u64 r, .bool neg, .bool true]) ∧ Below w.heap.size w w'
def ShNo (a b d : Int) : Prop := ∀ w, Calls Try.prog 32 #[.int .i64 a, .int .i64 b, .int .i64 d] w fun e w' => e = .returned (.tuple #[.int .u64 0, .int .u64 0, .bool false, .bool false]) ∧ Below w.heap.size w w'

set_option maxHeartbeats 400000 in
theorem rmuldiv_up (a b d q r m : Int) (neg : Bool) (w : World) (H : Hid (ShYes a b d q r neg)) (hM : Hid (∀ w, Calls Try.prog 33 #[.int .i64 d] w fun e w' => e = .returned (.int .u64 m) ∧ w = w'))
    (hq0 : 0 ≤ q) (hq1 : q < 18446744073709551616) (hr0 : 0 ≤ r) (hr1 : r < m) (hm : m ≤ 9223372036854775808) (h : m < 2 * r ∨ (2 * r = m ∧ q % 2 = 1)) :
    Calls Try.prog 29 #[.int .i64 a, .int .i64 b, .int .i64 d] w fun e w' => e = .returned (.tuple #[.int .i64 (sgnVal neg (q + 1)), .bool (sgnOk neg (q + 1))]) ∧ Below w.heap.size w w' := by
  by_cases hbig : q = 18446744073709551615
  · have hg := Lib.hid (sgn_great neg (q + 1) (by omega))
    have hb : (q == 18446744073709551615) = true := by simpa using hbig
    clear hbig
    by_cases t1 : m - r < r
    · clear h
      go_enter Try.func29, Try.ntmps29
      go_wp2_with fail
      refine (H.out _).mono ?_
      rintro e w1 ⟨rfl, k1⟩
      go_wp2_with fail
      refine (hM.out _).mono ?_
      rintro e w2 ⟨rfl, rfl⟩
      go_wp2
      go_ret2
      exact ⟨ret_ok hg.out.2.symm hg.out.1.symm, k1⟩
    · have t2 : (r == m - r) = true := by simp; omega
      have t3 : (q % 2 == 1) = true := by simp; omega
      clear h
      go_enter Try.func29, Try.ntmps29
      go_wp2_with fail
      refine (H.out _).mono ?_
      rintro e w1 ⟨rfl, k1⟩
      go_wp2_with fail
      refine (hM.out _).mono ?_
      rintro e w2 ⟨rfl, rfl⟩
      go_wp2
      go_ret2
      exact ⟨ret_ok hg.out.2.symm hg.out.1.symm, k1⟩
  · have hs := Lib.hid (fun w => rsigned_any (q + 1) neg w (by omega) (by omega))
    have hb : (q == 18446744073709551615) = false := by simpa using hbig
    have hb2 : q < 18446744073709551615 := by omega
    clear hbig
    by_cases t1 : m - r < r
    · clear h
      go_enter Try.func29, Try.ntmps29
      go_wp2_with fail
      refine (H.out _).mono ?_
      rintro e w1 ⟨rfl, k1⟩
      go_wp2_with fail
      refine (hM.out _).mono ?_
      rintro e w2 ⟨rfl, rfl⟩
      go_wp2_with fail
      refine (hs.out _).mono ?_
      rintro e w3 ⟨rfl, rfl⟩
      go_wp2
      go_ret2
      exact ⟨rfl, k1⟩
    · have t2 : (r == m - r) = true := by simp; omega
      have t3 : (q % 2 == 1) = true := by simp; omega
      clear h
      go_enter Try.func29, Try.ntmps29
      go_wp2_with fail
      refine (H.out _).mono ?_
      rintro e w1 ⟨rfl, k1⟩
      go_wp2_with fail
      refine (hM.out _).mono ?_
      rintro e w2 ⟨rfl, rfl⟩
      go_wp2_with fail
      refine (hs.out _).mono ?_
      rintro e w3 ⟨rfl, rfl⟩
      go_wp2
      go_ret2
      exact ⟨rfl, k1⟩

set_option maxHeartbeats 400000 in
theorem rmuldiv_down (a b d q r m : Int) (neg : Bool) (w : World) (H : Hid (ShYes a b d q r neg)) (hM : Hid (∀ w, Calls Try.prog 33 #[.int .i64 d] w fun e w' => e = .returned (.int .u64 m) ∧ w = w'))
    (hq0 : 0 ≤ q) (hq1 : q < 18446744073709551616) (hr0 : 0 ≤ r) (hr1 : r < m) (hm : m ≤ 9223372036854775808) (h : ¬ (m < 2 * r ∨ (2 * r = m ∧ q % 2 = 1))) :
    Calls Try.prog 29 #[.int .i64 a, .int .i64 b, .int .i64 d] w fun e w' => e = .returned (.tuple #[.int .i64 (sgnVal neg (q)), .bool (sgnOk neg (q))]) ∧ Below w.heap.size w w' := by
  have hs := Lib.hid (fun w => rsigned_any q neg w (by omega) (by omega))
  have t1 : ¬ m - r < r := by omega
  by_cases t2 : r = m - r
  · have t2' : (r == m - r) = true := by simpa using t2
    have t3 : (q % 2 == 1) = false := by simp; omega
    clear h t2
    go_enter Try.func29, Try.ntmps29
    go_wp2_with fail
    refine (H.out _).mono ?_
    rintro e w1 ⟨rfl, k1⟩
    go_wp2_with fail
    refine (hM.out _).mono ?_
    rintro e w2 ⟨rfl, rfl⟩
    go_wp2_with fail
    refine (hs.out _).mono ?_
    rintro e w3 ⟨rfl, rfl⟩
    go_wp2
    go_ret2
    exact ⟨rfl, k1⟩
  · have t2' : (r == m - r) = false := by simpa using t2
    clear h t2
    go_enter Try.func29, Try.ntmps29
    go_wp2_with fail
    refine (H.out _).mono ?_
    rintro e w1 ⟨rfl, k1⟩
    go_wp2_with fail
    refine (hM.out _).mono ?_
    rintro e w2 ⟨rfl, rfl⟩
    go_wp2_with fail
    refine (hs.out _).mono ?_
    rintro e w3 ⟨rfl, rfl⟩
    go_wp2
    go_ret2
    exact ⟨rfl, k1⟩

set_option maxHeartbeats 400000 in
theorem rmuldiv_none (a b d : Int) (w : World) (H : Hid (ShNo a b d)) :
    Calls Try.prog 29 #[.int .i64 a, .int .i64 b, .int .i64 d] w fun e w' => e = .returned (.tuple #[.int .i64 0, .bool false]) ∧ Below w.heap.size w w' := by
  go_enter Try.func29, Try.ntmps29
  go_wp2_with fail
  refine (H.out _).mono ?_
  rintro e w1 ⟨rfl, k1⟩
  go_wp2
  go_ret2
  exact ⟨rfl, k1⟩

end Go.Proofs.Ytiminclbkmkgnaa
