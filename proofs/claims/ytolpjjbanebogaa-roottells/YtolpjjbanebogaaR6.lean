/- Walks of the document's own answer for layer 2 (tympanref2): Floor, Ceil, sign, in, Sign. -/
import Derived.Test.YtolpjjbanebogaaR5
import Derived.Test.YtolpjjbanebogaaW9
namespace Go.Proofs.Ytolpjjbanebogaa
open Go.RowKit
set_option linter.unusedVariables false

theorem grel_end (n x : Int) (hn : 0 ≤ n) (hn' : n < 18446744073709551616) (h : GRel (fitF n) 32 0 x) : x = isq n := by
  obtain ⟨x0, _, x2, x3, x4⟩ := h
  refine (isq_is hn (by omega) ⟨x0, by simpa [fitF] using x3, ?_⟩).symm
  simp only [Int.pow_zero] at x2 x4
  have e : (2 : Int) ^ 32 = 4294967296 := by decide
  rw [e] at x2 x4
  rcases Int.lt_or_le (x + 1) 4294967296 with h | h
  · have := x4 h
    simpa [fitF] using this
  · have h1 : x + 1 = 4294967296 := by omega
    rw [h1]; omega

theorem grel_at {P : Int → Bool} {n i : Nat} {y : Int} (h : GRel P n i y) : GRel P n ((i : Int) - 1 + 1).toNat y := by
  have e : ((i : Int) - 1 + 1).toNat = i := by omega
  rw [e]; exact h

set_option maxHeartbeats 1000000 in
theorem rfloorR_any (n : Int) (w : World) (hn : 0 ≤ n) (hn' : n < 18446744073709551616) :
    Calls Try.prog 14 #[.int .u64 n] w fun e w' => e = .returned (.int .u64 (isq n)) ∧ w = w' := by
  go_enter Try.func14, Try.ntmps14
  go_wp2
  go_loop [3, 4] (fun r k => ∃ (c x : Int), k = .int .i64 c ∧ r = .int .u64 x ∧ -1 ≤ c ∧ c ≤ 31 ∧ GRel (fitF n) 32 (c + 1).toNat x)
    (fun _ k => (intOf k + 1).toNat)
  case atStart => exact ⟨31, 0, rfl, rfl, by decide, by decide, ⟨by decide, by decide, by decide, by unfold fitF; simpa using hn, fun h => by exact absurd h (by decide)⟩⟩
  case round =>
    obtain ⟨c, x, rfl, rfl, c0, c1, hG⟩ := hrel
    by_cases hlt : 0 ≤ c
    · obtain ⟨i, rfl⟩ := Int.eq_ofNat_of_zero_le hlt
      have ei : ((i : Int) + 1).toNat = i + 1 := by omega
      rw [ei] at hG
      have hi : i ≤ 31 := by omega
      have hor := or_bit x 32 i (by decide) hG.1 hG.2.1 hG.2.2.1
      have y0 : 0 ≤ x + 2 ^ i := by have := hG.1; have : (0 : Int) < 2 ^ i := Int.pow_pos (by decide); omega
      have y1 : x + 2 ^ i < 4294967296 := by
        have := hG.2.2.1
        have : (0 : Int) < 2 ^ i := Int.pow_pos (by decide)
        have e2 : (2 : Int) ^ (i + 1) = 2 * 2 ^ i := by rw [Int.pow_succ]; omega
        have e3 : (2 : Int) ^ 32 = 4294967296 := by decide
        omega
      have hy := Lib.hid (grel_yes hG)
      have hno := Lib.hid (grel_no hG)
      obtain ⟨s0, s1⟩ := sq32 _ y0 y1
      clear ei hlt c0 c1
      generalize x + 2 ^ i = y at *
      by_cases hl : y * y ≤ n
      · have G := Lib.hid (hy.out (decide_eq_true hl))
        go_wp2
        go_round
        case rel => exact ⟨(i : Int) - 1, y, rfl, rfl, by omega, by omega, grel_at G.out⟩
        case measure => simp [intOf]
      · have G := Lib.hid (hno.out (decide_eq_false hl))
        go_wp2
        go_round
        case rel => exact ⟨(i : Int) - 1, x, rfl, rfl, by omega, by omega, grel_at G.out⟩
        case measure => simp [intOf]
    · have ec : (c + 1).toNat = 0 := by omega
      rw [ec] at hG
      have he := Lib.hid (grel_end n x hn hn' hG)
      clear ec hG
      go_wp2
      go_ret
      exact ⟨ret_int he.out, rfl⟩

set_option maxHeartbeats 400000 in
theorem rceilR_any (n : Int) (w : World) (hn : 0 ≤ n) (hn' : n < 18446744073709551616) :
    Calls Try.prog 16 #[.int .u64 n] w fun e w' => e = .returned (.int .u64 (csq n)) ∧ w = w' := by
  have h := Lib.hid (rfloorR_any n w hn hn')
  obtain ⟨b0, b1, b2, b3⟩ := isq_bd n hn hn'
  have hs : csq n = if isq n * isq n < n then isq n + 1 else isq n := rfl
  have HS := Lib.hid hs
  clear hs
  generalize isq n = r at *
  by_cases hl : r * r < n
  · rw [if_pos hl] at HS
    go_enter Try.func16, Try.ntmps16
    go_wp2_with fail
    refine h.out.mono ?_
    rintro e w1 ⟨rfl, rfl⟩
    go_wp2
    go_ret
    exact ⟨ret_int HS.out.symm, rfl⟩
  · rw [if_neg hl] at HS
    go_enter Try.func16, Try.ntmps16
    go_wp2_with fail
    refine h.out.mono ?_
    rintro e w1 ⟨rfl, rfl⟩
    go_wp2
    go_ret
    exact ⟨ret_int HS.out.symm, rfl⟩

set_option maxHeartbeats 400000 in
theorem rsg_any (v : Int) (w : World) :
    Calls Try.prog 21 #[.int .i64 v] w fun e w' => e = .returned (.int .i64 (sg v)) ∧ w = w' := by
  unfold sg
  by_cases h1 : v < 0
  · go_enter Try.func21, Try.ntmps21
    go_wp2
    go_ret
    exact ⟨rfl, rfl⟩
  · by_cases h2 : 0 < v
    · go_enter Try.func21, Try.ntmps21
      go_wp2
      go_ret
      exact ⟨rfl, rfl⟩
    · go_enter Try.func21, Try.ntmps21
      go_wp2
      go_ret
      exact ⟨rfl, rfl⟩

set_option maxHeartbeats 400000 in
theorem rin_yes (v n : Int) (w : World) (n0 : 0 ≤ n) (n1 : n ≤ 4611686018427387904) (h1 : -n ≤ v) (h2 : v ≤ n) :
    Calls Try.prog 20 #[.int .i64 v, .int .i64 n] w fun e w' => e = .returned (.bool true) ∧ w = w' := by
  go_enter Try.func20, Try.ntmps20
  go_wp2
  go_ret
  exact ⟨rfl, rfl⟩
set_option maxHeartbeats 400000 in
theorem rin_no (v n : Int) (w : World) (n0 : 0 ≤ n) (n1 : n ≤ 4611686018427387904) (h : ¬ (-n ≤ v ∧ v ≤ n)) :
    Calls Try.prog 20 #[.int .i64 v, .int .i64 n] w fun e w' => e = .returned (.bool false) ∧ w = w' := by
  by_cases h1 : -n ≤ v
  · have h2 : n < v := by omega
    clear h
    go_enter Try.func20, Try.ntmps20
    go_wp2
    go_ret
    exact ⟨ret_bool (by simp; omega), rfl⟩
  · clear h
    go_enter Try.func20, Try.ntmps20
    go_wp2
    go_ret
    exact ⟨rfl, rfl⟩

theorem sg_bd (v : Int) : -1 ≤ sg v ∧ sg v ≤ 1 := by unfold sg; split <;> (try split) <;> omega
theorem sgsg_bd (v u : Int) (h : -1 ≤ v ∧ v ≤ 1) (h' : -1 ≤ u ∧ u ≤ 1) : -1 ≤ v * u ∧ v * u ≤ 1 := by
  obtain ⟨a, b⟩ := h
  obtain ⟨c, d⟩ := h'
  rcases (by omega : v = -1 ∨ v = 0 ∨ v = 1) with rfl | rfl | rfl <;> omega

set_option maxHeartbeats 1000000 in
theorem rsignR_any (p q d : Int) (w : World) (d0 : -9223372036854775808 ≤ d) (d1 : d ≤ 9223372036854775807) :
    Calls Try.prog 10 #[.int .i64 p, .int .i64 q, .int .i64 d] w fun e w' => e = .returned (.tuple #[.int .i64 (valS p q d), .bool (okS p q d)]) ∧ w = w' := by
  have hval : valS p q d = if okS p q d = true then sgnR p q d else 0 := rfl
  have HV := Lib.hid hval
  have hok : okS p q d = decide (-4611686018427387904 ≤ p ∧ p ≤ 4611686018427387904 ∧ -2147483648 ≤ q ∧ q ≤ 2147483648 ∧ 0 ≤ d ∧ d ≤ 2147483648) := rfl
  have HO := Lib.hid hok
  clear hval hok
  by_cases h1 : -4611686018427387904 ≤ p ∧ p ≤ 4611686018427387904
  · have hp := Lib.hid (rin_yes p 4611686018427387904 w (by decide) (by decide) h1.1 h1.2)
    by_cases h2 : -2147483648 ≤ q ∧ q ≤ 2147483648
    · have hq := Lib.hid (rin_yes q 2147483648 w (by decide) (by decide) h2.1 h2.2)
      by_cases h3 : 0 ≤ d ∧ d ≤ 2147483648
      · obtain ⟨p0, p1⟩ := h1
        obtain ⟨q0, q1⟩ := h2
        obtain ⟨d0, d1⟩ := h3
        have e : okS p q d = true := by rw [HO.out]; exact decide_eq_true (by omega)
        rw [HV.out, e]
        simp only [if_true]
        clear HV HO e
        obtain ⟨s0, s1⟩ := sg_bd p
        obtain ⟨t0, t1⟩ := sg_bd q
        obtain ⟨m0, m1⟩ := sgsg_bd _ _ ⟨s0, s1⟩ ⟨t0, t1⟩
        by_cases hd : d = 0
        · subst hd
          have hr := Lib.hid (ref_zero p q)
          clear d0 d1
          go_enter Try.func10, Try.ntmps10
          go_wp2_with fail
          refine hp.out.mono ?_
          rintro e w' ⟨rfl, rfl⟩
          go_wp2_with fail
          refine hq.out.mono ?_
          rintro e w' ⟨rfl, rfl⟩
          go_wp2_with (first | (go_at_call 21; refine (rsg_any _ _).mono ?_; rintro e w' ⟨rfl, rfl⟩))
          go_ret2
          exact ⟨ret_ok (by have := hr.out; rwa [Int.add_zero] at this) rfl, rfl⟩
        · have hd0 : (d == 0) = false := by simpa using hd
          have hd1 : 0 < d := by omega
          clear hd
          by_cases hs : 0 ≤ sg p * sg q
          · have hr := Lib.hid (ref_same p q d hd1 hs)
            go_enter Try.func10, Try.ntmps10
            go_wp2_with fail
            refine hp.out.mono ?_
            rintro e w' ⟨rfl, rfl⟩
            go_wp2_with fail
            refine hq.out.mono ?_
            rintro e w' ⟨rfl, rfl⟩
            go_wp2_with (first | (go_at_call 21; refine (rsg_any _ _).mono ?_; rintro e w' ⟨rfl, rfl⟩))
            go_ret2
            exact ⟨ret_ok hr.out rfl, rfl⟩
          · have hr := Lib.hid (ref_apart p q d (by omega))
            obtain ⟨c0, c1⟩ := sgsg_bd _ _ ⟨s0, s1⟩ (cmpI_bd (p * p) (q * (q * d)))
            have b : -4611686018427387904 ≤ q * d ∧ q * d ≤ 4611686018427387904 := by
              have b1 := Int.mul_le_mul_of_nonneg_right (by omega : q ≤ 2147483648) d0
              have b2 := Int.mul_le_mul_of_nonneg_right (by omega : -2147483648 ≤ q) d0
              omega
            obtain ⟨b0, b1⟩ := b
            have hC := Lib.hid (rcmp_any p p q (q * d) w (by omega) (by omega) (by omega) (by omega) (by omega) (by omega) (by omega) (by omega))
            go_enter Try.func10, Try.ntmps10
            go_wp2_with fail
            refine hp.out.mono ?_
            rintro e w' ⟨rfl, rfl⟩
            go_wp2_with fail
            refine hq.out.mono ?_
            rintro e w' ⟨rfl, rfl⟩
            go_wp2_with (first | (go_at_call 21; refine (rsg_any _ _).mono ?_; rintro e w' ⟨rfl, rfl⟩) | (go_at_call 22; refine hC.out.mono ?_; rintro e w' ⟨rfl, rfl⟩))
            go_ret2
            exact ⟨ret_ok hr.out rfl, rfl⟩
      · have e : okS p q d = false := by rw [HO.out]; exact decide_eq_false (by omega)
        rw [HV.out, e]
        simp only [Bool.false_eq_true, if_false]
        clear HV HO e
        obtain ⟨p0, p1⟩ := h1
        obtain ⟨q0, q1⟩ := h2
        by_cases h4 : d < 0
        · clear h3
          go_enter Try.func10, Try.ntmps10
          go_wp2_with fail
          refine hp.out.mono ?_
          rintro e w' ⟨rfl, rfl⟩
          go_wp2_with fail
          refine hq.out.mono ?_
          rintro e w' ⟨rfl, rfl⟩
          go_wp2
          go_ret2
          exact ⟨rfl, rfl⟩
        · have h5 : 2147483648 < d := by omega
          clear h3
          go_enter Try.func10, Try.ntmps10
          go_wp2_with fail
          refine hp.out.mono ?_
          rintro e w' ⟨rfl, rfl⟩
          go_wp2_with fail
          refine hq.out.mono ?_
          rintro e w' ⟨rfl, rfl⟩
          go_wp2
          go_ret2
          exact ⟨rfl, rfl⟩
    · have hq := Lib.hid (rin_no q 2147483648 w (by decide) (by decide) h2)
      have e : okS p q d = false := by rw [HO.out]; exact decide_eq_false (by omega)
      rw [HV.out, e]
      simp only [Bool.false_eq_true, if_false]
      clear HV HO e h1 h2
      go_enter Try.func10, Try.ntmps10
      go_wp2_with fail
      refine hp.out.mono ?_
      rintro e w' ⟨rfl, rfl⟩
      go_wp2_with fail
      refine hq.out.mono ?_
      rintro e w' ⟨rfl, rfl⟩
      go_wp2
      go_ret2
      exact ⟨rfl, rfl⟩
  · have hp := Lib.hid (rin_no p 4611686018427387904 w (by decide) (by decide) h1)
    have e : okS p q d = false := by rw [HO.out]; exact decide_eq_false (by omega)
    rw [HV.out, e]
    simp only [Bool.false_eq_true, if_false]
    clear HV HO e h1
    go_enter Try.func10, Try.ntmps10
    go_wp2_with fail
    refine hp.out.mono ?_
    rintro e w' ⟨rfl, rfl⟩
    go_wp2
    go_ret2
    exact ⟨rfl, rfl⟩
end Go.Proofs.Ytolpjjbanebogaa
