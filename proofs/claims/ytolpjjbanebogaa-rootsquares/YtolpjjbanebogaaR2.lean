/- Walks of root: Floor, Ceil, valid, magnitude, Sign. -/
import Derived.Test.YtolpjjbanebogaaR1
namespace Go.Proofs.Ytolpjjbanebogaa
open Go.RowKit
set_option linter.unusedVariables false

theorem ret_bool {a b : Bool} (h : a = b) : Ending.returned (.bool a) = .returned (.bool b) := by rw [h]

/-- The predicate of Floor. -/
def fitF (n x : Int) : Bool := decide (x * x ≤ n)

set_option maxHeartbeats 400000 in
theorem floor1_any (n x : Int) (b : Nat) (w : World) (hc : w.cell? ⟨b, 0, none⟩ = some (.int .u64 n)) (x0 : 0 ≤ x) (x1 : x < 4294967296) (s0 : 0 ≤ x * x) (s1 : x * x < 18446744073709551616) :
    Calls Try.prog 27 #[.int .u64 x, .pointer (some ⟨b, 0, none⟩)] w fun e w' => e = .returned (.bool (fitF n x)) ∧ w = w' := by
  go_enter Try.func27, Try.ntmps27
  go_wp2
  go_ret
  exact ⟨rfl, rfl⟩

theorem sq32 (x : Int) (x0 : 0 ≤ x) (x1 : x < 4294967296) : 0 ≤ x * x ∧ x * x < 18446744073709551616 := by
  have := sq_le x0 (by omega : x ≤ 4294967295)
  exact ⟨sq_nonneg x, by omega⟩

theorem enters27 : Enters 27 := enters_of Try.func27 (by kernel_rfl) (by kernel_rfl)

theorem greatest32 (n : Int) (b : Nat) (w : World) (hn : 0 ≤ n) (hn' : n < 18446744073709551616) (hc : w.cell? ⟨b, 0, none⟩ = some (.int .u64 n)) (hb : b < w.heap.size) :
    Calls Try.prog 26 #[.int .i64 32, .func (.func 27) #[] #[.pointer (some ⟨b, 0, none⟩)]] w fun e w' => e = .returned (.int .u64 (isq n)) ∧ Below w.heap.size w w' := by
  refine (greatest_any 27 b 32 (fitF n) w (by decide) (Lib.hid enters27) (Lib.hid (by unfold fitF; simpa using hn)) (Lib.hid ?_)).mono ?_
  · intro x w1 x0 x1 hB
    have x1 : x < 4294967296 := by simpa using x1
    obtain ⟨s0, s1⟩ := sq32 x x0 x1
    refine (floor1_any n x b w1 ((hB.cell (p := ⟨b, 0, none⟩) hb).trans hc) x0 x1 s0 s1).mono ?_
    rintro e w2 ⟨rfl, rfl⟩
    exact ⟨rfl, Below.refl _ _⟩
  · rintro e w' ⟨x, ⟨x0, _, x2, x3, x4⟩, rfl, hB⟩
    refine ⟨ret_int (isq_is hn (by omega) ⟨x0, by simpa [fitF] using x3, ?_⟩).symm, hB⟩
    simp only [Int.pow_zero] at x2 x4
    have e : (2 : Int) ^ 32 = 4294967296 := by decide
    rw [e] at x2 x4
    rcases Int.lt_or_le (x + 1) 4294967296 with h | h
    · have := x4 h
      simpa [fitF] using this
    · have h1 : x + 1 = 4294967296 := by omega
      rw [h1]; omega

set_option maxHeartbeats 400000 in
theorem floorR_any (n : Int) (w : World) (hn : 0 ≤ n) (hn' : n < 18446744073709551616) :
    Calls Try.prog 13 #[.int .u64 n] w fun e w' => e = .returned (.int .u64 (isq n)) ∧ Below w.heap.size w w' := by
  have h := Lib.hid (greatest32 n w.heap.size (w.alloc (.cells #[.int .u64 n] 22)) hn hn' (by simp) (by simp))
  go_enter Try.func13, Try.ntmps13
  go_wp2_with fail
  refine h.out.mono ?_
  rintro e w1 ⟨rfl, k1⟩
  go_wp2
  go_ret
  exact ⟨rfl, ((Below.refl _ _).alloc (Nat.le_refl _) _).trans (k1.mono (by simp))⟩

theorem isq_bd (n : Int) (hn : 0 ≤ n) (hn' : n < 18446744073709551616) : 0 ≤ isq n ∧ isq n < 4294967296 ∧ 0 ≤ isq n * isq n ∧ isq n * isq n ≤ n := by
  obtain ⟨r0, r1, r2⟩ := isq_root n hn (by omega)
  have := lt_of_sq (by decide : (0 : Int) ≤ 4294967296) (by omega : isq n * isq n < 4294967296 * 4294967296)
  exact ⟨r0, this, sq_nonneg _, r1⟩

set_option maxHeartbeats 400000 in
theorem ceilR_any (n : Int) (w : World) (hn : 0 ≤ n) (hn' : n < 18446744073709551616) :
    Calls Try.prog 15 #[.int .u64 n] w fun e w' => e = .returned (.int .u64 (csq n)) ∧ Below w.heap.size w w' := by
  have h := Lib.hid (floorR_any n w hn hn')
  obtain ⟨b0, b1, b2, b3⟩ := isq_bd n hn hn'
  have hs : csq n = if isq n * isq n < n then isq n + 1 else isq n := rfl
  have HS := Lib.hid hs
  clear hs
  generalize isq n = r at *
  by_cases hl : r * r < n
  · rw [if_pos hl] at HS
    go_enter Try.func15, Try.ntmps15
    go_wp2_with fail
    refine h.out.mono ?_
    rintro e w1 ⟨rfl, k1⟩
    go_wp2
    go_ret
    exact ⟨ret_int HS.out.symm, k1⟩
  · rw [if_neg hl] at HS
    go_enter Try.func15, Try.ntmps15
    go_wp2_with fail
    refine h.out.mono ?_
    rintro e w1 ⟨rfl, k1⟩
    go_wp2
    go_ret
    exact ⟨ret_int HS.out.symm, k1⟩

set_option maxHeartbeats 400000 in
theorem magn_any (a : Int) (w : World) (h0 : -9223372036854775808 < a) (h1 : a ≤ 9223372036854775807) :
    Calls Try.prog 19 #[.int .i64 a] w fun e w' => e = .returned (.int .i64 (mag a)) ∧ w = w' := by
  by_cases h : a < 0
  · go_enter Try.func19, Try.ntmps19
    go_wp2
    go_ret
    exact ⟨ret_int (by rw [mag, if_pos h]), rfl⟩
  · go_enter Try.func19, Try.ntmps19
    go_wp2
    go_ret
    exact ⟨ret_int (by rw [mag, if_neg (by omega)]), rfl⟩

set_option maxHeartbeats 1000000 in
theorem valid_any (p t q d : Int) (w : World) (t0 : 0 ≤ t) (t1 : t ≤ 4611686018427387904) :
    Calls Try.prog 17 #[.int .i64 p, .int .i64 t, .int .i64 q, .int .i64 d] w fun e w' => e = .returned (.bool (validR p t q d)) ∧ w = w' := by
  have hv : validR p t q d = decide (-t ≤ p ∧ p ≤ t ∧ -2147483648 ≤ q ∧ q ≤ 2147483648 ∧ 0 ≤ d ∧ d ≤ 2147483648) := rfl
  have HV := Lib.hid hv
  clear hv
  by_cases h1 : -t ≤ p
  · by_cases h2 : p ≤ t
    · by_cases h3 : -2147483648 ≤ q
      · by_cases h4 : q ≤ 2147483648
        · by_cases h5 : 0 ≤ d
          · by_cases h6 : d ≤ 2147483648
            · go_enter Try.func17, Try.ntmps17
              go_wp2
              go_ret
              exact ⟨ret_bool (by rw [HV.out]; exact (decide_eq_true (by omega)).symm), rfl⟩
            · go_enter Try.func17, Try.ntmps17
              go_wp2
              go_ret
              exact ⟨ret_bool (by rw [HV.out]; exact (decide_eq_false (by omega)).symm), rfl⟩
          · go_enter Try.func17, Try.ntmps17
            go_wp2
            go_ret
            exact ⟨ret_bool (by rw [HV.out]; exact (decide_eq_false (by omega)).symm), rfl⟩
        · go_enter Try.func17, Try.ntmps17
          go_wp2
          go_ret
          exact ⟨ret_bool (by rw [HV.out]; exact (decide_eq_false (by omega)).symm), rfl⟩
      · go_enter Try.func17, Try.ntmps17
        go_wp2
        go_ret
        exact ⟨ret_bool (by rw [HV.out]; exact (decide_eq_false (by omega)).symm), rfl⟩
    · go_enter Try.func17, Try.ntmps17
      go_wp2
      go_ret
      exact ⟨ret_bool (by rw [HV.out]; exact (decide_eq_false (by omega)).symm), rfl⟩
  · go_enter Try.func17, Try.ntmps17
    go_wp2
    go_ret
    exact ⟨ret_bool (by rw [HV.out]; exact (decide_eq_false (by omega)).symm), rfl⟩

theorem sign_bd (q : Int) (q0 : -2147483648 ≤ q) (q1 : q ≤ 2147483648) : -4611686018427387904 ≤ -q * mag q ∧ -q * mag q ≤ 4611686018427387904 := by
  have hm : 0 ≤ mag q ∧ mag q ≤ 2147483648 := by unfold mag; split <;> omega
  have h1 := Int.mul_le_mul_of_nonneg_right (by omega : -q ≤ 2147483648) hm.1
  have h2 := Int.mul_le_mul_of_nonneg_right (by omega : q ≤ 2147483648) hm.1
  rw [Int.neg_mul] at *
  constructor <;> omega

/-- What Sign answers. -/
def okS (p q d : Int) : Bool := validR p 4611686018427387904 q d
def valS (p q d : Int) : Int := if okS p q d = true then sgnR p q d else 0

set_option maxHeartbeats 400000 in
theorem signR_any (p q d : Int) (w : World) :
    Calls Try.prog 9 #[.int .i64 p, .int .i64 q, .int .i64 d] w fun e w' => e = .returned (.tuple #[.int .i64 (valS p q d), .bool (okS p q d)]) ∧ Below w.heap.size w w' := by
  have hv := Lib.hid (valid_any p 4611686018427387904 q d w (by decide) (by decide))
  have hval : valS p q d = if okS p q d = true then sgnR p q d else 0 := rfl
  have HV := Lib.hid hval
  clear hval
  by_cases h : okS p q d = true
  · rw [if_pos h] at HV
    have hb : -4611686018427387904 ≤ p ∧ p ≤ 4611686018427387904 ∧ -2147483648 ≤ q ∧ q ≤ 2147483648 ∧ 0 ≤ d ∧ d ≤ 2147483648 := of_decide_eq_true h
    have h' : validR p 4611686018427387904 q d = true := h
    rw [h'] at hv
    have H := Lib.hid h
    clear h h'
    obtain ⟨p0, p1, q0, q1, d0, d1⟩ := hb
    obtain ⟨m0, m1⟩ := sign_bd q q0 q1
    have b1 : 0 ≤ mag p ∧ mag p ≤ 4611686018427387904 := by unfold mag; split <;> omega
    obtain ⟨g0, g1⟩ := b1
    have hC := Lib.hid (fun w => cmp_any p (mag p) (-q * mag q) d w (by omega) (by omega) (by omega) (by omega) (by omega) (by omega) (by omega) (by omega))
    go_enter Try.func9, Try.ntmps9
    go_wp2_with (first | (go_at_call 17; refine hv.out.mono ?_; rintro e w' ⟨rfl, rfl⟩) | (go_at_call 19; refine (magn_any _ _ (by omega) (by omega)).mono ?_; rintro e w' ⟨rfl, rfl⟩))
    refine (hC.out _).mono ?_
    rintro e w1 ⟨rfl, k1⟩
    go_wp2
    go_ret2
    exact ⟨ret_ok HV.out.symm H.out.symm, k1⟩
  · rw [if_neg h] at HV
    have h' : okS p q d = false := by simpa using h
    have h2 : validR p 4611686018427387904 q d = false := h'
    rw [h2] at hv
    have H := Lib.hid h'
    clear h h' h2
    go_enter Try.func9, Try.ntmps9
    go_wp2_with (first | (go_at_call 17; refine hv.out.mono ?_; rintro e w' ⟨rfl, rfl⟩))
    go_ret2
    exact ⟨ret_ok HV.out.symm H.out.symm, Below.refl _ _⟩
end Go.Proofs.Ytolpjjbanebogaa
