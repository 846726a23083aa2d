/- wide.MulDiv and wide.Floor answer the rounded quotient; the statements' function known answers true. -/
import Derived.Test.YtiminclbkmkgnaaW6
namespace Go.Proofs.Ytiminclbkmkgnaa
open Go.RowKit
set_option linter.unusedVariables false

theorem nearM_ge (p m : Int) : p / m ≤ nearM p m := by unfold nearM; split <;> omega
theorem floorM_ge (neg : Bool) (p m : Int) : p / m ≤ floorM neg p m := by unfold floorM; split <;> omega

theorem sgn_great (neg : Bool) (n : Int) (h : 9223372036854775808 < n) : sgnOk neg n = false ∧ sgnVal neg n = 0 := by
  have h1 : sgnOk neg n = false := by unfold sgnOk; cases neg <;> simp <;> omega
  exact ⟨h1, by unfold sgnVal; rw [h1]; simp⟩

theorem zero_none (q : Int) : okOf 0 q = false ∧ valOf 0 q = 0 := by
  have h1 : okOf 0 q = false := by unfold okOf; simp
  exact ⟨h1, by unfold valOf; rw [h1]; simp⟩

/-- Where the quotient of magnitudes has more than a word it is too great. -/
theorem great_of (p m : Int) (hp : 0 ≤ p) (hm : 0 < m) (h : m ≤ p / 18446744073709551616) : 9223372036854775808 < p / m := by
  have h2 : m * 18446744073709551616 ≤ p := by omega
  have : 18446744073709551616 ≤ p / m := Int.le_ediv_of_mul_le hm (by rw [Int.mul_comm]; exact h2)
  omega

theorem muldiv_any (a b d : Int) (w : World) (ha0 : -9223372036854775808 ≤ a) (ha1 : a ≤ 9223372036854775807) (hb0 : -9223372036854775808 ≤ b) (hb1 : b ≤ 9223372036854775807) (hd0 : -9223372036854775808 ≤ d) (hd1 : d ≤ 9223372036854775807) :
    Calls Try.prog 43 #[.int .i64 a, .int .i64 b, .int .i64 d] w fun e w' => e = .returned (.tuple #[.int .i64 (valOf d (near (a * b) d)), .bool (okOf d (near (a * b) d))]) ∧ Below w.heap.size w w' := by
  obtain ⟨d0, d1⟩ := mag_bd d hd0 hd1
  obtain ⟨s0, s1⟩ := mags_bd a b ha0 ha1 hb0 hb1
  by_cases hz : d = 0
  · subst hz
    refine (muldiv_none a b 0 w (Lib.hid fun w => divide_no a b 0 w ha0 ha1 hb0 hb1 hd0 hd1 (by unfold mag at *; simp at *; omega))).mono ?_
    rintro e w' ⟨rfl, hb⟩
    exact ⟨ret_ok (zero_none _).2.symm (zero_none _).1.symm, hb⟩
  · have hm := mag_pos d hz
    have hs := sgn_of (neg3 a b d) (nearM (mag a * mag b) (mag d)) (near (a * b) d) d hz
      (Int.le_trans (Int.ediv_nonneg s0 d0) (nearM_ge _ _)) (near_signed a b d hz)
    by_cases hlt : mag a * mag b / 18446744073709551616 < mag d
    · by_cases hle : mag a * mag b / mag d ≤ 9223372036854775808
      · have H := Lib.hid (show DivYes a b d _ _ _ _ from fun w => divide_yes a b d w ha0 ha1 hb0 hb1 hd0 hd1 hlt hle)
        have r0 := Int.emod_nonneg (mag a * mag b) (by omega : mag d ≠ 0)
        have r1 := Int.emod_lt_of_pos (mag a * mag b) hm
        have q0 := Int.ediv_nonneg s0 d0
        by_cases hr : mag d < 2 * (mag a * mag b % mag d) ∨ (2 * (mag a * mag b % mag d) = mag d ∧ mag a * mag b / mag d % 2 = 1)
        · refine (muldiv_up a b d _ _ _ _ w H q0 hle r0 r1 d1 hr).mono ?_
          rintro e w' ⟨rfl, hb⟩
          unfold nearM at hs
          rw [if_pos hr] at hs
          exact ⟨ret_ok hs.2 hs.1, hb⟩
        · refine (muldiv_down a b d _ _ _ _ w H q0 hle r0 r1 d1 hr).mono ?_
          rintro e w' ⟨rfl, hb⟩
          unfold nearM at hs
          rw [if_neg hr] at hs
          exact ⟨ret_ok hs.2 hs.1, hb⟩
      · refine (muldiv_none a b d w (Lib.hid fun w => divide_great a b d w ha0 ha1 hb0 hb1 hd0 hd1 hlt (by omega))).mono ?_
        rintro e w' ⟨rfl, hb⟩
        have hg := sgn_great (neg3 a b d) (nearM (mag a * mag b) (mag d)) (by have := nearM_ge (mag a * mag b) (mag d); omega)
        rw [hs.1, hs.2] at hg
        exact ⟨ret_ok hg.2.symm hg.1.symm, hb⟩
    · refine (muldiv_none a b d w (Lib.hid fun w => divide_no a b d w ha0 ha1 hb0 hb1 hd0 hd1 (by omega))).mono ?_
      rintro e w' ⟨rfl, hb⟩
      have hg := sgn_great (neg3 a b d) (nearM (mag a * mag b) (mag d)) (by have := nearM_ge (mag a * mag b) (mag d); have := great_of _ _ s0 hm (by omega); omega)
      rw [hs.1, hs.2] at hg
      exact ⟨ret_ok hg.2.symm hg.1.symm, hb⟩

theorem floor_any (a b d : Int) (w : World) (ha0 : -9223372036854775808 ≤ a) (ha1 : a ≤ 9223372036854775807) (hb0 : -9223372036854775808 ≤ b) (hb1 : b ≤ 9223372036854775807) (hd0 : -9223372036854775808 ≤ d) (hd1 : d ≤ 9223372036854775807) :
    Calls Try.prog 39 #[.int .i64 a, .int .i64 b, .int .i64 d] w fun e w' => e = .returned (.tuple #[.int .i64 (valOf d (sdiv (a * b) d)), .bool (okOf d (sdiv (a * b) d))]) ∧ Below w.heap.size w w' := by
  obtain ⟨d0, d1⟩ := mag_bd d hd0 hd1
  obtain ⟨s0, s1⟩ := mags_bd a b ha0 ha1 hb0 hb1
  by_cases hz : d = 0
  · subst hz
    refine (floor_none a b 0 w (Lib.hid fun w => divide_no a b 0 w ha0 ha1 hb0 hb1 hd0 hd1 (by unfold mag at *; simp at *; omega))).mono ?_
    rintro e w' ⟨rfl, hb⟩
    exact ⟨ret_ok (zero_none _).2.symm (zero_none _).1.symm, hb⟩
  · have hm := mag_pos d hz
    have hs := sgn_of (neg3 a b d) (floorM (neg3 a b d) (mag a * mag b) (mag d)) (sdiv (a * b) d) d hz
      (Int.le_trans (Int.ediv_nonneg s0 d0) (floorM_ge _ _ _)) (floor_signed a b d hz)
    by_cases hlt : mag a * mag b / 18446744073709551616 < mag d
    · by_cases hle : mag a * mag b / mag d ≤ 9223372036854775808
      · have H := Lib.hid (show DivYes a b d _ _ _ _ from fun w => divide_yes a b d w ha0 ha1 hb0 hb1 hd0 hd1 hlt hle)
        have r0 := Int.emod_nonneg (mag a * mag b) (by omega : mag d ≠ 0)
        have r1 := Int.emod_lt_of_pos (mag a * mag b) hm
        have q0 := Int.ediv_nonneg s0 d0
        generalize hneg : neg3 a b d = neg at *
        by_cases hr : neg = true ∧ 0 < mag a * mag b % mag d
        · have hs2 := hs
          unfold floorM at hs2
          rw [if_pos hr] at hs2
          obtain ⟨rfl, hr'⟩ := hr
          refine (floor_up a b d _ _ _ w H q0 hle hr' r1 d1).mono ?_
          rintro e w' ⟨rfl, hb⟩
          exact ⟨ret_ok hs2.2 hs2.1, hb⟩
        · refine (floor_down a b d _ _ _ _ w H q0 hle r0 r1 d1 hr).mono ?_
          rintro e w' ⟨rfl, hb⟩
          unfold floorM at hs
          rw [if_neg hr] at hs
          exact ⟨ret_ok hs.2 hs.1, hb⟩
      · refine (floor_none a b d w (Lib.hid fun w => divide_great a b d w ha0 ha1 hb0 hb1 hd0 hd1 hlt (by omega))).mono ?_
        rintro e w' ⟨rfl, hb⟩
        have hg := sgn_great (neg3 a b d) (floorM (neg3 a b d) (mag a * mag b) (mag d)) (by have := floorM_ge (neg3 a b d) (mag a * mag b) (mag d); omega)
        rw [hs.1, hs.2] at hg
        exact ⟨ret_ok hg.2.symm hg.1.symm, hb⟩
    · refine (floor_none a b d w (Lib.hid fun w => divide_no a b d w ha0 ha1 hb0 hb1 hd0 hd1 (by omega))).mono ?_
      rintro e w' ⟨rfl, hb⟩
      have hg := sgn_great (neg3 a b d) (floorM (neg3 a b d) (mag a * mag b) (mag d)) (by have := floorM_ge (neg3 a b d) (mag a * mag b) (mag d); have := great_of _ _ s0 hm (by omega); omega)
      rw [hs.1, hs.2] at hg
      exact ⟨ret_ok hg.2.symm hg.1.symm, hb⟩

end Go.Proofs.Ytiminclbkmkgnaa
