/- The document's own MulDiv and Floor (tympanref1) answer the same rounded quotients. -/
import Derived.Test.YtiminclbkmkgnaaW9
namespace Go.Proofs.Ytiminclbkmkgnaa
open Go.RowKit
set_option linter.unusedVariables false

theorem share_bd (p m : Int) (hp : 0 ≤ p) (hm : 0 < m) (h : p / 18446744073709551616 < m) : 0 ≤ p / m ∧ p / m < 18446744073709551616 := by
  refine ⟨Int.ediv_nonneg hp (by omega), ?_⟩
  apply Int.ediv_lt_of_lt_mul hm
  rw [Int.mul_comm]
  omega

theorem rmuldiv_any (a b d : Int) (w : World) (ha0 : -9223372036854775808 ≤ a) (ha1 : a ≤ 9223372036854775807) (hb0 : -9223372036854775808 ≤ b) (hb1 : b ≤ 9223372036854775807) (hd0 : -9223372036854775808 ≤ d) (hd1 : d ≤ 9223372036854775807) :
    Calls Try.prog 29 #[.int .i64 a, .int .i64 b, .int .i64 d] w fun e w' => e = .returned (.tuple #[.int .i64 (valOf d (near (a * b) d)), .bool (okOf d (near (a * b) d))]) ∧ Below w.heap.size w w' := by
  obtain ⟨d0, d1⟩ := mag_bd d hd0 hd1
  obtain ⟨s0, s1⟩ := mags_bd a b ha0 ha1 hb0 hb1
  by_cases hz : d = 0
  · subst hz
    refine (rmuldiv_none a b 0 w (Lib.hid fun w => share_no a b 0 w ha0 ha1 hb0 hb1 hd0 hd1 (by unfold mag at *; simp at *; omega))).mono ?_
    rintro e w' ⟨rfl, hb⟩
    exact ⟨ret_ok (zero_none _).2.symm (zero_none _).1.symm, hb⟩
  · have hm := mag_pos d hz
    have hs := sgn_of (neg3 a b d) (nearM (mag a * mag b) (mag d)) (near (a * b) d) d hz
      (Int.le_trans (Int.ediv_nonneg s0 d0) (nearM_ge _ _)) (near_signed a b d hz)
    by_cases hlt : mag a * mag b / 18446744073709551616 < mag d
    · have H := Lib.hid (show ShYes a b d _ _ _ from fun w => share_yes a b d w ha0 ha1 hb0 hb1 hd0 hd1 hlt)
      have hM := Lib.hid (fun w => rmag_any d w hd0 hd1)
      have r0 := Int.emod_nonneg (mag a * mag b) (by omega : mag d ≠ 0)
      have r1 := Int.emod_lt_of_pos (mag a * mag b) hm
      obtain ⟨q0, q1⟩ := share_bd _ _ s0 hm hlt
      by_cases hr : mag d < 2 * (mag a * mag b % mag d) ∨ (2 * (mag a * mag b % mag d) = mag d ∧ mag a * mag b / mag d % 2 = 1)
      · refine (rmuldiv_up a b d _ _ _ _ w H hM q0 q1 r0 r1 d1 hr).mono ?_
        rintro e w' ⟨rfl, hb⟩
        unfold nearM at hs
        rw [if_pos hr] at hs
        exact ⟨ret_ok hs.2 hs.1, hb⟩
      · refine (rmuldiv_down a b d _ _ _ _ w H hM q0 q1 r0 r1 d1 hr).mono ?_
        rintro e w' ⟨rfl, hb⟩
        unfold nearM at hs
        rw [if_neg hr] at hs
        exact ⟨ret_ok hs.2 hs.1, hb⟩
    · refine (rmuldiv_none a b d w (Lib.hid fun w => share_no a b d w ha0 ha1 hb0 hb1 hd0 hd1 (by omega))).mono ?_
      rintro e w' ⟨rfl, hb⟩
      have hg := sgn_great (neg3 a b d) (nearM (mag a * mag b) (mag d)) (by have := nearM_ge (mag a * mag b) (mag d); have := great_of _ _ s0 hm (by omega); omega)
      rw [hs.1, hs.2] at hg
      exact ⟨ret_ok hg.2.symm hg.1.symm, hb⟩

end Go.Proofs.Ytiminclbkmkgnaa
