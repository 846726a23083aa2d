/- Walks of the document's own answer for the layer (tympanref1): Cmp, share, signed, MulDiv, Floor. -/
import Derived.Test.YtolpjjbanebogaaW8
namespace Go.Proofs.Ytolpjjbanebogaa
open Go.RowKit
set_option linter.unusedVariables false

set_option maxHeartbeats 1000000 in
theorem rcmp_core (a b c d h l g k x : Int) (w : World)
    (m1 : Hid (∀ w, Calls Try.prog 31 #[.int .i64 a, .int .i64 b] w fun e w' => e = .returned (.tuple #[.int .i64 h, .int .u64 l]) ∧ w = w'))
    (m2 : Hid (∀ w, Calls Try.prog 31 #[.int .i64 c, .int .i64 d] w fun e w' => e = .returned (.tuple #[.int .i64 g, .int .u64 k]) ∧ w = w'))
    (hx : Hid (x = if h < g ∨ (h = g ∧ l < k) then -1 else if h = g ∧ l = k then 0 else 1)) :
    Calls Try.prog 22 #[.int .i64 a, .int .i64 b, .int .i64 c, .int .i64 d] w fun e w' => e = .returned (.int .i64 x) ∧ w = w' := by
  by_cases t1 : h < g
  · go_enter Try.func22, Try.ntmps22
    go_wp2_with fail
    refine (m1.out _).mono ?_
    rintro e w1 ⟨rfl, rfl⟩
    go_wp2_with fail
    refine (m2.out _).mono ?_
    rintro e w2 ⟨rfl, rfl⟩
    go_wp2
    go_ret
    exact ⟨ret_int (by rw [hx.out]; rw [if_pos (.inl t1)]), rfl⟩
  · by_cases t2 : g < h
    · have t3 : (h == g) = false := by simp; omega
      go_enter Try.func22, Try.ntmps22
      go_wp2_with fail
      refine (m1.out _).mono ?_
      rintro e w1 ⟨rfl, rfl⟩
      go_wp2_with fail
      refine (m2.out _).mono ?_
      rintro e w2 ⟨rfl, rfl⟩
      go_wp2
      go_ret
      exact ⟨ret_int (by rw [hx.out]; rw [if_neg (by omega), if_neg (by omega)]), rfl⟩
    · obtain rfl : h = g := by omega
      by_cases t4 : l < k
      · go_enter Try.func22, Try.ntmps22
        go_wp2_with fail
        refine (m1.out _).mono ?_
        rintro e w1 ⟨rfl, rfl⟩
        go_wp2_with fail
        refine (m2.out _).mono ?_
        rintro e w2 ⟨rfl, rfl⟩
        go_wp2
        go_ret
        exact ⟨ret_int (by rw [hx.out]; rw [if_pos (by simp [t4])]), rfl⟩
      · by_cases t5 : k < l
        · have t6 : (l == k) = false := by simp; omega
          go_enter Try.func22, Try.ntmps22
          go_wp2_with fail
          refine (m1.out _).mono ?_
          rintro e w1 ⟨rfl, rfl⟩
          go_wp2_with fail
          refine (m2.out _).mono ?_
          rintro e w2 ⟨rfl, rfl⟩
          go_wp2
          go_ret
          exact ⟨ret_int (by rw [hx.out]; rw [if_neg (by omega), if_neg (by omega)]), rfl⟩
        · obtain rfl : l = k := by omega
          go_enter Try.func22, Try.ntmps22
          go_wp2_with fail
          refine (m1.out _).mono ?_
          rintro e w1 ⟨rfl, rfl⟩
          go_wp2_with fail
          refine (m2.out _).mono ?_
          rintro e w2 ⟨rfl, rfl⟩
          go_wp2
          go_ret
          exact ⟨ret_int (by rw [hx.out]; simp), rfl⟩

theorem cmp_words (p q : Int) : cmpI p q = if p / 18446744073709551616 < q / 18446744073709551616 ∨ (p / 18446744073709551616 = q / 18446744073709551616 ∧ p % 18446744073709551616 < q % 18446744073709551616) then -1 else if p / 18446744073709551616 = q / 18446744073709551616 ∧ p % 18446744073709551616 = q % 18446744073709551616 then 0 else 1 := by
  unfold cmpI
  repeat' split
  all_goals omega

theorem rcmp_any (a b c d : Int) (w : World) (ha0 : -9223372036854775808 ≤ a) (ha1 : a ≤ 9223372036854775807) (hb0 : -9223372036854775808 ≤ b) (hb1 : b ≤ 9223372036854775807)
    (hc0 : -9223372036854775808 ≤ c) (hc1 : c ≤ 9223372036854775807) (hd0 : -9223372036854775808 ≤ d) (hd1 : d ≤ 9223372036854775807) :
    Calls Try.prog 22 #[.int .i64 a, .int .i64 b, .int .i64 c, .int .i64 d] w fun e w' => e = .returned (.int .i64 (cmpI (a * b) (c * d))) ∧ w = w' :=
  rcmp_core a b c d _ _ _ _ _ w (Lib.hid fun w => rmul_any a b w ha0 ha1 hb0 hb1) (Lib.hid fun w => rmul_any c d w hc0 hc1 hd0 hd1) (Lib.hid (cmp_words _ _))

end Go.Proofs.Ytolpjjbanebogaa
