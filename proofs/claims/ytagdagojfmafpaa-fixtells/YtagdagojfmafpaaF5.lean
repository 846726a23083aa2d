/- Walks of the document's own answer for layer 3 (tympanref3): Whole, Floor, Ceil, Trunc, Round, Sqrt. -/
import Derived.Test.YtagdagojfmafpaaF3
namespace Go.Proofs.Ytagdagojfmafpaa
open Go.RowKit
set_option linter.unusedVariables false

set_option maxHeartbeats 400000 in
theorem rwholeF_any (a : Int) (w : World) : Calls Try.prog 30 #[.int .i64 a] w fun e w' => e = .returned (.int .i64 (wholeF a)) ∧ w = w' := by
  obtain ⟨b0, b1⟩ := clamp_bd a
  have h1 := Lib.hid (fun w => rcut_any a w)
  have E := Lib.hid (show clampF a / 65536 = wholeF a from rfl)
  generalize clampF a = c at *
  go_enter Try.func30, Try.ntmps30
  go_wp2_with fail
  refine (h1.out _).mono ?_
  rintro e w' ⟨rfl, rfl⟩
  go_wp2
  go_ret
  exact ⟨ret_int E.out, rfl⟩

set_option maxHeartbeats 400000 in
theorem rfloorF_any (a : Int) (w : World) : Calls Try.prog 22 #[.int .i64 a] w fun e w' => e = .returned (.int .i64 (floorF a)) ∧ w = w' := by
  obtain ⟨b0, b1⟩ := whole_bd a
  have h1 := Lib.hid (fun w => rwholeF_any a w)
  have E := Lib.hid (show wholeF a * 65536 = floorF a from rfl)
  generalize wholeF a = c at *
  go_enter Try.func22, Try.ntmps22
  go_wp2_with fail
  refine (h1.out _).mono ?_
  rintro e w' ⟨rfl, rfl⟩
  go_wp2
  go_ret
  exact ⟨ret_int E.out, rfl⟩

theorem rfloor_neg (a : Int) : floorF (-clampF a) = -clampF a / 65536 * 65536 := by unfold floorF; rw [clamp_neg]

set_option maxHeartbeats 400000 in
theorem rceilF_any (a : Int) (w : World) : Calls Try.prog 24 #[.int .i64 a] w fun e w' => e = .returned (.int .i64 (ceilF a)) ∧ w = w' := by
  obtain ⟨b0, b1⟩ := clamp_bd a
  have h1 := Lib.hid (fun w => rcut_any a w)
  have h2 := Lib.hid (fun w => rfloorF_any (-clampF a) w)
  obtain ⟨f, hf⟩ : ∃ f, floorF (-clampF a) = f := ⟨_, rfl⟩
  rw [hf] at h2
  rw [rfloor_neg] at hf
  have f0 : -1073741824 ≤ f := by omega
  have f1 : f ≤ 1073741824 := by omega
  have E := Lib.hid (show -f = ceilF a by rw [← hf]; rfl)
  clear hf
  generalize clampF a = c at *
  go_enter Try.func24, Try.ntmps24
  go_wp2_with fail
  refine (h1.out _).mono ?_
  rintro e w' ⟨rfl, rfl⟩
  go_wp2_with fail
  refine (h2.out _).mono ?_
  rintro e w' ⟨rfl, rfl⟩
  go_wp2
  go_ret
  exact ⟨ret_int E.out, rfl⟩

theorem trunc_lo (a : Int) (h : a < 0) : truncF a = ceilF a := by
  have hc : clampF a ≤ 0 := by unfold clampF; split <;> (try split) <;> omega
  unfold truncF ceilF
  have e : (clampF a).tdiv 65536 = -((-clampF a) / 65536) := by
    rw [← Int.tdiv_eq_ediv_of_nonneg (by omega : 0 ≤ -clampF a), Int.neg_tdiv]; omega
  rw [e]; omega
theorem trunc_hi (a : Int) (h : 0 ≤ a) : truncF a = floorF a := by
  have hc : 0 ≤ clampF a := by unfold clampF; split <;> (try split) <;> omega
  unfold truncF floorF
  rw [Int.tdiv_eq_ediv_of_nonneg hc]

set_option maxHeartbeats 400000 in
theorem rtruncF_any (a : Int) (w : World) : Calls Try.prog 28 #[.int .i64 a] w fun e w' => e = .returned (.int .i64 (truncF a)) ∧ w = w' := by
  have h1 := Lib.hid (fun w => rceilF_any a w)
  have h2 := Lib.hid (fun w => rfloorF_any a w)
  by_cases h : a < 0
  · rw [trunc_lo a h]
    generalize ceilF a = c at *
    go_enter Try.func28, Try.ntmps28
    go_wp2_with fail
    refine (h1.out _).mono ?_
    rintro e w' ⟨rfl, rfl⟩
    go_wp2
    go_ret
    exact ⟨rfl, rfl⟩
  · rw [trunc_hi a (by omega)]
    generalize floorF a = c at *
    go_enter Try.func28, Try.ntmps28
    go_wp2_with fail
    refine (h2.out _).mono ?_
    rintro e w' ⟨rfl, rfl⟩
    go_wp2
    go_ret
    exact ⟨rfl, rfl⟩

theorem and_one (n : Int) : bits .and .i64 n 1 = n % 2 := by
  have h1 : (BitVec.ofInt 64 1).toNat = 2 ^ 1 - 1 := by decide
  have key : (BitVec.ofInt 64 n &&& BitVec.ofInt 64 1).toNat = (n % ((2 ^ 64 : Nat) : Int)).toNat % 2 ^ 1 := by
    rw [BitVec.toNat_and, BitVec.toNat_ofInt, h1, Nat.and_two_pow_sub_one_eq_mod]
  show IntKind.i64.wrap ((BitVec.ofInt 64 n &&& BitVec.ofInt 64 1).toNat : Nat) = n % 2
  rw [key, IntKind.wrap_i64]
  omega

theorem round_cases (a : Int) :
    (near (clampF a) 65536 = wholeF a + 1 ∧ (32768 < clampF a - wholeF a * 65536 ∨ (32768 ≤ clampF a - wholeF a * 65536 ∧ clampF a - wholeF a * 65536 ≤ 32768 ∧ wholeF a % 2 = 1))) ∨
    (near (clampF a) 65536 = wholeF a ∧ (clampF a - wholeF a * 65536 < 32768 ∨ (32768 ≤ clampF a - wholeF a * 65536 ∧ clampF a - wholeF a * 65536 ≤ 32768 ∧ wholeF a % 2 = 0))) := by
  have hm : mag 65536 = 65536 := by decide
  unfold wholeF near
  rw [sdiv_pos _ _ (by decide), smod_pos _ _ (by decide), hm]
  split
  · omega
  · split
    · omega
    · split <;> omega

set_option maxHeartbeats 1000000 in
theorem rround_core (a c n r m : Int) (w : World) (c0 : -1073741823 ≤ c) (c1 : c ≤ 1073741823) (n0 : -16384 ≤ n) (n1 : n ≤ 16383)
    (hm : bits .and .i64 n 1 = m)
    (hc : (r = n + 1 ∧ (32768 < c - n * 65536 ∨ (32768 ≤ c - n * 65536 ∧ c - n * 65536 ≤ 32768 ∧ m = 1))) ∨ (r = n ∧ (c - n * 65536 < 32768 ∨ (32768 ≤ c - n * 65536 ∧ c - n * 65536 ≤ 32768 ∧ m = 0))))
    (h1 : Hid (∀ w, Calls Try.prog 30 #[.int .i64 a] w fun e w' => e = .returned (.int .i64 n) ∧ w = w'))
    (h2 : Hid (∀ w, Calls Try.prog 44 #[.int .i64 a] w fun e w' => e = .returned (.int .i64 c) ∧ w = w')) :
    Calls Try.prog 26 #[.int .i64 a] w fun e w' => e = .returned (.int .i64 (r * 65536)) ∧ w = w' := by
  rcases hc with ⟨hr, hc⟩ | ⟨hr, hc⟩
  · rcases hc with hc | ⟨hc, hd, hm'⟩
    · subst hr
      go_enter Try.func26, Try.ntmps26
      go_wp2_with fail
      refine (h1.out _).mono ?_
      rintro e w' ⟨rfl, rfl⟩
      go_wp2_with fail
      refine (h2.out _).mono ?_
      rintro e w' ⟨rfl, rfl⟩
      go_wp2
      go_ret
      exact ⟨rfl, rfl⟩
    · subst hr hm'
      go_enter Try.func26, Try.ntmps26
      go_wp2_with fail
      refine (h1.out _).mono ?_
      rintro e w' ⟨rfl, rfl⟩
      go_wp2_with fail
      refine (h2.out _).mono ?_
      rintro e w' ⟨rfl, rfl⟩
      go_wp2
      go_ret
      exact ⟨rfl, rfl⟩
  · rcases hc with hc | ⟨hc, hd, hm'⟩
    · subst hr
      go_enter Try.func26, Try.ntmps26
      go_wp2_with fail
      refine (h1.out _).mono ?_
      rintro e w' ⟨rfl, rfl⟩
      go_wp2_with fail
      refine (h2.out _).mono ?_
      rintro e w' ⟨rfl, rfl⟩
      go_wp2
      go_ret
      exact ⟨rfl, rfl⟩
    · subst hr hm'
      go_enter Try.func26, Try.ntmps26
      go_wp2_with fail
      refine (h1.out _).mono ?_
      rintro e w' ⟨rfl, rfl⟩
      go_wp2_with fail
      refine (h2.out _).mono ?_
      rintro e w' ⟨rfl, rfl⟩
      go_wp2
      go_ret
      exact ⟨rfl, rfl⟩

theorem rroundF_any (a : Int) (w : World) : Calls Try.prog 26 #[.int .i64 a] w fun e w' => e = .returned (.int .i64 (roundF a)) ∧ w = w' := by
  obtain ⟨b0, b1⟩ := clamp_bd a
  obtain ⟨n0, n1⟩ := whole_bd a
  exact rround_core a (clampF a) (wholeF a) (near (clampF a) 65536) (wholeF a % 2) w b0 b1 n0 n1 (and_one _) (round_cases a) (Lib.hid (fun w => rwholeF_any a w)) (Lib.hid (fun w => rcut_any a w))

set_option maxHeartbeats 400000 in
theorem rsqrtF_any (a : Int) (w : World) : Calls Try.prog 20 #[.int .i64 a] w fun e w' => e = .returned (.tuple #[.int .i64 (gate (okSqrt a) (isq (a * 65536))), .bool (okSqrt a)]) ∧ w = w' := by
  by_cases h : 0 ≤ a
  · have E : okSqrt a = mayF a := by unfold okSqrt; rw [decide_eq_true h, Bool.true_and]
    rw [E]
    clear E
    have hv := Lib.hid (fun w => rmay_any a w)
    have hm := may_iff a
    generalize mayF a = x at *
    cases x
    · clear hm
      go_enter Try.func20, Try.ntmps20
      go_wp2_with fail
      refine (hv.out _).mono ?_
      rintro e w' ⟨rfl, rfl⟩
      go_wp2
      go_ret2
      exact ⟨ret_ok rfl rfl, rfl⟩
    · obtain ⟨a0, a1⟩ := hm.1 rfl
      clear hm
      obtain ⟨r0, r1⟩ := sqrt_bd a h a1
      have hf := Lib.hid (fun w => rfloorR_any (a * 65536) w (by omega) (by omega))
      generalize isq (a * 65536) = r at *
      go_enter Try.func20, Try.ntmps20
      go_wp2_with fail
      refine (hv.out _).mono ?_
      rintro e w' ⟨rfl, rfl⟩
      go_wp2_with fail
      refine (hf.out _).mono ?_
      rintro e w' ⟨rfl, rfl⟩
      go_wp2
      go_ret2
      exact ⟨ret_ok rfl rfl, rfl⟩
  · have E : okSqrt a = false := by unfold okSqrt; rw [decide_eq_false h]; rfl
    rw [E]
    clear E
    go_enter Try.func20, Try.ntmps20
    go_wp2
    go_ret2
    exact ⟨ret_ok rfl rfl, rfl⟩
end Go.Proofs.Ytagdagojfmafpaa
