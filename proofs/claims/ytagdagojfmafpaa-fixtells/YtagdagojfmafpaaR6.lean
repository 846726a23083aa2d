/- Walks of the document's own answer for layer 2 (tympanref2): Floor, Ceil, sign, in, Sign. -/
import Derived.Test.YtagdagojfmafpaaR5
import Derived.Test.YtagdagojfmafpaaW9
namespace Go.Proofs.Ytagdagojfmafpaa
open Go.RowKit
set_option linter.unusedVariables false

theorem grel_end (n x : Int) (hn : 0 ≤ n) (hn' : n < 18446744073709551616) (h : GRel (fitF n) 32 0 x) : x = isq n := by
  obtain ⟨x0, _, x2, x3, x4⟩ := h
  refine (isq_is hn (by omega) ⟨x0, by simpa [fitF] using x3, ?_⟩).symm
  simp only [Int.pow_zero] at x2 x4
  have e : (2 : Int) ^ 32 = 4294967296 := by decide
  rw [e] at x2 x4
  rcases Int.lt_or_le (x + 1) 4294967296 with h | h
  · have := x4 h
    simpa [fitF] using this
  · have h1 : x + 1 = 4294967296 := by omega
    rw [h1]; omega

theorem grel_at {P : Int → Bool} {n i : Nat} {y : Int} (h : GRel P n i y) : GRel P n ((i : Int) - 1 + 1).toNat y := by
  have e : ((i : Int) - 1 + 1).toNat = i := by omega
  rw [e]; exact h

set_option maxHeartbeats 1000000 in
theorem rfloorR_any (n : Int) (w : World) (hn : 0 ≤ n) (hn' : n < 18446744073709551616) :
    Calls Try.prog 42 #[.int .u64 n] w fun e w' => e = .returned (.int .u64 (isq n)) ∧ w = w' := by
  go_enter Try.func42, Try.ntmps42
  go_wp2
  go_loop [3, 4] (fun r k => ∃ (c x : Int), k = .int .i64 c ∧ r = .int .u64 x ∧ -1 ≤ c ∧ c ≤ 31 ∧ GRel (fitF n) 32 (c + 1).toNat x)
    (fun _ k => (intOf k + 1).toNat)
  case atStart => exact ⟨31, 0, rfl, rfl, by decide, by decide, ⟨by decide, by decide, by decide, by unfold fitF; simpa using hn, fun h => by exact absurd h (by decide)⟩⟩
  case round =>
    obtain ⟨c, x, rfl, rfl, c0, c1, hG⟩ := hrel
    by_cases hlt : 0 ≤ c
    · obtain ⟨i, rfl⟩ := Int.eq_ofNat_of_zero_le hlt
      have ei : ((i : Int) + 1).toNat = i + 1 := by omega
      rw [ei] at hG
      have hi : i ≤ 31 := by omega
      have hor := or_bit x 32 i (by decide) hG.1 hG.2.1 hG.2.2.1
      have y0 : 0 ≤ x + 2 ^ i := by have := hG.1; have : (0 : Int) < 2 ^ i := Int.pow_pos (by decide); omega
      have y1 : x + 2 ^ i < 4294967296 := by
        have := hG.2.2.1
        have : (0 : Int) < 2 ^ i := Int.pow_pos (by decide)
        have e2 : (2 : Int) ^ (i + 1) = 2 * 2 ^ i := by rw [Int.pow_succ]; omega
        have e3 : (2 : Int) ^ 32 = 4294967296 := by decide
        omega
      have hy := Lib.hid (grel_yes hG)
      have hno := Lib.hid (grel_no hG)
      obtain ⟨s0, s1⟩ := sq32 _ y0 y1
      clear ei hlt c0 c1
      generalize x + 2 ^ i = y at *
      by_cases hl : y * y ≤ n
      · have G := Lib.hid (hy.out (decide_eq_true hl))
        go_wp2
        go_round
        case rel => exact ⟨(i : Int) - 1, y, rfl, rfl, by omega, by omega, grel_at G.out⟩
        case measure => simp [intOf]
      · have G := Lib.hid (hno.out (decide_eq_false hl))
        go_wp2
        go_round
        case rel => exact ⟨(i : Int) - 1, x, rfl, rfl, by omega, by omega, grel_at G.out⟩
        case measure => simp [intOf]
    · have ec : (c + 1).toNat = 0 := by omega
      rw [ec] at hG
      have he := Lib.hid (grel_end n x hn hn' hG)
      clear ec hG
      go_wp2
      go_ret
      exact ⟨ret_int he.out, rfl⟩

theorem sg_bd (v : Int) : -1 ≤ sg v ∧ sg v ≤ 1 := by unfold sg; split <;> (try split) <;> omega
theorem sgsg_bd (v u : Int) (h : -1 ≤ v ∧ v ≤ 1) (h' : -1 ≤ u ∧ u ≤ 1) : -1 ≤ v * u ∧ v * u ≤ 1 := by
  obtain ⟨a, b⟩ := h
  obtain ⟨c, d⟩ := h'
  rcases (by omega : v = -1 ∨ v = 0 ∨ v = 1) with rfl | rfl | rfl <;> omega

end Go.Proofs.Ytagdagojfmafpaa
