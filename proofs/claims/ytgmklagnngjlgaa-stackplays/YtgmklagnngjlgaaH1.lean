/- Walks of the statements' helpers (tympanhelp): Place. -/
import Derived.Test.YtgmklagnngjlgaaB0
namespace Go.Proofs.Ytgmklagnngjlgaa
open Go.RowKit
set_option linter.unusedVariables false

theorem tmod_cases (v n : Int) (hn : 0 < n) : (v.tmod n < 0 ∧ v.tmod n + n = v % n) ∨ (0 ≤ v.tmod n ∧ v.tmod n = v % n) := by
  have h0 := Int.emod_nonneg v (by omega : n ≠ 0)
  have h1 := Int.emod_lt_of_pos v hn
  rcases Int.lt_or_le v 0 with h | h
  · have e : v.tmod n = -((-v) % n) := by
      rw [← Int.tmod_eq_emod_of_nonneg (by omega : 0 ≤ -v), Int.neg_tmod]; omega
    have h2 := Int.emod_nonneg (-v) (by omega : n ≠ 0)
    rcases Int.lt_or_le 0 ((-v) % n) with hp | hp
    · have := (div_neg_rest (-v) n hn hp).2
      rw [Int.neg_neg] at this
      left; omega
    · have := (div_neg_exact (-v) n hn (by omega)).2
      rw [Int.neg_neg] at this
      right; omega
  · right
    rw [Int.tmod_eq_emod_of_nonneg h]; omega

set_option maxHeartbeats 400000 in
theorem place_any (v n : Int) (w : World) (hn : 0 < n) (hn' : n ≤ 9223372036854775807) : Calls Try.prog 79 #[.int .i64 v, .int .i64 n] w fun e w' => e = .returned (.int .i64 (v % n)) ∧ w = w' := by
  have h0 := Int.emod_nonneg v (by omega : n ≠ 0)
  have h1 := Int.emod_lt_of_pos v hn
  obtain ⟨t, ht⟩ : ∃ t, v.tmod n = t := ⟨_, rfl⟩
  have hc := tmod_cases v n hn
  rw [ht] at hc
  generalize v % n = r at *
  rcases hc with ⟨h, e⟩ | ⟨h, e⟩
  · have E := Lib.hid e
    have b : -n ≤ t := by omega
    clear e
    go_enter Try.func79, Try.ntmps79
    go_wp2
    go_ret
    exact ⟨ret_int E.out, rfl⟩
  · have E := Lib.hid e
    clear e
    go_enter Try.func79, Try.ntmps79
    go_wp2
    go_ret
    exact ⟨ret_int E.out, rfl⟩

end Go.Proofs.Ytgmklagnngjlgaa
