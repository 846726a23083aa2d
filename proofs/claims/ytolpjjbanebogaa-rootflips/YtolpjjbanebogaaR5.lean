/- Sign and Cut within their ranges. -/
import Derived.Test.YtolpjjbanebogaaR4
namespace Go.Proofs.Ytolpjjbanebogaa
open Go.RowKit
set_option linter.unusedVariables false

/-- Sign answers s. -/
def Signs (p q d s : Int) : Prop :=
  ∀ w, Calls Try.prog 9 #[.int .i64 p, .int .i64 q, .int .i64 d] w fun e w' => e = .returned (.tuple #[.int .i64 s, .bool true]) ∧ Below w.heap.size w w'
/-- Cut answers v. -/
def Cuts (p q d m v : Int) : Prop :=
  ∀ w, Calls Try.prog 11 #[.int .i64 p, .int .i64 q, .int .i64 d, .int .i64 m] w fun e w' => e = .returned (.tuple #[.int .i64 v, .bool true]) ∧ Below w.heap.size w w'

theorem sign_yes (p q d : Int) (p0 : -4611686018427387904 ≤ p) (p1 : p ≤ 4611686018427387904) (q0 : -2147483648 ≤ q) (q1 : q ≤ 2147483648) (d0 : 0 ≤ d) (d1 : d ≤ 2147483648) : Signs p q d (sgnR p q d) := by
  intro w
  have h1 : okS p q d = true := decide_eq_true (by omega)
  have h2 : valS p q d = sgnR p q d := by unfold valS; rw [h1]; simp
  have h := signR_any p q d w
  rw [h1, h2] at h
  exact h

theorem cut_yes (p q d m : Int) (p0 : -1152921504606846976 ≤ p) (p1 : p ≤ 1152921504606846976) (q0 : -2147483648 ≤ q) (q1 : q ≤ 2147483648) (d0 : 0 ≤ d) (d1 : d ≤ 2147483648) (m0 : 1 ≤ m) (m1 : m ≤ 1099511627776) : Cuts p q d m (cutR p q d m) := by
  intro w
  have h0 : validR p 1152921504606846976 q d = true := decide_eq_true (by omega)
  have h3 : divOkR m = true := decide_eq_true (by omega)
  have h1 : okC p q d m = true := by unfold okC; rw [h0, h3]; rfl
  have h2 : valC p q d m = cutR p q d m := by unfold valC; rw [h1]; simp
  have h := cutR_any p q d m w (by omega) (by omega)
  rw [h1, h2] at h
  exact h

theorem tmod_bd (p m : Int) (hm : 0 < m) : -m < p.tmod m ∧ p.tmod m < m := by
  have h1 := Int.lt_tmod_of_pos p hm
  have h2 := Int.tmod_lt_of_pos p hm
  exact ⟨h1, h2⟩
end Go.Proofs.Ytolpjjbanebogaa
