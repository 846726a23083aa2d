/- Walks of fix: valid, checked, clamp, From, Add, Sub, rounded, Mul, Div. -/
import Derived.Test.YtbdicjiflfbpaaaM6
import Derived.Test.YtbdicjiflfbpaaaB0
import Derived.Laws.EntriesVeiled
namespace Go.Proofs.Ytbdicjiflfbpaaa
open Go.RowKit
set_option linter.unusedVariables false

theorem from_may (v : Int) : (-16383 ≤ v ∧ v ≤ 16383) ↔ mayF (v * 65536) = true := by rw [may_iff]; omega

/-- The world behind the two boxed arguments. -/
abbrev W2b (a b : Int) (w : World) : World := (w.alloc (.cells #[.int .i64 a] 3)).alloc (.cells #[.int .i64 b] 3)
theorem w2b_facts (a b : Int) (w : World) :
    (W2b a b w).cell? ⟨w.heap.size, 0, none⟩ = some (.int .i64 a) ∧ (W2b a b w).cell? ⟨w.heap.size + 1, 0, none⟩ = some (.int .i64 b) ∧
    (W2b a b w).heap.size = w.heap.size + 2 ∧ Below w.heap.size w (W2b a b w) := by
  refine ⟨by simp [W2b, go_sem], by simp [W2b, go_sem], by simp, ?_⟩
  exact ((Below.refl _ _).alloc (Nat.le_refl _) _).alloc (by simp) _

end Go.Proofs.Ytbdicjiflfbpaaa
