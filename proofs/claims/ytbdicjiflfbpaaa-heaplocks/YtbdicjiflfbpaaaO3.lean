/- Walks of obj: Same, Less. -/
import Derived.Test.YtbdicjiflfbpaaaO2
namespace Go.Proofs.Ytbdicjiflfbpaaa
open Go.RowKit
set_option linter.unusedVariables false

/-- Two objects, boxed one behind the other. -/
def Two (w : World) (b c : Nat) (k : Int) (x : Bool) (n a l : Int) (s : ByteArray) (k' : Int) (x' : Bool) (n' a' l' : Int) (s' : ByteArray) : Prop := ObAt w b k x n a l s ∧ ObAt w c k' x' n' a' l' s'
theorem Two.later {w wx : World} {b c : Nat} {k n a l k' n' a' l' : Int} {x x' : Bool} {s s' : ByteArray} (h : Two w b c k x n a l s k' x' n' a' l' s') (kc : Below w.heap.size w wx) : Two wx b c k x n a l s k' x' n' a' l' s' := ⟨h.1.later kc, h.2.later kc⟩
theorem Two.drew {w : World} {b c : Nat} {k n a l k' n' a' l' : Int} {x x' : Bool} {s s' : ByteArray} (h : Two w b c k x n a l s k' x' n' a' l' s') : Two w.drew b c k x n a l s k' x' n' a' l' s' := h
theorem Two.flat {w : World} {b c : Nat} {k n a l k' n' a' l' : Int} {x x' : Bool} {s s' : ByteArray} (h : Two w b c k x n a l s k' x' n' a' l' s') : w.cell? ⟨b, 0, none⟩ = some (.int .i64 k) ∧ w.cell? ⟨b, 1, none⟩ = some (.bool x) ∧ w.cell? ⟨b, 2, none⟩ = some (.int .i64 n) ∧ w.cell? ⟨b, 3, none⟩ = some (.int .i64 a) ∧ w.cell? ⟨b, 4, none⟩ = some (.int .i64 l) ∧ w.cell? ⟨b, 5, none⟩ = some (.string s) ∧ w.cell? ⟨c, 0, none⟩ = some (.int .i64 k') ∧ w.cell? ⟨c, 1, none⟩ = some (.bool x') ∧ w.cell? ⟨c, 2, none⟩ = some (.int .i64 n') ∧ w.cell? ⟨c, 3, none⟩ = some (.int .i64 a') ∧ w.cell? ⟨c, 4, none⟩ = some (.int .i64 l') ∧ w.cell? ⟨c, 5, none⟩ = some (.string s') := by
  obtain ⟨⟨c0, c1, c2, c3, c4, c5⟩, h2⟩ := h
  exact ⟨c0, c1, c2, c3, c4, c5, h2⟩
theorem two_box (w : World) (k n a l k' n' a' l' : Int) (x x' : Bool) (s s' : ByteArray) :
    ∃ wb, (w.alloc (.cells #[.int .i64 k, .bool x, .int .i64 n, .int .i64 a, .int .i64 l, .string s] 24)).alloc (.cells #[.int .i64 k', .bool x', .int .i64 n', .int .i64 a', .int .i64 l', .string s'] 24) = wb ∧ Below w.heap.size w wb ∧ Two wb w.heap.size (w.heap.size + 1) k x n a l s k' x' n' a' l' s' := by
  obtain ⟨wa, ea, ka, za, oa⟩ := ob_box w k n a l x s
  obtain ⟨wb, eb, kb, zb, ob⟩ := ob_box wa k' n' a' l' x' s'
  refine ⟨wb, by rw [ea, eb], below_and ka kb, oa.later kb, ?_⟩
  rw [← za]
  exact ob

end Go.Proofs.Ytbdicjiflfbpaaa
