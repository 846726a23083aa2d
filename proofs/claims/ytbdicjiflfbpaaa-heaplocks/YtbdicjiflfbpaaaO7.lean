/- Walks of the document's own answer for layer 10 (tympanref10): Same. -/
import Derived.Test.YtbdicjiflfbpaaaO6
namespace Go.Proofs.Ytbdicjiflfbpaaa
open Go.RowKit
set_option linter.unusedVariables false

/-- The two boxes of one call may be written. -/
theorem two_free (w : World) (o o' : Obj) (ho : ∃ cs, o = .cells cs 24) (ho' : ∃ cs, o' = .cells cs 24) :
    ((w.alloc o).alloc o').frozen? ⟨w.heap.size, 1, none⟩ = false ∧ ((w.alloc o).alloc o').frozen? ⟨w.heap.size + 1, 1, none⟩ = false := by
  obtain ⟨cs, rfl⟩ := ho
  obtain ⟨cs', rfl⟩ := ho'
  constructor <;> simp
theorem free_later {w wx : World} {a : Addr} {v : Value} (hb : Below w.heap.size w wx) (h : w.cell? a = some v) (f : w.frozen? a = false) : wx.frozen? a = false := (hb.frozen (World.block_lt_of_cell? _ _ h)).trans f

end Go.Proofs.Ytbdicjiflfbpaaa
