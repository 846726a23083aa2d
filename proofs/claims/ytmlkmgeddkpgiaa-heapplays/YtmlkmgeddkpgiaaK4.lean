/- Walks of heap's cells: get. -/
import Derived.Test.YtmlkmgeddkpgiaaK3
import Derived.Deep.MidRow
namespace Go.Proofs.Ytmlkmgeddkpgiaa
open Go.RowKit
set_option linter.unusedVariables false

/-- What an item of a row reads as. -/
theorem row_item {w : World} {v : Value} {l : List Ob} (h : w.ownsRow 0 24 6 v l.length (obCells l)) {i : Nat} {o : Ob} (hi : l[i]? = some o) :
    ∃ g cap, v = .slice (some ⟨g, 0, none⟩) l.length cap ∧ w.cell? ⟨g, i * 6, none⟩ = some (.int .i64 o.k) ∧ w.cell? ⟨g, i * 6 + 1, none⟩ = some (.bool o.x) ∧ w.cell? ⟨g, i * 6 + 2, none⟩ = some (.int .i64 o.n) ∧ w.cell? ⟨g, i * 6 + 3, none⟩ = some (.int .i64 o.a) ∧ w.cell? ⟨g, i * 6 + 4, none⟩ = some (.int .i64 o.l) ∧ w.cell? ⟨g, i * 6 + 5, none⟩ = some (.string o.s) := by
  have hl := (List.getElem?_eq_some_iff.1 hi).1
  rcases h.2 with ⟨_, h0⟩ | ⟨g, cap, cur, rfl, _, hg, hc, _, hs, ht⟩
  · omega
  · have key : ∀ j, j < 6 → w.cell? ⟨g, i * 6 + j, none⟩ = o.cells[j]? := by
      intro j hj
      rw [cellAt hg, ← obCells_get hi hj, ← ht, List.getElem?_take, if_pos (by omega)]
      simp
    exact ⟨g, cap, rfl, by simpa [Ob.cells] using key 0 (by omega), by simpa [Ob.cells] using key 1 (by omega), by simpa [Ob.cells] using key 2 (by omega), by simpa [Ob.cells] using key 3 (by omega), by simpa [Ob.cells] using key 4 (by omega), by simpa [Ob.cells] using key 5 (by omega)⟩
theorem row_byte {w : World} {v : Value} {l : List UInt8} (h : rowB w v l) {i : Nat} {c : UInt8} (hi : l[i]? = some c) :
    ∃ g cap, v = .slice (some ⟨g, 0, none⟩) l.length cap ∧ w.cell? ⟨g, i, none⟩ = some (.int .u8 c.toNat) ∧ w.frozen? ⟨g, i, none⟩ = false := by
  have hl := (List.getElem?_eq_some_iff.1 hi).1
  rcases h with ⟨_, rfl⟩ | ⟨g, cap, cur, fr, rfl, hg, hf, hc, hs, ht⟩
  · simp at hl
  · refine ⟨g, cap, rfl, ?_, ?_⟩
    · have : cur.toList[i]? = (byCells l)[i]? := by
        rw [← ht, List.getElem?_take, if_pos (by omega)]
      rw [cellAt hg, ← Array.getElem?_toList, this]
      simp [byCells, hi]
    · rcases hf with rfl | rfl
      · exact freeAt hg i
      · simp [World.frozen?, hg]
        omega

abbrev zeroBox : Obj := .cells #[.int .i64 0, .bool false, .int .i64 0, .int .i64 0, .int .i64 0, .string ⟨#[]⟩] 24
theorem zero_later (w : World) {a : Addr} {v : Value} (h : w.cell? a = some v) : (w.alloc (.cells #[.int .i64 0, .bool false, .int .i64 0, .int .i64 0, .int .i64 0, .string ⟨#[]⟩] 24)).cell? a = some v := cell_later (box_below w _) h

theorem iget_walk (pb g z cap i : Nat) (k n a l : Int) (x : Bool) (s : ByteArray) (w : World) (h2 : w.cell? ⟨pb, 2, none⟩ = some (.slice (some ⟨g, 0, none⟩) z cap)) (hi : (i : Int) < z) (hi0 : (0 : Int) ≤ i)
    (c0 : w.cell? ⟨g, i * 6, none⟩ = some (.int .i64 k)) (c1 : w.cell? ⟨g, i * 6 + 1, none⟩ = some (.bool x)) (c2 : w.cell? ⟨g, i * 6 + 2, none⟩ = some (.int .i64 n)) (c3 : w.cell? ⟨g, i * 6 + 3, none⟩ = some (.int .i64 a)) (c4 : w.cell? ⟨g, i * 6 + 4, none⟩ = some (.int .i64 l)) (c5 : w.cell? ⟨g, i * 6 + 5, none⟩ = some (.string s)) :
    Calls Try.prog 157 #[ptr pb, .int .i64 i] w fun e w' => e = .returned (obV k x n a l s) ∧ Below w.heap.size w w' := by
  replace h2 := zero_later w h2
  replace c0 := zero_later w c0
  replace c1 := zero_later w c1
  replace c2 := zero_later w c2
  replace c3 := zero_later w c3
  replace c4 := zero_later w c4
  replace c5 := zero_later w c5
  go_enter Try.func157, Try.ntmps157
  go_wp2
  (try simp only [Exit.inBlock, Exit.then])
  exact bodyPost_ret (results_cell_row rfl _ _ _ _ _ _ _ rfl (heap_alloc_new _ _) Try.underlying24 rfl (by kernel_rfl)) rfl ⟨rfl, box_below _ _⟩

theorem bget_walk (pb g z cap i : Nat) (c : UInt8) (w : World) (h2 : w.cell? ⟨pb, 2, none⟩ = some (.slice (some ⟨g, 0, none⟩) z cap)) (hi : (i : Int) < z) (hi0 : (0 : Int) ≤ i)
    (c0 : w.cell? ⟨g, i, none⟩ = some (.int .u8 c.toNat)) :
    Calls Try.prog 149 #[ptr pb, .int .i64 i] w fun e w' => e = .returned (obV 3 false c.toNat 0 0 ⟨#[]⟩) ∧ Below w.heap.size w w' := by
  replace h2 := zero_later w h2
  replace c0 := zero_later w c0
  have hb : wrap64 (c.toNat : Int) = c.toNat := by
    have := c.toNat_lt
    unfold wrap64
    omega
  go_enter Try.func149, Try.ntmps149
  go_wp2
  (try simp only [Exit.inBlock, Exit.then])
  exact bodyPost_ret (results_cell_row rfl _ _ _ _ _ _ _ rfl (heap_alloc_new _ _) Try.underlying24 rfl (by kernel_rfl)) rfl ⟨rfl, box_below _ _⟩

theorem iget_any {pb : Nat} {row : Value} {c : Cel} {w : World} (h : ICell w pb row c) (i : Nat) (o : Ob) (hi : c.it[i]? = some o) :
    Calls Try.prog 157 #[ptr pb, .int .i64 i] w fun e w' => e = .returned o.val ∧ Below w.heap.size w w' := by
  have hl := (List.getElem?_eq_some_iff.1 hi).1
  obtain ⟨g, cap, rfl, c0, c1, c2, c3, c4, c5⟩ := row_item h.row hi
  have h2 := cellAt h.blk 2
  simp at h2
  exact iget_walk pb g _ cap i o.k o.n o.a o.l o.x o.s w h2 (by omega) (by omega) c0 c1 c2 c3 c4 c5
theorem bget_any {pb : Nat} {row : Value} {c : Cel} {w : World} (h : BCell w pb row c) (i : Nat) (u : UInt8) (hi : c.bs[i]? = some u) :
    Calls Try.prog 149 #[ptr pb, .int .i64 i] w fun e w' => e = .returned (Ob.num u.toNat).val ∧ Below w.heap.size w w' := by
  have hl := (List.getElem?_eq_some_iff.1 hi).1
  obtain ⟨g, cap, rfl, c0, _⟩ := row_byte h.row hi
  have h2 := cellAt h.blk 2
  simp at h2
  exact bget_walk pb g _ cap i u w h2 (by omega) (by omega) c0
end Go.Proofs.Ytmlkmgeddkpgiaa
