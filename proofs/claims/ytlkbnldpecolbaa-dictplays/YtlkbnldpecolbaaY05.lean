/- Y05: K2, K3, K4, K5. -/
import Derived.Test.YtlkbnldpecolbaaY04
import Derived.Deep.MidRow
import Derived.Laws.ResultCell
/- Walks of heap's cells: locks and parts. -/
namespace Go.Proofs.Ytlkbnldpecolbaa
open Go.RowKit
set_option linter.unusedVariables false

theorem wrapi_in (n : Int) (h0 : -9223372036854775808 ≤ n) (h1 : n < 9223372036854775808) : IntKind.i64.wrap n = n := by
  rw [IntKind.wrap_i64]
  omega

theorem isLocked_any (b : Nat) (lk : Bool) (w : World) (h : w.cell? ⟨b, 1, none⟩ = some (.bool lk)) : Calls Try.prog 126 #[ptr b] w fun e w' => e = .returned (.bool lk) ∧ w = w' := by
  go_enter Try.func126, Try.ntmps126
  go_wp2
  go_ret
  exact ⟨rfl, rfl⟩

theorem lock_any (b : Nat) (v : Value) (w : World) (h : w.cell? ⟨b, 1, none⟩ = some v) (f : w.frozen? ⟨b, 1, none⟩ = false) : Calls Try.prog 127 #[ptr b] w fun e w' => e = .returned (.tuple #[]) ∧ w' = w.setCell ⟨b, 1, none⟩ (.bool true) := by
  go_enter Try.func127, Try.ntmps127
  go_wp2
  go_end0
  exact ⟨rfl, rfl⟩

theorem part_no (b : Nat) (K k n a l : Int) (x : Bool) (s : ByteArray) (z : Nat) (w : World) (hc : w.cell? ⟨b, 0, none⟩ = some (.int .i64 K)) (ha : 0 ≤ a) (ha' : a ≤ 40000) (hz : z ≤ 40000) (hno : ¬(k = K ∧ a + l ≤ z)) :
    Calls Try.prog 132 #[ptr b, obV k x n a l s, .int .i64 z] w fun e w' => e = .returned (.tuple #[.int .i64 0, .int .i64 0, .bool false]) ∧ Below w.heap.size w w' := by
  by_cases hk : k = K
  · subst hk
    have hl : (z : Int) - a < l := by
      simp at hno
      omega
    have e1 : IntKind.i64.wrap ((z : Int) - a) = z - a := wrapi_in _ (by omega) (by omega)
    clear hno
    go_enter Try.func132, Try.ntmps132
    go_wp2_with fail
    obtain ⟨wb, eb, kb, zb, ob⟩ := ob_box w k n a l x s
    have gb := Lib.hid kb
    have hcb := cell_later kb hc
    obtain ⟨d0, d1, d2, d3, d4, d5⟩ := ob
    rw [eb]
    clear eb kb zb hc
    go_quiet (fail)
    go_wp2
    go_ret3
    exact ⟨rfl, below_and gb.out (below_drewN _ _)⟩
  · clear hno
    go_enter Try.func132, Try.ntmps132
    go_wp2_with fail
    obtain ⟨wb, eb, kb, zb, ob⟩ := ob_box w k n a l x s
    have gb := Lib.hid kb
    have hcb := cell_later kb hc
    obtain ⟨d0, d1, d2, d3, d4, d5⟩ := ob
    rw [eb]
    clear eb kb zb hc
    go_quiet (fail)
    go_wp2
    go_ret3
    exact ⟨rfl, below_and gb.out (below_drewN _ _)⟩

theorem part_yes (b : Nat) (k n a l : Int) (x : Bool) (s : ByteArray) (z : Nat) (w : World) (hc : w.cell? ⟨b, 0, none⟩ = some (.int .i64 k)) (ha : 0 ≤ a) (ha' : a ≤ 40000) (hz : z ≤ 40000) (hy : a + l ≤ z) :
    Calls Try.prog 132 #[ptr b, obV k x n a l s, .int .i64 z] w fun e w' => e = .returned (.tuple #[.int .i64 a, .int .i64 l, .bool true]) ∧ Below w.heap.size w w' := by
  have hl : ¬ (z : Int) - a < l := by omega
  have e1 : IntKind.i64.wrap ((z : Int) - a) = z - a := wrapi_in _ (by omega) (by omega)
  clear hy
  go_enter Try.func132, Try.ntmps132
  go_wp2_with fail
  obtain ⟨wb, eb, kb, zb, ob⟩ := ob_box w k n a l x s
  have gb := Lib.hid kb
  have hcb := cell_later kb hc
  obtain ⟨d0, d1, d2, d3, d4, d5⟩ := ob
  rw [eb]
  clear eb kb zb hc
  go_quiet (fail)
  go_wp2_with fail
  go_quiet (fail)
  go_wp2
  go_ret3
  exact ⟨rfl, below_and (below_and gb.out (below_drewN _ _)) (below_drewN _ _)⟩
end Go.Proofs.Ytlkbnldpecolbaa

/- Walks of heap's cells: reach. -/
namespace Go.Proofs.Ytlkbnldpecolbaa
open Go.RowKit
set_option linter.unusedVariables false

/-- A cell's header and its row, and an object in a box. -/
def CO (w : World) (pb : Nat) (K : Int) (v : Value) (b : Nat) (k : Int) (x : Bool) (n a l : Int) (s : ByteArray) : Prop :=
  w.cell? ⟨pb, 0, none⟩ = some (.int .i64 K) ∧ w.cell? ⟨pb, 2, none⟩ = some v ∧ ObAt w b k x n a l s
theorem CO.later {w wx : World} {pb : Nat} {K : Int} {v : Value} {b : Nat} {k : Int} {x : Bool} {n a l : Int} {s : ByteArray} (h : CO w pb K v b k x n a l s) (kc : Below w.heap.size w wx) : CO wx pb K v b k x n a l s :=
  ⟨cell_later kc h.1, cell_later kc h.2.1, h.2.2.later kc⟩
theorem CO.drew {w : World} {pb : Nat} {K : Int} {v : Value} {b : Nat} {k : Int} {x : Bool} {n a l : Int} {s : ByteArray} (h : CO w pb K v b k x n a l s) : CO w.drew pb K v b k x n a l s := h
theorem CO.flat {w : World} {pb : Nat} {K : Int} {v : Value} {b : Nat} {k : Int} {x : Bool} {n a l : Int} {s : ByteArray} (h : CO w pb K v b k x n a l s) :
    w.cell? ⟨pb, 0, none⟩ = some (.int .i64 K) ∧ w.cell? ⟨pb, 2, none⟩ = some v ∧ w.cell? ⟨b, 0, none⟩ = some (.int .i64 k) ∧ w.cell? ⟨b, 1, none⟩ = some (.bool x) ∧ w.cell? ⟨b, 2, none⟩ = some (.int .i64 n) ∧ w.cell? ⟨b, 3, none⟩ = some (.int .i64 a) ∧ w.cell? ⟨b, 4, none⟩ = some (.int .i64 l) ∧ w.cell? ⟨b, 5, none⟩ = some (.string s) := h

theorem ireach_part (pb : Nat) (K k n a l u v r : Int) (x y : Bool) (s : ByteArray) (p : Option Addr) (z cap : Nat) (w : World) (h0 : w.cell? ⟨pb, 0, none⟩ = some (.int .i64 K)) (h2 : w.cell? ⟨pb, 2, none⟩ = some (.slice p z cap))
    (hp : Hid (∀ w, w.cell? ⟨pb, 0, none⟩ = some (.int .i64 K) → Calls Try.prog 132 #[ptr pb, obV k x n a l s, .int .i64 z] w fun e w' => e = .returned (.tuple #[.int .i64 u, .int .i64 v, .bool y]) ∧ Below w.heap.size w w')) (hr : Hid (r = if y = true ∧ K = 10 then (z : Int) else v)) :
    Calls Try.prog 129 #[ptr pb, obV k x n a l s] w fun e w' => e = .returned (.tuple #[.int .i64 u, .int .i64 r, .bool y]) ∧ Below w.heap.size w w' := by
  cases y
  all_goals
    go_enter Try.func129, Try.ntmps129
    go_wp2_with fail
    obtain ⟨wb, eb, kb, zb, ob⟩ := ob_box w k n a l x s
    have go : Hid (CO wb.drew pb K (.slice p z cap) w.heap.size k x n a l s) := Lib.hid ⟨cell_later kb.drew h0, cell_later kb.drew h2, ob⟩
    have gb := Lib.hid kb.drew
    obtain ⟨c0, c2, d0, d1, d2, d3, d4, d5⟩ := go.out.flat
    rw [eb]
    clear eb kb zb h0 h2 ob
    go_region_held3 (fun wx => wx.cell? ⟨pb, 0, none⟩ = some (.int .i64 K) ∧ wx.cell? ⟨pb, 2, none⟩ = some (.slice p z cap) ∧ wx.cell? ⟨w.heap.size, 0, none⟩ = some (.int .i64 k) ∧ wx.cell? ⟨w.heap.size, 1, none⟩ = some (.bool x) ∧ wx.cell? ⟨w.heap.size, 2, none⟩ = some (.int .i64 n) ∧ wx.cell? ⟨w.heap.size, 3, none⟩ = some (.int .i64 a) ∧ wx.cell? ⟨w.heap.size, 4, none⟩ = some (.int .i64 l) ∧ wx.cell? ⟨w.heap.size, 5, none⟩ = some (.string s))
      (first | exact go.out.flat | go_keep)
      (first | (go_at_call 132; refine (hp.out _ go.out.1).mono ?_; rintro e wc ⟨rfl, kc⟩; replace gb := Lib.hid (below_and gb.out kc); replace go := Lib.hid (go.out.later kc)))
    go_wp2
    all_goals
      go_ret3
      refine ⟨?_, gb.out⟩
      rw [hr.out]
      first
        | (rename_i hK; simp at hK; simp [hK]; done)
        | simp

theorem breach_part (pb : Nat) (K k n a l u v : Int) (x y : Bool) (s : ByteArray) (p : Option Addr) (z cap : Nat) (w : World) (h0 : w.cell? ⟨pb, 0, none⟩ = some (.int .i64 K)) (h2 : w.cell? ⟨pb, 2, none⟩ = some (.slice p z cap))
    (hp : Hid (∀ w, w.cell? ⟨pb, 0, none⟩ = some (.int .i64 K) → Calls Try.prog 132 #[ptr pb, obV k x n a l s, .int .i64 z] w fun e w' => e = .returned (.tuple #[.int .i64 u, .int .i64 v, .bool y]) ∧ Below w.heap.size w w')) :
    Calls Try.prog 135 #[ptr pb, obV k x n a l s] w fun e w' => e = .returned (.tuple #[.int .i64 u, .int .i64 v, .bool y]) ∧ Below w.heap.size w w' := by
  go_enter Try.func135, Try.ntmps135
  go_wp2_with fail
  obtain ⟨wb, eb, kb, zb, ob⟩ := ob_box w k n a l x s
  have go : Hid (CO wb.drew pb K (.slice p z cap) w.heap.size k x n a l s) := Lib.hid ⟨cell_later kb.drew h0, cell_later kb.drew h2, ob⟩
  have gb := Lib.hid kb.drew
  obtain ⟨c0, c2, d0, d1, d2, d3, d4, d5⟩ := go.out.flat
  rw [eb]
  clear eb kb zb h0 h2 ob
  go_region_held3 (fun wx => wx.cell? ⟨pb, 0, none⟩ = some (.int .i64 K) ∧ wx.cell? ⟨pb, 2, none⟩ = some (.slice p z cap) ∧ wx.cell? ⟨w.heap.size, 0, none⟩ = some (.int .i64 k) ∧ wx.cell? ⟨w.heap.size, 1, none⟩ = some (.bool x) ∧ wx.cell? ⟨w.heap.size, 2, none⟩ = some (.int .i64 n) ∧ wx.cell? ⟨w.heap.size, 3, none⟩ = some (.int .i64 a) ∧ wx.cell? ⟨w.heap.size, 4, none⟩ = some (.int .i64 l) ∧ wx.cell? ⟨w.heap.size, 5, none⟩ = some (.string s))
    (first | exact go.out.flat | go_keep)
    (first | (go_at_call 132; refine (hp.out _ go.out.1).mono ?_; rintro e wc ⟨rfl, kc⟩; replace gb := Lib.hid (below_and gb.out kc); replace go := Lib.hid (go.out.later kc)))
  go_wp2
  go_ret3
  exact ⟨rfl, gb.out⟩

theorem owns_form {w : World} {e : TypeId} {size : Nat} {v : Value} {n : Nat} {xs : List Value} (h : w.ownsRow 0 e size v n xs) : ∃ p cap, v = .slice p n cap := by
  rcases h.2 with ⟨rfl, rfl⟩ | ⟨g, cap, cur, rfl, _⟩
  · exact ⟨_, _, rfl⟩
  · exact ⟨_, _, rfl⟩

/-- An object within a cell. -/
theorem ireach_yes {pb : Nat} {row : Value} {c : Cel} {w : World} (h : ICell w pb row c) (o : Ob) (hz : c.size ≤ 40000) (ha : 0 ≤ o.a) (ha' : o.a ≤ 40000) (hk : c.k = o.k) (hl : o.a + o.l ≤ c.size) :
    Calls Try.prog 129 #[ptr pb, o.val] w fun e w' => e = .returned (.tuple #[.int .i64 o.a, .int .i64 (if o.k = 10 then c.size else o.l), .bool true]) ∧ Below w.heap.size w w' := by
  obtain ⟨p, cap, rfl⟩ := owns_form h.row
  have hs : c.size = c.it.length := by simp [Cel.size, h.bs]
  have h0 := cellAt h.blk 0
  have h2 := cellAt h.blk 2
  simp at h0 h2
  have := ireach_part pb c.k o.k o.n o.a o.l o.a o.l (if o.k = 10 then (c.it.length : Int) else o.l) o.x true o.s p c.it.length cap w h0 h2 (Lib.hid fun w hc => part_yes pb o.k o.n o.a o.l o.x o.s c.it.length w (by rw [← hk]; exact hc) ha ha' (by omega) (by omega)) (Lib.hid (by simp [hk]))
  rw [hs]
  exact this
theorem ireach_no {pb : Nat} {row : Value} {c : Cel} {w : World} (h : ICell w pb row c) (o : Ob) (hz : c.size ≤ 40000) (ha : 0 ≤ o.a) (ha' : o.a ≤ 40000) (hno : ¬(c.k = o.k ∧ o.a + o.l ≤ c.size)) :
    Calls Try.prog 129 #[ptr pb, o.val] w fun e w' => e = .returned (.tuple #[.int .i64 0, .int .i64 0, .bool false]) ∧ Below w.heap.size w w' := by
  obtain ⟨p, cap, rfl⟩ := owns_form h.row
  have hs : c.size = c.it.length := by simp [Cel.size, h.bs]
  have h0 := cellAt h.blk 0
  have h2 := cellAt h.blk 2
  simp at h0 h2
  have := ireach_part pb c.k o.k o.n o.a o.l 0 0 0 o.x false o.s p c.it.length cap w h0 h2 (Lib.hid fun w hc => part_no pb c.k o.k o.n o.a o.l o.x o.s c.it.length w hc ha ha' (by omega) (by rw [← hs]; intro hh; exact hno ⟨hh.1.symm, hh.2⟩)) (Lib.hid (by simp))
  exact this
theorem breach_yes {pb : Nat} {row : Value} {c : Cel} {w : World} (h : BCell w pb row c) (o : Ob) (hz : c.size ≤ 40000) (ha : 0 ≤ o.a) (ha' : o.a ≤ 40000) (hk : c.k = o.k) (hl : o.a + o.l ≤ c.size) :
    Calls Try.prog 135 #[ptr pb, o.val] w fun e w' => e = .returned (.tuple #[.int .i64 o.a, .int .i64 (if o.k = 10 then c.size else o.l), .bool true]) ∧ Below w.heap.size w w' := by
  obtain ⟨p, cap, rfl⟩ := rowB_form h.row
  have hs : c.size = c.bs.length := by simp [Cel.size, h.it]
  have h0 := cellAt h.blk 0
  have h2 := cellAt h.blk 2
  simp at h0 h2
  have := breach_part pb c.k o.k o.n o.a o.l o.a o.l o.x true o.s p c.bs.length cap w h0 h2 (Lib.hid fun w hc => part_yes pb o.k o.n o.a o.l o.x o.s c.bs.length w (by rw [← hk]; exact hc) ha ha' (by omega) (by omega))
  have hk8 : o.k ≠ 10 := by
    rw [← hk, h.kind]
    decide
  rw [if_neg hk8]
  exact this
theorem breach_no {pb : Nat} {row : Value} {c : Cel} {w : World} (h : BCell w pb row c) (o : Ob) (hz : c.size ≤ 40000) (ha : 0 ≤ o.a) (ha' : o.a ≤ 40000) (hno : ¬(c.k = o.k ∧ o.a + o.l ≤ c.size)) :
    Calls Try.prog 135 #[ptr pb, o.val] w fun e w' => e = .returned (.tuple #[.int .i64 0, .int .i64 0, .bool false]) ∧ Below w.heap.size w w' := by
  obtain ⟨p, cap, rfl⟩ := rowB_form h.row
  have hs : c.size = c.bs.length := by simp [Cel.size, h.it]
  have h0 := cellAt h.blk 0
  have h2 := cellAt h.blk 2
  simp at h0 h2
  exact breach_part pb c.k o.k o.n o.a o.l 0 0 o.x false o.s p c.bs.length cap w h0 h2 (Lib.hid fun w hc => part_no pb c.k o.k o.n o.a o.l o.x o.s c.bs.length w hc ha ha' (by omega) (by rw [← hs]; intro hh; exact hno ⟨hh.1.symm, hh.2⟩))
end Go.Proofs.Ytlkbnldpecolbaa

/- Walks of heap's cells: get. -/
namespace Go.Proofs.Ytlkbnldpecolbaa
open Go.RowKit
set_option linter.unusedVariables false

/-- What an item of a row reads as. -/
theorem row_item {w : World} {v : Value} {l : List Ob} (h : w.ownsRow 0 30 6 v l.length (obCells l)) {i : Nat} {o : Ob} (hi : l[i]? = some o) :
    ∃ g cap, v = .slice (some ⟨g, 0, none⟩) l.length cap ∧ w.cell? ⟨g, i * 6, none⟩ = some (.int .i64 o.k) ∧ w.cell? ⟨g, i * 6 + 1, none⟩ = some (.bool o.x) ∧ w.cell? ⟨g, i * 6 + 2, none⟩ = some (.int .i64 o.n) ∧ w.cell? ⟨g, i * 6 + 3, none⟩ = some (.int .i64 o.a) ∧ w.cell? ⟨g, i * 6 + 4, none⟩ = some (.int .i64 o.l) ∧ w.cell? ⟨g, i * 6 + 5, none⟩ = some (.string o.s) := by
  have hl := (List.getElem?_eq_some_iff.1 hi).1
  rcases h.2 with ⟨_, h0⟩ | ⟨g, cap, cur, rfl, _, hg, hc, _, hs, ht⟩
  · omega
  · have key : ∀ j, j < 6 → w.cell? ⟨g, i * 6 + j, none⟩ = o.cells[j]? := by
      intro j hj
      rw [cellAt hg, ← obCells_get hi hj, ← ht, List.getElem?_take, if_pos (by omega)]
      simp
    exact ⟨g, cap, rfl, by simpa [Ob.cells] using key 0 (by omega), by simpa [Ob.cells] using key 1 (by omega), by simpa [Ob.cells] using key 2 (by omega), by simpa [Ob.cells] using key 3 (by omega), by simpa [Ob.cells] using key 4 (by omega), by simpa [Ob.cells] using key 5 (by omega)⟩
theorem row_byte {w : World} {v : Value} {l : List UInt8} (h : rowB w v l) {i : Nat} {c : UInt8} (hi : l[i]? = some c) :
    ∃ g cap, v = .slice (some ⟨g, 0, none⟩) l.length cap ∧ w.cell? ⟨g, i, none⟩ = some (.int .u8 c.toNat) ∧ w.frozen? ⟨g, i, none⟩ = false := by
  have hl := (List.getElem?_eq_some_iff.1 hi).1
  rcases h with ⟨_, rfl⟩ | ⟨g, cap, cur, fr, rfl, hg, hf, hc, hs, ht⟩
  · simp at hl
  · refine ⟨g, cap, rfl, ?_, ?_⟩
    · have : cur.toList[i]? = (byCells l)[i]? := by
        rw [← ht, List.getElem?_take, if_pos (by omega)]
      rw [cellAt hg, ← Array.getElem?_toList, this]
      simp [byCells, hi]
    · rcases hf with rfl | rfl
      · exact freeAt hg i
      · simp [World.frozen?, hg]
        omega

abbrev zeroBox : Obj := .cells #[.int .i64 0, .bool false, .int .i64 0, .int .i64 0, .int .i64 0, .string ⟨#[]⟩] 30
theorem zero_later (w : World) {a : Addr} {v : Value} (h : w.cell? a = some v) : (w.alloc (.cells #[.int .i64 0, .bool false, .int .i64 0, .int .i64 0, .int .i64 0, .string ⟨#[]⟩] 30)).cell? a = some v := cell_later (box_below w _) h

theorem iget_walk (pb g z cap i : Nat) (k n a l : Int) (x : Bool) (s : ByteArray) (w : World) (h2 : w.cell? ⟨pb, 2, none⟩ = some (.slice (some ⟨g, 0, none⟩) z cap)) (hi : (i : Int) < z) (hi0 : (0 : Int) ≤ i)
    (c0 : w.cell? ⟨g, i * 6, none⟩ = some (.int .i64 k)) (c1 : w.cell? ⟨g, i * 6 + 1, none⟩ = some (.bool x)) (c2 : w.cell? ⟨g, i * 6 + 2, none⟩ = some (.int .i64 n)) (c3 : w.cell? ⟨g, i * 6 + 3, none⟩ = some (.int .i64 a)) (c4 : w.cell? ⟨g, i * 6 + 4, none⟩ = some (.int .i64 l)) (c5 : w.cell? ⟨g, i * 6 + 5, none⟩ = some (.string s)) :
    Calls Try.prog 125 #[ptr pb, .int .i64 i] w fun e w' => e = .returned (obV k x n a l s) ∧ Below w.heap.size w w' := by
  replace h2 := zero_later w h2
  replace c0 := zero_later w c0
  replace c1 := zero_later w c1
  replace c2 := zero_later w c2
  replace c3 := zero_later w c3
  replace c4 := zero_later w c4
  replace c5 := zero_later w c5
  go_enter Try.func125, Try.ntmps125
  go_wp2
  (try simp only [Exit.inBlock, Exit.then])
  exact bodyPost_ret (results_cell_row rfl _ _ _ _ _ _ _ rfl (heap_alloc_new _ _) Try.underlying30 rfl (by kernel_rfl)) rfl ⟨rfl, box_below _ _⟩

theorem bget_walk (pb g z cap i : Nat) (c : UInt8) (w : World) (h2 : w.cell? ⟨pb, 2, none⟩ = some (.slice (some ⟨g, 0, none⟩) z cap)) (hi : (i : Int) < z) (hi0 : (0 : Int) ≤ i)
    (c0 : w.cell? ⟨g, i, none⟩ = some (.int .u8 c.toNat)) :
    Calls Try.prog 133 #[ptr pb, .int .i64 i] w fun e w' => e = .returned (obV 3 false c.toNat 0 0 ⟨#[]⟩) ∧ Below w.heap.size w w' := by
  replace h2 := zero_later w h2
  replace c0 := zero_later w c0
  have hb : wrap64 (c.toNat : Int) = c.toNat := by
    have := c.toNat_lt
    unfold wrap64
    omega
  go_enter Try.func133, Try.ntmps133
  go_wp2
  (try simp only [Exit.inBlock, Exit.then])
  exact bodyPost_ret (results_cell_row rfl _ _ _ _ _ _ _ rfl (heap_alloc_new _ _) Try.underlying30 rfl (by kernel_rfl)) rfl ⟨rfl, box_below _ _⟩

theorem iget_any {pb : Nat} {row : Value} {c : Cel} {w : World} (h : ICell w pb row c) (i : Nat) (o : Ob) (hi : c.it[i]? = some o) :
    Calls Try.prog 125 #[ptr pb, .int .i64 i] w fun e w' => e = .returned o.val ∧ Below w.heap.size w w' := by
  have hl := (List.getElem?_eq_some_iff.1 hi).1
  obtain ⟨g, cap, rfl, c0, c1, c2, c3, c4, c5⟩ := row_item h.row hi
  have h2 := cellAt h.blk 2
  simp at h2
  exact iget_walk pb g _ cap i o.k o.n o.a o.l o.x o.s w h2 (by omega) (by omega) c0 c1 c2 c3 c4 c5
theorem bget_any {pb : Nat} {row : Value} {c : Cel} {w : World} (h : BCell w pb row c) (i : Nat) (u : UInt8) (hi : c.bs[i]? = some u) :
    Calls Try.prog 133 #[ptr pb, .int .i64 i] w fun e w' => e = .returned (Ob.num u.toNat).val ∧ Below w.heap.size w w' := by
  have hl := (List.getElem?_eq_some_iff.1 hi).1
  obtain ⟨g, cap, rfl, c0, _⟩ := row_byte h.row hi
  have h2 := cellAt h.blk 2
  simp at h2
  exact bget_walk pb g _ cap i u w h2 (by omega) (by omega) c0
end Go.Proofs.Ytlkbnldpecolbaa

/- Walks of heap: has, fits, find. -/
namespace Go.Proofs.Ytlkbnldpecolbaa
open Go.RowKit
set_option linter.unusedVariables false

abbrev pcV (iv : Value) (a n : Int) : Value := .agg #[iv, .int .i64 a, .int .i64 n]
theorem pc_box (w : World) (iv : Value) (a n : Int) : ∃ wb, w.alloc (.cells #[iv, .int .i64 a, .int .i64 n] 121) = wb ∧ Below w.heap.size w wb ∧ wb.heap.size = w.heap.size + 1 ∧ wb.cell? ⟨w.heap.size, 0, none⟩ = some iv ∧ wb.cell? ⟨w.heap.size, 1, none⟩ = some (.int .i64 a) ∧ wb.cell? ⟨w.heap.size, 2, none⟩ = some (.int .i64 n) :=
  ⟨_, rfl, (Below.refl _ w).alloc (Nat.le_refl _) _, by simp, by simp, by simp, by simp⟩

theorem has_any (T : TypeId) (p : Nat) (a n i : Int) (w : World) :
    Calls Try.prog 85 #[pcV (.iface T (ptr p)) a n, .int .i64 i] w fun e w' => e = .returned (.bool (decide (0 ≤ i ∧ i < n))) ∧ Below w.heap.size w w' := by
  by_cases h1 : 0 ≤ i <;> by_cases h2 : i < n
  all_goals
    have H := Lib.hid (rfl : decide (0 ≤ i ∧ i < n) = decide (0 ≤ i ∧ i < n))
    go_enter Try.func85, Try.ntmps85
    go_wp2
    go_ret
    exact ⟨ret_bool (by simp [h1, h2]), box_below _ _⟩

section
variable {P : Program} {ops : Array Oper} {Q : Exit → Act → World → Prop} {md : Region.Mode}
/-- A guarded operation that is not wanted. -/
theorem wpAny_skip (i d : Nat) {fuel : Nat} {listed : Array Bool} {a : Act} {w : World} (hd : (ops[i]?).map (fun o => (o.dst, Region.wanted o (yielded ops a.tmps))) = some (some d, false))
    (hs : Region.noSelect ops = true) (hf : Region.free md ops listed i = true) (hr : (Region.ready md ops listed).contains i = true)
    (hQ : ∀ c a w, Q (.panic c) (a.put (some d) undef) w → Q (.panic c) a w)
    (h : wpAny P md ops Q fuel (listed.setIfInBounds i true) (a.put (some d) undef) w) : wpAny P md ops Q (fuel + 1) listed a w := by
  cases ho : ops[i]? with
  | none => simp [ho] at hd
  | some o =>
    simp [ho] at hd
    exact wpAny_take ho hs hf hr (by rw [hd.1]; exact hQ) (Or.inr ⟨hd.2, rfl⟩) (by rw [hd.1]; exact h)
/-- An operation that yields in whatever world. -/
theorem wpAny_give (i d : Nat) (v : Value) {oi : Oper} {fuel : Nat} {listed : Array Bool} {a : Act} {w : World} (hi : ops[i]? = some oi) (hd : oi.dst = some d) (hw : Region.wanted oi (yielded ops a.tmps) = true)
    (hs : Region.noSelect ops = true) (hf : Region.free md ops listed i = true) (hr : (Region.ready md ops listed).contains i = true)
    (hQ : ∀ c a w, Q (.panic c) (a.put (some d) v) w → Q (.panic c) a w) (hy : ∀ w, (execOp a.eval oi).run P w = .ok (.value v) w)
    (h : wpAny P md ops Q fuel (listed.setIfInBounds i true) (a.put (some d) v) w) : wpAny P md ops Q (fuel + 1) listed a w :=
  wpAny_take hi hs hf hr (by rw [hd]; exact hQ) (Or.inl ⟨hw, hy⟩) (by rw [hd]; exact h)
end

theorem cells3 {w : World} {A : Nat} {c0 c1 c2 : Value} {t : TypeId} (h : w.heap[A]? = some (.cells #[c0, c1, c2] t (0, 0))) :
    w.cell? ⟨A, 0, none⟩ = some c0 ∧ w.cell? ⟨A, 1, none⟩ = some c1 ∧ w.cell? ⟨A, 2, none⟩ = some c2 ∧ w.frozen? ⟨A, 0, none⟩ = false ∧ w.frozen? ⟨A, 1, none⟩ = false ∧ w.frozen? ⟨A, 2, none⟩ = false :=
  ⟨by rw [cellAt h]; rfl, by rw [cellAt h]; rfl, by rw [cellAt h]; rfl, freeAt h 0, freeAt h 1, freeAt h 2⟩
theorem cells6 {w : World} {A : Nat} {c0 c1 c2 c3 c4 c5 : Value} {t : TypeId} (h : w.heap[A]? = some (.cells #[c0, c1, c2, c3, c4, c5] t (0, 0))) :
    (w.cell? ⟨A, 0, none⟩ = some c0 ∧ w.cell? ⟨A, 1, none⟩ = some c1 ∧ w.cell? ⟨A, 2, none⟩ = some c2 ∧ w.cell? ⟨A, 3, none⟩ = some c3 ∧ w.cell? ⟨A, 4, none⟩ = some c4 ∧ w.cell? ⟨A, 5, none⟩ = some c5) ∧
    w.frozen? ⟨A, 0, none⟩ = false ∧ w.frozen? ⟨A, 1, none⟩ = false ∧ w.frozen? ⟨A, 2, none⟩ = false ∧ w.frozen? ⟨A, 3, none⟩ = false ∧ w.frozen? ⟨A, 4, none⟩ = false ∧ w.frozen? ⟨A, 5, none⟩ = false :=
  ⟨⟨by rw [cellAt h]; rfl, by rw [cellAt h]; rfl, by rw [cellAt h]; rfl, by rw [cellAt h]; rfl, by rw [cellAt h]; rfl, by rw [cellAt h]; rfl⟩, freeAt h 0, freeAt h 1, freeAt h 2, freeAt h 3, freeAt h 4, freeAt h 5⟩
theorem set3 {w : World} {A : Nat} {c0 c1 c2 : Value} {t : TypeId} (h : w.heap[A]? = some (.cells #[c0, c1, c2] t (0, 0))) (v0 v1 v2 : Value) :
    (((w.setCell ⟨A, 0, none⟩ v0).setCell ⟨A, 1, none⟩ v1).setCell ⟨A, 2, none⟩ v2).heap[A]? = some (.cells #[v0, v1, v2] t (0, 0)) := by
  rw [heap_setCell_same _ _ _ _ t _ (heap_setCell_same _ _ _ _ t _ (heap_setCell_same _ _ _ _ t _ h))]
  rfl
theorem set3_below {w wc : World} {A : Nat} (h : Below w.heap.size w wc) (hA : w.heap.size ≤ A) (v0 v1 v2 : Value) :
    Below w.heap.size w (((wc.setCell ⟨A, 0, none⟩ v0).setCell ⟨A, 1, none⟩ v1).setCell ⟨A, 2, none⟩ v2) := ((h.setCell (p := ⟨A, 0, none⟩) hA v0).setCell (p := ⟨A, 1, none⟩) hA v1).setCell (p := ⟨A, 2, none⟩) hA v2
theorem set6 {w : World} {A : Nat} {c0 c1 c2 c3 c4 c5 : Value} {t : TypeId} (h : w.heap[A]? = some (.cells #[c0, c1, c2, c3, c4, c5] t (0, 0))) (v0 v1 v2 v3 v4 v5 : Value) :
    ((((((w.setCell ⟨A, 0, none⟩ v0).setCell ⟨A, 1, none⟩ v1).setCell ⟨A, 2, none⟩ v2).setCell ⟨A, 3, none⟩ v3).setCell ⟨A, 4, none⟩ v4).setCell ⟨A, 5, none⟩ v5).heap[A]? = some (.cells #[v0, v1, v2, v3, v4, v5] t (0, 0)) := by
  rw [heap_setCell_same _ _ _ _ t _ (heap_setCell_same _ _ _ _ t _ (heap_setCell_same _ _ _ _ t _ (heap_setCell_same _ _ _ _ t _ (heap_setCell_same _ _ _ _ t _ (heap_setCell_same _ _ _ _ t _ h)))))]
  rfl
theorem set6_below {w wc : World} {A : Nat} (h : Below w.heap.size w wc) (hA : w.heap.size ≤ A) (v0 v1 v2 v3 v4 v5 : Value) :
    Below w.heap.size w ((((((wc.setCell ⟨A, 0, none⟩ v0).setCell ⟨A, 1, none⟩ v1).setCell ⟨A, 2, none⟩ v2).setCell ⟨A, 3, none⟩ v3).setCell ⟨A, 4, none⟩ v4).setCell ⟨A, 5, none⟩ v5) :=
  (((((h.setCell (p := ⟨A, 0, none⟩) hA v0).setCell (p := ⟨A, 1, none⟩) hA v1).setCell (p := ⟨A, 2, none⟩) hA v2).setCell (p := ⟨A, 3, none⟩) hA v3).setCell (p := ⟨A, 4, none⟩) hA v4).setCell (p := ⟨A, 5, none⟩) hA v5

theorem ret_cell {P : Program} {fn : Func} {p u : Tmp} {ty : TypeId} (h : fn.results = #[.cell p ty, .tmp u]) (tmps : Array Value) (w : World) (g : Nat) (t : TypeId) (cs : Array Value) (fr : Nat × Nat) (d : TypeDesc) (v : Value)
    (hp : tmps.getD p undef = .pointer (some ⟨g, 0, none⟩)) (hv : tmps.getD u undef = v) (hg : w.heap[g]? = some (.cells cs t fr))
    (hu : P.underlying ty = some d) (hd : (match d with | .struct _ | .array _ _ => true | _ => false) = true) (hi : (P.info? ty).map (·.size) = some cs.size) :
    (results fn tmps).run P w = .ok (.tuple #[.agg cs, v]) w := by
  rw [results_cell_tmp h, hp, hv]
  simp [asAddr, run_loadVar_row w g t ty cs fr d hg hu hd hi]

theorem find_type (hb : Nat) (k n a l : Int) (x : Bool) (s : ByteArray) (w : World) (h9 : k ≠ 9) (h8 : k ≠ 8) (h10 : k ≠ 10) :
    Calls Try.prog 81 #[ptr hb, obV k x n a l s] w fun e w' => e = .returned (.tuple #[pcV .nilIface 0 0, .int .i64 6]) ∧ Below w.heap.size w w' := by
  have b9 : (k != 9) = true := by simpa using h9
  have b8 : (k != 8) = true := by simpa using h8
  have b10 : (k != 10) = true := by simpa using h10
  clear h9 h8 h10
  go_enter Try.func81, Try.ntmps81
  go_wp2
  (try simp only [Exit.inBlock, Exit.then])
  exact bodyPost_ret (ret_cell rfl _ _ _ _ _ _ _ _ rfl rfl (heap_alloc2_new _ _ _) Try.underlying121 rfl (by kernel_rfl)) rfl ⟨rfl, below_and (box_below _ _) (box_below _ _)⟩

/-- A box of an object, and a zero piece behind it. -/
theorem find_box (w : World) (k n a l : Int) (x : Bool) (s : ByteArray) :
    ∃ wb, (w.alloc (.cells #[.int .i64 k, .bool x, .int .i64 n, .int .i64 a, .int .i64 l, .string s] 30)).alloc (.cells #[.nilIface, .int .i64 0, .int .i64 0] 121) = wb ∧ Below w.heap.size w wb ∧ ObAt wb w.heap.size k x n a l s ∧ wb.heap[w.heap.size + 1]? = some (.cells #[.nilIface, .int .i64 0, .int .i64 0] 121 (0, 0)) := by
  refine ⟨_, rfl, below_and (box_below _ _) (box_below _ _), ?_, heap_alloc2_new _ _ _⟩
  obtain ⟨wb, eb, kb, zb, ob⟩ := ob_box w k n a l x s
  rw [eb]
  exact ob.later (box_below _ _)

set_option maxHeartbeats 2000000 in
theorem find_bad (hb : Nat) (k n a l : Int) (x : Bool) (s : ByteArray) (w : World) (hk : k = 9 ∨ k = 8 ∨ k = 10)
    (hm : Hid (∀ w, Calls Try.prog 80 #[obV k x n a l s] w fun e w' => e = .returned (.bool false) ∧ Below w.heap.size w w')) :
    Calls Try.prog 81 #[ptr hb, obV k x n a l s] w fun e w' => e = .returned (.tuple #[pcV .nilIface 0 0, .int .i64 1]) ∧ Below w.heap.size w w' := by
  rcases hk with rfl | rfl | rfl
  all_goals
    go_enter Try.func81, Try.ntmps81
    go_wp2
    obtain ⟨wb, eb, kb, ob, pb⟩ := find_box w _ n a l x s
    rw [eb]
    have gb := Lib.hid kb
    obtain ⟨d0, d1, d2, d3, d4, d5⟩ := ob
    clear eb kb
    refine wp_region_any (by kernel_rfl) ?_
    (try (change wpAny _ _ _ _ _ _ _ (World.drew _)))
    refine wpAny_ready (rs := [0]) (by kernel_rfl) (by simp) ?_
    refine AllReady.cons rfl (fun K hK => ?_) AllReady.nil
    go_simp
    refine hK _ _ ?_
    clear hK K
    refine wpAny_ready (rs := [1]) (by kernel_rfl) (by simp) ?_
    refine AllReady.cons rfl (fun K hK => ?_) AllReady.nil
    go_simp
    refine (hm.out _).mono ?_
    rintro e wc ⟨rfl, kc⟩
    go_wp2_with fail
    have pc : wc.heap[w.heap.size + 1]? = some (.cells #[.nilIface, .int .i64 0, .int .i64 0] 121 (0, 0)) := (kc.block _ (blk_lt pb)).trans pb
    replace gb := Lib.hid (below_and gb.out (below_drew kc))
    have p0 := cellAt pc 0
    have p1 := cellAt pc 1
    have p2 := cellAt pc 2
    have f0 := freeAt pc 0
    have f1 := freeAt pc 1
    have f2 := freeAt pc 2
    simp at p0 p1 p2
    clear pb d0 d1 d2 d3 d4 d5 kc
    refine wpAny_give 2 32 (.bool true) rfl rfl (by rfl) (by kernel_rfl) (by kernel_rfl) (by kernel_rfl) (fun _ _ _ h => h) (fun _ => by go_simp) ?_
    simp only [Act.put, List.setIfInBounds_toArray, List.set_cons_zero, List.set_cons_succ]
    refine wpAny_give 3 33 (.bool true) rfl rfl (by rfl) (by kernel_rfl) (by kernel_rfl) (by kernel_rfl) (fun _ _ _ h => h) (fun _ => by go_simp) ?_
    simp only [Act.put, List.setIfInBounds_toArray, List.set_cons_zero, List.set_cons_succ]
    refine wpAny_skip 4 34 (by rfl) (by kernel_rfl) (by kernel_rfl) (by kernel_rfl) (fun _ _ _ h => h) ?_
    simp only [Act.put, List.setIfInBounds_toArray, List.set_cons_zero, List.set_cons_succ]
    refine wpAny_skip 5 35 (by rfl) (by kernel_rfl) (by kernel_rfl) (by kernel_rfl) (fun _ _ _ h => h) ?_
    simp only [Act.put, List.setIfInBounds_toArray, List.set_cons_zero, List.set_cons_succ]
    refine wpAny_skip 6 36 (by rfl) (by kernel_rfl) (by kernel_rfl) (by kernel_rfl) (fun _ _ _ h => h) ?_
    simp only [Act.put, List.setIfInBounds_toArray, List.set_cons_zero, List.set_cons_succ]
    refine wpAny_skip 7 37 (by rfl) (by kernel_rfl) (by kernel_rfl) (by kernel_rfl) (fun _ _ _ h => h) ?_
    simp only [Act.put, List.setIfInBounds_toArray, List.set_cons_zero, List.set_cons_succ]
    refine wpAny_skip 8 38 (by rfl) (by kernel_rfl) (by kernel_rfl) (by kernel_rfl) (fun _ _ _ h => h) ?_
    simp only [Act.put, List.setIfInBounds_toArray, List.set_cons_zero, List.set_cons_succ]
    refine wpAny_skip 9 39 (by rfl) (by kernel_rfl) (by kernel_rfl) (by kernel_rfl) (fun _ _ _ h => h) ?_
    simp only [Act.put, List.setIfInBounds_toArray, List.set_cons_zero, List.set_cons_succ]
    refine wpAny_skip 10 40 (by rfl) (by kernel_rfl) (by kernel_rfl) (by kernel_rfl) (fun _ _ _ h => h) ?_
    simp only [Act.put, List.setIfInBounds_toArray, List.set_cons_zero, List.set_cons_succ]
    refine wpAny_skip 11 41 (by rfl) (by kernel_rfl) (by kernel_rfl) (by kernel_rfl) (fun _ _ _ h => h) ?_
    simp only [Act.put, List.setIfInBounds_toArray, List.set_cons_zero, List.set_cons_succ]
    refine wpAny_give 12 42 (.bool true) rfl rfl (by rfl) (by kernel_rfl) (by kernel_rfl) (by kernel_rfl) (fun _ _ _ h => h) (fun _ => by go_simp) ?_
    simp only [Act.put, List.setIfInBounds_toArray, List.set_cons_zero, List.set_cons_succ]
    refine wpAny_give 13 29 (.bool true) rfl rfl (by rfl) (by kernel_rfl) (by kernel_rfl) (by kernel_rfl) (fun _ _ _ h => h) (fun _ => by go_simp) ?_
    simp only [Act.put, List.setIfInBounds_toArray, List.set_cons_zero, List.set_cons_succ]
    refine wpAny_done (by kernel_rfl) ?_ _
    go_wp2
    (try simp only [Exit.inBlock, Exit.then])
    exact bodyPost_ret (ret_cell rfl _ _ _ _ _ _ _ _ rfl rfl (set3 pc _ _ _) Try.underlying121 rfl (by kernel_rfl)) rfl ⟨rfl, set3_below gb.out (by omega) _ _ _⟩
/-- A cell that stays, and an object in a box. -/
def Stay (w : World) (hb : Nat) (v : Value) (b : Nat) (k : Int) (x : Bool) (n a l : Int) (s : ByteArray) : Prop := w.cell? ⟨hb, 0, none⟩ = some v ∧ ObAt w b k x n a l s
theorem Stay.later {w wx : World} {hb : Nat} {v : Value} {b : Nat} {k : Int} {x : Bool} {n a l : Int} {s : ByteArray} (h : Stay w hb v b k x n a l s) (kc : Below w.heap.size w wx) : Stay wx hb v b k x n a l s := ⟨cell_later kc h.1, h.2.later kc⟩

set_option maxHeartbeats 1000000 in
theorem find_far_9 (hb : Nat) (n a l : Int) (x : Bool) (s : ByteArray) (p : Option Addr) (z cap : Nat) (w : World) (h0 : w.cell? ⟨hb, 0, none⟩ = some (.slice p z cap)) (hn : (z : Int) ≤ n)
    (hm : Hid (∀ w, Calls Try.prog 80 #[obV 9 x n a l s] w fun e w' => e = .returned (.bool true) ∧ Below w.heap.size w w')) :
    Calls Try.prog 81 #[ptr hb, obV 9 x n a l s] w fun e w' => e = .returned (.tuple #[pcV .nilIface 0 0, .int .i64 1]) ∧ Below w.heap.size w w' := by
  go_enter Try.func81, Try.ntmps81
  go_wp2
  obtain ⟨wb, eb, kb, ob, pb⟩ := find_box w 9 n a l x s
  rw [eb]
  have gb := Lib.hid kb.drew
  have go : Hid (Stay wb.drew hb (.slice p z cap) w.heap.size 9 x n a l s) := Lib.hid ⟨cell_later kb.drew h0, ob⟩
  have gp : Hid (wb.drew.heap[w.heap.size + 1]? = some (.cells #[.nilIface, .int .i64 0, .int .i64 0] 121 (0, 0))) := Lib.hid pb
  have st := go.out
  obtain ⟨c0, d0, d1, d2, d3, d4, d5⟩ := st
  clear eb kb h0 ob pb
  go_region_held3 (fun wx => wx.cell? ⟨hb, 0, none⟩ = some (.slice p z cap) ∧ wx.cell? ⟨w.heap.size, 0, none⟩ = some (.int .i64 9) ∧ wx.cell? ⟨w.heap.size, 1, none⟩ = some (.bool x) ∧ wx.cell? ⟨w.heap.size, 2, none⟩ = some (.int .i64 n) ∧ wx.cell? ⟨w.heap.size, 3, none⟩ = some (.int .i64 a) ∧ wx.cell? ⟨w.heap.size, 4, none⟩ = some (.int .i64 l) ∧ wx.cell? ⟨w.heap.size, 5, none⟩ = some (.string s))
    (first | exact go.out | go_keep)
    (first | (go_at_call 80; refine (hm.out _).mono ?_; rintro e wc ⟨rfl, kc⟩; replace gb := Lib.hid (below_and gb.out kc); replace go := Lib.hid (go.out.later kc); replace gp := Lib.hid ((kc.block _ (blk_lt gp.out)).trans gp.out)))
  obtain ⟨p0, p1, p2, f0, f1, f2⟩ := cells3 gp.out
  go_wp2
  (try simp only [Exit.inBlock, Exit.then])
  exact bodyPost_ret (ret_cell rfl _ _ _ _ _ _ _ _ rfl rfl (set3 gp.out _ _ _) Try.underlying121 rfl (by kernel_rfl)) rfl ⟨rfl, set3_below gb.out (by omega) _ _ _⟩

set_option maxHeartbeats 1000000 in
theorem find_far_8 (hb : Nat) (n a l : Int) (x : Bool) (s : ByteArray) (p : Option Addr) (z cap : Nat) (w : World) (h0 : w.cell? ⟨hb, 0, none⟩ = some (.slice p z cap)) (hn : (z : Int) ≤ n)
    (hm : Hid (∀ w, Calls Try.prog 80 #[obV 8 x n a l s] w fun e w' => e = .returned (.bool true) ∧ Below w.heap.size w w')) :
    Calls Try.prog 81 #[ptr hb, obV 8 x n a l s] w fun e w' => e = .returned (.tuple #[pcV .nilIface 0 0, .int .i64 1]) ∧ Below w.heap.size w w' := by
  go_enter Try.func81, Try.ntmps81
  go_wp2
  obtain ⟨wb, eb, kb, ob, pb⟩ := find_box w 8 n a l x s
  rw [eb]
  have gb := Lib.hid kb.drew
  have go : Hid (Stay wb.drew hb (.slice p z cap) w.heap.size 8 x n a l s) := Lib.hid ⟨cell_later kb.drew h0, ob⟩
  have gp : Hid (wb.drew.heap[w.heap.size + 1]? = some (.cells #[.nilIface, .int .i64 0, .int .i64 0] 121 (0, 0))) := Lib.hid pb
  have st := go.out
  obtain ⟨c0, d0, d1, d2, d3, d4, d5⟩ := st
  clear eb kb h0 ob pb
  go_region_held3 (fun wx => wx.cell? ⟨hb, 0, none⟩ = some (.slice p z cap) ∧ wx.cell? ⟨w.heap.size, 0, none⟩ = some (.int .i64 8) ∧ wx.cell? ⟨w.heap.size, 1, none⟩ = some (.bool x) ∧ wx.cell? ⟨w.heap.size, 2, none⟩ = some (.int .i64 n) ∧ wx.cell? ⟨w.heap.size, 3, none⟩ = some (.int .i64 a) ∧ wx.cell? ⟨w.heap.size, 4, none⟩ = some (.int .i64 l) ∧ wx.cell? ⟨w.heap.size, 5, none⟩ = some (.string s))
    (first | exact go.out | go_keep)
    (first | (go_at_call 80; refine (hm.out _).mono ?_; rintro e wc ⟨rfl, kc⟩; replace gb := Lib.hid (below_and gb.out kc); replace go := Lib.hid (go.out.later kc); replace gp := Lib.hid ((kc.block _ (blk_lt gp.out)).trans gp.out)))
  obtain ⟨p0, p1, p2, f0, f1, f2⟩ := cells3 gp.out
  go_wp2
  (try simp only [Exit.inBlock, Exit.then])
  exact bodyPost_ret (ret_cell rfl _ _ _ _ _ _ _ _ rfl rfl (set3 gp.out _ _ _) Try.underlying121 rfl (by kernel_rfl)) rfl ⟨rfl, set3_below gb.out (by omega) _ _ _⟩

set_option maxHeartbeats 1000000 in
theorem find_far_10 (hb : Nat) (n a l : Int) (x : Bool) (s : ByteArray) (p : Option Addr) (z cap : Nat) (w : World) (h0 : w.cell? ⟨hb, 0, none⟩ = some (.slice p z cap)) (hn : (z : Int) ≤ n)
    (hm : Hid (∀ w, Calls Try.prog 80 #[obV 10 x n a l s] w fun e w' => e = .returned (.bool true) ∧ Below w.heap.size w w')) :
    Calls Try.prog 81 #[ptr hb, obV 10 x n a l s] w fun e w' => e = .returned (.tuple #[pcV .nilIface 0 0, .int .i64 1]) ∧ Below w.heap.size w w' := by
  go_enter Try.func81, Try.ntmps81
  go_wp2
  obtain ⟨wb, eb, kb, ob, pb⟩ := find_box w 10 n a l x s
  rw [eb]
  have gb := Lib.hid kb.drew
  have go : Hid (Stay wb.drew hb (.slice p z cap) w.heap.size 10 x n a l s) := Lib.hid ⟨cell_later kb.drew h0, ob⟩
  have gp : Hid (wb.drew.heap[w.heap.size + 1]? = some (.cells #[.nilIface, .int .i64 0, .int .i64 0] 121 (0, 0))) := Lib.hid pb
  have st := go.out
  obtain ⟨c0, d0, d1, d2, d3, d4, d5⟩ := st
  clear eb kb h0 ob pb
  go_region_held3 (fun wx => wx.cell? ⟨hb, 0, none⟩ = some (.slice p z cap) ∧ wx.cell? ⟨w.heap.size, 0, none⟩ = some (.int .i64 10) ∧ wx.cell? ⟨w.heap.size, 1, none⟩ = some (.bool x) ∧ wx.cell? ⟨w.heap.size, 2, none⟩ = some (.int .i64 n) ∧ wx.cell? ⟨w.heap.size, 3, none⟩ = some (.int .i64 a) ∧ wx.cell? ⟨w.heap.size, 4, none⟩ = some (.int .i64 l) ∧ wx.cell? ⟨w.heap.size, 5, none⟩ = some (.string s))
    (first | exact go.out | go_keep)
    (first | (go_at_call 80; refine (hm.out _).mono ?_; rintro e wc ⟨rfl, kc⟩; replace gb := Lib.hid (below_and gb.out kc); replace go := Lib.hid (go.out.later kc); replace gp := Lib.hid ((kc.block _ (blk_lt gp.out)).trans gp.out)))
  obtain ⟨p0, p1, p2, f0, f1, f2⟩ := cells3 gp.out
  go_wp2
  (try simp only [Exit.inBlock, Exit.then])
  exact bodyPost_ret (ret_cell rfl _ _ _ _ _ _ _ _ rfl rfl (set3 gp.out _ _ _) Try.underlying121 rfl (by kernel_rfl)) rfl ⟨rfl, set3_below gb.out (by omega) _ _ _⟩

end Go.Proofs.Ytlkbnldpecolbaa
