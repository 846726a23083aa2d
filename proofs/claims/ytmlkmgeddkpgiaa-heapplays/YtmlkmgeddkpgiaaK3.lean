/- Walks of heap's cells: reach. -/
import Derived.Test.YtmlkmgeddkpgiaaK2
namespace Go.Proofs.Ytmlkmgeddkpgiaa
open Go.RowKit
set_option linter.unusedVariables false

/-- A cell's header and its row, and an object in a box. -/
def CO (w : World) (pb : Nat) (K : Int) (v : Value) (b : Nat) (k : Int) (x : Bool) (n a l : Int) (s : ByteArray) : Prop :=
  w.cell? ⟨pb, 0, none⟩ = some (.int .i64 K) ∧ w.cell? ⟨pb, 2, none⟩ = some v ∧ ObAt w b k x n a l s
theorem CO.later {w wx : World} {pb : Nat} {K : Int} {v : Value} {b : Nat} {k : Int} {x : Bool} {n a l : Int} {s : ByteArray} (h : CO w pb K v b k x n a l s) (kc : Below w.heap.size w wx) : CO wx pb K v b k x n a l s :=
  ⟨cell_later kc h.1, cell_later kc h.2.1, h.2.2.later kc⟩
theorem CO.drew {w : World} {pb : Nat} {K : Int} {v : Value} {b : Nat} {k : Int} {x : Bool} {n a l : Int} {s : ByteArray} (h : CO w pb K v b k x n a l s) : CO w.drew pb K v b k x n a l s := h
theorem CO.flat {w : World} {pb : Nat} {K : Int} {v : Value} {b : Nat} {k : Int} {x : Bool} {n a l : Int} {s : ByteArray} (h : CO w pb K v b k x n a l s) :
    w.cell? ⟨pb, 0, none⟩ = some (.int .i64 K) ∧ w.cell? ⟨pb, 2, none⟩ = some v ∧ w.cell? ⟨b, 0, none⟩ = some (.int .i64 k) ∧ w.cell? ⟨b, 1, none⟩ = some (.bool x) ∧ w.cell? ⟨b, 2, none⟩ = some (.int .i64 n) ∧ w.cell? ⟨b, 3, none⟩ = some (.int .i64 a) ∧ w.cell? ⟨b, 4, none⟩ = some (.int .i64 l) ∧ w.cell? ⟨b, 5, none⟩ = some (.string s) := h

theorem ireach_part (pb : Nat) (K k n a l u v r : Int) (x y : Bool) (s : ByteArray) (p : Option Addr) (z cap : Nat) (w : World) (h0 : w.cell? ⟨pb, 0, none⟩ = some (.int .i64 K)) (h2 : w.cell? ⟨pb, 2, none⟩ = some (.slice p z cap))
    (hp : Hid (∀ w, w.cell? ⟨pb, 0, none⟩ = some (.int .i64 K) → Calls Try.prog 156 #[ptr pb, obV k x n a l s, .int .i64 z] w fun e w' => e = .returned (.tuple #[.int .i64 u, .int .i64 v, .bool y]) ∧ Below w.heap.size w w')) (hr : Hid (r = if y = true ∧ K = 10 then (z : Int) else v)) :
    Calls Try.prog 159 #[ptr pb, obV k x n a l s] w fun e w' => e = .returned (.tuple #[.int .i64 u, .int .i64 r, .bool y]) ∧ Below w.heap.size w w' := by
  cases y
  all_goals
    go_enter Try.func159, Try.ntmps159
    go_wp2_with fail
    obtain ⟨wb, eb, kb, zb, ob⟩ := ob_box w k n a l x s
    have go : Hid (CO wb.drew pb K (.slice p z cap) w.heap.size k x n a l s) := Lib.hid ⟨cell_later kb.drew h0, cell_later kb.drew h2, ob⟩
    have gb := Lib.hid kb.drew
    obtain ⟨c0, c2, d0, d1, d2, d3, d4, d5⟩ := go.out.flat
    rw [eb]
    clear eb kb zb h0 h2 ob
    go_region_held3 (fun wx => wx.cell? ⟨pb, 0, none⟩ = some (.int .i64 K) ∧ wx.cell? ⟨pb, 2, none⟩ = some (.slice p z cap) ∧ wx.cell? ⟨w.heap.size, 0, none⟩ = some (.int .i64 k) ∧ wx.cell? ⟨w.heap.size, 1, none⟩ = some (.bool x) ∧ wx.cell? ⟨w.heap.size, 2, none⟩ = some (.int .i64 n) ∧ wx.cell? ⟨w.heap.size, 3, none⟩ = some (.int .i64 a) ∧ wx.cell? ⟨w.heap.size, 4, none⟩ = some (.int .i64 l) ∧ wx.cell? ⟨w.heap.size, 5, none⟩ = some (.string s))
      (first | exact go.out.flat | go_keep)
      (first | (go_at_call 156; refine (hp.out _ go.out.1).mono ?_; rintro e wc ⟨rfl, kc⟩; replace gb := Lib.hid (below_and gb.out kc); replace go := Lib.hid (go.out.later kc)))
    go_wp2
    all_goals
      go_ret3
      refine ⟨?_, gb.out⟩
      rw [hr.out]
      first
        | (rename_i hK; simp at hK; simp [hK]; done)
        | simp

theorem breach_part (pb : Nat) (K k n a l u v : Int) (x y : Bool) (s : ByteArray) (p : Option Addr) (z cap : Nat) (w : World) (h0 : w.cell? ⟨pb, 0, none⟩ = some (.int .i64 K)) (h2 : w.cell? ⟨pb, 2, none⟩ = some (.slice p z cap))
    (hp : Hid (∀ w, w.cell? ⟨pb, 0, none⟩ = some (.int .i64 K) → Calls Try.prog 156 #[ptr pb, obV k x n a l s, .int .i64 z] w fun e w' => e = .returned (.tuple #[.int .i64 u, .int .i64 v, .bool y]) ∧ Below w.heap.size w w')) :
    Calls Try.prog 153 #[ptr pb, obV k x n a l s] w fun e w' => e = .returned (.tuple #[.int .i64 u, .int .i64 v, .bool y]) ∧ Below w.heap.size w w' := by
  go_enter Try.func153, Try.ntmps153
  go_wp2_with fail
  obtain ⟨wb, eb, kb, zb, ob⟩ := ob_box w k n a l x s
  have go : Hid (CO wb.drew pb K (.slice p z cap) w.heap.size k x n a l s) := Lib.hid ⟨cell_later kb.drew h0, cell_later kb.drew h2, ob⟩
  have gb := Lib.hid kb.drew
  obtain ⟨c0, c2, d0, d1, d2, d3, d4, d5⟩ := go.out.flat
  rw [eb]
  clear eb kb zb h0 h2 ob
  go_region_held3 (fun wx => wx.cell? ⟨pb, 0, none⟩ = some (.int .i64 K) ∧ wx.cell? ⟨pb, 2, none⟩ = some (.slice p z cap) ∧ wx.cell? ⟨w.heap.size, 0, none⟩ = some (.int .i64 k) ∧ wx.cell? ⟨w.heap.size, 1, none⟩ = some (.bool x) ∧ wx.cell? ⟨w.heap.size, 2, none⟩ = some (.int .i64 n) ∧ wx.cell? ⟨w.heap.size, 3, none⟩ = some (.int .i64 a) ∧ wx.cell? ⟨w.heap.size, 4, none⟩ = some (.int .i64 l) ∧ wx.cell? ⟨w.heap.size, 5, none⟩ = some (.string s))
    (first | exact go.out.flat | go_keep)
    (first | (go_at_call 156; refine (hp.out _ go.out.1).mono ?_; rintro e wc ⟨rfl, kc⟩; replace gb := Lib.hid (below_and gb.out kc); replace go := Lib.hid (go.out.later kc)))
  go_wp2
  go_ret3
  exact ⟨rfl, gb.out⟩

theorem owns_form {w : World} {e : TypeId} {size : Nat} {v : Value} {n : Nat} {xs : List Value} (h : w.ownsRow 0 e size v n xs) : ∃ p cap, v = .slice p n cap := by
  rcases h.2 with ⟨rfl, rfl⟩ | ⟨g, cap, cur, rfl, _⟩
  · exact ⟨_, _, rfl⟩
  · exact ⟨_, _, rfl⟩

/-- An object within a cell. -/
theorem ireach_yes {pb : Nat} {row : Value} {c : Cel} {w : World} (h : ICell w pb row c) (o : Ob) (hz : c.size ≤ 40000) (ha : 0 ≤ o.a) (ha' : o.a ≤ 40000) (hk : c.k = o.k) (hl : o.a + o.l ≤ c.size) :
    Calls Try.prog 159 #[ptr pb, o.val] w fun e w' => e = .returned (.tuple #[.int .i64 o.a, .int .i64 (if o.k = 10 then c.size else o.l), .bool true]) ∧ Below w.heap.size w w' := by
  obtain ⟨p, cap, rfl⟩ := owns_form h.row
  have hs : c.size = c.it.length := by simp [Cel.size, h.bs]
  have h0 := cellAt h.blk 0
  have h2 := cellAt h.blk 2
  simp at h0 h2
  have := ireach_part pb c.k o.k o.n o.a o.l o.a o.l (if o.k = 10 then (c.it.length : Int) else o.l) o.x true o.s p c.it.length cap w h0 h2 (Lib.hid fun w hc => part_yes pb o.k o.n o.a o.l o.x o.s c.it.length w (by rw [← hk]; exact hc) ha ha' (by omega) (by omega)) (Lib.hid (by simp [hk]))
  rw [hs]
  exact this
theorem ireach_no {pb : Nat} {row : Value} {c : Cel} {w : World} (h : ICell w pb row c) (o : Ob) (hz : c.size ≤ 40000) (ha : 0 ≤ o.a) (ha' : o.a ≤ 40000) (hno : ¬(c.k = o.k ∧ o.a + o.l ≤ c.size)) :
    Calls Try.prog 159 #[ptr pb, o.val] w fun e w' => e = .returned (.tuple #[.int .i64 0, .int .i64 0, .bool false]) ∧ Below w.heap.size w w' := by
  obtain ⟨p, cap, rfl⟩ := owns_form h.row
  have hs : c.size = c.it.length := by simp [Cel.size, h.bs]
  have h0 := cellAt h.blk 0
  have h2 := cellAt h.blk 2
  simp at h0 h2
  have := ireach_part pb c.k o.k o.n o.a o.l 0 0 0 o.x false o.s p c.it.length cap w h0 h2 (Lib.hid fun w hc => part_no pb c.k o.k o.n o.a o.l o.x o.s c.it.length w hc ha ha' (by omega) (by rw [← hs]; intro hh; exact hno ⟨hh.1.symm, hh.2⟩)) (Lib.hid (by simp))
  exact this
theorem breach_yes {pb : Nat} {row : Value} {c : Cel} {w : World} (h : BCell w pb row c) (o : Ob) (hz : c.size ≤ 40000) (ha : 0 ≤ o.a) (ha' : o.a ≤ 40000) (hk : c.k = o.k) (hl : o.a + o.l ≤ c.size) :
    Calls Try.prog 153 #[ptr pb, o.val] w fun e w' => e = .returned (.tuple #[.int .i64 o.a, .int .i64 (if o.k = 10 then c.size else o.l), .bool true]) ∧ Below w.heap.size w w' := by
  obtain ⟨p, cap, rfl⟩ := rowB_form h.row
  have hs : c.size = c.bs.length := by simp [Cel.size, h.it]
  have h0 := cellAt h.blk 0
  have h2 := cellAt h.blk 2
  simp at h0 h2
  have := breach_part pb c.k o.k o.n o.a o.l o.a o.l o.x true o.s p c.bs.length cap w h0 h2 (Lib.hid fun w hc => part_yes pb o.k o.n o.a o.l o.x o.s c.bs.length w (by rw [← hk]; exact hc) ha ha' (by omega) (by omega))
  have hk8 : o.k ≠ 10 := by
    rw [← hk, h.kind]
    decide
  rw [if_neg hk8]
  exact this
theorem breach_no {pb : Nat} {row : Value} {c : Cel} {w : World} (h : BCell w pb row c) (o : Ob) (hz : c.size ≤ 40000) (ha : 0 ≤ o.a) (ha' : o.a ≤ 40000) (hno : ¬(c.k = o.k ∧ o.a + o.l ≤ c.size)) :
    Calls Try.prog 153 #[ptr pb, o.val] w fun e w' => e = .returned (.tuple #[.int .i64 0, .int .i64 0, .bool false]) ∧ Below w.heap.size w w' := by
  obtain ⟨p, cap, rfl⟩ := rowB_form h.row
  have hs : c.size = c.bs.length := by simp [Cel.size, h.it]
  have h0 := cellAt h.blk 0
  have h2 := cellAt h.blk 2
  simp at h0 h2
  exact breach_part pb c.k o.k o.n o.a o.l 0 0 o.x false o.s p c.bs.length cap w h0 h2 (Lib.hid fun w hc => part_no pb c.k o.k o.n o.a o.l o.x o.s c.bs.length w hc ha ha' (by omega) (by rw [← hs]; intro hh; exact hno ⟨hh.1.symm, hh.2⟩))
end Go.Proofs.Ytmlkmgeddkpgiaa
