/- Walks of heap: find where the object lies in a cell of bytes. -/
import Derived.Test.YtmlkmgeddkpgiaaK5
namespace Go.Proofs.Ytmlkmgeddkpgiaa
open Go.RowKit
set_option linter.unusedVariables false

theorem method_reach95 (r : Nat) (w : World) : (method 294 141 (ptr r) "tympan/heap.reach").run Try.prog w = .ok (153, ptr r) w := by kernel_rfl

set_option maxHeartbeats 1000000 in
set_option maxRecDepth 100000 in
theorem find_walk_9_95 (hb g m r : Nat) (a l u v : Int) (x y : Bool) (s : ByteArray) (z cap : Nat) (w : World) (h0 : w.cell? ⟨hb, 0, none⟩ = some (.slice (some ⟨g, 0, none⟩) z cap)) (hg : w.cell? ⟨g, m, none⟩ = some (.iface 141 (ptr r))) (hn : (m : Int) < z) (hn0 : (0 : Int) ≤ m)
    (hm : Hid (∀ w, Calls Try.prog 109 #[obV 9 x m a l s] w fun e w' => e = .returned (.bool true) ∧ Below w.heap.size w w'))
    (hr : Hid (∀ wx, Below w.heap.size w wx → Calls Try.prog 153 #[ptr r, obV 9 x m a l s] wx fun e w' => e = .returned (.tuple #[.int .i64 u, .int .i64 v, .bool y]) ∧ Below wx.heap.size wx w')) :
    Calls Try.prog 71 #[ptr hb, obV 9 x m a l s] w fun e w' => e = .returned (.tuple #[if y = true then pcV (.iface 141 (ptr r)) u v else pcV .nilIface 0 0, .int .i64 (if y = true then 0 else 1)]) ∧ Below w.heap.size w w' := by
  have hme := method_reach95
  go_enter Try.func71, Try.ntmps71
  go_wp2
  obtain ⟨wb, eb, kb, ob, pb⟩ := find_box w 9 m a l x s
  rw [eb]
  have gb := Lib.hid kb.drew
  have go : Hid (Stay wb.drew hb (.slice (some ⟨g, 0, none⟩) z cap) w.heap.size 9 x m a l s) := Lib.hid ⟨cell_later kb.drew h0, ob⟩
  have gp : Hid (wb.drew.heap[w.heap.size + 1]? = some (.cells #[.nilIface, .int .i64 0, .int .i64 0] 101 (0, 0))) := Lib.hid pb
  have gg : Hid (wb.drew.cell? ⟨g, m, none⟩ = some (.iface 141 (ptr r))) := Lib.hid (cell_later kb.drew hg)
  have st := go.out
  obtain ⟨c0, d0, d1, d2, d3, d4, d5⟩ := st
  clear eb kb h0 ob pb hg
  go_region_held3 (fun wx => wx.cell? ⟨hb, 0, none⟩ = some (.slice (some ⟨g, 0, none⟩) z cap) ∧ wx.cell? ⟨w.heap.size, 0, none⟩ = some (.int .i64 9) ∧ wx.cell? ⟨w.heap.size, 1, none⟩ = some (.bool x) ∧ wx.cell? ⟨w.heap.size, 2, none⟩ = some (.int .i64 m) ∧ wx.cell? ⟨w.heap.size, 3, none⟩ = some (.int .i64 a) ∧ wx.cell? ⟨w.heap.size, 4, none⟩ = some (.int .i64 l) ∧ wx.cell? ⟨w.heap.size, 5, none⟩ = some (.string s))
    (first | exact go.out | go_keep)
    (first | (go_at_call 109; refine (hm.out _).mono ?_; rintro e wc ⟨rfl, kc⟩; replace gb := Lib.hid (below_and gb.out kc); replace go := Lib.hid (go.out.later kc); replace gg := Lib.hid (cell_later kc gg.out); replace gp := Lib.hid ((kc.block _ (blk_lt gp.out)).trans gp.out)))
  go_wp2_with fail
  have hgg := gg.out
  go_quiet (fail)
  go_wp2_with fail
  refine (hr.out _ (below_and gb.out (below_drewN _ _))).mono ?_
  rintro e wd ⟨rfl, kd⟩
  replace kd := Lib.hid kd
  have gq : Hid (wd.heap[w.heap.size + 1]? = some (.cells #[.nilIface, .int .i64 0, .int .i64 0] 101 (0, 0))) := Lib.hid ((kd.out.block _ (blk_lt gp.out)).trans gp.out)
  replace gb := Lib.hid (below_and (below_and gb.out (below_drewN _ _)) kd.out)
  obtain ⟨p0, p1, p2, f0, f1, f2⟩ := cells3 gq.out
  cases y
  · go_wp2
    (try simp only [Exit.inBlock, Exit.then])
    exact bodyPost_ret (ret_cell rfl _ _ _ _ _ _ _ _ rfl rfl (set3 gq.out _ _ _) Try.underlying101 rfl (by kernel_rfl)) rfl ⟨rfl, set3_below gb.out (by omega) _ _ _⟩
  · go_wp2
    (try simp only [Exit.inBlock, Exit.then])
    exact bodyPost_ret (ret_cell rfl _ _ _ _ _ _ _ _ rfl rfl (set3 gq.out _ _ _) Try.underlying101 rfl (by kernel_rfl)) rfl ⟨rfl, set3_below gb.out (by omega) _ _ _⟩

set_option maxHeartbeats 1000000 in
set_option maxRecDepth 100000 in
theorem find_walk_8_95 (hb g m r : Nat) (a l u v : Int) (x y : Bool) (s : ByteArray) (z cap : Nat) (w : World) (h0 : w.cell? ⟨hb, 0, none⟩ = some (.slice (some ⟨g, 0, none⟩) z cap)) (hg : w.cell? ⟨g, m, none⟩ = some (.iface 141 (ptr r))) (hn : (m : Int) < z) (hn0 : (0 : Int) ≤ m)
    (hm : Hid (∀ w, Calls Try.prog 109 #[obV 8 x m a l s] w fun e w' => e = .returned (.bool true) ∧ Below w.heap.size w w'))
    (hr : Hid (∀ wx, Below w.heap.size w wx → Calls Try.prog 153 #[ptr r, obV 8 x m a l s] wx fun e w' => e = .returned (.tuple #[.int .i64 u, .int .i64 v, .bool y]) ∧ Below wx.heap.size wx w')) :
    Calls Try.prog 71 #[ptr hb, obV 8 x m a l s] w fun e w' => e = .returned (.tuple #[if y = true then pcV (.iface 141 (ptr r)) u v else pcV .nilIface 0 0, .int .i64 (if y = true then 0 else 1)]) ∧ Below w.heap.size w w' := by
  have hme := method_reach95
  go_enter Try.func71, Try.ntmps71
  go_wp2
  obtain ⟨wb, eb, kb, ob, pb⟩ := find_box w 8 m a l x s
  rw [eb]
  have gb := Lib.hid kb.drew
  have go : Hid (Stay wb.drew hb (.slice (some ⟨g, 0, none⟩) z cap) w.heap.size 8 x m a l s) := Lib.hid ⟨cell_later kb.drew h0, ob⟩
  have gp : Hid (wb.drew.heap[w.heap.size + 1]? = some (.cells #[.nilIface, .int .i64 0, .int .i64 0] 101 (0, 0))) := Lib.hid pb
  have gg : Hid (wb.drew.cell? ⟨g, m, none⟩ = some (.iface 141 (ptr r))) := Lib.hid (cell_later kb.drew hg)
  have st := go.out
  obtain ⟨c0, d0, d1, d2, d3, d4, d5⟩ := st
  clear eb kb h0 ob pb hg
  go_region_held3 (fun wx => wx.cell? ⟨hb, 0, none⟩ = some (.slice (some ⟨g, 0, none⟩) z cap) ∧ wx.cell? ⟨w.heap.size, 0, none⟩ = some (.int .i64 8) ∧ wx.cell? ⟨w.heap.size, 1, none⟩ = some (.bool x) ∧ wx.cell? ⟨w.heap.size, 2, none⟩ = some (.int .i64 m) ∧ wx.cell? ⟨w.heap.size, 3, none⟩ = some (.int .i64 a) ∧ wx.cell? ⟨w.heap.size, 4, none⟩ = some (.int .i64 l) ∧ wx.cell? ⟨w.heap.size, 5, none⟩ = some (.string s))
    (first | exact go.out | go_keep)
    (first | (go_at_call 109; refine (hm.out _).mono ?_; rintro e wc ⟨rfl, kc⟩; replace gb := Lib.hid (below_and gb.out kc); replace go := Lib.hid (go.out.later kc); replace gg := Lib.hid (cell_later kc gg.out); replace gp := Lib.hid ((kc.block _ (blk_lt gp.out)).trans gp.out)))
  go_wp2_with fail
  have hgg := gg.out
  go_quiet (fail)
  go_wp2_with fail
  refine (hr.out _ (below_and gb.out (below_drewN _ _))).mono ?_
  rintro e wd ⟨rfl, kd⟩
  replace kd := Lib.hid kd
  have gq : Hid (wd.heap[w.heap.size + 1]? = some (.cells #[.nilIface, .int .i64 0, .int .i64 0] 101 (0, 0))) := Lib.hid ((kd.out.block _ (blk_lt gp.out)).trans gp.out)
  replace gb := Lib.hid (below_and (below_and gb.out (below_drewN _ _)) kd.out)
  obtain ⟨p0, p1, p2, f0, f1, f2⟩ := cells3 gq.out
  cases y
  · go_wp2
    (try simp only [Exit.inBlock, Exit.then])
    exact bodyPost_ret (ret_cell rfl _ _ _ _ _ _ _ _ rfl rfl (set3 gq.out _ _ _) Try.underlying101 rfl (by kernel_rfl)) rfl ⟨rfl, set3_below gb.out (by omega) _ _ _⟩
  · go_wp2
    (try simp only [Exit.inBlock, Exit.then])
    exact bodyPost_ret (ret_cell rfl _ _ _ _ _ _ _ _ rfl rfl (set3 gq.out _ _ _) Try.underlying101 rfl (by kernel_rfl)) rfl ⟨rfl, set3_below gb.out (by omega) _ _ _⟩

set_option maxHeartbeats 1000000 in
set_option maxRecDepth 100000 in
theorem find_walk_10_95 (hb g m r : Nat) (a l u v : Int) (x y : Bool) (s : ByteArray) (z cap : Nat) (w : World) (h0 : w.cell? ⟨hb, 0, none⟩ = some (.slice (some ⟨g, 0, none⟩) z cap)) (hg : w.cell? ⟨g, m, none⟩ = some (.iface 141 (ptr r))) (hn : (m : Int) < z) (hn0 : (0 : Int) ≤ m)
    (hm : Hid (∀ w, Calls Try.prog 109 #[obV 10 x m a l s] w fun e w' => e = .returned (.bool true) ∧ Below w.heap.size w w'))
    (hr : Hid (∀ wx, Below w.heap.size w wx → Calls Try.prog 153 #[ptr r, obV 10 x m a l s] wx fun e w' => e = .returned (.tuple #[.int .i64 u, .int .i64 v, .bool y]) ∧ Below wx.heap.size wx w')) :
    Calls Try.prog 71 #[ptr hb, obV 10 x m a l s] w fun e w' => e = .returned (.tuple #[if y = true then pcV (.iface 141 (ptr r)) u v else pcV .nilIface 0 0, .int .i64 (if y = true then 0 else 1)]) ∧ Below w.heap.size w w' := by
  have hme := method_reach95
  go_enter Try.func71, Try.ntmps71
  go_wp2
  obtain ⟨wb, eb, kb, ob, pb⟩ := find_box w 10 m a l x s
  rw [eb]
  have gb := Lib.hid kb.drew
  have go : Hid (Stay wb.drew hb (.slice (some ⟨g, 0, none⟩) z cap) w.heap.size 10 x m a l s) := Lib.hid ⟨cell_later kb.drew h0, ob⟩
  have gp : Hid (wb.drew.heap[w.heap.size + 1]? = some (.cells #[.nilIface, .int .i64 0, .int .i64 0] 101 (0, 0))) := Lib.hid pb
  have gg : Hid (wb.drew.cell? ⟨g, m, none⟩ = some (.iface 141 (ptr r))) := Lib.hid (cell_later kb.drew hg)
  have st := go.out
  obtain ⟨c0, d0, d1, d2, d3, d4, d5⟩ := st
  clear eb kb h0 ob pb hg
  go_region_held3 (fun wx => wx.cell? ⟨hb, 0, none⟩ = some (.slice (some ⟨g, 0, none⟩) z cap) ∧ wx.cell? ⟨w.heap.size, 0, none⟩ = some (.int .i64 10) ∧ wx.cell? ⟨w.heap.size, 1, none⟩ = some (.bool x) ∧ wx.cell? ⟨w.heap.size, 2, none⟩ = some (.int .i64 m) ∧ wx.cell? ⟨w.heap.size, 3, none⟩ = some (.int .i64 a) ∧ wx.cell? ⟨w.heap.size, 4, none⟩ = some (.int .i64 l) ∧ wx.cell? ⟨w.heap.size, 5, none⟩ = some (.string s))
    (first | exact go.out | go_keep)
    (first | (go_at_call 109; refine (hm.out _).mono ?_; rintro e wc ⟨rfl, kc⟩; replace gb := Lib.hid (below_and gb.out kc); replace go := Lib.hid (go.out.later kc); replace gg := Lib.hid (cell_later kc gg.out); replace gp := Lib.hid ((kc.block _ (blk_lt gp.out)).trans gp.out)))
  go_wp2_with fail
  have hgg := gg.out
  go_quiet (fail)
  go_wp2_with fail
  refine (hr.out _ (below_and gb.out (below_drewN _ _))).mono ?_
  rintro e wd ⟨rfl, kd⟩
  replace kd := Lib.hid kd
  have gq : Hid (wd.heap[w.heap.size + 1]? = some (.cells #[.nilIface, .int .i64 0, .int .i64 0] 101 (0, 0))) := Lib.hid ((kd.out.block _ (blk_lt gp.out)).trans gp.out)
  replace gb := Lib.hid (below_and (below_and gb.out (below_drewN _ _)) kd.out)
  obtain ⟨p0, p1, p2, f0, f1, f2⟩ := cells3 gq.out
  cases y
  · go_wp2
    (try simp only [Exit.inBlock, Exit.then])
    exact bodyPost_ret (ret_cell rfl _ _ _ _ _ _ _ _ rfl rfl (set3 gq.out _ _ _) Try.underlying101 rfl (by kernel_rfl)) rfl ⟨rfl, set3_below gb.out (by omega) _ _ _⟩
  · go_wp2
    (try simp only [Exit.inBlock, Exit.then])
    exact bodyPost_ret (ret_cell rfl _ _ _ _ _ _ _ _ rfl rfl (set3 gq.out _ _ _) Try.underlying101 rfl (by kernel_rfl)) rfl ⟨rfl, set3_below gb.out (by omega) _ _ _⟩

end Go.Proofs.Ytmlkmgeddkpgiaa
