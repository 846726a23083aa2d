/- Y06: K6, K7, K8, K9. -/
import Derived.Test.YtlkbnldpecolbaaY05
import Derived.OwnWalk
import Derived.OneCell
/- Walks of heap: find where the object lies in a cell of items. -/
namespace Go.Proofs.Ytlkbnldpecolbaa
open Go.RowKit
set_option linter.unusedVariables false

theorem method_reach87 (r : Nat) (w : World) : (method 270 113 (ptr r) "tympan/heap.reach").run Try.prog w = .ok (129, ptr r) w := by kernel_rfl

set_option maxHeartbeats 1000000 in
set_option maxRecDepth 100000 in
theorem find_walk_9_87 (hb g m r : Nat) (a l u v : Int) (x y : Bool) (s : ByteArray) (z cap : Nat) (w : World) (h0 : w.cell? ⟨hb, 0, none⟩ = some (.slice (some ⟨g, 0, none⟩) z cap)) (hg : w.cell? ⟨g, m, none⟩ = some (.iface 113 (ptr r))) (hn : (m : Int) < z) (hn0 : (0 : Int) ≤ m)
    (hm : Hid (∀ w, Calls Try.prog 80 #[obV 9 x m a l s] w fun e w' => e = .returned (.bool true) ∧ Below w.heap.size w w'))
    (hr : Hid (∀ wx, Below w.heap.size w wx → Calls Try.prog 129 #[ptr r, obV 9 x m a l s] wx fun e w' => e = .returned (.tuple #[.int .i64 u, .int .i64 v, .bool y]) ∧ Below wx.heap.size wx w')) :
    Calls Try.prog 81 #[ptr hb, obV 9 x m a l s] w fun e w' => e = .returned (.tuple #[if y = true then pcV (.iface 113 (ptr r)) u v else pcV .nilIface 0 0, .int .i64 (if y = true then 0 else 1)]) ∧ Below w.heap.size w w' := by
  have hme := method_reach87
  go_enter Try.func81, Try.ntmps81
  go_wp2
  obtain ⟨wb, eb, kb, ob, pb⟩ := find_box w 9 m a l x s
  rw [eb]
  have gb := Lib.hid kb.drew
  have go : Hid (Stay wb.drew hb (.slice (some ⟨g, 0, none⟩) z cap) w.heap.size 9 x m a l s) := Lib.hid ⟨cell_later kb.drew h0, ob⟩
  have gp : Hid (wb.drew.heap[w.heap.size + 1]? = some (.cells #[.nilIface, .int .i64 0, .int .i64 0] 121 (0, 0))) := Lib.hid pb
  have gg : Hid (wb.drew.cell? ⟨g, m, none⟩ = some (.iface 113 (ptr r))) := Lib.hid (cell_later kb.drew hg)
  have st := go.out
  obtain ⟨c0, d0, d1, d2, d3, d4, d5⟩ := st
  clear eb kb h0 ob pb hg
  go_region_held3 (fun wx => wx.cell? ⟨hb, 0, none⟩ = some (.slice (some ⟨g, 0, none⟩) z cap) ∧ wx.cell? ⟨w.heap.size, 0, none⟩ = some (.int .i64 9) ∧ wx.cell? ⟨w.heap.size, 1, none⟩ = some (.bool x) ∧ wx.cell? ⟨w.heap.size, 2, none⟩ = some (.int .i64 m) ∧ wx.cell? ⟨w.heap.size, 3, none⟩ = some (.int .i64 a) ∧ wx.cell? ⟨w.heap.size, 4, none⟩ = some (.int .i64 l) ∧ wx.cell? ⟨w.heap.size, 5, none⟩ = some (.string s))
    (first | exact go.out | go_keep)
    (first | (go_at_call 80; refine (hm.out _).mono ?_; rintro e wc ⟨rfl, kc⟩; replace gb := Lib.hid (below_and gb.out kc); replace go := Lib.hid (go.out.later kc); replace gg := Lib.hid (cell_later kc gg.out); replace gp := Lib.hid ((kc.block _ (blk_lt gp.out)).trans gp.out)))
  go_wp2_with fail
  have hgg := gg.out
  go_quiet (fail)
  go_wp2_with fail
  refine (hr.out _ (below_and gb.out (below_drewN _ _))).mono ?_
  rintro e wd ⟨rfl, kd⟩
  replace kd := Lib.hid kd
  have gq : Hid (wd.heap[w.heap.size + 1]? = some (.cells #[.nilIface, .int .i64 0, .int .i64 0] 121 (0, 0))) := Lib.hid ((kd.out.block _ (blk_lt gp.out)).trans gp.out)
  replace gb := Lib.hid (below_and (below_and gb.out (below_drewN _ _)) kd.out)
  obtain ⟨p0, p1, p2, f0, f1, f2⟩ := cells3 gq.out
  cases y
  · go_wp2
    (try simp only [Exit.inBlock, Exit.then])
    exact bodyPost_ret (ret_cell rfl _ _ _ _ _ _ _ _ rfl rfl (set3 gq.out _ _ _) Try.underlying121 rfl (by kernel_rfl)) rfl ⟨rfl, set3_below gb.out (by omega) _ _ _⟩
  · go_wp2
    (try simp only [Exit.inBlock, Exit.then])
    exact bodyPost_ret (ret_cell rfl _ _ _ _ _ _ _ _ rfl rfl (set3 gq.out _ _ _) Try.underlying121 rfl (by kernel_rfl)) rfl ⟨rfl, set3_below gb.out (by omega) _ _ _⟩

set_option maxHeartbeats 1000000 in
set_option maxRecDepth 100000 in
theorem find_walk_8_87 (hb g m r : Nat) (a l u v : Int) (x y : Bool) (s : ByteArray) (z cap : Nat) (w : World) (h0 : w.cell? ⟨hb, 0, none⟩ = some (.slice (some ⟨g, 0, none⟩) z cap)) (hg : w.cell? ⟨g, m, none⟩ = some (.iface 113 (ptr r))) (hn : (m : Int) < z) (hn0 : (0 : Int) ≤ m)
    (hm : Hid (∀ w, Calls Try.prog 80 #[obV 8 x m a l s] w fun e w' => e = .returned (.bool true) ∧ Below w.heap.size w w'))
    (hr : Hid (∀ wx, Below w.heap.size w wx → Calls Try.prog 129 #[ptr r, obV 8 x m a l s] wx fun e w' => e = .returned (.tuple #[.int .i64 u, .int .i64 v, .bool y]) ∧ Below wx.heap.size wx w')) :
    Calls Try.prog 81 #[ptr hb, obV 8 x m a l s] w fun e w' => e = .returned (.tuple #[if y = true then pcV (.iface 113 (ptr r)) u v else pcV .nilIface 0 0, .int .i64 (if y = true then 0 else 1)]) ∧ Below w.heap.size w w' := by
  have hme := method_reach87
  go_enter Try.func81, Try.ntmps81
  go_wp2
  obtain ⟨wb, eb, kb, ob, pb⟩ := find_box w 8 m a l x s
  rw [eb]
  have gb := Lib.hid kb.drew
  have go : Hid (Stay wb.drew hb (.slice (some ⟨g, 0, none⟩) z cap) w.heap.size 8 x m a l s) := Lib.hid ⟨cell_later kb.drew h0, ob⟩
  have gp : Hid (wb.drew.heap[w.heap.size + 1]? = some (.cells #[.nilIface, .int .i64 0, .int .i64 0] 121 (0, 0))) := Lib.hid pb
  have gg : Hid (wb.drew.cell? ⟨g, m, none⟩ = some (.iface 113 (ptr r))) := Lib.hid (cell_later kb.drew hg)
  have st := go.out
  obtain ⟨c0, d0, d1, d2, d3, d4, d5⟩ := st
  clear eb kb h0 ob pb hg
  go_region_held3 (fun wx => wx.cell? ⟨hb, 0, none⟩ = some (.slice (some ⟨g, 0, none⟩) z cap) ∧ wx.cell? ⟨w.heap.size, 0, none⟩ = some (.int .i64 8) ∧ wx.cell? ⟨w.heap.size, 1, none⟩ = some (.bool x) ∧ wx.cell? ⟨w.heap.size, 2, none⟩ = some (.int .i64 m) ∧ wx.cell? ⟨w.heap.size, 3, none⟩ = some (.int .i64 a) ∧ wx.cell? ⟨w.heap.size, 4, none⟩ = some (.int .i64 l) ∧ wx.cell? ⟨w.heap.size, 5, none⟩ = some (.string s))
    (first | exact go.out | go_keep)
    (first | (go_at_call 80; refine (hm.out _).mono ?_; rintro e wc ⟨rfl, kc⟩; replace gb := Lib.hid (below_and gb.out kc); replace go := Lib.hid (go.out.later kc); replace gg := Lib.hid (cell_later kc gg.out); replace gp := Lib.hid ((kc.block _ (blk_lt gp.out)).trans gp.out)))
  go_wp2_with fail
  have hgg := gg.out
  go_quiet (fail)
  go_wp2_with fail
  refine (hr.out _ (below_and gb.out (below_drewN _ _))).mono ?_
  rintro e wd ⟨rfl, kd⟩
  replace kd := Lib.hid kd
  have gq : Hid (wd.heap[w.heap.size + 1]? = some (.cells #[.nilIface, .int .i64 0, .int .i64 0] 121 (0, 0))) := Lib.hid ((kd.out.block _ (blk_lt gp.out)).trans gp.out)
  replace gb := Lib.hid (below_and (below_and gb.out (below_drewN _ _)) kd.out)
  obtain ⟨p0, p1, p2, f0, f1, f2⟩ := cells3 gq.out
  cases y
  · go_wp2
    (try simp only [Exit.inBlock, Exit.then])
    exact bodyPost_ret (ret_cell rfl _ _ _ _ _ _ _ _ rfl rfl (set3 gq.out _ _ _) Try.underlying121 rfl (by kernel_rfl)) rfl ⟨rfl, set3_below gb.out (by omega) _ _ _⟩
  · go_wp2
    (try simp only [Exit.inBlock, Exit.then])
    exact bodyPost_ret (ret_cell rfl _ _ _ _ _ _ _ _ rfl rfl (set3 gq.out _ _ _) Try.underlying121 rfl (by kernel_rfl)) rfl ⟨rfl, set3_below gb.out (by omega) _ _ _⟩

set_option maxHeartbeats 1000000 in
set_option maxRecDepth 100000 in
theorem find_walk_10_87 (hb g m r : Nat) (a l u v : Int) (x y : Bool) (s : ByteArray) (z cap : Nat) (w : World) (h0 : w.cell? ⟨hb, 0, none⟩ = some (.slice (some ⟨g, 0, none⟩) z cap)) (hg : w.cell? ⟨g, m, none⟩ = some (.iface 113 (ptr r))) (hn : (m : Int) < z) (hn0 : (0 : Int) ≤ m)
    (hm : Hid (∀ w, Calls Try.prog 80 #[obV 10 x m a l s] w fun e w' => e = .returned (.bool true) ∧ Below w.heap.size w w'))
    (hr : Hid (∀ wx, Below w.heap.size w wx → Calls Try.prog 129 #[ptr r, obV 10 x m a l s] wx fun e w' => e = .returned (.tuple #[.int .i64 u, .int .i64 v, .bool y]) ∧ Below wx.heap.size wx w')) :
    Calls Try.prog 81 #[ptr hb, obV 10 x m a l s] w fun e w' => e = .returned (.tuple #[if y = true then pcV (.iface 113 (ptr r)) u v else pcV .nilIface 0 0, .int .i64 (if y = true then 0 else 1)]) ∧ Below w.heap.size w w' := by
  have hme := method_reach87
  go_enter Try.func81, Try.ntmps81
  go_wp2
  obtain ⟨wb, eb, kb, ob, pb⟩ := find_box w 10 m a l x s
  rw [eb]
  have gb := Lib.hid kb.drew
  have go : Hid (Stay wb.drew hb (.slice (some ⟨g, 0, none⟩) z cap) w.heap.size 10 x m a l s) := Lib.hid ⟨cell_later kb.drew h0, ob⟩
  have gp : Hid (wb.drew.heap[w.heap.size + 1]? = some (.cells #[.nilIface, .int .i64 0, .int .i64 0] 121 (0, 0))) := Lib.hid pb
  have gg : Hid (wb.drew.cell? ⟨g, m, none⟩ = some (.iface 113 (ptr r))) := Lib.hid (cell_later kb.drew hg)
  have st := go.out
  obtain ⟨c0, d0, d1, d2, d3, d4, d5⟩ := st
  clear eb kb h0 ob pb hg
  go_region_held3 (fun wx => wx.cell? ⟨hb, 0, none⟩ = some (.slice (some ⟨g, 0, none⟩) z cap) ∧ wx.cell? ⟨w.heap.size, 0, none⟩ = some (.int .i64 10) ∧ wx.cell? ⟨w.heap.size, 1, none⟩ = some (.bool x) ∧ wx.cell? ⟨w.heap.size, 2, none⟩ = some (.int .i64 m) ∧ wx.cell? ⟨w.heap.size, 3, none⟩ = some (.int .i64 a) ∧ wx.cell? ⟨w.heap.size, 4, none⟩ = some (.int .i64 l) ∧ wx.cell? ⟨w.heap.size, 5, none⟩ = some (.string s))
    (first | exact go.out | go_keep)
    (first | (go_at_call 80; refine (hm.out _).mono ?_; rintro e wc ⟨rfl, kc⟩; replace gb := Lib.hid (below_and gb.out kc); replace go := Lib.hid (go.out.later kc); replace gg := Lib.hid (cell_later kc gg.out); replace gp := Lib.hid ((kc.block _ (blk_lt gp.out)).trans gp.out)))
  go_wp2_with fail
  have hgg := gg.out
  go_quiet (fail)
  go_wp2_with fail
  refine (hr.out _ (below_and gb.out (below_drewN _ _))).mono ?_
  rintro e wd ⟨rfl, kd⟩
  replace kd := Lib.hid kd
  have gq : Hid (wd.heap[w.heap.size + 1]? = some (.cells #[.nilIface, .int .i64 0, .int .i64 0] 121 (0, 0))) := Lib.hid ((kd.out.block _ (blk_lt gp.out)).trans gp.out)
  replace gb := Lib.hid (below_and (below_and gb.out (below_drewN _ _)) kd.out)
  obtain ⟨p0, p1, p2, f0, f1, f2⟩ := cells3 gq.out
  cases y
  · go_wp2
    (try simp only [Exit.inBlock, Exit.then])
    exact bodyPost_ret (ret_cell rfl _ _ _ _ _ _ _ _ rfl rfl (set3 gq.out _ _ _) Try.underlying121 rfl (by kernel_rfl)) rfl ⟨rfl, set3_below gb.out (by omega) _ _ _⟩
  · go_wp2
    (try simp only [Exit.inBlock, Exit.then])
    exact bodyPost_ret (ret_cell rfl _ _ _ _ _ _ _ _ rfl rfl (set3 gq.out _ _ _) Try.underlying121 rfl (by kernel_rfl)) rfl ⟨rfl, set3_below gb.out (by omega) _ _ _⟩

end Go.Proofs.Ytlkbnldpecolbaa

/- Walks of heap: find where the object lies in a cell of bytes. -/
namespace Go.Proofs.Ytlkbnldpecolbaa
open Go.RowKit
set_option linter.unusedVariables false

theorem method_reach95 (r : Nat) (w : World) : (method 270 134 (ptr r) "tympan/heap.reach").run Try.prog w = .ok (135, ptr r) w := by kernel_rfl

set_option maxHeartbeats 1000000 in
set_option maxRecDepth 100000 in
theorem find_walk_9_95 (hb g m r : Nat) (a l u v : Int) (x y : Bool) (s : ByteArray) (z cap : Nat) (w : World) (h0 : w.cell? ⟨hb, 0, none⟩ = some (.slice (some ⟨g, 0, none⟩) z cap)) (hg : w.cell? ⟨g, m, none⟩ = some (.iface 134 (ptr r))) (hn : (m : Int) < z) (hn0 : (0 : Int) ≤ m)
    (hm : Hid (∀ w, Calls Try.prog 80 #[obV 9 x m a l s] w fun e w' => e = .returned (.bool true) ∧ Below w.heap.size w w'))
    (hr : Hid (∀ wx, Below w.heap.size w wx → Calls Try.prog 135 #[ptr r, obV 9 x m a l s] wx fun e w' => e = .returned (.tuple #[.int .i64 u, .int .i64 v, .bool y]) ∧ Below wx.heap.size wx w')) :
    Calls Try.prog 81 #[ptr hb, obV 9 x m a l s] w fun e w' => e = .returned (.tuple #[if y = true then pcV (.iface 134 (ptr r)) u v else pcV .nilIface 0 0, .int .i64 (if y = true then 0 else 1)]) ∧ Below w.heap.size w w' := by
  have hme := method_reach95
  go_enter Try.func81, Try.ntmps81
  go_wp2
  obtain ⟨wb, eb, kb, ob, pb⟩ := find_box w 9 m a l x s
  rw [eb]
  have gb := Lib.hid kb.drew
  have go : Hid (Stay wb.drew hb (.slice (some ⟨g, 0, none⟩) z cap) w.heap.size 9 x m a l s) := Lib.hid ⟨cell_later kb.drew h0, ob⟩
  have gp : Hid (wb.drew.heap[w.heap.size + 1]? = some (.cells #[.nilIface, .int .i64 0, .int .i64 0] 121 (0, 0))) := Lib.hid pb
  have gg : Hid (wb.drew.cell? ⟨g, m, none⟩ = some (.iface 134 (ptr r))) := Lib.hid (cell_later kb.drew hg)
  have st := go.out
  obtain ⟨c0, d0, d1, d2, d3, d4, d5⟩ := st
  clear eb kb h0 ob pb hg
  go_region_held3 (fun wx => wx.cell? ⟨hb, 0, none⟩ = some (.slice (some ⟨g, 0, none⟩) z cap) ∧ wx.cell? ⟨w.heap.size, 0, none⟩ = some (.int .i64 9) ∧ wx.cell? ⟨w.heap.size, 1, none⟩ = some (.bool x) ∧ wx.cell? ⟨w.heap.size, 2, none⟩ = some (.int .i64 m) ∧ wx.cell? ⟨w.heap.size, 3, none⟩ = some (.int .i64 a) ∧ wx.cell? ⟨w.heap.size, 4, none⟩ = some (.int .i64 l) ∧ wx.cell? ⟨w.heap.size, 5, none⟩ = some (.string s))
    (first | exact go.out | go_keep)
    (first | (go_at_call 80; refine (hm.out _).mono ?_; rintro e wc ⟨rfl, kc⟩; replace gb := Lib.hid (below_and gb.out kc); replace go := Lib.hid (go.out.later kc); replace gg := Lib.hid (cell_later kc gg.out); replace gp := Lib.hid ((kc.block _ (blk_lt gp.out)).trans gp.out)))
  go_wp2_with fail
  have hgg := gg.out
  go_quiet (fail)
  go_wp2_with fail
  refine (hr.out _ (below_and gb.out (below_drewN _ _))).mono ?_
  rintro e wd ⟨rfl, kd⟩
  replace kd := Lib.hid kd
  have gq : Hid (wd.heap[w.heap.size + 1]? = some (.cells #[.nilIface, .int .i64 0, .int .i64 0] 121 (0, 0))) := Lib.hid ((kd.out.block _ (blk_lt gp.out)).trans gp.out)
  replace gb := Lib.hid (below_and (below_and gb.out (below_drewN _ _)) kd.out)
  obtain ⟨p0, p1, p2, f0, f1, f2⟩ := cells3 gq.out
  cases y
  · go_wp2
    (try simp only [Exit.inBlock, Exit.then])
    exact bodyPost_ret (ret_cell rfl _ _ _ _ _ _ _ _ rfl rfl (set3 gq.out _ _ _) Try.underlying121 rfl (by kernel_rfl)) rfl ⟨rfl, set3_below gb.out (by omega) _ _ _⟩
  · go_wp2
    (try simp only [Exit.inBlock, Exit.then])
    exact bodyPost_ret (ret_cell rfl _ _ _ _ _ _ _ _ rfl rfl (set3 gq.out _ _ _) Try.underlying121 rfl (by kernel_rfl)) rfl ⟨rfl, set3_below gb.out (by omega) _ _ _⟩

set_option maxHeartbeats 1000000 in
set_option maxRecDepth 100000 in
theorem find_walk_8_95 (hb g m r : Nat) (a l u v : Int) (x y : Bool) (s : ByteArray) (z cap : Nat) (w : World) (h0 : w.cell? ⟨hb, 0, none⟩ = some (.slice (some ⟨g, 0, none⟩) z cap)) (hg : w.cell? ⟨g, m, none⟩ = some (.iface 134 (ptr r))) (hn : (m : Int) < z) (hn0 : (0 : Int) ≤ m)
    (hm : Hid (∀ w, Calls Try.prog 80 #[obV 8 x m a l s] w fun e w' => e = .returned (.bool true) ∧ Below w.heap.size w w'))
    (hr : Hid (∀ wx, Below w.heap.size w wx → Calls Try.prog 135 #[ptr r, obV 8 x m a l s] wx fun e w' => e = .returned (.tuple #[.int .i64 u, .int .i64 v, .bool y]) ∧ Below wx.heap.size wx w')) :
    Calls Try.prog 81 #[ptr hb, obV 8 x m a l s] w fun e w' => e = .returned (.tuple #[if y = true then pcV (.iface 134 (ptr r)) u v else pcV .nilIface 0 0, .int .i64 (if y = true then 0 else 1)]) ∧ Below w.heap.size w w' := by
  have hme := method_reach95
  go_enter Try.func81, Try.ntmps81
  go_wp2
  obtain ⟨wb, eb, kb, ob, pb⟩ := find_box w 8 m a l x s
  rw [eb]
  have gb := Lib.hid kb.drew
  have go : Hid (Stay wb.drew hb (.slice (some ⟨g, 0, none⟩) z cap) w.heap.size 8 x m a l s) := Lib.hid ⟨cell_later kb.drew h0, ob⟩
  have gp : Hid (wb.drew.heap[w.heap.size + 1]? = some (.cells #[.nilIface, .int .i64 0, .int .i64 0] 121 (0, 0))) := Lib.hid pb
  have gg : Hid (wb.drew.cell? ⟨g, m, none⟩ = some (.iface 134 (ptr r))) := Lib.hid (cell_later kb.drew hg)
  have st := go.out
  obtain ⟨c0, d0, d1, d2, d3, d4, d5⟩ := st
  clear eb kb h0 ob pb hg
  go_region_held3 (fun wx => wx.cell? ⟨hb, 0, none⟩ = some (.slice (some ⟨g, 0, none⟩) z cap) ∧ wx.cell? ⟨w.heap.size, 0, none⟩ = some (.int .i64 8) ∧ wx.cell? ⟨w.heap.size, 1, none⟩ = some (.bool x) ∧ wx.cell? ⟨w.heap.size, 2, none⟩ = some (.int .i64 m) ∧ wx.cell? ⟨w.heap.size, 3, none⟩ = some (.int .i64 a) ∧ wx.cell? ⟨w.heap.size, 4, none⟩ = some (.int .i64 l) ∧ wx.cell? ⟨w.heap.size, 5, none⟩ = some (.string s))
    (first | exact go.out | go_keep)
    (first | (go_at_call 80; refine (hm.out _).mono ?_; rintro e wc ⟨rfl, kc⟩; replace gb := Lib.hid (below_and gb.out kc); replace go := Lib.hid (go.out.later kc); replace gg := Lib.hid (cell_later kc gg.out); replace gp := Lib.hid ((kc.block _ (blk_lt gp.out)).trans gp.out)))
  go_wp2_with fail
  have hgg := gg.out
  go_quiet (fail)
  go_wp2_with fail
  refine (hr.out _ (below_and gb.out (below_drewN _ _))).mono ?_
  rintro e wd ⟨rfl, kd⟩
  replace kd := Lib.hid kd
  have gq : Hid (wd.heap[w.heap.size + 1]? = some (.cells #[.nilIface, .int .i64 0, .int .i64 0] 121 (0, 0))) := Lib.hid ((kd.out.block _ (blk_lt gp.out)).trans gp.out)
  replace gb := Lib.hid (below_and (below_and gb.out (below_drewN _ _)) kd.out)
  obtain ⟨p0, p1, p2, f0, f1, f2⟩ := cells3 gq.out
  cases y
  · go_wp2
    (try simp only [Exit.inBlock, Exit.then])
    exact bodyPost_ret (ret_cell rfl _ _ _ _ _ _ _ _ rfl rfl (set3 gq.out _ _ _) Try.underlying121 rfl (by kernel_rfl)) rfl ⟨rfl, set3_below gb.out (by omega) _ _ _⟩
  · go_wp2
    (try simp only [Exit.inBlock, Exit.then])
    exact bodyPost_ret (ret_cell rfl _ _ _ _ _ _ _ _ rfl rfl (set3 gq.out _ _ _) Try.underlying121 rfl (by kernel_rfl)) rfl ⟨rfl, set3_below gb.out (by omega) _ _ _⟩

set_option maxHeartbeats 1000000 in
set_option maxRecDepth 100000 in
theorem find_walk_10_95 (hb g m r : Nat) (a l u v : Int) (x y : Bool) (s : ByteArray) (z cap : Nat) (w : World) (h0 : w.cell? ⟨hb, 0, none⟩ = some (.slice (some ⟨g, 0, none⟩) z cap)) (hg : w.cell? ⟨g, m, none⟩ = some (.iface 134 (ptr r))) (hn : (m : Int) < z) (hn0 : (0 : Int) ≤ m)
    (hm : Hid (∀ w, Calls Try.prog 80 #[obV 10 x m a l s] w fun e w' => e = .returned (.bool true) ∧ Below w.heap.size w w'))
    (hr : Hid (∀ wx, Below w.heap.size w wx → Calls Try.prog 135 #[ptr r, obV 10 x m a l s] wx fun e w' => e = .returned (.tuple #[.int .i64 u, .int .i64 v, .bool y]) ∧ Below wx.heap.size wx w')) :
    Calls Try.prog 81 #[ptr hb, obV 10 x m a l s] w fun e w' => e = .returned (.tuple #[if y = true then pcV (.iface 134 (ptr r)) u v else pcV .nilIface 0 0, .int .i64 (if y = true then 0 else 1)]) ∧ Below w.heap.size w w' := by
  have hme := method_reach95
  go_enter Try.func81, Try.ntmps81
  go_wp2
  obtain ⟨wb, eb, kb, ob, pb⟩ := find_box w 10 m a l x s
  rw [eb]
  have gb := Lib.hid kb.drew
  have go : Hid (Stay wb.drew hb (.slice (some ⟨g, 0, none⟩) z cap) w.heap.size 10 x m a l s) := Lib.hid ⟨cell_later kb.drew h0, ob⟩
  have gp : Hid (wb.drew.heap[w.heap.size + 1]? = some (.cells #[.nilIface, .int .i64 0, .int .i64 0] 121 (0, 0))) := Lib.hid pb
  have gg : Hid (wb.drew.cell? ⟨g, m, none⟩ = some (.iface 134 (ptr r))) := Lib.hid (cell_later kb.drew hg)
  have st := go.out
  obtain ⟨c0, d0, d1, d2, d3, d4, d5⟩ := st
  clear eb kb h0 ob pb hg
  go_region_held3 (fun wx => wx.cell? ⟨hb, 0, none⟩ = some (.slice (some ⟨g, 0, none⟩) z cap) ∧ wx.cell? ⟨w.heap.size, 0, none⟩ = some (.int .i64 10) ∧ wx.cell? ⟨w.heap.size, 1, none⟩ = some (.bool x) ∧ wx.cell? ⟨w.heap.size, 2, none⟩ = some (.int .i64 m) ∧ wx.cell? ⟨w.heap.size, 3, none⟩ = some (.int .i64 a) ∧ wx.cell? ⟨w.heap.size, 4, none⟩ = some (.int .i64 l) ∧ wx.cell? ⟨w.heap.size, 5, none⟩ = some (.string s))
    (first | exact go.out | go_keep)
    (first | (go_at_call 80; refine (hm.out _).mono ?_; rintro e wc ⟨rfl, kc⟩; replace gb := Lib.hid (below_and gb.out kc); replace go := Lib.hid (go.out.later kc); replace gg := Lib.hid (cell_later kc gg.out); replace gp := Lib.hid ((kc.block _ (blk_lt gp.out)).trans gp.out)))
  go_wp2_with fail
  have hgg := gg.out
  go_quiet (fail)
  go_wp2_with fail
  refine (hr.out _ (below_and gb.out (below_drewN _ _))).mono ?_
  rintro e wd ⟨rfl, kd⟩
  replace kd := Lib.hid kd
  have gq : Hid (wd.heap[w.heap.size + 1]? = some (.cells #[.nilIface, .int .i64 0, .int .i64 0] 121 (0, 0))) := Lib.hid ((kd.out.block _ (blk_lt gp.out)).trans gp.out)
  replace gb := Lib.hid (below_and (below_and gb.out (below_drewN _ _)) kd.out)
  obtain ⟨p0, p1, p2, f0, f1, f2⟩ := cells3 gq.out
  cases y
  · go_wp2
    (try simp only [Exit.inBlock, Exit.then])
    exact bodyPost_ret (ret_cell rfl _ _ _ _ _ _ _ _ rfl rfl (set3 gq.out _ _ _) Try.underlying121 rfl (by kernel_rfl)) rfl ⟨rfl, set3_below gb.out (by omega) _ _ _⟩
  · go_wp2
    (try simp only [Exit.inBlock, Exit.then])
    exact bodyPost_ret (ret_cell rfl _ _ _ _ _ _ _ _ rfl rfl (set3 gq.out _ _ _) Try.underlying121 rfl (by kernel_rfl)) rfl ⟨rfl, set3_below gb.out (by omega) _ _ _⟩

end Go.Proofs.Ytlkbnldpecolbaa

/- Walks of heap: find, for every object. -/
namespace Go.Proofs.Ytlkbnldpecolbaa
open Go.RowKit
set_option linter.unusedVariables false

def celT (c : Cel) : TypeId := if c.k = 8 then 134 else 113
theorem PCell.iv {w : World} {iv : Value} {pb : Nat} {row : Value} {c : Cel} (h : PCell w iv pb row c) : iv = .iface (celT c) (ptr pb) := by
  rcases h with ⟨rfl, h⟩ | ⟨rfl, h⟩
  · have := h.kind
    rw [celT, if_neg (by omega)]
  · rw [celT, if_pos h.kind]
theorem PCell.later {w w' : World} {iv : Value} {pb : Nat} {row : Value} {c : Cel} (h : PCell w iv pb row c) (k : Below w.heap.size w w') : PCell w' iv pb row c := h.same (k.block _ h.lt) fun g _ hg => k.block _ hg

/-- Where the m-th cell's interface value lies. -/
theorem PH.ivAt {role : Nat → Nat × Nat} {c hb : Nat} {vc : Value} {ivs : List Value} {pb : Nat → Nat} {rv : Nat → Value} {P : List Cel} {w : World} (h : PH role c hb vc ivs pb rv P w) {m : Nat} {cl : Cel} (hm : P[m]? = some cl) :
    ∃ g cap, vc = .slice (some ⟨g, 0, none⟩) P.length cap ∧ w.cell? ⟨hb, 0, none⟩ = some (.slice (some ⟨g, 0, none⟩) P.length cap) ∧ w.cell? ⟨g, m, none⟩ = some (.iface (celT cl) (ptr (pb m))) ∧ PCell w (.iface (celT cl) (ptr (pb m))) (pb m) (rv m) cl := by
  have hl := (List.getElem?_eq_some_iff.1 hm).1
  obtain ⟨g, cap, rfl, _, _⟩ := h.crow.form (by omega)
  obtain ⟨iv, h1, h2, _⟩ := h.cell m cl hm
  have e := h2.iv
  subst e
  refine ⟨g, cap, rfl, ?_, ?_, h2⟩
  · rw [cellAt h.hblk]
    rfl
  · rw [h.crow.cellAt m (by omega), h1]

theorem may_is {o : Ob} {b : Bool} (h : o.may = b) : Hid (∀ w, Calls Try.prog 80 #[o.val] w fun e w' => e = .returned (.bool b) ∧ Below w.heap.size w w') := Lib.hid fun w => by
  have := may_any o.k o.n o.a o.l o.x o.s w
  unfold Ob.may at h
  rw [h] at this
  exact this

theorem may_n {o : Ob} (hc : comp o.k = true) (h : o.may = true) : 0 ≤ o.n ∧ 0 ≤ o.a ∧ o.a ≤ 40000 ∧ 0 ≤ o.l ∧ o.l ≤ 40000 := by
  have hc := comp_iff.1 hc
  unfold Ob.may mayO at h
  rcases hc with hc | hc | hc <;> simp [hc, pieceP, onlyP] at h ⊢ <;> omega

theorem find_far (hb : Nat) (o : Ob) (p : Option Addr) (z cap : Nat) (w : World) (hk : comp o.k = true) (h0 : w.cell? ⟨hb, 0, none⟩ = some (.slice p z cap)) (hn : (z : Int) ≤ o.n) (hm : o.may = true) :
    Calls Try.prog 81 #[ptr hb, o.val] w fun e w' => e = .returned (.tuple #[pcV .nilIface 0 0, .int .i64 1]) ∧ Below w.heap.size w w' := by
  have M := may_is hm
  obtain ⟨k, x, n, a, l, s⟩ := o
  rcases comp_iff.1 hk with rfl | rfl | rfl
  · exact find_far_9 hb n a l x s p z cap w h0 hn M
  · exact find_far_8 hb n a l x s p z cap w h0 hn M
  · exact find_far_10 hb n a l x s p z cap w h0 hn M

theorem find_walk (hb g m r T : Nat) (o : Ob) (u v : Int) (y : Bool) (z cap : Nat) (w : World) (hk : comp o.k = true) (h0 : w.cell? ⟨hb, 0, none⟩ = some (.slice (some ⟨g, 0, none⟩) z cap)) (hg : w.cell? ⟨g, m, none⟩ = some (.iface T (ptr r))) (hn : m < z) (hmn : o.n = m)
    (hT : T = 113 ∨ T = 134) (hm : o.may = true)
    (hr : Hid (∀ wx, Below w.heap.size w wx → Calls Try.prog (if T = 113 then 129 else 135) #[ptr r, o.val] wx fun e w' => e = .returned (.tuple #[.int .i64 u, .int .i64 v, .bool y]) ∧ Below wx.heap.size wx w')) :
    Calls Try.prog 81 #[ptr hb, o.val] w fun e w' => e = .returned (.tuple #[if y = true then pcV (.iface T (ptr r)) u v else pcV .nilIface 0 0, .int .i64 (if y = true then 0 else 1)]) ∧ Below w.heap.size w w' := by
  have M := may_is hm
  obtain ⟨k, x, n, a, l, s⟩ := o
  simp only at hmn
  subst hmn
  rcases hT with rfl | rfl <;> rcases comp_iff.1 hk with rfl | rfl | rfl
  · exact find_walk_9_87 hb g m r a l u v x y s z cap w h0 hg (by omega) (by omega) M hr
  · exact find_walk_8_87 hb g m r a l u v x y s z cap w h0 hg (by omega) (by omega) M hr
  · exact find_walk_10_87 hb g m r a l u v x y s z cap w h0 hg (by omega) (by omega) M hr
  · exact find_walk_9_95 hb g m r a l u v x y s z cap w h0 hg (by omega) (by omega) M hr
  · exact find_walk_8_95 hb g m r a l u v x y s z cap w h0 hg (by omega) (by omega) M hr
  · exact find_walk_10_95 hb g m r a l u v x y s z cap w h0 hg (by omega) (by omega) M hr

theorem celT_two (c : Cel) : celT c = 113 ∨ celT c = 134 := by
  unfold celT
  split
  · exact .inr rfl
  · exact .inl rfl

theorem reach_yes {w : World} {pb : Nat} {row : Value} {c : Cel} (h : PCell w (.iface (celT c) (ptr pb)) pb row c) (o : Ob) (hz : c.size ≤ 40000) (ha : 0 ≤ o.a) (ha' : o.a ≤ 40000) (hk : c.k = o.k) (hl : o.a + o.l ≤ c.size) :
    Calls Try.prog (if celT c = 113 then 129 else 135) #[ptr pb, o.val] w fun e w' => e = .returned (.tuple #[.int .i64 o.a, .int .i64 (if o.k = 10 then c.size else o.l), .bool true]) ∧ Below w.heap.size w w' := by
  rcases h with ⟨e, h⟩ | ⟨e, h⟩
  · have e : celT c = 113 := by injection e
    rw [if_pos e]
    exact ireach_yes h o hz ha ha' hk hl
  · have e : celT c = 134 := by injection e
    rw [e, if_neg (by decide)]
    exact breach_yes h o hz ha ha' hk hl
theorem reach_no {w : World} {pb : Nat} {row : Value} {c : Cel} (h : PCell w (.iface (celT c) (ptr pb)) pb row c) (o : Ob) (hz : c.size ≤ 40000) (ha : 0 ≤ o.a) (ha' : o.a ≤ 40000) (hno : ¬(c.k = o.k ∧ o.a + o.l ≤ c.size)) :
    Calls Try.prog (if celT c = 113 then 129 else 135) #[ptr pb, o.val] w fun e w' => e = .returned (.tuple #[.int .i64 0, .int .i64 0, .bool false]) ∧ Below w.heap.size w w' := by
  rcases h with ⟨e, h⟩ | ⟨e, h⟩
  · have e : celT c = 113 := by injection e
    rw [if_pos e]
    exact ireach_no h o hz ha ha' hno
  · have e : celT c = 134 := by injection e
    rw [e, if_neg (by decide)]
    exact breach_no h o hz ha ha' hno

section
variable {role : Nat → Nat × Nat} {c hb : Nat} {vc : Value} {ivs : List Value} {pb : Nat → Nat} {rv : Nat → Value} {P : List Cel} {w : World}

theorem find_ok (h : PH role c hb vc ivs pb rv P w) (o : Ob) (ho : okO P o = true) :
    Calls Try.prog 81 #[ptr hb, o.val] w fun e w' => e = .returned (.tuple #[pcV (.iface (celT (cellOf P o)) (ptr (pb o.n.toNat))) o.a (lenO P o), .int .i64 0]) ∧ Below w.heap.size w w' := by
  obtain ⟨h1, h2, _⟩ := okO_iff.1 ho
  obtain ⟨b0, b1, b2, b3, b4, b5, b6, b7, _⟩ := ok_bd ho
  have hc := cellOf_get (P := P) (o := o) b0 b1
  obtain ⟨g, cap, rfl, e0, e1, e2⟩ := h.ivAt hc
  have hz := h.wf.size hc
  have L : lenO P o = if o.k = 10 then ((cellOf P o).size : Int) else o.l := by simp [lenO, ho]
  rw [L]
  exact find_walk hb g o.n.toNat (pb o.n.toNat) (celT (cellOf P o)) o o.a _ true P.length cap w h1 e0 e1 (by omega) (by omega) (celT_two _) h2 (Lib.hid fun wx kx => reach_yes (e2.later kx) o hz b2 b3 b6 b7)

theorem find_no (h : PH role c hb vc ivs pb rv P w) (o : Ob) (ho : okO P o = false) :
    Calls Try.prog 81 #[ptr hb, o.val] w fun e w' => e = .returned (.tuple #[pcV .nilIface 0 0, .int .i64 (errO P o)]) ∧ Below w.heap.size w w' := by
  cases hk : comp o.k
  · have E : errO P o = 6 := by simp [errO, hk]
    have hk' : ¬ (o.k = 9 ∨ o.k = 8 ∨ o.k = 10) := fun hh => by
      rw [comp_iff.2 hh] at hk
      cases hk
    rw [E]
    exact find_type hb o.k o.n o.a o.l o.x o.s w (by omega) (by omega) (by omega)
  · have E : errO P o = 1 := by simp [errO, hk, ho]
    rw [E]
    cases hm : o.may
    · exact find_bad hb o.k o.n o.a o.l o.x o.s w (comp_iff.1 hk) (may_is hm)
    · obtain ⟨b0, b1, b2, b3, b4⟩ := may_n hk hm
      by_cases hn : o.n < P.length
      · have hc := cellOf_get (P := P) (o := o) b0 hn
        obtain ⟨g, cap, rfl, e0, e1, e2⟩ := h.ivAt hc
        have hz := h.wf.size hc
        have hno : ¬((cellOf P o).k = o.k ∧ o.a + o.l ≤ (cellOf P o).size) := by
          intro hh
          have : okO P o = true := okO_iff.2 ⟨hk, hm, by simp [inCell, hn, hh]⟩
          rw [ho] at this
          cases this
        exact find_walk hb g o.n.toNat (pb o.n.toNat) (celT (cellOf P o)) o 0 0 false P.length cap w hk e0 e1 (by omega) (by omega) (celT_two _) hm (Lib.hid fun wx kx => reach_no (e2.later kx) o hz b1 b2 hno)
      · obtain ⟨p, cap, rfl⟩ := owns_form h.crow
        have e0 := cellAt h.hblk 0
        exact find_far hb o p P.length cap w hk e0 (by omega) hm
end
end Go.Proofs.Ytlkbnldpecolbaa

/- Walks of heap: New, Cells, Used, hasRoom, add. -/
namespace Go.Proofs.Ytlkbnldpecolbaa
open Go.RowKit
set_option linter.unusedVariables false

theorem new_any (w : World) : Calls Try.prog 8 #[] w fun e w' => e = .returned (ptr w.heap.size) ∧ w' = w.alloc (.cells #[.slice none 0 0, .int .i64 0] 72) := by
  go_enter Try.func8, Try.ntmps8
  go_wp2
  go_ret
  exact ⟨rfl, rfl⟩

theorem cells_any (hb : Nat) (p : Option Addr) (z cap : Nat) (w : World) (h0 : w.cell? ⟨hb, 0, none⟩ = some (.slice p z cap)) : Calls Try.prog 23 #[ptr hb] w fun e w' => e = .returned (.int .i64 z) ∧ w = w' := by
  go_enter Try.func23, Try.ntmps23
  go_wp2
  go_ret
  exact ⟨rfl, rfl⟩

theorem used_any (hb : Nat) (u : Int) (w : World) (h0 : w.cell? ⟨hb, 1, none⟩ = some (.int .i64 u)) : Calls Try.prog 37 #[ptr hb] w fun e w' => e = .returned (.int .i64 u) ∧ w = w' := by
  go_enter Try.func37, Try.ntmps37
  go_wp2
  go_ret
  exact ⟨rfl, rfl⟩

set_option maxRecDepth 100000 in
theorem room_any (hb : Nat) (p : Option Addr) (z cap : Nat) (u n : Int) (w : World) (h0 : w.cell? ⟨hb, 0, none⟩ = some (.slice p z cap)) (h1 : w.cell? ⟨hb, 1, none⟩ = some (.int .i64 u)) (hu : 0 ≤ u) (hu' : u ≤ 40000) :
    Calls Try.prog 76 #[ptr hb, .int .i64 n] w fun e w' => e = .returned (.bool (decide (z < 2000 ∧ n + u ≤ 40000))) ∧ w = w' := by
  obtain ⟨v, hv⟩ : ∃ v, v = 40000 - u := ⟨_, rfl⟩
  have e1 : IntKind.i64.wrap (40000 - u) = v := by rw [hv]; exact wrapi_in _ (by omega) (by omega)
  have HV := Lib.hid hv
  clear hv
  by_cases hz : z < 2000 <;> by_cases hn : n ≤ v
  all_goals
    have H := Lib.hid hn
    have HZ := Lib.hid hz
    go_enter Try.func76, Try.ntmps76
    go_wp2
    go_ret
    refine ⟨ret_bool ?_, rfl⟩
    have := H.out
    have := HZ.out
    have := HV.out
    simp <;> omega

theorem info68 : (Try.prog.info? 110).map (fun i => (i.zero, i.size, i.bytes)) = some (some .nilIface, 1, 16) := by kernel_rfl

theorem cadd_any (hb : Nat) (vc : Value) (ivs : List Value) (n : Nat) (u m : Int) (T r : Nat) (w : World) (hblk : w.heap[hb]? = some (.cells #[vc, .int .i64 u] 72 (0, 0))) (hrow : w.ownsRow 0 110 1 vc n ivs) (hne : vc.ownBlock ≠ some hb)
    (hn : n ≤ 2000) (hu : 0 ≤ u) (hu' : u ≤ 40000) (hm : 0 ≤ m) (hm' : m ≤ 40000) :
    Calls Try.prog 78 #[ptr hb, .iface T (ptr r), .int .i64 m] w fun e w' => e = .returned (.int .i64 n) ∧ ∃ g cap, w'.heap[hb]? = some (.cells #[.slice (some ⟨g, 0, none⟩) (n + 1) cap, .int .i64 (u + m)] 72 (0, 0)) ∧
      w'.ownsRow 0 110 1 (.slice (some ⟨g, 0, none⟩) (n + 1) cap) (n + 1) (ivs ++ [.iface T (ptr r)]) ∧ (vc.ownBlock = some g ∨ w.heap.size ≤ g) ∧ w'.os = w.os ∧ w'.tape = w.tape ∧ w'.output = w.output ∧ w.heap.size ≤ w'.heap.size ∧
      ∀ k, k < w.heap.size → k ≠ hb → vc.ownBlock ≠ some k → w'.heap[k]? = w.heap[k]? := by
  obtain ⟨i0, hi, hz0, hz1, hz2⟩ := info_parts info68
  have e1 : IntKind.i64.wrap (u + m) = u + m := wrapi_in _ (by omega) (by omega)
  obtain ⟨p, cap0, rfl⟩ := owns_form hrow
  have hlt := blk_lt hblk
  have H1 := Lib.hid hblk
  have H2 := Lib.hid hrow
  have H3 := Lib.hid hne
  have b0 := cellAt hblk 0
  have b1 := cellAt hblk 1
  have f0 := freeAt hblk 0
  have f1 := freeAt hblk 1
  simp at b0 b1
  clear hblk hrow hne
  go_enter Try.func78, Try.ntmps78
  go_wp2_with (first
    | (at_builtin; refine wpList_append_lies _ rfl _ _ 70 rfl 0 110 i0 .nilIface 1 16 Try.underlying70 hi hz0 hz1 hz2 rfl (by decide) _ _ _ rfl (H2.out.alloc _) ⟨w.heap.size, 0, none⟩ 1 1 [.iface T (ptr r)] rfl rfl (cell_one_new _ _ _) (fun x hx => by simp at hx; subst hx; rfl) (by decide) (by unfold maxLen; omega) (by omega) (Nat.zero_le _) (w.heap.size + 1) (by simp) ?_))
  intro g cap w1 hown hgrow hat hg1
  have K1 : w1.heap[hb]? = some (.cells #[.slice p n cap0, .int .i64 u] 72 (0, 0)) := by
    rw [hgrow.block hb (by simp; omega) (fun e => H3.out e.symm), Below.heap_alloc _ _ _ hlt]
    exact H1.out
  have K2 := Lib.hid hown
  have K3 := Lib.hid hgrow
  have K4 := Lib.hid hat
  have K5 := Lib.hid K1
  have d0 := cellAt K1 0
  have d1 := cellAt K1 1
  have f0 := freeAt K1 0
  have f1 := freeAt K1 1
  simp at d0 d1
  clear hown hgrow hat hg1 K1 b0 b1
  go_wp2
  go_ret
  have L1 := heap_setCell_same _ hb 1 _ 72 (.int .i64 (u + m)) (heap_setCell_same w1 hb 0 _ 72 (.slice (some ⟨g, 0, none⟩) (n + 1) cap) K5.out)
  have hgb : g ≠ hb := by
    intro e
    subst e
    rcases K4.out with h | h
    · exact H3.out h
    · omega
  refine ⟨ret_int (by omega), g, cap, L1, ?_, ?_, K3.out.os, K3.out.tape, K3.out.output, ?_, fun k hk hne hk2 => ?_⟩
  · exact ownsRow_setCell_other (ownsRow_setCell_other K2.out (by simpa [Value.ownBlock] using hgb) _) (by simpa [Value.ownBlock] using hgb) _
  · rcases K4.out with h | h
    · exact .inl h
    · exact .inr (by omega)
  · have := K3.out.size
    simp [World.setCell] at this ⊢
    omega
  · rw [heap_setCell_other _ _ _ _ hne, heap_setCell_other _ _ _ _ hne, K3.out.block k (by simp; omega) (fun e => hk2 e.symm), Below.heap_alloc _ _ _ hk]
end Go.Proofs.Ytlkbnldpecolbaa
