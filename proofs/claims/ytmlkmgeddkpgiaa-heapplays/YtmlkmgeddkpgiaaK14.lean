/- Walks of heap: Get. -/
import Derived.Test.YtmlkmgeddkpgiaaK12
import Derived.Deep.Cut
namespace Go.Proofs.Ytmlkmgeddkpgiaa
open Go.RowKit
set_option linter.unusedVariables false

/-- A box of an object, and a zero object behind it. -/
theorem get_box (w : World) (k n a l : Int) (x : Bool) (s : ByteArray) :
    ∃ wb, (w.alloc (.cells #[.int .i64 k, .bool x, .int .i64 n, .int .i64 a, .int .i64 l, .string s] 24)).alloc (.cells #[.int .i64 0, .bool false, .int .i64 0, .int .i64 0, .int .i64 0, .string ⟨#[]⟩] 24) = wb ∧ Below w.heap.size w wb ∧ ObAt wb w.heap.size k x n a l s ∧ wb.heap[w.heap.size + 1]? = some emptyOb := by
  refine ⟨_, rfl, below_and (box_below _ _) (box_below _ _), ?_, heap_alloc2_new _ _ _⟩
  obtain ⟨wb, eb, kb, zb, ob⟩ := ob_box w k n a l x s
  rw [eb]
  exact ob.later (box_below _ _)

theorem get_err (hb : Nat) (k n a l i E : Int) (x : Bool) (s : ByteArray) (w : World) (hE : (E != 0) = true)
    (hf : Hid (∀ wx, Below w.heap.size w wx → Calls Try.prog 71 #[ptr hb, obV k x n a l s] wx fun e w' => e = .returned (.tuple #[pcV .nilIface 0 0, .int .i64 E]) ∧ Below wx.heap.size wx w')) :
    Calls Try.prog 67 #[ptr hb, obV k x n a l s, .int .i64 i] w fun e w' => e = .returned (.tuple #[zeroOb, .int .i64 E]) ∧ Below w.heap.size w w' := by
  go_enter Try.func67, Try.ntmps67
  go_wp2_with fail
  obtain ⟨wb, eb, kb, ob, pb⟩ := get_box w k n a l x s
  rw [eb]
  have KB := Lib.hid kb
  have PB := Lib.hid pb
  refine (hf.out _ kb).mono ?_
  rintro e wc ⟨rfl, kc⟩
  have KC := Lib.hid (below_and kb kc)
  have PC : Hid (wc.heap[w.heap.size + 1]? = some emptyOb) := Lib.hid ((kc.block _ (blk_lt pb)).trans pb)
  clear eb kb pb kc ob
  go_upto_region 2 with fail
  obtain ⟨wd, ed, kd, zd, d0, d1, d2⟩ := pc_box wc .nilIface 0 0
  rw [ed]
  have KD := Lib.hid (below_and KC.out kd)
  have PD : Hid (wd.heap[w.heap.size + 1]? = some emptyOb) := Lib.hid ((kd.block _ (blk_lt PC.out)).trans PC.out)
  obtain ⟨⟨c0, c1, c2, c3, c4, c5⟩, f0, f1, f2, f3, f4, f5⟩ := cells6 PD.out
  clear ed kd zd
  go_wp2
  (try simp only [Exit.inBlock, Exit.then])
  exact bodyPost_ret (ret_cell rfl _ _ _ _ _ _ _ _ rfl rfl (set6 PD.out _ _ _ _ _ _) Try.underlying24 rfl (by kernel_rfl)) rfl ⟨rfl, set6_below KD.out (by omega) _ _ _ _ _ _⟩

theorem get_index (hb T r : Nat) (k n a l i u z : Int) (x : Bool) (s : ByteArray) (w : World)
    (hf : Hid (∀ wx, Below w.heap.size w wx → Calls Try.prog 71 #[ptr hb, obV k x n a l s] wx fun e w' => e = .returned (.tuple #[pcV (.iface T (ptr r)) u z, .int .i64 0]) ∧ Below wx.heap.size wx w'))
    (hh : Hid (∀ w, Calls Try.prog 72 #[pcV (.iface T (ptr r)) u z, .int .i64 i] w fun e w' => e = .returned (.bool false) ∧ Below w.heap.size w w')) :
    Calls Try.prog 67 #[ptr hb, obV k x n a l s, .int .i64 i] w fun e w' => e = .returned (.tuple #[zeroOb, .int .i64 12]) ∧ Below w.heap.size w w' := by
  go_enter Try.func67, Try.ntmps67
  go_wp2_with fail
  obtain ⟨wb, eb, kb, ob, pb⟩ := get_box w k n a l x s
  rw [eb]
  refine (hf.out _ kb).mono ?_
  rintro e wc ⟨rfl, kc⟩
  have KC := Lib.hid (below_and kb kc)
  have PC : Hid (wc.heap[w.heap.size + 1]? = some emptyOb) := Lib.hid ((kc.block _ (blk_lt pb)).trans pb)
  clear eb kb pb kc ob
  go_upto_region 2 with fail
  obtain ⟨wd, ed, kd, zd, d0, d1, d2⟩ := pc_box wc (.iface T (ptr r)) u z
  rw [ed]
  have KD := Lib.hid (below_and KC.out kd)
  have PD : Hid (wd.heap[w.heap.size + 1]? = some emptyOb) := Lib.hid ((kd.block _ (blk_lt PC.out)).trans PC.out)
  have KE0 := Lib.hid kd
  clear ed zd kd
  go_wp2_with fail
  refine (hh.out _).mono ?_
  rintro e we ⟨rfl, ke⟩
  have KE := Lib.hid (below_and KD.out ke)
  have PE : Hid (we.heap[w.heap.size + 1]? = some emptyOb) := Lib.hid ((ke.block _ (blk_lt PD.out)).trans PD.out)
  have g0 := cell_later ke d0
  have g1 := cell_later ke d1
  clear d0 d1 d2 ke
  obtain ⟨⟨c0, c1, c2, c3, c4, c5⟩, f0, f1, f2, f3, f4, f5⟩ := cells6 PE.out
  go_wp2
  (try simp only [Exit.inBlock, Exit.then])
  exact bodyPost_ret (ret_cell rfl _ _ _ _ _ _ _ _ rfl rfl (set6 PE.out _ _ _ _ _ _) Try.underlying24 rfl (by kernel_rfl)) rfl ⟨rfl, set6_below KE.out (by omega) _ _ _ _ _ _⟩

theorem method_get87 (r : Nat) (w : World) : (method 294 156 (ptr r) "tympan/heap.get").run Try.prog w = .ok (157, ptr r) w := by kernel_rfl
theorem get_walk87 (hb r : Nat) (k n a l i u z j : Int) (x : Bool) (s : ByteArray) (k' n' a' l' : Int) (x' : Bool) (s' : ByteArray) (w : World) (e1 : IntKind.i64.wrap (u + i) = j)
    (hf : Hid (∀ wx, Below w.heap.size w wx → Calls Try.prog 71 #[ptr hb, obV k x n a l s] wx fun e w' => e = .returned (.tuple #[pcV (.iface 156 (ptr r)) u z, .int .i64 0]) ∧ Below wx.heap.size wx w'))
    (hh : Hid (∀ w, Calls Try.prog 72 #[pcV (.iface 156 (ptr r)) u z, .int .i64 i] w fun e w' => e = .returned (.bool true) ∧ Below w.heap.size w w'))
    (hg : Hid (∀ wx, Below w.heap.size w wx → Calls Try.prog 157 #[ptr r, .int .i64 j] wx fun e w' => e = .returned (obV k' x' n' a' l' s') ∧ Below wx.heap.size wx w')) :
    Calls Try.prog 67 #[ptr hb, obV k x n a l s, .int .i64 i] w fun e w' => e = .returned (.tuple #[obV k' x' n' a' l' s', .int .i64 0]) ∧ Below w.heap.size w w' := by
  have hme := method_get87
  go_enter Try.func67, Try.ntmps67
  go_wp2_with fail
  obtain ⟨wb, eb, kb, ob, pb⟩ := get_box w k n a l x s
  rw [eb]
  refine (hf.out _ kb).mono ?_
  rintro e wc ⟨rfl, kc⟩
  have KC := Lib.hid (below_and kb kc)
  have PC : Hid (wc.heap[w.heap.size + 1]? = some emptyOb) := Lib.hid ((kc.block _ (blk_lt pb)).trans pb)
  clear eb kb pb kc ob
  go_upto_region 2 with fail
  obtain ⟨wd, ed, kd, zd, d0, d1, d2⟩ := pc_box wc (.iface 156 (ptr r)) u z
  rw [ed]
  have KD := Lib.hid (below_and KC.out kd)
  have PD : Hid (wd.heap[w.heap.size + 1]? = some emptyOb) := Lib.hid ((kd.block _ (blk_lt PC.out)).trans PC.out)
  have KE0 := Lib.hid kd
  clear ed zd kd
  go_wp2_with fail
  refine (hh.out _).mono ?_
  rintro e we ⟨rfl, ke⟩
  have KE := Lib.hid (below_and KD.out ke)
  have PE : Hid (we.heap[w.heap.size + 1]? = some emptyOb) := Lib.hid ((ke.block _ (blk_lt PD.out)).trans PD.out)
  have g0 := cell_later ke d0
  have g1 := cell_later ke d1
  clear d0 d1 d2 ke
  go_wp2_with fail
  refine (hg.out _ KE.out).mono ?_
  rintro e wf ⟨rfl, kf⟩
  have KF := Lib.hid (below_and KE.out kf)
  have PF : Hid (wf.heap[w.heap.size + 1]? = some emptyOb) := Lib.hid ((kf.block _ (blk_lt PE.out)).trans PE.out)
  obtain ⟨⟨c0, c1, c2, c3, c4, c5⟩, f0, f1, f2, f3, f4, f5⟩ := cells6 PF.out
  clear g0 g1 kf
  go_wp2
  (try simp only [Exit.inBlock, Exit.then])
  exact bodyPost_ret (ret_cell rfl _ _ _ _ _ _ _ _ rfl rfl (set6 PF.out _ _ _ _ _ _) Try.underlying24 rfl (by kernel_rfl)) rfl ⟨rfl, set6_below KF.out (by omega) _ _ _ _ _ _⟩

theorem method_get95 (r : Nat) (w : World) : (method 294 141 (ptr r) "tympan/heap.get").run Try.prog w = .ok (149, ptr r) w := by kernel_rfl
theorem get_walk95 (hb r : Nat) (k n a l i u z j : Int) (x : Bool) (s : ByteArray) (k' n' a' l' : Int) (x' : Bool) (s' : ByteArray) (w : World) (e1 : IntKind.i64.wrap (u + i) = j)
    (hf : Hid (∀ wx, Below w.heap.size w wx → Calls Try.prog 71 #[ptr hb, obV k x n a l s] wx fun e w' => e = .returned (.tuple #[pcV (.iface 141 (ptr r)) u z, .int .i64 0]) ∧ Below wx.heap.size wx w'))
    (hh : Hid (∀ w, Calls Try.prog 72 #[pcV (.iface 141 (ptr r)) u z, .int .i64 i] w fun e w' => e = .returned (.bool true) ∧ Below w.heap.size w w'))
    (hg : Hid (∀ wx, Below w.heap.size w wx → Calls Try.prog 149 #[ptr r, .int .i64 j] wx fun e w' => e = .returned (obV k' x' n' a' l' s') ∧ Below wx.heap.size wx w')) :
    Calls Try.prog 67 #[ptr hb, obV k x n a l s, .int .i64 i] w fun e w' => e = .returned (.tuple #[obV k' x' n' a' l' s', .int .i64 0]) ∧ Below w.heap.size w w' := by
  have hme := method_get95
  go_enter Try.func67, Try.ntmps67
  go_wp2_with fail
  obtain ⟨wb, eb, kb, ob, pb⟩ := get_box w k n a l x s
  rw [eb]
  refine (hf.out _ kb).mono ?_
  rintro e wc ⟨rfl, kc⟩
  have KC := Lib.hid (below_and kb kc)
  have PC : Hid (wc.heap[w.heap.size + 1]? = some emptyOb) := Lib.hid ((kc.block _ (blk_lt pb)).trans pb)
  clear eb kb pb kc ob
  go_upto_region 2 with fail
  obtain ⟨wd, ed, kd, zd, d0, d1, d2⟩ := pc_box wc (.iface 141 (ptr r)) u z
  rw [ed]
  have KD := Lib.hid (below_and KC.out kd)
  have PD : Hid (wd.heap[w.heap.size + 1]? = some emptyOb) := Lib.hid ((kd.block _ (blk_lt PC.out)).trans PC.out)
  have KE0 := Lib.hid kd
  clear ed zd kd
  go_wp2_with fail
  refine (hh.out _).mono ?_
  rintro e we ⟨rfl, ke⟩
  have KE := Lib.hid (below_and KD.out ke)
  have PE : Hid (we.heap[w.heap.size + 1]? = some emptyOb) := Lib.hid ((ke.block _ (blk_lt PD.out)).trans PD.out)
  have g0 := cell_later ke d0
  have g1 := cell_later ke d1
  clear d0 d1 d2 ke
  go_wp2_with fail
  refine (hg.out _ KE.out).mono ?_
  rintro e wf ⟨rfl, kf⟩
  have KF := Lib.hid (below_and KE.out kf)
  have PF : Hid (wf.heap[w.heap.size + 1]? = some emptyOb) := Lib.hid ((kf.block _ (blk_lt PE.out)).trans PE.out)
  obtain ⟨⟨c0, c1, c2, c3, c4, c5⟩, f0, f1, f2, f3, f4, f5⟩ := cells6 PF.out
  clear g0 g1 kf
  go_wp2
  (try simp only [Exit.inBlock, Exit.then])
  exact bodyPost_ret (ret_cell rfl _ _ _ _ _ _ _ _ rfl rfl (set6 PF.out _ _ _ _ _ _) Try.underlying24 rfl (by kernel_rfl)) rfl ⟨rfl, set6_below KF.out (by omega) _ _ _ _ _ _⟩

end Go.Proofs.Ytmlkmgeddkpgiaa
