/- Walks of heap: Set. -/
import Derived.Test.YtmlkmgeddkpgiaaK12
import Derived.Deep.Cut
namespace Go.Proofs.Ytmlkmgeddkpgiaa
open Go.RowKit
set_option linter.unusedVariables false

theorem set_err (hb : Nat) (k n a l i E : Int) (x : Bool) (s : ByteArray) (k' n' a' l' : Int) (x' : Bool) (s' : ByteArray) (w : World) (hE : (E != 0) = true)
    (hf : Hid (∀ wx, Below w.heap.size w wx → Calls Try.prog 71 #[ptr hb, obV k x n a l s] wx fun e w' => e = .returned (.tuple #[pcV .nilIface 0 0, .int .i64 E]) ∧ Below wx.heap.size wx w')) :
    Calls Try.prog 14 #[ptr hb, obV k x n a l s, .int .i64 i, obV k' x' n' a' l' s'] w fun e w' => e = .returned (.int .i64 E) ∧ Below w.heap.size w w' := by
  go_enter Try.func14, Try.ntmps14
  go_wp2_with fail
  obtain ⟨wb, eb, kb, ob⟩ := two_box w k n a l k' n' a' l' x x' s s'
  rw [eb]
  refine (hf.out _ kb).mono ?_
  rintro e wc ⟨rfl, kc⟩
  have KC := Lib.hid (below_and kb kc)
  have OC := Lib.hid (ob.2.later kc)
  clear eb kb kc ob
  go_upto_region 2 with fail
  obtain ⟨wd, ed, kd, zd, d0, d1, d2⟩ := pc_box wc .nilIface 0 0
  rw [ed]
  have KD := Lib.hid (below_and KC.out kd)
  have OD := Lib.hid (OC.out.later kd)
  clear ed kd zd
  go_wp2
  go_ret
  exact ⟨rfl, KD.out⟩

theorem set_index (hb T r : Nat) (k n a l i u z : Int) (x : Bool) (s : ByteArray) (k' n' a' l' : Int) (x' : Bool) (s' : ByteArray) (w : World)
    (hf : Hid (∀ wx, Below w.heap.size w wx → Calls Try.prog 71 #[ptr hb, obV k x n a l s] wx fun e w' => e = .returned (.tuple #[pcV (.iface T (ptr r)) u z, .int .i64 0]) ∧ Below wx.heap.size wx w'))
    (hh : Hid (∀ w, Calls Try.prog 72 #[pcV (.iface T (ptr r)) u z, .int .i64 i] w fun e w' => e = .returned (.bool false) ∧ Below w.heap.size w w')) :
    Calls Try.prog 14 #[ptr hb, obV k x n a l s, .int .i64 i, obV k' x' n' a' l' s'] w fun e w' => e = .returned (.int .i64 12) ∧ Below w.heap.size w w' := by
  go_enter Try.func14, Try.ntmps14
  go_wp2_with fail
  obtain ⟨wb, eb, kb, ob⟩ := two_box w k n a l k' n' a' l' x x' s s'
  rw [eb]
  refine (hf.out _ kb).mono ?_
  rintro e wc ⟨rfl, kc⟩
  have KC := Lib.hid (below_and kb kc)
  have OC := Lib.hid (ob.2.later kc)
  clear eb kb kc ob
  go_upto_region 2 with fail
  obtain ⟨wd, ed, kd, zd, d0, d1, d2⟩ := pc_box wc (.iface T (ptr r)) u z
  rw [ed]
  have KD := Lib.hid (below_and KC.out kd)
  have OD := Lib.hid (OC.out.later kd)
  clear ed kd zd
  go_wp2_with fail
  refine (hh.out _).mono ?_
  rintro e we ⟨rfl, ke⟩
  have KE := Lib.hid (below_and KD.out ke)
  have g0 := cell_later ke d0
  have g1 := cell_later ke d1
  have OE := Lib.hid (OD.out.later ke)
  clear d0 d1 d2 ke
  go_wp2
  go_ret
  exact ⟨rfl, KE.out⟩

theorem method_isLocked87 (r : Nat) (w : World) : (method 294 156 (ptr r) "tympan/heap.isLocked").run Try.prog w = .ok (150, ptr r) w := by kernel_rfl
theorem method_set87 (r : Nat) (w : World) : (method 294 156 (ptr r) "tympan/heap.set").run Try.prog w = .ok (160, ptr r) w := by kernel_rfl
theorem set_locked87 (hb r : Nat) (k n a l i u z : Int) (x : Bool) (s : ByteArray) (k' n' a' l' : Int) (x' : Bool) (s' : ByteArray) (w : World)
    (hf : Hid (∀ wx, Below w.heap.size w wx → Calls Try.prog 71 #[ptr hb, obV k x n a l s] wx fun e w' => e = .returned (.tuple #[pcV (.iface 156 (ptr r)) u z, .int .i64 0]) ∧ Below wx.heap.size wx w'))
    (hh : Hid (∀ w, Calls Try.prog 72 #[pcV (.iface 156 (ptr r)) u z, .int .i64 i] w fun e w' => e = .returned (.bool true) ∧ Below w.heap.size w w'))
    (hl : Hid (∀ wx, Below w.heap.size w wx → Calls Try.prog 150 #[ptr r] wx fun e w' => e = .returned (.bool true) ∧ wx = w')) :
    Calls Try.prog 14 #[ptr hb, obV k x n a l s, .int .i64 i, obV k' x' n' a' l' s'] w fun e w' => e = .returned (.int .i64 1) ∧ Below w.heap.size w w' := by
  have hme := method_isLocked87
  go_enter Try.func14, Try.ntmps14
  go_wp2_with fail
  obtain ⟨wb, eb, kb, ob⟩ := two_box w k n a l k' n' a' l' x x' s s'
  rw [eb]
  refine (hf.out _ kb).mono ?_
  rintro e wc ⟨rfl, kc⟩
  have KC := Lib.hid (below_and kb kc)
  have OC := Lib.hid (ob.2.later kc)
  clear eb kb kc ob
  go_upto_region 2 with fail
  obtain ⟨wd, ed, kd, zd, d0, d1, d2⟩ := pc_box wc (.iface 156 (ptr r)) u z
  rw [ed]
  have KD := Lib.hid (below_and KC.out kd)
  have OD := Lib.hid (OC.out.later kd)
  clear ed kd zd
  go_wp2_with fail
  refine (hh.out _).mono ?_
  rintro e we ⟨rfl, ke⟩
  have KE := Lib.hid (below_and KD.out ke)
  have g0 := cell_later ke d0
  have g1 := cell_later ke d1
  have OE := Lib.hid (OD.out.later ke)
  clear d0 d1 d2 ke
  go_wp2_with fail
  refine (hl.out _ KE.out).mono ?_
  rintro e wf ⟨rfl, rfl⟩
  go_wp2
  go_ret
  exact ⟨rfl, KE.out⟩

theorem set_walk87 (hb r : Nat) (k n a l i u z j : Int) (x : Bool) (s : ByteArray) (k' n' a' l' : Int) (x' : Bool) (s' : ByteArray) (w : World) (R : Ending → World → Prop) (e1 : IntKind.i64.wrap (u + i) = j)
    (hf : Hid (∀ wx, Below w.heap.size w wx → Calls Try.prog 71 #[ptr hb, obV k x n a l s] wx fun e w' => e = .returned (.tuple #[pcV (.iface 156 (ptr r)) u z, .int .i64 0]) ∧ Below wx.heap.size wx w'))
    (hh : Hid (∀ w, Calls Try.prog 72 #[pcV (.iface 156 (ptr r)) u z, .int .i64 i] w fun e w' => e = .returned (.bool true) ∧ Below w.heap.size w w'))
    (hl : Hid (∀ wx, Below w.heap.size w wx → Calls Try.prog 150 #[ptr r] wx fun e w' => e = .returned (.bool false) ∧ wx = w'))
    (hs : Hid (∀ wx, Below w.heap.size w wx → Calls Try.prog 160 #[ptr r, ptr hb, .int .i64 j, obV k' x' n' a' l' s'] wx fun e w' => (∃ q, e = .returned (.int .i64 q)) ∧ R e w')) :
    Calls Try.prog 14 #[ptr hb, obV k x n a l s, .int .i64 i, obV k' x' n' a' l' s'] w fun e w' => R e w' := by
  have hme := method_isLocked87
  have hms := method_set87
  go_enter Try.func14, Try.ntmps14
  go_wp2_with fail
  obtain ⟨wb, eb, kb, ob⟩ := two_box w k n a l k' n' a' l' x x' s s'
  rw [eb]
  refine (hf.out _ kb).mono ?_
  rintro e wc ⟨rfl, kc⟩
  have KC := Lib.hid (below_and kb kc)
  have OC := Lib.hid (ob.2.later kc)
  clear eb kb kc ob
  go_upto_region 2 with fail
  obtain ⟨wd, ed, kd, zd, d0, d1, d2⟩ := pc_box wc (.iface 156 (ptr r)) u z
  rw [ed]
  have KD := Lib.hid (below_and KC.out kd)
  have OD := Lib.hid (OC.out.later kd)
  clear ed kd zd
  go_wp2_with fail
  refine (hh.out _).mono ?_
  rintro e we ⟨rfl, ke⟩
  have KE := Lib.hid (below_and KD.out ke)
  have g0 := cell_later ke d0
  have g1 := cell_later ke d1
  have OE := Lib.hid (OD.out.later ke)
  clear d0 d1 d2 ke
  go_wp2_with fail
  refine (hl.out _ KE.out).mono ?_
  rintro e wf ⟨rfl, rfl⟩
  obtain ⟨o0, o1, o2, o3, o4, o5⟩ := OE.out
  go_wp2_with fail
  refine (hs.out _ KE.out).mono ?_
  rintro e wg ⟨⟨q, rfl⟩, hR⟩
  have HR := Lib.hid hR
  clear hR g0 g1 o0 o1 o2 o3 o4 o5
  go_wp2
  exact HR.out

theorem method_isLocked95 (r : Nat) (w : World) : (method 294 141 (ptr r) "tympan/heap.isLocked").run Try.prog w = .ok (150, ptr r) w := by kernel_rfl
theorem method_set95 (r : Nat) (w : World) : (method 294 141 (ptr r) "tympan/heap.set").run Try.prog w = .ok (154, ptr r) w := by kernel_rfl
theorem set_locked95 (hb r : Nat) (k n a l i u z : Int) (x : Bool) (s : ByteArray) (k' n' a' l' : Int) (x' : Bool) (s' : ByteArray) (w : World)
    (hf : Hid (∀ wx, Below w.heap.size w wx → Calls Try.prog 71 #[ptr hb, obV k x n a l s] wx fun e w' => e = .returned (.tuple #[pcV (.iface 141 (ptr r)) u z, .int .i64 0]) ∧ Below wx.heap.size wx w'))
    (hh : Hid (∀ w, Calls Try.prog 72 #[pcV (.iface 141 (ptr r)) u z, .int .i64 i] w fun e w' => e = .returned (.bool true) ∧ Below w.heap.size w w'))
    (hl : Hid (∀ wx, Below w.heap.size w wx → Calls Try.prog 150 #[ptr r] wx fun e w' => e = .returned (.bool true) ∧ wx = w')) :
    Calls Try.prog 14 #[ptr hb, obV k x n a l s, .int .i64 i, obV k' x' n' a' l' s'] w fun e w' => e = .returned (.int .i64 1) ∧ Below w.heap.size w w' := by
  have hme := method_isLocked95
  go_enter Try.func14, Try.ntmps14
  go_wp2_with fail
  obtain ⟨wb, eb, kb, ob⟩ := two_box w k n a l k' n' a' l' x x' s s'
  rw [eb]
  refine (hf.out _ kb).mono ?_
  rintro e wc ⟨rfl, kc⟩
  have KC := Lib.hid (below_and kb kc)
  have OC := Lib.hid (ob.2.later kc)
  clear eb kb kc ob
  go_upto_region 2 with fail
  obtain ⟨wd, ed, kd, zd, d0, d1, d2⟩ := pc_box wc (.iface 141 (ptr r)) u z
  rw [ed]
  have KD := Lib.hid (below_and KC.out kd)
  have OD := Lib.hid (OC.out.later kd)
  clear ed kd zd
  go_wp2_with fail
  refine (hh.out _).mono ?_
  rintro e we ⟨rfl, ke⟩
  have KE := Lib.hid (below_and KD.out ke)
  have g0 := cell_later ke d0
  have g1 := cell_later ke d1
  have OE := Lib.hid (OD.out.later ke)
  clear d0 d1 d2 ke
  go_wp2_with fail
  refine (hl.out _ KE.out).mono ?_
  rintro e wf ⟨rfl, rfl⟩
  go_wp2
  go_ret
  exact ⟨rfl, KE.out⟩

theorem set_walk95 (hb r : Nat) (k n a l i u z j : Int) (x : Bool) (s : ByteArray) (k' n' a' l' : Int) (x' : Bool) (s' : ByteArray) (w : World) (R : Ending → World → Prop) (e1 : IntKind.i64.wrap (u + i) = j)
    (hf : Hid (∀ wx, Below w.heap.size w wx → Calls Try.prog 71 #[ptr hb, obV k x n a l s] wx fun e w' => e = .returned (.tuple #[pcV (.iface 141 (ptr r)) u z, .int .i64 0]) ∧ Below wx.heap.size wx w'))
    (hh : Hid (∀ w, Calls Try.prog 72 #[pcV (.iface 141 (ptr r)) u z, .int .i64 i] w fun e w' => e = .returned (.bool true) ∧ Below w.heap.size w w'))
    (hl : Hid (∀ wx, Below w.heap.size w wx → Calls Try.prog 150 #[ptr r] wx fun e w' => e = .returned (.bool false) ∧ wx = w'))
    (hs : Hid (∀ wx, Below w.heap.size w wx → Calls Try.prog 154 #[ptr r, ptr hb, .int .i64 j, obV k' x' n' a' l' s'] wx fun e w' => (∃ q, e = .returned (.int .i64 q)) ∧ R e w')) :
    Calls Try.prog 14 #[ptr hb, obV k x n a l s, .int .i64 i, obV k' x' n' a' l' s'] w fun e w' => R e w' := by
  have hme := method_isLocked95
  have hms := method_set95
  go_enter Try.func14, Try.ntmps14
  go_wp2_with fail
  obtain ⟨wb, eb, kb, ob⟩ := two_box w k n a l k' n' a' l' x x' s s'
  rw [eb]
  refine (hf.out _ kb).mono ?_
  rintro e wc ⟨rfl, kc⟩
  have KC := Lib.hid (below_and kb kc)
  have OC := Lib.hid (ob.2.later kc)
  clear eb kb kc ob
  go_upto_region 2 with fail
  obtain ⟨wd, ed, kd, zd, d0, d1, d2⟩ := pc_box wc (.iface 141 (ptr r)) u z
  rw [ed]
  have KD := Lib.hid (below_and KC.out kd)
  have OD := Lib.hid (OC.out.later kd)
  clear ed kd zd
  go_wp2_with fail
  refine (hh.out _).mono ?_
  rintro e we ⟨rfl, ke⟩
  have KE := Lib.hid (below_and KD.out ke)
  have g0 := cell_later ke d0
  have g1 := cell_later ke d1
  have OE := Lib.hid (OD.out.later ke)
  clear d0 d1 d2 ke
  go_wp2_with fail
  refine (hl.out _ KE.out).mono ?_
  rintro e wf ⟨rfl, rfl⟩
  obtain ⟨o0, o1, o2, o3, o4, o5⟩ := OE.out
  go_wp2_with fail
  refine (hs.out _ KE.out).mono ?_
  rintro e wg ⟨⟨q, rfl⟩, hR⟩
  have HR := Lib.hid hR
  clear hR g0 g1 o0 o1 o2 o3 o4 o5
  go_wp2
  exact HR.out

end Go.Proofs.Ytmlkmgeddkpgiaa
