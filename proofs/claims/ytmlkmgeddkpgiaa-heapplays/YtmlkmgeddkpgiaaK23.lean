/- Walks of heap: Put. -/
import Derived.Test.YtmlkmgeddkpgiaaK17
import Derived.Deep.Cut
namespace Go.Proofs.Ytmlkmgeddkpgiaa
open Go.RowKit
set_option linter.unusedVariables false

theorem put_err (hb : Nat) (k n a l i E : Int) (x : Bool) (s : ByteArray) (k' n' a' l' : Int) (x' : Bool) (s' : ByteArray) (w : World) (hE : (E != 0) = true)
    (hf : Hid (∀ wx, Below w.heap.size w wx → Calls Try.prog 71 #[ptr hb, obV k x n a l s] wx fun e w' => e = .returned (.tuple #[pcV .nilIface 0 0, .int .i64 E]) ∧ Below wx.heap.size wx w')) :
    Calls Try.prog 16 #[ptr hb, obV k x n a l s, .int .i64 i, obV k' x' n' a' l' s'] w fun e w' => e = .returned (.int .i64 E) ∧ Below w.heap.size w w' := by
  go_enter Try.func16, Try.ntmps16
  go_wp2_with fail
  obtain ⟨wb, eb, kb, ob⟩ := two_box w k n a l k' n' a' l' x x' s s'
  rw [eb]
  refine (hf.out _ kb).mono ?_
  rintro e wc ⟨rfl, kc⟩
  have KC := Lib.hid (below_and kb kc)
  have OC := Lib.hid (ob.later kc)
  clear eb kb kc ob
  go_upto_region 2 with fail
  obtain ⟨wd, ed, kd, zd, d0, d1, d2⟩ := pc_box wc .nilIface 0 0
  rw [ed]
  have KD := Lib.hid (below_and KC.out kd)
  have OD := Lib.hid (OC.out.later kd)
  clear ed kd zd
  go_wp2
  go_ret
  exact ⟨rfl, KD.out⟩

theorem put_err2 (hb T r : Nat) (k n a l i u z E : Int) (x : Bool) (s : ByteArray) (k' n' a' l' : Int) (x' : Bool) (s' : ByteArray) (w : World) (hE : (E != 0) = true)
    (hf : Hid (∀ wx, Below w.heap.size w wx → Calls Try.prog 71 #[ptr hb, obV k x n a l s] wx fun e w' => e = .returned (.tuple #[pcV (.iface T (ptr r)) u z, .int .i64 0]) ∧ Below wx.heap.size wx w'))
    (hf2 : Hid (∀ wx, Below w.heap.size w wx → Calls Try.prog 71 #[ptr hb, obV k' x' n' a' l' s'] wx fun e w' => e = .returned (.tuple #[pcV .nilIface 0 0, .int .i64 E]) ∧ Below wx.heap.size wx w')) :
    Calls Try.prog 16 #[ptr hb, obV k x n a l s, .int .i64 i, obV k' x' n' a' l' s'] w fun e w' => e = .returned (.int .i64 E) ∧ Below w.heap.size w w' := by
  go_enter Try.func16, Try.ntmps16
  go_wp2_with fail
  obtain ⟨wb, eb, kb, ob⟩ := two_box w k n a l k' n' a' l' x x' s s'
  rw [eb]
  refine (hf.out _ kb).mono ?_
  rintro e wc ⟨rfl, kc⟩
  have KC := Lib.hid (below_and kb kc)
  have OC := Lib.hid (ob.later kc)
  clear eb kb kc ob
  go_upto_region 2 with fail
  obtain ⟨wd, ed, kd, zd, d0, d1, d2⟩ := pc_box wc (.iface T (ptr r)) u z
  rw [ed]
  have KD := Lib.hid (below_and KC.out kd)
  have OD := Lib.hid (OC.out.later kd)
  clear ed kd zd
  obtain ⟨p0, p1, p2, p3, p4, p5⟩ := OD.out.2
  go_wp2_with fail
  refine (hf2.out _ KD.out).mono ?_
  rintro e we ⟨rfl, ke⟩
  have KE := Lib.hid (below_and KD.out ke)
  have OE := Lib.hid (OD.out.later ke)
  replace d0 := cell_later ke d0
  replace d1 := cell_later ke d1
  replace d2 := cell_later ke d2
  clear p0 p1 p2 p3 p4 p5 ke
  go_upto_region 5 with fail
  obtain ⟨wf, ef, kf, zf, q0, q1, q2⟩ := pc_box we .nilIface 0 0
  rw [ef]
  have KF := Lib.hid (below_and KE.out kf)
  have OF := Lib.hid (OE.out.later kf)
  replace d0 := cell_later kf d0
  replace d1 := cell_later kf d1
  replace d2 := cell_later kf d2
  clear ef kf zf
  go_wp2
  go_ret
  exact ⟨rfl, KF.out⟩

theorem put_dict (hb T r T2 r2 : Nat) (n a l i u z u2 z2 : Int) (x : Bool) (s : ByteArray) (k' n' a' l' : Int) (x' : Bool) (s' : ByteArray) (w : World)
    (hf : Hid (∀ wx, Below w.heap.size w wx → Calls Try.prog 71 #[ptr hb, obV 10 x n a l s] wx fun e w' => e = .returned (.tuple #[pcV (.iface T (ptr r)) u z, .int .i64 0]) ∧ Below wx.heap.size wx w'))
    (hf2 : Hid (∀ wx, Below w.heap.size w wx → Calls Try.prog 71 #[ptr hb, obV k' x' n' a' l' s'] wx fun e w' => e = .returned (.tuple #[pcV (.iface T2 (ptr r2)) u2 z2, .int .i64 0]) ∧ Below wx.heap.size wx w')) :
    Calls Try.prog 16 #[ptr hb, obV 10 x n a l s, .int .i64 i, obV k' x' n' a' l' s'] w fun e w' => e = .returned (.int .i64 6) ∧ Below w.heap.size w w' := by
  go_enter Try.func16, Try.ntmps16
  go_wp2_with fail
  obtain ⟨wb, eb, kb, ob⟩ := two_box w 10 n a l k' n' a' l' x x' s s'
  rw [eb]
  refine (hf.out _ kb).mono ?_
  rintro e wc ⟨rfl, kc⟩
  have KC := Lib.hid (below_and kb kc)
  have OC := Lib.hid (ob.later kc)
  clear eb kb kc ob
  go_upto_region 2 with fail
  obtain ⟨wd, ed, kd, zd, d0, d1, d2⟩ := pc_box wc (.iface T (ptr r)) u z
  rw [ed]
  have KD := Lib.hid (below_and KC.out kd)
  have OD := Lib.hid (OC.out.later kd)
  clear ed kd zd
  obtain ⟨p0, p1, p2, p3, p4, p5⟩ := OD.out.2
  go_wp2_with fail
  refine (hf2.out _ KD.out).mono ?_
  rintro e we ⟨rfl, ke⟩
  have KE := Lib.hid (below_and KD.out ke)
  have OE := Lib.hid (OD.out.later ke)
  replace d0 := cell_later ke d0
  replace d1 := cell_later ke d1
  replace d2 := cell_later ke d2
  clear p0 p1 p2 p3 p4 p5 ke
  go_upto_region 5 with fail
  obtain ⟨wf, ef, kf, zf, q0, q1, q2⟩ := pc_box we (.iface T2 (ptr r2)) u2 z2
  rw [ef]
  have KF := Lib.hid (below_and KE.out kf)
  have OF := Lib.hid (OE.out.later kf)
  replace d0 := cell_later kf d0
  replace d1 := cell_later kf d1
  replace d2 := cell_later kf d2
  clear ef kf zf
  obtain ⟨o0, o1, o2, o3, o4, o5⟩ := OF.out.1
  obtain ⟨p0, p1, p2, p3, p4, p5⟩ := OF.out.2
  go_wp2
  go_ret
  exact ⟨rfl, KF.out⟩

theorem put_type (hb T r T2 r2 : Nat) (k n a l i u z u2 z2 : Int) (x : Bool) (s : ByteArray) (k' n' a' l' : Int) (x' : Bool) (s' : ByteArray) (w : World) (hk : (k == 10) = false) (hk2 : (k != k') = true)
    (hf : Hid (∀ wx, Below w.heap.size w wx → Calls Try.prog 71 #[ptr hb, obV k x n a l s] wx fun e w' => e = .returned (.tuple #[pcV (.iface T (ptr r)) u z, .int .i64 0]) ∧ Below wx.heap.size wx w'))
    (hf2 : Hid (∀ wx, Below w.heap.size w wx → Calls Try.prog 71 #[ptr hb, obV k' x' n' a' l' s'] wx fun e w' => e = .returned (.tuple #[pcV (.iface T2 (ptr r2)) u2 z2, .int .i64 0]) ∧ Below wx.heap.size wx w')) :
    Calls Try.prog 16 #[ptr hb, obV k x n a l s, .int .i64 i, obV k' x' n' a' l' s'] w fun e w' => e = .returned (.int .i64 6) ∧ Below w.heap.size w w' := by
  go_enter Try.func16, Try.ntmps16
  go_wp2_with fail
  obtain ⟨wb, eb, kb, ob⟩ := two_box w k n a l k' n' a' l' x x' s s'
  rw [eb]
  refine (hf.out _ kb).mono ?_
  rintro e wc ⟨rfl, kc⟩
  have KC := Lib.hid (below_and kb kc)
  have OC := Lib.hid (ob.later kc)
  clear eb kb kc ob
  go_upto_region 2 with fail
  obtain ⟨wd, ed, kd, zd, d0, d1, d2⟩ := pc_box wc (.iface T (ptr r)) u z
  rw [ed]
  have KD := Lib.hid (below_and KC.out kd)
  have OD := Lib.hid (OC.out.later kd)
  clear ed kd zd
  obtain ⟨p0, p1, p2, p3, p4, p5⟩ := OD.out.2
  go_wp2_with fail
  refine (hf2.out _ KD.out).mono ?_
  rintro e we ⟨rfl, ke⟩
  have KE := Lib.hid (below_and KD.out ke)
  have OE := Lib.hid (OD.out.later ke)
  replace d0 := cell_later ke d0
  replace d1 := cell_later ke d1
  replace d2 := cell_later ke d2
  clear p0 p1 p2 p3 p4 p5 ke
  go_upto_region 5 with fail
  obtain ⟨wf, ef, kf, zf, q0, q1, q2⟩ := pc_box we (.iface T2 (ptr r2)) u2 z2
  rw [ef]
  have KF := Lib.hid (below_and KE.out kf)
  have OF := Lib.hid (OE.out.later kf)
  replace d0 := cell_later kf d0
  replace d1 := cell_later kf d1
  replace d2 := cell_later kf d2
  clear ef kf zf
  obtain ⟨o0, o1, o2, o3, o4, o5⟩ := OF.out.1
  obtain ⟨p0, p1, p2, p3, p4, p5⟩ := OF.out.2
  go_wp2
  go_ret
  exact ⟨rfl, KF.out⟩

theorem put_index (hb T r T2 r2 : Nat) (k n a l i u z u2 z2 : Int) (x : Bool) (s : ByteArray) (n' a' l' : Int) (x' : Bool) (s' : ByteArray) (w : World) (hk : (k == 10) = false)
    (hf : Hid (∀ wx, Below w.heap.size w wx → Calls Try.prog 71 #[ptr hb, obV k x n a l s] wx fun e w' => e = .returned (.tuple #[pcV (.iface T (ptr r)) u z, .int .i64 0]) ∧ Below wx.heap.size wx w'))
    (hf2 : Hid (∀ wx, Below w.heap.size w wx → Calls Try.prog 71 #[ptr hb, obV k x' n' a' l' s'] wx fun e w' => e = .returned (.tuple #[pcV (.iface T2 (ptr r2)) u2 z2, .int .i64 0]) ∧ Below wx.heap.size wx w'))
    (hh : Hid (∀ w, Calls Try.prog 75 #[pcV (.iface T (ptr r)) u z, .int .i64 i, .int .i64 z2] w fun e w' => e = .returned (.bool false) ∧ Below w.heap.size w w')) :
    Calls Try.prog 16 #[ptr hb, obV k x n a l s, .int .i64 i, obV k x' n' a' l' s'] w fun e w' => e = .returned (.int .i64 12) ∧ Below w.heap.size w w' := by
  have hkk : (k != k) = false := by simp
  go_enter Try.func16, Try.ntmps16
  go_wp2_with fail
  obtain ⟨wb, eb, kb, ob⟩ := two_box w k n a l k n' a' l' x x' s s'
  rw [eb]
  refine (hf.out _ kb).mono ?_
  rintro e wc ⟨rfl, kc⟩
  have KC := Lib.hid (below_and kb kc)
  have OC := Lib.hid (ob.later kc)
  clear eb kb kc ob
  go_upto_region 2 with fail
  obtain ⟨wd, ed, kd, zd, d0, d1, d2⟩ := pc_box wc (.iface T (ptr r)) u z
  rw [ed]
  have KD := Lib.hid (below_and KC.out kd)
  have OD := Lib.hid (OC.out.later kd)
  clear ed kd zd
  obtain ⟨p0, p1, p2, p3, p4, p5⟩ := OD.out.2
  go_wp2_with fail
  refine (hf2.out _ KD.out).mono ?_
  rintro e we ⟨rfl, ke⟩
  have KE := Lib.hid (below_and KD.out ke)
  have OE := Lib.hid (OD.out.later ke)
  replace d0 := cell_later ke d0
  replace d1 := cell_later ke d1
  replace d2 := cell_later ke d2
  clear p0 p1 p2 p3 p4 p5 ke
  go_upto_region 5 with fail
  obtain ⟨wf, ef, kf, zf, q0, q1, q2⟩ := pc_box we (.iface T2 (ptr r2)) u2 z2
  rw [ef]
  have KF := Lib.hid (below_and KE.out kf)
  have OF := Lib.hid (OE.out.later kf)
  replace d0 := cell_later kf d0
  replace d1 := cell_later kf d1
  replace d2 := cell_later kf d2
  clear ef kf zf
  obtain ⟨o0, o1, o2, o3, o4, o5⟩ := OF.out.1
  obtain ⟨p0, p1, p2, p3, p4, p5⟩ := OF.out.2
  go_wp2_with fail
  refine (hh.out _).mono ?_
  rintro e wg ⟨rfl, kg⟩
  have KG := Lib.hid (below_and KF.out kg)
  replace d0 := cell_later kg d0
  replace d1 := cell_later kg d1
  replace d2 := cell_later kg d2
  replace q0 := cell_later kg q0
  replace q1 := cell_later kg q1
  replace q2 := cell_later kg q2
  clear kg o0 o1 o2 o3 o4 o5 p0 p1 p2 p3 p4 p5
  go_wp2
  go_ret
  exact ⟨rfl, KG.out⟩

theorem put_locked87 (hb r T2 r2 : Nat) (k n a l i u z u2 z2 : Int) (x : Bool) (s : ByteArray) (n' a' l' : Int) (x' : Bool) (s' : ByteArray) (w : World) (hk : (k == 10) = false)
    (hf : Hid (∀ wx, Below w.heap.size w wx → Calls Try.prog 71 #[ptr hb, obV k x n a l s] wx fun e w' => e = .returned (.tuple #[pcV (.iface 156 (ptr r)) u z, .int .i64 0]) ∧ Below wx.heap.size wx w'))
    (hf2 : Hid (∀ wx, Below w.heap.size w wx → Calls Try.prog 71 #[ptr hb, obV k x' n' a' l' s'] wx fun e w' => e = .returned (.tuple #[pcV (.iface T2 (ptr r2)) u2 z2, .int .i64 0]) ∧ Below wx.heap.size wx w'))
    (hh : Hid (∀ w, Calls Try.prog 75 #[pcV (.iface 156 (ptr r)) u z, .int .i64 i, .int .i64 z2] w fun e w' => e = .returned (.bool true) ∧ Below w.heap.size w w'))
    (hl : Hid (∀ wx, Below w.heap.size w wx → Calls Try.prog 150 #[ptr r] wx fun e w' => e = .returned (.bool true) ∧ wx = w')) :
    Calls Try.prog 16 #[ptr hb, obV k x n a l s, .int .i64 i, obV k x' n' a' l' s'] w fun e w' => e = .returned (.int .i64 1) ∧ Below w.heap.size w w' := by
  have hkk : (k != k) = false := by simp
  have hme := method_isLocked87
  go_enter Try.func16, Try.ntmps16
  go_wp2_with fail
  obtain ⟨wb, eb, kb, ob⟩ := two_box w k n a l k n' a' l' x x' s s'
  rw [eb]
  refine (hf.out _ kb).mono ?_
  rintro e wc ⟨rfl, kc⟩
  have KC := Lib.hid (below_and kb kc)
  have OC := Lib.hid (ob.later kc)
  clear eb kb kc ob
  go_upto_region 2 with fail
  obtain ⟨wd, ed, kd, zd, d0, d1, d2⟩ := pc_box wc (.iface 156 (ptr r)) u z
  rw [ed]
  have KD := Lib.hid (below_and KC.out kd)
  have OD := Lib.hid (OC.out.later kd)
  clear ed kd zd
  obtain ⟨p0, p1, p2, p3, p4, p5⟩ := OD.out.2
  go_wp2_with fail
  refine (hf2.out _ KD.out).mono ?_
  rintro e we ⟨rfl, ke⟩
  have KE := Lib.hid (below_and KD.out ke)
  have OE := Lib.hid (OD.out.later ke)
  replace d0 := cell_later ke d0
  replace d1 := cell_later ke d1
  replace d2 := cell_later ke d2
  clear p0 p1 p2 p3 p4 p5 ke
  go_upto_region 5 with fail
  obtain ⟨wf, ef, kf, zf, q0, q1, q2⟩ := pc_box we (.iface T2 (ptr r2)) u2 z2
  rw [ef]
  have KF := Lib.hid (below_and KE.out kf)
  have OF := Lib.hid (OE.out.later kf)
  replace d0 := cell_later kf d0
  replace d1 := cell_later kf d1
  replace d2 := cell_later kf d2
  clear ef kf zf
  obtain ⟨o0, o1, o2, o3, o4, o5⟩ := OF.out.1
  obtain ⟨p0, p1, p2, p3, p4, p5⟩ := OF.out.2
  go_wp2_with fail
  refine (hh.out _).mono ?_
  rintro e wg ⟨rfl, kg⟩
  have KG := Lib.hid (below_and KF.out kg)
  replace d0 := cell_later kg d0
  replace d1 := cell_later kg d1
  replace d2 := cell_later kg d2
  replace q0 := cell_later kg q0
  replace q1 := cell_later kg q1
  replace q2 := cell_later kg q2
  clear kg o0 o1 o2 o3 o4 o5 p0 p1 p2 p3 p4 p5
  go_wp2_with fail
  refine (hl.out _ KG.out).mono ?_
  rintro e wh ⟨rfl, rfl⟩
  go_wp2
  go_ret
  exact ⟨rfl, KG.out⟩

theorem method_put87 (r : Nat) (w : World) : (method 294 156 (ptr r) "tympan/heap.put").run Try.prog w = .ok (158, ptr r) w := by kernel_rfl
theorem put_walk87 (hb r T2 r2 : Nat) (k n a l i u z u2 z2 j : Int) (x : Bool) (s : ByteArray) (n' a' l' : Int) (x' : Bool) (s' : ByteArray) (w : World) (R : World → Prop) (hk : (k == 10) = false) (e1 : IntKind.i64.wrap (u + i) = j)
    (hf : Hid (∀ wx, Below w.heap.size w wx → Calls Try.prog 71 #[ptr hb, obV k x n a l s] wx fun e w' => e = .returned (.tuple #[pcV (.iface 156 (ptr r)) u z, .int .i64 0]) ∧ Below wx.heap.size wx w'))
    (hf2 : Hid (∀ wx, Below w.heap.size w wx → Calls Try.prog 71 #[ptr hb, obV k x' n' a' l' s'] wx fun e w' => e = .returned (.tuple #[pcV (.iface T2 (ptr r2)) u2 z2, .int .i64 0]) ∧ Below wx.heap.size wx w'))
    (hh : Hid (∀ w, Calls Try.prog 75 #[pcV (.iface 156 (ptr r)) u z, .int .i64 i, .int .i64 z2] w fun e w' => e = .returned (.bool true) ∧ Below w.heap.size w w'))
    (hl : Hid (∀ wx, Below w.heap.size w wx → Calls Try.prog 150 #[ptr r] wx fun e w' => e = .returned (.bool false) ∧ wx = w'))
    (hp : Hid (∀ wx, Below w.heap.size w wx → Calls Try.prog 158 #[ptr r, .int .i64 j, .iface T2 (ptr r2), .int .i64 u2, .int .i64 z2] wx fun e w' => e = .returned (.tuple #[]) ∧ R w')) :
    Calls Try.prog 16 #[ptr hb, obV k x n a l s, .int .i64 i, obV k x' n' a' l' s'] w fun e w' => e = .returned (.int .i64 0) ∧ R w' := by
  have hkk : (k != k) = false := by simp
  have hme := method_isLocked87
  have hmp := method_put87
  go_enter Try.func16, Try.ntmps16
  go_wp2_with fail
  obtain ⟨wb, eb, kb, ob⟩ := two_box w k n a l k n' a' l' x x' s s'
  rw [eb]
  refine (hf.out _ kb).mono ?_
  rintro e wc ⟨rfl, kc⟩
  have KC := Lib.hid (below_and kb kc)
  have OC := Lib.hid (ob.later kc)
  clear eb kb kc ob
  go_upto_region 2 with fail
  obtain ⟨wd, ed, kd, zd, d0, d1, d2⟩ := pc_box wc (.iface 156 (ptr r)) u z
  rw [ed]
  have KD := Lib.hid (below_and KC.out kd)
  have OD := Lib.hid (OC.out.later kd)
  clear ed kd zd
  obtain ⟨p0, p1, p2, p3, p4, p5⟩ := OD.out.2
  go_wp2_with fail
  refine (hf2.out _ KD.out).mono ?_
  rintro e we ⟨rfl, ke⟩
  have KE := Lib.hid (below_and KD.out ke)
  have OE := Lib.hid (OD.out.later ke)
  replace d0 := cell_later ke d0
  replace d1 := cell_later ke d1
  replace d2 := cell_later ke d2
  clear p0 p1 p2 p3 p4 p5 ke
  go_upto_region 5 with fail
  obtain ⟨wf, ef, kf, zf, q0, q1, q2⟩ := pc_box we (.iface T2 (ptr r2)) u2 z2
  rw [ef]
  have KF := Lib.hid (below_and KE.out kf)
  have OF := Lib.hid (OE.out.later kf)
  replace d0 := cell_later kf d0
  replace d1 := cell_later kf d1
  replace d2 := cell_later kf d2
  clear ef kf zf
  obtain ⟨o0, o1, o2, o3, o4, o5⟩ := OF.out.1
  obtain ⟨p0, p1, p2, p3, p4, p5⟩ := OF.out.2
  go_wp2_with fail
  refine (hh.out _).mono ?_
  rintro e wg ⟨rfl, kg⟩
  have KG := Lib.hid (below_and KF.out kg)
  replace d0 := cell_later kg d0
  replace d1 := cell_later kg d1
  replace d2 := cell_later kg d2
  replace q0 := cell_later kg q0
  replace q1 := cell_later kg q1
  replace q2 := cell_later kg q2
  clear kg o0 o1 o2 o3 o4 o5 p0 p1 p2 p3 p4 p5
  go_wp2_with fail
  refine (hl.out _ KG.out).mono ?_
  rintro e wh ⟨rfl, rfl⟩
  go_wp2_with fail
  refine (hp.out _ KG.out).mono ?_
  rintro e wi ⟨rfl, hR⟩
  have HR := Lib.hid hR
  clear hR d0 d1 d2 q0 q1 q2
  go_wp2
  go_ret
  exact ⟨rfl, HR.out⟩

theorem put_locked95 (hb r T2 r2 : Nat) (k n a l i u z u2 z2 : Int) (x : Bool) (s : ByteArray) (n' a' l' : Int) (x' : Bool) (s' : ByteArray) (w : World) (hk : (k == 10) = false)
    (hf : Hid (∀ wx, Below w.heap.size w wx → Calls Try.prog 71 #[ptr hb, obV k x n a l s] wx fun e w' => e = .returned (.tuple #[pcV (.iface 141 (ptr r)) u z, .int .i64 0]) ∧ Below wx.heap.size wx w'))
    (hf2 : Hid (∀ wx, Below w.heap.size w wx → Calls Try.prog 71 #[ptr hb, obV k x' n' a' l' s'] wx fun e w' => e = .returned (.tuple #[pcV (.iface T2 (ptr r2)) u2 z2, .int .i64 0]) ∧ Below wx.heap.size wx w'))
    (hh : Hid (∀ w, Calls Try.prog 75 #[pcV (.iface 141 (ptr r)) u z, .int .i64 i, .int .i64 z2] w fun e w' => e = .returned (.bool true) ∧ Below w.heap.size w w'))
    (hl : Hid (∀ wx, Below w.heap.size w wx → Calls Try.prog 150 #[ptr r] wx fun e w' => e = .returned (.bool true) ∧ wx = w')) :
    Calls Try.prog 16 #[ptr hb, obV k x n a l s, .int .i64 i, obV k x' n' a' l' s'] w fun e w' => e = .returned (.int .i64 1) ∧ Below w.heap.size w w' := by
  have hkk : (k != k) = false := by simp
  have hme := method_isLocked95
  go_enter Try.func16, Try.ntmps16
  go_wp2_with fail
  obtain ⟨wb, eb, kb, ob⟩ := two_box w k n a l k n' a' l' x x' s s'
  rw [eb]
  refine (hf.out _ kb).mono ?_
  rintro e wc ⟨rfl, kc⟩
  have KC := Lib.hid (below_and kb kc)
  have OC := Lib.hid (ob.later kc)
  clear eb kb kc ob
  go_upto_region 2 with fail
  obtain ⟨wd, ed, kd, zd, d0, d1, d2⟩ := pc_box wc (.iface 141 (ptr r)) u z
  rw [ed]
  have KD := Lib.hid (below_and KC.out kd)
  have OD := Lib.hid (OC.out.later kd)
  clear ed kd zd
  obtain ⟨p0, p1, p2, p3, p4, p5⟩ := OD.out.2
  go_wp2_with fail
  refine (hf2.out _ KD.out).mono ?_
  rintro e we ⟨rfl, ke⟩
  have KE := Lib.hid (below_and KD.out ke)
  have OE := Lib.hid (OD.out.later ke)
  replace d0 := cell_later ke d0
  replace d1 := cell_later ke d1
  replace d2 := cell_later ke d2
  clear p0 p1 p2 p3 p4 p5 ke
  go_upto_region 5 with fail
  obtain ⟨wf, ef, kf, zf, q0, q1, q2⟩ := pc_box we (.iface T2 (ptr r2)) u2 z2
  rw [ef]
  have KF := Lib.hid (below_and KE.out kf)
  have OF := Lib.hid (OE.out.later kf)
  replace d0 := cell_later kf d0
  replace d1 := cell_later kf d1
  replace d2 := cell_later kf d2
  clear ef kf zf
  obtain ⟨o0, o1, o2, o3, o4, o5⟩ := OF.out.1
  obtain ⟨p0, p1, p2, p3, p4, p5⟩ := OF.out.2
  go_wp2_with fail
  refine (hh.out _).mono ?_
  rintro e wg ⟨rfl, kg⟩
  have KG := Lib.hid (below_and KF.out kg)
  replace d0 := cell_later kg d0
  replace d1 := cell_later kg d1
  replace d2 := cell_later kg d2
  replace q0 := cell_later kg q0
  replace q1 := cell_later kg q1
  replace q2 := cell_later kg q2
  clear kg o0 o1 o2 o3 o4 o5 p0 p1 p2 p3 p4 p5
  go_wp2_with fail
  refine (hl.out _ KG.out).mono ?_
  rintro e wh ⟨rfl, rfl⟩
  go_wp2
  go_ret
  exact ⟨rfl, KG.out⟩

theorem method_put95 (r : Nat) (w : World) : (method 294 141 (ptr r) "tympan/heap.put").run Try.prog w = .ok (152, ptr r) w := by kernel_rfl
theorem put_walk95 (hb r T2 r2 : Nat) (k n a l i u z u2 z2 j : Int) (x : Bool) (s : ByteArray) (n' a' l' : Int) (x' : Bool) (s' : ByteArray) (w : World) (R : World → Prop) (hk : (k == 10) = false) (e1 : IntKind.i64.wrap (u + i) = j)
    (hf : Hid (∀ wx, Below w.heap.size w wx → Calls Try.prog 71 #[ptr hb, obV k x n a l s] wx fun e w' => e = .returned (.tuple #[pcV (.iface 141 (ptr r)) u z, .int .i64 0]) ∧ Below wx.heap.size wx w'))
    (hf2 : Hid (∀ wx, Below w.heap.size w wx → Calls Try.prog 71 #[ptr hb, obV k x' n' a' l' s'] wx fun e w' => e = .returned (.tuple #[pcV (.iface T2 (ptr r2)) u2 z2, .int .i64 0]) ∧ Below wx.heap.size wx w'))
    (hh : Hid (∀ w, Calls Try.prog 75 #[pcV (.iface 141 (ptr r)) u z, .int .i64 i, .int .i64 z2] w fun e w' => e = .returned (.bool true) ∧ Below w.heap.size w w'))
    (hl : Hid (∀ wx, Below w.heap.size w wx → Calls Try.prog 150 #[ptr r] wx fun e w' => e = .returned (.bool false) ∧ wx = w'))
    (hp : Hid (∀ wx, Below w.heap.size w wx → Calls Try.prog 152 #[ptr r, .int .i64 j, .iface T2 (ptr r2), .int .i64 u2, .int .i64 z2] wx fun e w' => e = .returned (.tuple #[]) ∧ R w')) :
    Calls Try.prog 16 #[ptr hb, obV k x n a l s, .int .i64 i, obV k x' n' a' l' s'] w fun e w' => e = .returned (.int .i64 0) ∧ R w' := by
  have hkk : (k != k) = false := by simp
  have hme := method_isLocked95
  have hmp := method_put95
  go_enter Try.func16, Try.ntmps16
  go_wp2_with fail
  obtain ⟨wb, eb, kb, ob⟩ := two_box w k n a l k n' a' l' x x' s s'
  rw [eb]
  refine (hf.out _ kb).mono ?_
  rintro e wc ⟨rfl, kc⟩
  have KC := Lib.hid (below_and kb kc)
  have OC := Lib.hid (ob.later kc)
  clear eb kb kc ob
  go_upto_region 2 with fail
  obtain ⟨wd, ed, kd, zd, d0, d1, d2⟩ := pc_box wc (.iface 141 (ptr r)) u z
  rw [ed]
  have KD := Lib.hid (below_and KC.out kd)
  have OD := Lib.hid (OC.out.later kd)
  clear ed kd zd
  obtain ⟨p0, p1, p2, p3, p4, p5⟩ := OD.out.2
  go_wp2_with fail
  refine (hf2.out _ KD.out).mono ?_
  rintro e we ⟨rfl, ke⟩
  have KE := Lib.hid (below_and KD.out ke)
  have OE := Lib.hid (OD.out.later ke)
  replace d0 := cell_later ke d0
  replace d1 := cell_later ke d1
  replace d2 := cell_later ke d2
  clear p0 p1 p2 p3 p4 p5 ke
  go_upto_region 5 with fail
  obtain ⟨wf, ef, kf, zf, q0, q1, q2⟩ := pc_box we (.iface T2 (ptr r2)) u2 z2
  rw [ef]
  have KF := Lib.hid (below_and KE.out kf)
  have OF := Lib.hid (OE.out.later kf)
  replace d0 := cell_later kf d0
  replace d1 := cell_later kf d1
  replace d2 := cell_later kf d2
  clear ef kf zf
  obtain ⟨o0, o1, o2, o3, o4, o5⟩ := OF.out.1
  obtain ⟨p0, p1, p2, p3, p4, p5⟩ := OF.out.2
  go_wp2_with fail
  refine (hh.out _).mono ?_
  rintro e wg ⟨rfl, kg⟩
  have KG := Lib.hid (below_and KF.out kg)
  replace d0 := cell_later kg d0
  replace d1 := cell_later kg d1
  replace d2 := cell_later kg d2
  replace q0 := cell_later kg q0
  replace q1 := cell_later kg q1
  replace q2 := cell_later kg q2
  clear kg o0 o1 o2 o3 o4 o5 p0 p1 p2 p3 p4 p5
  go_wp2_with fail
  refine (hl.out _ KG.out).mono ?_
  rintro e wh ⟨rfl, rfl⟩
  go_wp2_with fail
  refine (hp.out _ KG.out).mono ?_
  rintro e wi ⟨rfl, hR⟩
  have HR := Lib.hid hR
  clear hR d0 d1 d2 q0 q1 q2
  go_wp2
  go_ret
  exact ⟨rfl, HR.out⟩

end Go.Proofs.Ytmlkmgeddkpgiaa
