/- Walks of heap: copyItems, Items, Lock. -/
import Derived.Test.YtmlkmgeddkpgiaaK20
namespace Go.Proofs.Ytmlkmgeddkpgiaa
open Go.RowKit
set_option linter.unusedVariables false

theorem copyItems_some (ad : Addr) (m c : Nat) (l : List Ob) (w : World) (hl : l.length = m) (hm : m ≤ 40000) (hnews : ∀ j u, (obCells l)[j]? = some u → w.cell? (ad.add j) = some u) :
    Calls Try.prog 111 #[.slice (some ad) m c] w fun e w' => ∃ v, e = .returned v ∧ w'.ownsRow w.heap.size 24 6 v m (obCells l) ∧ Below w.heap.size w w' := by
  obtain ⟨i0, hi, hz0, hz1, hz2⟩ := info_parts info24
  have HN := Lib.hid hnews
  have HL := Lib.hid hl
  clear hnews hl
  go_enter Try.func111, Try.ntmps111
  go_wp2_with (first
    | (at_builtin; refine wpList_append_own w rfl _ _ 33 rfl w.heap.size 24 i0 (obV 0 false 0 0 0 ⟨#[]⟩) 6 56 Try.underlying33 hi hz0 hz1 hz2 rfl (by decide) (.slice none 0 0) 0 [] rfl (World.ownsRow_nil _ _ _ _) ad m c (obCells l) rfl (by rw [obCells_length, HL.out]) HN.out (obCells_one l) (by unfold maxLen; omega) (by omega) (Nat.le_refl _) ?_))
  intro v w1 hown hgrow _
  have K1 := Lib.hid hown
  have K2 : Hid (Below w.heap.size w w1) := Lib.hid ((Below.refl _ w).grown hgrow (Nat.le_refl _) (fun k e => by cases e))
  clear hown hgrow
  go_wp2
  go_ret
  exact ⟨v, rfl, by have := K1.out; simpa using this, K2.out⟩

theorem assert_87_87 (r : Nat) (w : World) : (Instr.typeAssert (.iface 156 (ptr r)) 99 156 true).run Try.prog w = .ok (.tuple #[ptr r, .bool true]) w := by kernel_rfl
theorem assert_95_87 (r : Nat) (w : World) : (Instr.typeAssert (.iface 141 (ptr r)) 99 156 true).run Try.prog w = .ok (.tuple #[.pointer none, .bool false]) w := by kernel_rfl
theorem assert_95_95 (r : Nat) (w : World) : (Instr.typeAssert (.iface 141 (ptr r)) 99 141 true).run Try.prog w = .ok (.tuple #[ptr r, .bool true]) w := by kernel_rfl
theorem assert_87_95 (r : Nat) (w : World) : (Instr.typeAssert (.iface 156 (ptr r)) 99 141 true).run Try.prog w = .ok (.tuple #[.pointer none, .bool false]) w := by kernel_rfl
/-- What Items and Bytes read of a cell's row and of the piece. -/
def Reads (w : World) (r C : Nat) (V : Value) (lo m : Int) : Prop := w.cell? ⟨r, 2, none⟩ = some V ∧ w.cell? ⟨C, 1, none⟩ = some (.int .i64 lo) ∧ w.cell? ⟨C, 2, none⟩ = some (.int .i64 m)
theorem Reads.later {w wx : World} {r C : Nat} {V : Value} {lo m : Int} (h : Reads w r C V lo m) (k : Below w.heap.size w wx) : Reads wx r C V lo m := ⟨cell_later k h.1, cell_later k h.2.1, cell_later k h.2.2⟩

set_option maxRecDepth 100000 in
theorem items_walk87 (hb r z cap lo m hi : Nat) (p : Option Addr) (k n a l : Int) (x : Bool) (s : ByteArray) (V : Value) (R : Value → World → Prop) (w : World)
    (h2 : w.cell? ⟨r, 2, none⟩ = some (.slice p z cap)) (e1 : IntKind.i64.wrap ((lo : Int) + m) = hi)
    (hf : Hid (∀ wx, Below w.heap.size w wx → Calls Try.prog 71 #[ptr hb, obV k x n a l s] wx fun e w' => e = .returned (.tuple #[pcV (.iface 156 (ptr r)) lo m, .int .i64 0]) ∧ Below wx.heap.size wx w'))
    (hsl : ∀ w : World, (Instr.slice 33 (.slice p z cap) (some (.int .i64 lo)) (some (.int .i64 hi)) none).run Try.prog w = .ok V w)
    (hc : Hid (∀ wx, Below w.heap.size w wx → Calls Try.prog 111 #[V] wx fun e w' => ∃ v, e = .returned v ∧ R v w' ∧ Below wx.heap.size wx w')) :
    Calls Try.prog 78 #[ptr hb, obV k x n a l s] w fun e w' => ∃ v, e = .returned (.tuple #[v, .int .i64 0]) ∧ R v w' ∧ Below w.heap.size w w' := by
  have ha := assert_87_87
  go_enter Try.func78, Try.ntmps78
  go_wp2_with fail
  obtain ⟨wb, eb, kb, zb, ob⟩ := ob_box w k n a l x s
  rw [eb]
  refine (hf.out _ kb).mono ?_
  rintro e wc ⟨rfl, kc⟩
  have KC := Lib.hid (below_and kb kc)
  clear eb kb zb kc ob
  go_upto_region 2 with fail
  obtain ⟨wd, ed, kd, zd, d0, d1, d2⟩ := pc_box wc (.iface 156 (ptr r)) lo m
  rw [ed]
  have kk := below_and KC.out kd
  have KD := Lib.hid kk
  replace h2 := cell_later kk h2
  clear ed kd zd kk
  go_wp2_with fail
  have gb := Lib.hid KD.out.drew
  have go : Hid (Reads wd.drew r wc.heap.size (.slice p z cap) lo m) := Lib.hid ⟨h2, d1, d2⟩
  go_region_held3 (fun wx => wx.cell? ⟨r, 2, none⟩ = some (.slice p z cap) ∧ wx.cell? ⟨wc.heap.size, 1, none⟩ = some (.int .i64 lo) ∧ wx.cell? ⟨wc.heap.size, 2, none⟩ = some (.int .i64 m))
    (first | exact go.out | go_keep)
    (first | (go_at_call 111; refine (hc.out _ gb.out).mono ?_; rintro e wy ⟨v, rfl, hR, ky⟩; replace gb := Lib.hid (below_and gb.out ky); replace go := Lib.hid (go.out.later ky); have HR := Lib.hid hR; clear hR))
  go_wp2
  go_ret2
  exact ⟨v, rfl, HR.out, gb.out⟩

theorem copyItems_none (w : World) : Calls Try.prog 111 #[.slice none 0 0] w fun e w' => ∃ v, e = .returned v ∧ w'.ownsRow w.heap.size 24 6 v 0 (obCells []) ∧ Below w.heap.size w w' := by
  obtain ⟨i0, hi, hz0, hz1, hz2⟩ := info_parts info24
  have hap := run_append_owned_none (P := Try.prog) w 0 33 33 24 i0 6 Try.underlying33 hi (.slice none 0 0) 0 [] (World.ownsRow_nil _ _ _ _)
  go_enter Try.func111, Try.ntmps111
  go_wp2
  go_ret
  exact ⟨_, rfl, World.ownsRow_nil _ _ _ _, Below.refl _ _⟩

theorem items_err (hb : Nat) (k n a l E : Int) (x : Bool) (s : ByteArray) (w : World) (hE : (E != 0) = true)
    (hf : Hid (∀ wx, Below w.heap.size w wx → Calls Try.prog 71 #[ptr hb, obV k x n a l s] wx fun e w' => e = .returned (.tuple #[pcV .nilIface 0 0, .int .i64 E]) ∧ Below wx.heap.size wx w')) :
    Calls Try.prog 78 #[ptr hb, obV k x n a l s] w fun e w' => e = .returned (.tuple #[.slice none 0 0, .int .i64 E]) ∧ Below w.heap.size w w' := by
  go_enter Try.func78, Try.ntmps78
  go_wp2_with fail
  obtain ⟨wb, eb, kb, zb, ob⟩ := ob_box w k n a l x s
  rw [eb]
  refine (hf.out _ kb).mono ?_
  rintro e wc ⟨rfl, kc⟩
  have KC := Lib.hid (below_and kb kc)
  clear eb kb zb kc ob
  go_upto_region 2 with fail
  obtain ⟨wd, ed, kd, zd, d0, d1, d2⟩ := pc_box wc .nilIface 0 0
  rw [ed]
  have KD := Lib.hid (below_and KC.out kd)
  clear ed kd zd
  go_wp2
  go_ret2
  exact ⟨rfl, KD.out⟩

theorem items_type (hb r : Nat) (k n a l u z : Int) (x : Bool) (s : ByteArray) (w : World)
    (hf : Hid (∀ wx, Below w.heap.size w wx → Calls Try.prog 71 #[ptr hb, obV k x n a l s] wx fun e w' => e = .returned (.tuple #[pcV (.iface 141 (ptr r)) u z, .int .i64 0]) ∧ Below wx.heap.size wx w')) :
    Calls Try.prog 78 #[ptr hb, obV k x n a l s] w fun e w' => e = .returned (.tuple #[.slice none 0 0, .int .i64 6]) ∧ Below w.heap.size w w' := by
  have ha := assert_95_87
  go_enter Try.func78, Try.ntmps78
  go_wp2_with fail
  obtain ⟨wb, eb, kb, zb, ob⟩ := ob_box w k n a l x s
  rw [eb]
  refine (hf.out _ kb).mono ?_
  rintro e wc ⟨rfl, kc⟩
  have KC := Lib.hid (below_and kb kc)
  clear eb kb zb kc ob
  go_upto_region 2 with fail
  obtain ⟨wd, ed, kd, zd, d0, d1, d2⟩ := pc_box wc (.iface 141 (ptr r)) u z
  rw [ed]
  have KD := Lib.hid (below_and KC.out kd)
  clear ed kd zd
  go_wp2
  go_ret2
  exact ⟨rfl, KD.out⟩

theorem lock_err (hb : Nat) (k n a l E : Int) (x : Bool) (s : ByteArray) (w : World) (hE : (E != 0) = true)
    (hf : Hid (∀ wx, Below w.heap.size w wx → Calls Try.prog 71 #[ptr hb, obV k x n a l s] wx fun e w' => e = .returned (.tuple #[pcV .nilIface 0 0, .int .i64 E]) ∧ Below wx.heap.size wx w')) :
    Calls Try.prog 18 #[ptr hb, obV k x n a l s] w fun e w' => e = .returned (.int .i64 E) ∧ Below w.heap.size w w' := by
  go_enter Try.func18, Try.ntmps18
  go_wp2_with fail
  obtain ⟨wb, eb, kb, zb, ob⟩ := ob_box w k n a l x s
  rw [eb]
  refine (hf.out _ kb).mono ?_
  rintro e wc ⟨rfl, kc⟩
  have KC := Lib.hid (below_and kb kc)
  clear eb kb zb kc ob
  go_upto_region 2 with fail
  obtain ⟨wd, ed, kd, zd, d0, d1, d2⟩ := pc_box wc .nilIface 0 0
  rw [ed]
  have KD := Lib.hid (below_and KC.out kd)
  clear ed kd zd
  go_wp2
  go_ret
  exact ⟨rfl, KD.out⟩

theorem method_lock87 (r : Nat) (w : World) : (method 294 156 (ptr r) "tympan/heap.lock").run Try.prog w = .ok (151, ptr r) w := by kernel_rfl
theorem lock_walk87 (hb r : Nat) (k n a l u z : Int) (x : Bool) (s : ByteArray) (R : World → Prop) (w : World)
    (hf : Hid (∀ wx, Below w.heap.size w wx → Calls Try.prog 71 #[ptr hb, obV k x n a l s] wx fun e w' => e = .returned (.tuple #[pcV (.iface 156 (ptr r)) u z, .int .i64 0]) ∧ Below wx.heap.size wx w'))
    (hl : Hid (∀ wx, Below w.heap.size w wx → Calls Try.prog 151 #[ptr r] wx fun e w' => e = .returned (.tuple #[]) ∧ R w')) :
    Calls Try.prog 18 #[ptr hb, obV k x n a l s] w fun e w' => e = .returned (.int .i64 0) ∧ R w' := by
  have hme := method_lock87
  go_enter Try.func18, Try.ntmps18
  go_wp2_with fail
  obtain ⟨wb, eb, kb, zb, ob⟩ := ob_box w k n a l x s
  rw [eb]
  refine (hf.out _ kb).mono ?_
  rintro e wc ⟨rfl, kc⟩
  have KC := Lib.hid (below_and kb kc)
  clear eb kb zb kc ob
  go_upto_region 2 with fail
  obtain ⟨wd, ed, kd, zd, d0, d1, d2⟩ := pc_box wc (.iface 156 (ptr r)) u z
  rw [ed]
  have KD := Lib.hid (below_and KC.out kd)
  clear ed kd zd
  go_wp2_with fail
  refine (hl.out _ KD.out).mono ?_
  rintro e we ⟨rfl, hR⟩
  have HR := Lib.hid hR
  clear hR d0 d1 d2
  go_wp2
  go_ret
  exact ⟨rfl, HR.out⟩

theorem method_lock95 (r : Nat) (w : World) : (method 294 141 (ptr r) "tympan/heap.lock").run Try.prog w = .ok (151, ptr r) w := by kernel_rfl
theorem lock_walk95 (hb r : Nat) (k n a l u z : Int) (x : Bool) (s : ByteArray) (R : World → Prop) (w : World)
    (hf : Hid (∀ wx, Below w.heap.size w wx → Calls Try.prog 71 #[ptr hb, obV k x n a l s] wx fun e w' => e = .returned (.tuple #[pcV (.iface 141 (ptr r)) u z, .int .i64 0]) ∧ Below wx.heap.size wx w'))
    (hl : Hid (∀ wx, Below w.heap.size w wx → Calls Try.prog 151 #[ptr r] wx fun e w' => e = .returned (.tuple #[]) ∧ R w')) :
    Calls Try.prog 18 #[ptr hb, obV k x n a l s] w fun e w' => e = .returned (.int .i64 0) ∧ R w' := by
  have hme := method_lock95
  go_enter Try.func18, Try.ntmps18
  go_wp2_with fail
  obtain ⟨wb, eb, kb, zb, ob⟩ := ob_box w k n a l x s
  rw [eb]
  refine (hf.out _ kb).mono ?_
  rintro e wc ⟨rfl, kc⟩
  have KC := Lib.hid (below_and kb kc)
  clear eb kb zb kc ob
  go_upto_region 2 with fail
  obtain ⟨wd, ed, kd, zd, d0, d1, d2⟩ := pc_box wc (.iface 141 (ptr r)) u z
  rw [ed]
  have KD := Lib.hid (below_and KC.out kd)
  clear ed kd zd
  go_wp2_with fail
  refine (hl.out _ KD.out).mono ?_
  rintro e we ⟨rfl, hR⟩
  have HR := Lib.hid hR
  clear hR d0 d1 d2
  go_wp2
  go_ret
  exact ⟨rfl, HR.out⟩

end Go.Proofs.Ytmlkmgeddkpgiaa
