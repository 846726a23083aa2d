/- Walks of heap: Part. -/
import Derived.Test.YtmlkmgeddkpgiaaK14
namespace Go.Proofs.Ytmlkmgeddkpgiaa
open Go.RowKit
set_option linter.unusedVariables false

theorem Only.below {A : Nat} {w0 w w' : World} (h : Only A w w') (k : Below w0.heap.size w0 w) (hA : w0.heap.size ≤ A) : Below w0.heap.size w0 w' :=
  ⟨h.os.trans k.os, h.tape.trans k.tape, h.output.trans k.output, by rw [h.size]; exact k.size, fun i hi => (h.block i (by omega)).trans (k.block i hi)⟩
theorem ObAt.only {A b : Nat} {w w' : World} {k n a l : Int} {x : Bool} {s : ByteArray} (h : ObAt w b k x n a l s) (o : Only A w w') (hb : b ≠ A) : ObAt w' b k x n a l s := by
  have e : ∀ i, w'.cell? ⟨b, i, none⟩ = w.cell? ⟨b, i, none⟩ := fun i => World.cell?_of_block (o.block b hb)
  unfold ObAt
  rw [e, e, e, e, e, e]
  exact h
theorem set6_box {w : World} {A : Nat} {c0 c1 c2 c3 c4 c5 : Value} {t : TypeId} (h : w.heap[A]? = some (.cells #[c0, c1, c2, c3, c4, c5] t (0, 0))) (v0 v1 v2 v3 v4 v5 : Value) :
    ∃ wf, ((((((w.setCell ⟨A, 0, none⟩ v0).setCell ⟨A, 1, none⟩ v1).setCell ⟨A, 2, none⟩ v2).setCell ⟨A, 3, none⟩ v3).setCell ⟨A, 4, none⟩ v4).setCell ⟨A, 5, none⟩ v5) = wf ∧ wf.heap[A]? = some (.cells #[v0, v1, v2, v3, v4, v5] t (0, 0)) ∧ Only A w wf :=
  ⟨_, rfl, set6 h _ _ _ _ _ _, only6 _ _ _ _ _ _ _ _⟩
theorem set34_box {w : World} {A : Nat} {c0 c1 c2 c3 c4 c5 : Value} {t : TypeId} (h : w.heap[A]? = some (.cells #[c0, c1, c2, c3, c4, c5] t (0, 0))) (v3 v4 : Value) :
    ∃ wf, (w.setCell ⟨A, 3, none⟩ v3).setCell ⟨A, 4, none⟩ v4 = wf ∧ wf.heap[A]? = some (.cells #[c0, c1, c2, v3, v4, c5] t (0, 0)) ∧ Only A w wf := by
  refine ⟨_, rfl, ?_, ((Only.refl A w).set 3 v3).set 4 v4⟩
  rw [heap_setCell_same _ _ _ _ t _ (heap_setCell_same _ _ _ _ t _ h)]
  rfl

theorem part_err (hb : Nat) (k n a l i m E : Int) (x : Bool) (s : ByteArray) (w : World) (hE : (E != 0) = true)
    (hf : Hid (∀ wx, Below w.heap.size w wx → Calls Try.prog 71 #[ptr hb, obV k x n a l s] wx fun e w' => e = .returned (.tuple #[pcV .nilIface 0 0, .int .i64 E]) ∧ Below wx.heap.size wx w')) :
    Calls Try.prog 66 #[ptr hb, obV k x n a l s, .int .i64 i, .int .i64 m] w fun e w' => e = .returned (.tuple #[zeroOb, .int .i64 E]) ∧ Below w.heap.size w w' := by
  go_enter Try.func66, Try.ntmps66
  go_wp2_with fail
  obtain ⟨wb, eb, kb, ob, pb⟩ := get_box w k n a l x s
  rw [eb]
  refine (hf.out _ kb).mono ?_
  rintro e wc ⟨rfl, kc⟩
  have KC := Lib.hid (below_and kb kc)
  have PC : Hid (wc.heap[w.heap.size + 1]? = some emptyOb) := Lib.hid ((kc.block _ (blk_lt pb)).trans pb)
  have OC := Lib.hid (ob.later kc)
  clear eb kb pb kc ob
  go_upto_region 2 with fail
  obtain ⟨wd, ed, kd, zd, d0, d1, d2⟩ := pc_box wc .nilIface 0 0
  rw [ed]
  have KD := Lib.hid (below_and KC.out kd)
  have PD : Hid (wd.heap[w.heap.size + 1]? = some emptyOb) := Lib.hid ((kd.block _ (blk_lt PC.out)).trans PC.out)
  have OD := Lib.hid (OC.out.later kd)
  clear ed kd zd
  obtain ⟨⟨c0, c1, c2, c3, c4, c5⟩, f0, f1, f2, f3, f4, f5⟩ := cells6 PD.out
  go_wp2
  (try simp only [Exit.inBlock, Exit.then])
  exact bodyPost_ret (ret_cell rfl _ _ _ _ _ _ _ _ rfl rfl (set6 PD.out _ _ _ _ _ _) Try.underlying24 rfl (by kernel_rfl)) rfl ⟨rfl, set6_below KD.out (by omega) _ _ _ _ _ _⟩

theorem part_dict (hb T r : Nat) (n a l i m u z : Int) (x : Bool) (s : ByteArray) (w : World)
    (hf : Hid (∀ wx, Below w.heap.size w wx → Calls Try.prog 71 #[ptr hb, obV 10 x n a l s] wx fun e w' => e = .returned (.tuple #[pcV (.iface T (ptr r)) u z, .int .i64 0]) ∧ Below wx.heap.size wx w')) :
    Calls Try.prog 66 #[ptr hb, obV 10 x n a l s, .int .i64 i, .int .i64 m] w fun e w' => e = .returned (.tuple #[zeroOb, .int .i64 6]) ∧ Below w.heap.size w w' := by
  go_enter Try.func66, Try.ntmps66
  go_wp2_with fail
  obtain ⟨wb, eb, kb, ob, pb⟩ := get_box w 10 n a l x s
  rw [eb]
  refine (hf.out _ kb).mono ?_
  rintro e wc ⟨rfl, kc⟩
  have KC := Lib.hid (below_and kb kc)
  have PC : Hid (wc.heap[w.heap.size + 1]? = some emptyOb) := Lib.hid ((kc.block _ (blk_lt pb)).trans pb)
  have OC := Lib.hid (ob.later kc)
  clear eb kb pb kc ob
  go_upto_region 2 with fail
  obtain ⟨wd, ed, kd, zd, d0, d1, d2⟩ := pc_box wc (.iface T (ptr r)) u z
  rw [ed]
  have KD := Lib.hid (below_and KC.out kd)
  have PD : Hid (wd.heap[w.heap.size + 1]? = some emptyOb) := Lib.hid ((kd.block _ (blk_lt PC.out)).trans PC.out)
  have OD := Lib.hid (OC.out.later kd)
  clear ed kd zd
  obtain ⟨⟨c0, c1, c2, c3, c4, c5⟩, f0, f1, f2, f3, f4, f5⟩ := cells6 PD.out
  obtain ⟨o0, o1, o2, o3, o4, o5⟩ := OD.out
  go_wp2
  (try simp only [Exit.inBlock, Exit.then])
  exact bodyPost_ret (ret_cell rfl _ _ _ _ _ _ _ _ rfl rfl (set6 PD.out _ _ _ _ _ _) Try.underlying24 rfl (by kernel_rfl)) rfl ⟨rfl, set6_below KD.out (by omega) _ _ _ _ _ _⟩

theorem part_index (hb T r : Nat) (k n a l i m u z : Int) (x : Bool) (s : ByteArray) (w : World) (hk : (k == 10) = false)
    (hf : Hid (∀ wx, Below w.heap.size w wx → Calls Try.prog 71 #[ptr hb, obV k x n a l s] wx fun e w' => e = .returned (.tuple #[pcV (.iface T (ptr r)) u z, .int .i64 0]) ∧ Below wx.heap.size wx w'))
    (hh : Hid (∀ w, Calls Try.prog 75 #[pcV (.iface T (ptr r)) u z, .int .i64 i, .int .i64 m] w fun e w' => e = .returned (.bool false) ∧ Below w.heap.size w w')) :
    Calls Try.prog 66 #[ptr hb, obV k x n a l s, .int .i64 i, .int .i64 m] w fun e w' => e = .returned (.tuple #[zeroOb, .int .i64 12]) ∧ Below w.heap.size w w' := by
  go_enter Try.func66, Try.ntmps66
  go_wp2_with fail
  obtain ⟨wb, eb, kb, ob, pb⟩ := get_box w k n a l x s
  rw [eb]
  refine (hf.out _ kb).mono ?_
  rintro e wc ⟨rfl, kc⟩
  have KC := Lib.hid (below_and kb kc)
  have PC : Hid (wc.heap[w.heap.size + 1]? = some emptyOb) := Lib.hid ((kc.block _ (blk_lt pb)).trans pb)
  have OC := Lib.hid (ob.later kc)
  clear eb kb pb kc ob
  go_upto_region 2 with fail
  obtain ⟨wd, ed, kd, zd, d0, d1, d2⟩ := pc_box wc (.iface T (ptr r)) u z
  rw [ed]
  have KD := Lib.hid (below_and KC.out kd)
  have PD : Hid (wd.heap[w.heap.size + 1]? = some emptyOb) := Lib.hid ((kd.block _ (blk_lt PC.out)).trans PC.out)
  have OD := Lib.hid (OC.out.later kd)
  clear ed kd zd
  obtain ⟨o0, o1, o2, o3, o4, o5⟩ := OD.out
  go_wp2_with fail
  refine (hh.out _).mono ?_
  rintro e we ⟨rfl, ke⟩
  have KE := Lib.hid (below_and KD.out ke)
  have PE : Hid (we.heap[w.heap.size + 1]? = some emptyOb) := Lib.hid ((ke.block _ (blk_lt PD.out)).trans PD.out)
  have OE := Lib.hid (OD.out.later ke)
  clear d0 d1 d2 ke o0 o1 o2 o3 o4 o5
  obtain ⟨⟨c0, c1, c2, c3, c4, c5⟩, f0, f1, f2, f3, f4, f5⟩ := cells6 PE.out
  obtain ⟨o0, o1, o2, o3, o4, o5⟩ := OE.out
  go_wp2
  (try simp only [Exit.inBlock, Exit.then])
  exact bodyPost_ret (ret_cell rfl _ _ _ _ _ _ _ _ rfl rfl (set6 PE.out _ _ _ _ _ _) Try.underlying24 rfl (by kernel_rfl)) rfl ⟨rfl, set6_below KE.out (by omega) _ _ _ _ _ _⟩

theorem part_walk (hb T r : Nat) (k n a l i m u z j : Int) (x : Bool) (s : ByteArray) (w : World) (hk : (k == 10) = false) (e1 : IntKind.i64.wrap (a + i) = j)
    (hf : Hid (∀ wx, Below w.heap.size w wx → Calls Try.prog 71 #[ptr hb, obV k x n a l s] wx fun e w' => e = .returned (.tuple #[pcV (.iface T (ptr r)) u z, .int .i64 0]) ∧ Below wx.heap.size wx w'))
    (hh : Hid (∀ w, Calls Try.prog 75 #[pcV (.iface T (ptr r)) u z, .int .i64 i, .int .i64 m] w fun e w' => e = .returned (.bool true) ∧ Below w.heap.size w w')) :
    Calls Try.prog 66 #[ptr hb, obV k x n a l s, .int .i64 i, .int .i64 m] w fun e w' => e = .returned (.tuple #[obV k x n j m s, .int .i64 0]) ∧ Below w.heap.size w w' := by
  go_enter Try.func66, Try.ntmps66
  go_wp2_with fail
  obtain ⟨wb, eb, kb, ob, pb⟩ := get_box w k n a l x s
  rw [eb]
  refine (hf.out _ kb).mono ?_
  rintro e wc ⟨rfl, kc⟩
  have KC := Lib.hid (below_and kb kc)
  have PC : Hid (wc.heap[w.heap.size + 1]? = some emptyOb) := Lib.hid ((kc.block _ (blk_lt pb)).trans pb)
  have OC := Lib.hid (ob.later kc)
  clear eb kb pb kc ob
  go_upto_region 2 with fail
  obtain ⟨wd, ed, kd, zd, d0, d1, d2⟩ := pc_box wc (.iface T (ptr r)) u z
  rw [ed]
  have KD := Lib.hid (below_and KC.out kd)
  have PD : Hid (wd.heap[w.heap.size + 1]? = some emptyOb) := Lib.hid ((kd.block _ (blk_lt PC.out)).trans PC.out)
  have OD := Lib.hid (OC.out.later kd)
  clear ed kd zd
  obtain ⟨o0, o1, o2, o3, o4, o5⟩ := OD.out
  go_wp2_with fail
  refine (hh.out _).mono ?_
  rintro e we ⟨rfl, ke⟩
  have KE := Lib.hid (below_and KD.out ke)
  have PE : Hid (we.heap[w.heap.size + 1]? = some emptyOb) := Lib.hid ((ke.block _ (blk_lt PD.out)).trans PD.out)
  have OE := Lib.hid (OD.out.later ke)
  clear d0 d1 d2 ke o0 o1 o2 o3 o4 o5
  obtain ⟨⟨c0, c1, c2, c3, c4, c5⟩, f0, f1, f2, f3, f4, f5⟩ := cells6 PE.out
  obtain ⟨o0, o1, o2, o3, o4, o5⟩ := OE.out
  go_upto_region 9 with fail
  obtain ⟨wf, ef, hf6, hfo⟩ := set6_box PE.out (.int .i64 k) (.bool x) (.int .i64 n) (.int .i64 a) (.int .i64 l) (.string s)
  rw [ef]
  have KF := Lib.hid (hfo.below KE.out (by omega))
  have OF := Lib.hid (OE.out.only hfo (by omega))
  have PF := Lib.hid hf6
  clear ef hfo hf6 c0 c1 c2 c3 c4 c5 f0 f1 f2 f3 f4 f5 o0 o1 o2 o3 o4 o5
  obtain ⟨⟨c0, c1, c2, c3, c4, c5⟩, f0, f1, f2, f3, f4, f5⟩ := cells6 PF.out
  obtain ⟨o0, o1, o2, o3, o4, o5⟩ := OF.out
  go_upto_region 10 with fail
  obtain ⟨wg, eg, hg6, hgo⟩ := set34_box PF.out (.int .i64 j) (.int .i64 m)
  rw [eg]
  have KG := Lib.hid (hgo.below KF.out (by omega))
  have PG := Lib.hid hg6
  clear eg hgo hg6 c0 c1 c2 c3 c4 c5 f0 f1 f2 f3 f4 f5 o0 o1 o2 o3 o4 o5
  obtain ⟨⟨c0, c1, c2, c3, c4, c5⟩, f0, f1, f2, f3, f4, f5⟩ := cells6 PG.out
  go_wp2
  (try simp only [Exit.inBlock, Exit.then])
  exact bodyPost_ret (ret_cell rfl _ _ _ _ _ _ _ _ rfl rfl (set6 PG.out _ _ _ _ _ _) Try.underlying24 rfl (by kernel_rfl)) rfl ⟨rfl, set6_below KG.out (by omega) _ _ _ _ _ _⟩

end Go.Proofs.Ytmlkmgeddkpgiaa
