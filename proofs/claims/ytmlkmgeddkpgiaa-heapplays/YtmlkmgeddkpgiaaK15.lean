/- Walks of heap: May, and what writes one item or byte. -/
import Derived.Test.YtmlkmgeddkpgiaaK12
import Derived.Deep.Cut
import Derived.StillTailTactics
namespace Go.Proofs.Ytmlkmgeddkpgiaa
open Go.RowKit
set_option linter.unusedVariables false

theorem hmay_no (hb : Nat) (k n a l : Int) (x : Bool) (s : ByteArray) (w : World) (hm : Hid (∀ w, Calls Try.prog 109 #[obV k x n a l s] w fun e w' => e = .returned (.bool false) ∧ Below w.heap.size w w')) :
    Calls Try.prog 81 #[ptr hb, obV k x n a l s] w fun e w' => e = .returned (.bool false) ∧ Below w.heap.size w w' := by
  go_enter Try.func81, Try.ntmps81
  go_wp2_with fail
  refine (hm.out _).mono ?_
  rintro e wc ⟨rfl, kc⟩
  go_wp2
  go_ret
  exact ⟨rfl, below_and (box_below _ _) kc⟩

theorem hmay_find (hb : Nat) (k n a l u z E : Int) (iv : Value) (x b : Bool) (s : ByteArray) (w : World) (hb' : Hid ((E == 0 || E == 6) = b)) (h1 : iv = .nilIface ∨ ∃ T r, iv = .iface T (ptr r)) (hm : Hid (∀ w, Calls Try.prog 109 #[obV k x n a l s] w fun e w' => e = .returned (.bool true) ∧ Below w.heap.size w w'))
    (hf : Hid (∀ wx, Below w.heap.size w wx → Calls Try.prog 71 #[ptr hb, obV k x n a l s] wx fun e w' => e = .returned (.tuple #[pcV iv u z, .int .i64 E]) ∧ Below wx.heap.size wx w')) :
    Calls Try.prog 81 #[ptr hb, obV k x n a l s] w fun e w' => e = .returned (.bool b) ∧ Below w.heap.size w w' := by
  rcases h1 with rfl | ⟨T, r, rfl⟩
  all_goals
    go_enter Try.func81, Try.ntmps81
    go_wp2_with fail
    obtain ⟨wb, eb, kb, zb, ob⟩ := ob_box w k n a l x s
    rw [eb]
    refine (hm.out _).mono ?_
    rintro e wc ⟨rfl, kc⟩
    have KC := Lib.hid (below_and kb kc)
    obtain ⟨o0, o1, o2, o3, o4, o5⟩ := ob.later kc
    clear eb kb zb ob kc
    go_wp2_with fail
    refine (hf.out _ KC.out).mono ?_
    rintro e wd ⟨rfl, kd⟩
    have KD := Lib.hid (below_and KC.out kd)
    clear kd o0 o1 o2 o3 o4 o5
    go_wp2
    all_goals
      go_ret
      exact ⟨ret_bool (by first | exact hb'.out | (rw [← hb'.out]; simp_all)), KD.out.alloc KD.out.size _⟩

theorem iset_no (hb r : Nat) (i k n a l : Int) (x : Bool) (s : ByteArray) (w : World) (hm : Hid (∀ wx, Below w.heap.size w wx → Calls Try.prog 81 #[ptr hb, obV k x n a l s] wx fun e w' => e = .returned (.bool false) ∧ Below wx.heap.size wx w')) :
    Calls Try.prog 160 #[ptr r, ptr hb, .int .i64 i, obV k x n a l s] w fun e w' => e = .returned (.int .i64 1) ∧ Below w.heap.size w w' := by
  go_enter Try.func160, Try.ntmps160
  go_wp2_with fail
  refine (hm.out _ (box_below _ _)).mono ?_
  rintro e wc ⟨rfl, kc⟩
  go_wp2
  go_ret
  exact ⟨rfl, below_and (box_below _ _) kc⟩

theorem ob_one (o : Ob) : ∀ v ∈ o.cells, v.oneCell' = true := fun v hv => obCells_one [o] v (by simpa [obCells] using hv)
set_option maxRecDepth 100000 in
theorem iset_walk (hb r g z cap i : Nat) (k n a l : Int) (x : Bool) (s : ByteArray) (w : World) (hm : Hid (∀ wx, Below w.heap.size w wx → Calls Try.prog 81 #[ptr hb, obV k x n a l s] wx fun e w' => e = .returned (.bool true) ∧ Below wx.heap.size wx w'))
    (h2 : w.cell? ⟨r, 2, none⟩ = some (.slice (some ⟨g, 0, none⟩) z cap)) (hi : (i : Int) < z) (hi0 : (0 : Int) ≤ i) (ht : Hid (∀ wx, Below w.heap.size w wx → wx.there g (i * 6) 6)) :
    Calls Try.prog 160 #[ptr r, ptr hb, .int .i64 i, obV k x n a l s] w fun e w' => e = .returned (.int .i64 0) ∧ ∃ w1, Below w.heap.size w w1 ∧ w' = w1.setCells g (i * 6) [.int .i64 k, .bool x, .int .i64 n, .int .i64 a, .int .i64 l, .string s] := by
  go_enter Try.func160, Try.ntmps160
  go_wp2_with fail
  obtain ⟨wb, eb, kb, zb, ob⟩ := ob_box w k n a l x s
  rw [eb]
  refine (hm.out _ kb).mono ?_
  rintro e wc ⟨rfl, kc⟩
  have kk := below_and kb kc
  have KC := Lib.hid kk
  obtain ⟨o0, o1, o2, o3, o4, o5⟩ := ob.later kc
  replace h2 := cell_later kk h2
  clear eb kb zb ob kc kk
  go_wp2_with fail
  go_still_tail 7, (by kernel_rfl)
  refine wpList_store_mid rfl 24 _ _ rfl g (i * 6) #[.int .i64 k, .bool x, .int .i64 n, .int .i64 a, .int .i64 l, .string s] rfl rfl (ht.out _ KC.out.drew) (by kernel_rfl) (all_oneCell_toArray (ob_one ⟨k, x, n, a, l, s⟩)) ?_
  obtain ⟨wz, ez⟩ : ∃ wz, wc.drew.setCells g (i * 6) [.int .i64 k, .bool x, .int .i64 n, .int .i64 a, .int .i64 l, .string s] = wz := ⟨_, rfl⟩
  have EZ := Lib.hid ez
  change wpList _ _ _ _ _ (wc.drew.setCells g (i * 6) [.int .i64 k, .bool x, .int .i64 n, .int .i64 a, .int .i64 l, .string s])
  rw [ez]
  clear ez o0 o1 o2 o3 o4 o5 h2
  go_wp2
  go_ret
  exact ⟨rfl, wc.drew, KC.out.drew, EZ.out.symm⟩

theorem bset_type (hb r : Nat) (i k n a l : Int) (x : Bool) (s : ByteArray) (w : World) (hk : (k != 3) = true) :
    Calls Try.prog 154 #[ptr r, ptr hb, .int .i64 i, obV k x n a l s] w fun e w' => e = .returned (.int .i64 6) ∧ Below w.heap.size w w' := by
  go_enter Try.func154, Try.ntmps154
  go_wp2
  go_ret
  exact ⟨rfl, box_below _ _⟩
theorem bset_range (hb r : Nat) (i n a l : Int) (x : Bool) (s : ByteArray) (w : World) (hn : n < 0 ∨ 255 < n) :
    Calls Try.prog 154 #[ptr r, ptr hb, .int .i64 i, obV 3 x n a l s] w fun e w' => e = .returned (.int .i64 2) ∧ Below w.heap.size w w' := by
  rcases hn with hn | hn
  · go_enter Try.func154, Try.ntmps154
    go_wp2
    go_ret
    exact ⟨rfl, box_below _ _⟩
  · have h1 : decide (n < 0) = false := decide_eq_false (by omega)
    go_enter Try.func154, Try.ntmps154
    go_wp2
    go_ret
    exact ⟨rfl, box_below _ _⟩
set_option maxRecDepth 100000 in
theorem bset_walk (hb r g z cap i : Nat) (n a l : Int) (x : Bool) (s : ByteArray) (u0 : Value) (w : World) (hn : 0 ≤ n) (hn' : n ≤ 255)
    (h2 : w.cell? ⟨r, 2, none⟩ = some (.slice (some ⟨g, 0, none⟩) z cap)) (hi : (i : Int) < z) (hi0 : (0 : Int) ≤ i)
    (c0 : w.cell? ⟨g, i, none⟩ = some u0) (f0 : w.frozen? ⟨g, i, none⟩ = false) :
    Calls Try.prog 154 #[ptr r, ptr hb, .int .i64 i, obV 3 x n a l s] w fun e w' => e = .returned (.int .i64 0) ∧ ∃ w1, Below w.heap.size w w1 ∧ w' = w1.setCell ⟨g, i, none⟩ (.int .u8 n) := by
  have h1 : decide (n < 0) = false := decide_eq_false (by omega)
  have h3 : decide (n > 255) = false := decide_eq_false (by omega)
  have e1 : IntKind.u8.wrap n = n := by
    rw [IntKind.wrap_u8]
    omega
  go_enter Try.func154, Try.ntmps154
  go_wp2_with fail
  obtain ⟨wb, eb, kb, zb, ob⟩ := ob_box w 3 n a l x s
  rw [eb]
  have KB := Lib.hid kb
  obtain ⟨o0, o1, o2, o3, o4, o5⟩ := ob
  replace f0 := free_later kb c0 f0
  replace h2 := cell_later kb h2
  replace c0 := cell_later kb c0
  clear eb kb zb
  go_still_tail 9, (by kernel_rfl)
  go_wp2
  go_ret
  exact ⟨rfl, wb.drew, KB.out.drew, rfl⟩
end Go.Proofs.Ytmlkmgeddkpgiaa
