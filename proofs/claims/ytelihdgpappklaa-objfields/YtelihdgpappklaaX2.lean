/- The walk of ObjFields: an object with a field that its kind does not have. -/
import Derived.Test.YtelihdgpappklaaO8
namespace Go.Proofs.Ytelihdgpappklaa
open Go.RowKit
set_option linter.unusedVariables false

theorem no_S (k n a l : Int) (h : k ≠ 5) : mayO k n a l ⟨#[120]⟩ = false := by
  have e : (⟨#[120]⟩ : ByteArray) ≠ ⟨#[]⟩ := fun e => by
    have := congrArg ByteArray.size e
    simp [ByteArray.size] at this
  simp [mayO, onlyP, pieceP, h, e]
theorem no_At (k n l : Int) (s : ByteArray) (h : k ≠ 8) (h' : k ≠ 9) : mayO k n 1 l s = false := by simp [mayO, onlyP, nameP, h, h']
theorem no_Len (k n a : Int) (s : ByteArray) (h : k ≠ 8) (h' : k ≠ 9) : mayO k n a 1 s = false := by simp [mayO, onlyP, nameP, h, h']
theorem no_N (k a l : Int) (s : ByteArray) (h : k = 1 ∨ k = 5 ∨ k = 6) : mayO k 1 a l s = false := by rcases h with rfl | rfl | rfl <;> simp [mayO, onlyP, nameP]

theorem fields_not (k n a l c : Int) (x : Bool) (s : ByteArray) (w : World) (b0 : 0 ≤ c) (b1 : c ≤ 255)
    (h8 : Hid (∀ w, Calls Try.prog 8 #[] w fun e w' => e = .returned (.bool true) ∧ Below w.heap.size w w'))
    (h13 : Hid (∀ w, Calls Try.prog 13 #[.agg #[.int .i64 k, .bool x, .int .i64 n, .int .i64 a, .int .i64 l, .string s]] w fun e w' => e = .returned (.bool false) ∧ Below w.heap.size w w')) :
    Calls Try.prog 7 #[.agg #[.int .i64 k, .bool x, .int .i64 n, .int .i64 a, .int .i64 l, .string s], .int .u8 c] w fun e w' => e = .returned (.bool true) ∧ Below w.heap.size w w' := by
  go_enter Try.func7, Try.ntmps7
  go_wp2_with fail
  obtain ⟨wb, eb, kb, zb, ob⟩ := ob_box w k n a l x s
  rw [eb]
  clear eb zb
  refine (h8.out _).mono ?_
  rintro e wc ⟨rfl, kd⟩
  have gb := Lib.hid (below_and kb kd)
  have go := Lib.hid (ob.later kd)
  clear kb ob kd
  obtain ⟨c0, c1, c2, c3, c4, c5⟩ := go.out
  go_wp2_with fail
  refine (h13.out _).mono ?_
  rintro e wd ⟨rfl, kd⟩
  replace gb := Lib.hid (below_and gb.out kd)
  replace go := Lib.hid (go.out.later kd)
  clear kd c0 c1 c2 c3 c4 c5
  obtain ⟨c0, c1, c2, c3, c4, c5⟩ := go.out
  have k0 : ∀ o, (wd.alloc o).cell? ⟨w.heap.size, 0, none⟩ = some (.int .i64 k) := fun o => (World.cell?_alloc_some wd _ o (by rw [c0]; rfl)).trans c0
  go_wp2
  go_ret
  exact ⟨rfl, gb.out⟩

theorem fields_0a (n a l c : Int) (x : Bool) (s : ByteArray) (w : World) (b0 : 0 ≤ c) (b1 : c ≤ 255) (hr : c % 4 = 0)
    (h8 : Hid (∀ w, Calls Try.prog 8 #[] w fun e w' => e = .returned (.bool true) ∧ Below w.heap.size w w'))
    (h13 : Hid (∀ w, Calls Try.prog 13 #[.agg #[.int .i64 5, .bool x, .int .i64 n, .int .i64 a, .int .i64 l, .string s]] w fun e w' => e = .returned (.bool true) ∧ Below w.heap.size w w')) :
    Calls Try.prog 7 #[.agg #[.int .i64 5, .bool x, .int .i64 n, .int .i64 a, .int .i64 l, .string s], .int .u8 c] w fun e w' => e = .returned (.bool true) ∧ Below w.heap.size w w' := by
  have hr' : c.tmod 4 = 0 := by rw [Int.tmod_eq_emod_of_nonneg b0]; exact hr
  go_enter Try.func7, Try.ntmps7
  go_wp2_with fail
  obtain ⟨wb, eb, kb, zb, ob⟩ := ob_box w 5 n a l x s
  rw [eb]
  clear eb zb
  refine (h8.out _).mono ?_
  rintro e wc ⟨rfl, kd⟩
  have gb := Lib.hid (below_and kb kd)
  have go := Lib.hid (ob.later kd)
  clear kb ob kd
  obtain ⟨c0, c1, c2, c3, c4, c5⟩ := go.out
  go_wp2_with fail
  refine (h13.out _).mono ?_
  rintro e wd ⟨rfl, kd⟩
  replace gb := Lib.hid (below_and gb.out kd)
  replace go := Lib.hid (go.out.later kd)
  clear kd c0 c1 c2 c3 c4 c5
  obtain ⟨c0, c1, c2, c3, c4, c5⟩ := go.out
  have k0 : ∀ o, (wd.alloc o).cell? ⟨w.heap.size, 0, none⟩ = some (.int .i64 5) := fun o => (World.cell?_alloc_some wd _ o (by rw [c0]; rfl)).trans c0
  go_wp2
  go_ret
  exact ⟨rfl, below_and gb.out (box_below _ _)⟩

theorem fields_0b8 (t : ByteArray) (n a l c : Int) (x : Bool) (s : ByteArray) (w : World) (b0 : 0 ≤ c) (b1 : c ≤ 255) (hr : c % 4 = 0)
    (h8 : Hid (∀ w, Calls Try.prog 8 #[] w fun e w' => e = .returned (.bool true) ∧ Below w.heap.size w w'))
    (h13 : Hid (∀ w, Calls Try.prog 13 #[.agg #[.int .i64 8, .bool x, .int .i64 n, .int .i64 a, .int .i64 l, .string s]] w fun e w' => e = .returned (.bool true) ∧ Below w.heap.size w w'))
    (h13x : Hid (∀ w, Calls Try.prog 13 #[.agg #[.int .i64 8, .bool x, .int .i64 n, .int .i64 a, .int .i64 l, .string ⟨#[120]⟩]] w fun e w' => e = .returned (.bool false) ∧ Below w.heap.size w w'))
    (h17 : Hid (∀ n a l x s w, Calls Try.prog 17 #[.agg #[.int .i64 8, .bool x, .int .i64 n, .int .i64 a, .int .i64 l, .string s]] w fun e w' => e = .returned (.string t) ∧ Below w.heap.size w w')) :
    Calls Try.prog 7 #[.agg #[.int .i64 8, .bool x, .int .i64 n, .int .i64 a, .int .i64 l, .string s], .int .u8 c] w fun e w' => e = .returned (.bool true) ∧ Below w.heap.size w w' := by
  have hr' : c.tmod 4 = 0 := by rw [Int.tmod_eq_emod_of_nonneg b0]; exact hr
  go_enter Try.func7, Try.ntmps7
  go_wp2_with fail
  obtain ⟨wb, eb, kb, zb, ob⟩ := ob_box w 8 n a l x s
  rw [eb]
  clear eb zb
  refine (h8.out _).mono ?_
  rintro e wc ⟨rfl, kd⟩
  have gb := Lib.hid (below_and kb kd)
  have go := Lib.hid (ob.later kd)
  clear kb ob kd
  obtain ⟨c0, c1, c2, c3, c4, c5⟩ := go.out
  go_wp2_with fail
  refine (h13.out _).mono ?_
  rintro e wd ⟨rfl, kd⟩
  replace gb := Lib.hid (below_and gb.out kd)
  replace go := Lib.hid (go.out.later kd)
  clear kd c0 c1 c2 c3 c4 c5
  obtain ⟨c0, c1, c2, c3, c4, c5⟩ := go.out
  have k0 : ∀ o, (wd.alloc o).cell? ⟨w.heap.size, 0, none⟩ = some (.int .i64 8) := fun o => (World.cell?_alloc_some wd _ o (by rw [c0]; rfl)).trans c0
  go_wp2_with fail
  obtain ⟨we, eb, kb, zb, ob⟩ := ob_box wd 8 n a l x ⟨#[120]⟩
  rw [eb]
  obtain ⟨bx, hbx⟩ : ∃ bx, wd.heap.size = bx := ⟨_, rfl⟩
  have go2 : Hid (Two we w.heap.size bx 8 x n a l s 8 x n a l ⟨#[120]⟩) := Lib.hid ⟨go.out.later kb, hbx ▸ ob⟩
  replace gb := Lib.hid (below_and gb.out kb).drew
  replace go2 := Lib.hid go2.out.drew
  rw [hbx]
  clear eb kb zb ob c0 c1 c2 c3 c4 c5 k0 hbx go
  go_region_held3 (fun wx => wx.cell? ⟨w.heap.size, 0, none⟩ = some (.int .i64 8) ∧ wx.cell? ⟨w.heap.size, 1, none⟩ = some (.bool x) ∧ wx.cell? ⟨w.heap.size, 2, none⟩ = some (.int .i64 n) ∧ wx.cell? ⟨w.heap.size, 3, none⟩ = some (.int .i64 a) ∧ wx.cell? ⟨w.heap.size, 4, none⟩ = some (.int .i64 l) ∧ wx.cell? ⟨w.heap.size, 5, none⟩ = some (.string s) ∧ wx.cell? ⟨bx, 0, none⟩ = some (.int .i64 8) ∧ wx.cell? ⟨bx, 1, none⟩ = some (.bool x) ∧ wx.cell? ⟨bx, 2, none⟩ = some (.int .i64 n) ∧ wx.cell? ⟨bx, 3, none⟩ = some (.int .i64 a) ∧ wx.cell? ⟨bx, 4, none⟩ = some (.int .i64 l) ∧ wx.cell? ⟨bx, 5, none⟩ = some (.string ⟨#[120]⟩))
    (first | exact go2.out.flat | go_keep)
    (first | (go_at_call 13; refine (h13x.out _).mono ?_; rintro e wc ⟨rfl, kc⟩; replace gb := Lib.hid (below_and gb.out kc); replace go2 := Lib.hid (go2.out.later kc); clear kc) | (go_at_call 17; refine (h17.out _ _ _ _ _ _).mono ?_; rintro e wc ⟨rfl, kc⟩; replace gb := Lib.hid (below_and gb.out kc); replace go2 := Lib.hid (go2.out.later kc); clear kc))
  go_wp2
  go_ret
  exact ⟨ret_bool (by simp), gb.out⟩

theorem fields_0b9 (t : ByteArray) (n a l c : Int) (x : Bool) (s : ByteArray) (w : World) (b0 : 0 ≤ c) (b1 : c ≤ 255) (hr : c % 4 = 0)
    (h8 : Hid (∀ w, Calls Try.prog 8 #[] w fun e w' => e = .returned (.bool true) ∧ Below w.heap.size w w'))
    (h13 : Hid (∀ w, Calls Try.prog 13 #[.agg #[.int .i64 9, .bool x, .int .i64 n, .int .i64 a, .int .i64 l, .string s]] w fun e w' => e = .returned (.bool true) ∧ Below w.heap.size w w'))
    (h13x : Hid (∀ w, Calls Try.prog 13 #[.agg #[.int .i64 9, .bool x, .int .i64 n, .int .i64 a, .int .i64 l, .string ⟨#[120]⟩]] w fun e w' => e = .returned (.bool false) ∧ Below w.heap.size w w'))
    (h17 : Hid (∀ n a l x s w, Calls Try.prog 17 #[.agg #[.int .i64 9, .bool x, .int .i64 n, .int .i64 a, .int .i64 l, .string s]] w fun e w' => e = .returned (.string t) ∧ Below w.heap.size w w')) :
    Calls Try.prog 7 #[.agg #[.int .i64 9, .bool x, .int .i64 n, .int .i64 a, .int .i64 l, .string s], .int .u8 c] w fun e w' => e = .returned (.bool true) ∧ Below w.heap.size w w' := by
  have hr' : c.tmod 4 = 0 := by rw [Int.tmod_eq_emod_of_nonneg b0]; exact hr
  go_enter Try.func7, Try.ntmps7
  go_wp2_with fail
  obtain ⟨wb, eb, kb, zb, ob⟩ := ob_box w 9 n a l x s
  rw [eb]
  clear eb zb
  refine (h8.out _).mono ?_
  rintro e wc ⟨rfl, kd⟩
  have gb := Lib.hid (below_and kb kd)
  have go := Lib.hid (ob.later kd)
  clear kb ob kd
  obtain ⟨c0, c1, c2, c3, c4, c5⟩ := go.out
  go_wp2_with fail
  refine (h13.out _).mono ?_
  rintro e wd ⟨rfl, kd⟩
  replace gb := Lib.hid (below_and gb.out kd)
  replace go := Lib.hid (go.out.later kd)
  clear kd c0 c1 c2 c3 c4 c5
  obtain ⟨c0, c1, c2, c3, c4, c5⟩ := go.out
  have k0 : ∀ o, (wd.alloc o).cell? ⟨w.heap.size, 0, none⟩ = some (.int .i64 9) := fun o => (World.cell?_alloc_some wd _ o (by rw [c0]; rfl)).trans c0
  go_wp2_with fail
  obtain ⟨we, eb, kb, zb, ob⟩ := ob_box wd 9 n a l x ⟨#[120]⟩
  rw [eb]
  obtain ⟨bx, hbx⟩ : ∃ bx, wd.heap.size = bx := ⟨_, rfl⟩
  have go2 : Hid (Two we w.heap.size bx 9 x n a l s 9 x n a l ⟨#[120]⟩) := Lib.hid ⟨go.out.later kb, hbx ▸ ob⟩
  replace gb := Lib.hid (below_and gb.out kb).drew
  replace go2 := Lib.hid go2.out.drew
  rw [hbx]
  clear eb kb zb ob c0 c1 c2 c3 c4 c5 k0 hbx go
  go_region_held3 (fun wx => wx.cell? ⟨w.heap.size, 0, none⟩ = some (.int .i64 9) ∧ wx.cell? ⟨w.heap.size, 1, none⟩ = some (.bool x) ∧ wx.cell? ⟨w.heap.size, 2, none⟩ = some (.int .i64 n) ∧ wx.cell? ⟨w.heap.size, 3, none⟩ = some (.int .i64 a) ∧ wx.cell? ⟨w.heap.size, 4, none⟩ = some (.int .i64 l) ∧ wx.cell? ⟨w.heap.size, 5, none⟩ = some (.string s) ∧ wx.cell? ⟨bx, 0, none⟩ = some (.int .i64 9) ∧ wx.cell? ⟨bx, 1, none⟩ = some (.bool x) ∧ wx.cell? ⟨bx, 2, none⟩ = some (.int .i64 n) ∧ wx.cell? ⟨bx, 3, none⟩ = some (.int .i64 a) ∧ wx.cell? ⟨bx, 4, none⟩ = some (.int .i64 l) ∧ wx.cell? ⟨bx, 5, none⟩ = some (.string ⟨#[120]⟩))
    (first | exact go2.out.flat | go_keep)
    (first | (go_at_call 13; refine (h13x.out _).mono ?_; rintro e wc ⟨rfl, kc⟩; replace gb := Lib.hid (below_and gb.out kc); replace go2 := Lib.hid (go2.out.later kc); clear kc) | (go_at_call 17; refine (h17.out _ _ _ _ _ _).mono ?_; rintro e wc ⟨rfl, kc⟩; replace gb := Lib.hid (below_and gb.out kc); replace go2 := Lib.hid (go2.out.later kc); clear kc))
  go_wp2
  go_ret
  exact ⟨ret_bool (by simp), gb.out⟩

theorem fields_0b (t : ByteArray) (k n a l c : Int) (x : Bool) (s : ByteArray) (w : World) (b0 : 0 ≤ c) (b1 : c ≤ 255) (e5 : (k == 5) = false) (e8 : (k == 8) = false) (e9 : (k == 9) = false) (hr : c % 4 = 0)
    (h8 : Hid (∀ w, Calls Try.prog 8 #[] w fun e w' => e = .returned (.bool true) ∧ Below w.heap.size w w'))
    (h13 : Hid (∀ w, Calls Try.prog 13 #[.agg #[.int .i64 k, .bool x, .int .i64 n, .int .i64 a, .int .i64 l, .string s]] w fun e w' => e = .returned (.bool true) ∧ Below w.heap.size w w'))
    (h13x : Hid (∀ w, Calls Try.prog 13 #[.agg #[.int .i64 k, .bool x, .int .i64 n, .int .i64 a, .int .i64 l, .string ⟨#[120]⟩]] w fun e w' => e = .returned (.bool false) ∧ Below w.heap.size w w'))
    (h17 : Hid (∀ n a l x s w, Calls Try.prog 17 #[.agg #[.int .i64 k, .bool x, .int .i64 n, .int .i64 a, .int .i64 l, .string s]] w fun e w' => e = .returned (.string t) ∧ Below w.heap.size w w')) :
    Calls Try.prog 7 #[.agg #[.int .i64 k, .bool x, .int .i64 n, .int .i64 a, .int .i64 l, .string s], .int .u8 c] w fun e w' => e = .returned (.bool true) ∧ Below w.heap.size w w' := by
  have hr' : c.tmod 4 = 0 := by rw [Int.tmod_eq_emod_of_nonneg b0]; exact hr
  go_enter Try.func7, Try.ntmps7
  go_wp2_with fail
  obtain ⟨wb, eb, kb, zb, ob⟩ := ob_box w k n a l x s
  rw [eb]
  clear eb zb
  refine (h8.out _).mono ?_
  rintro e wc ⟨rfl, kd⟩
  have gb := Lib.hid (below_and kb kd)
  have go := Lib.hid (ob.later kd)
  clear kb ob kd
  obtain ⟨c0, c1, c2, c3, c4, c5⟩ := go.out
  go_wp2_with fail
  refine (h13.out _).mono ?_
  rintro e wd ⟨rfl, kd⟩
  replace gb := Lib.hid (below_and gb.out kd)
  replace go := Lib.hid (go.out.later kd)
  clear kd c0 c1 c2 c3 c4 c5
  obtain ⟨c0, c1, c2, c3, c4, c5⟩ := go.out
  have k0 : ∀ o, (wd.alloc o).cell? ⟨w.heap.size, 0, none⟩ = some (.int .i64 k) := fun o => (World.cell?_alloc_some wd _ o (by rw [c0]; rfl)).trans c0
  go_wp2_with fail
  obtain ⟨we, eb, kb, zb, ob⟩ := ob_box wd k n a l x ⟨#[120]⟩
  rw [eb]
  obtain ⟨bx, hbx⟩ : ∃ bx, wd.heap.size = bx := ⟨_, rfl⟩
  have go2 : Hid (Two we w.heap.size bx k x n a l s k x n a l ⟨#[120]⟩) := Lib.hid ⟨go.out.later kb, hbx ▸ ob⟩
  replace gb := Lib.hid (below_and gb.out kb).drew
  replace go2 := Lib.hid go2.out.drew
  rw [hbx]
  clear eb kb zb ob c0 c1 c2 c3 c4 c5 k0 hbx go
  go_region_held3 (fun wx => wx.cell? ⟨w.heap.size, 0, none⟩ = some (.int .i64 k) ∧ wx.cell? ⟨w.heap.size, 1, none⟩ = some (.bool x) ∧ wx.cell? ⟨w.heap.size, 2, none⟩ = some (.int .i64 n) ∧ wx.cell? ⟨w.heap.size, 3, none⟩ = some (.int .i64 a) ∧ wx.cell? ⟨w.heap.size, 4, none⟩ = some (.int .i64 l) ∧ wx.cell? ⟨w.heap.size, 5, none⟩ = some (.string s) ∧ wx.cell? ⟨bx, 0, none⟩ = some (.int .i64 k) ∧ wx.cell? ⟨bx, 1, none⟩ = some (.bool x) ∧ wx.cell? ⟨bx, 2, none⟩ = some (.int .i64 n) ∧ wx.cell? ⟨bx, 3, none⟩ = some (.int .i64 a) ∧ wx.cell? ⟨bx, 4, none⟩ = some (.int .i64 l) ∧ wx.cell? ⟨bx, 5, none⟩ = some (.string ⟨#[120]⟩))
    (first | exact go2.out.flat | go_keep)
    (first | (go_at_call 13; refine (h13x.out _).mono ?_; rintro e wc ⟨rfl, kc⟩; replace gb := Lib.hid (below_and gb.out kc); replace go2 := Lib.hid (go2.out.later kc); clear kc) | (go_at_call 17; refine (h17.out _ _ _ _ _ _).mono ?_; rintro e wc ⟨rfl, kc⟩; replace gb := Lib.hid (below_and gb.out kc); replace go2 := Lib.hid (go2.out.later kc); clear kc))
  go_wp2
  go_ret
  exact ⟨ret_bool (by simp), gb.out⟩

theorem fields_1a (n a l c : Int) (x : Bool) (s : ByteArray) (w : World) (b0 : 0 ≤ c) (b1 : c ≤ 255) (hr : c % 4 = 1)
    (h8 : Hid (∀ w, Calls Try.prog 8 #[] w fun e w' => e = .returned (.bool true) ∧ Below w.heap.size w w'))
    (h13 : Hid (∀ w, Calls Try.prog 13 #[.agg #[.int .i64 8, .bool x, .int .i64 n, .int .i64 a, .int .i64 l, .string s]] w fun e w' => e = .returned (.bool true) ∧ Below w.heap.size w w')) :
    Calls Try.prog 7 #[.agg #[.int .i64 8, .bool x, .int .i64 n, .int .i64 a, .int .i64 l, .string s], .int .u8 c] w fun e w' => e = .returned (.bool true) ∧ Below w.heap.size w w' := by
  have hr' : c.tmod 4 = 1 := by rw [Int.tmod_eq_emod_of_nonneg b0]; exact hr
  go_enter Try.func7, Try.ntmps7
  go_wp2_with fail
  obtain ⟨wb, eb, kb, zb, ob⟩ := ob_box w 8 n a l x s
  rw [eb]
  clear eb zb
  refine (h8.out _).mono ?_
  rintro e wc ⟨rfl, kd⟩
  have gb := Lib.hid (below_and kb kd)
  have go := Lib.hid (ob.later kd)
  clear kb ob kd
  obtain ⟨c0, c1, c2, c3, c4, c5⟩ := go.out
  go_wp2_with fail
  refine (h13.out _).mono ?_
  rintro e wd ⟨rfl, kd⟩
  replace gb := Lib.hid (below_and gb.out kd)
  replace go := Lib.hid (go.out.later kd)
  clear kd c0 c1 c2 c3 c4 c5
  obtain ⟨c0, c1, c2, c3, c4, c5⟩ := go.out
  have k0 : ∀ o, (wd.alloc o).cell? ⟨w.heap.size, 0, none⟩ = some (.int .i64 8) := fun o => (World.cell?_alloc_some wd _ o (by rw [c0]; rfl)).trans c0
  go_wp2
  go_ret
  exact ⟨rfl, below_and gb.out (box_below _ _)⟩

theorem fields_1c (n a l c : Int) (x : Bool) (s : ByteArray) (w : World) (b0 : 0 ≤ c) (b1 : c ≤ 255) (hr : c % 4 = 1)
    (h8 : Hid (∀ w, Calls Try.prog 8 #[] w fun e w' => e = .returned (.bool true) ∧ Below w.heap.size w w'))
    (h13 : Hid (∀ w, Calls Try.prog 13 #[.agg #[.int .i64 9, .bool x, .int .i64 n, .int .i64 a, .int .i64 l, .string s]] w fun e w' => e = .returned (.bool true) ∧ Below w.heap.size w w')) :
    Calls Try.prog 7 #[.agg #[.int .i64 9, .bool x, .int .i64 n, .int .i64 a, .int .i64 l, .string s], .int .u8 c] w fun e w' => e = .returned (.bool true) ∧ Below w.heap.size w w' := by
  have hr' : c.tmod 4 = 1 := by rw [Int.tmod_eq_emod_of_nonneg b0]; exact hr
  go_enter Try.func7, Try.ntmps7
  go_wp2_with fail
  obtain ⟨wb, eb, kb, zb, ob⟩ := ob_box w 9 n a l x s
  rw [eb]
  clear eb zb
  refine (h8.out _).mono ?_
  rintro e wc ⟨rfl, kd⟩
  have gb := Lib.hid (below_and kb kd)
  have go := Lib.hid (ob.later kd)
  clear kb ob kd
  obtain ⟨c0, c1, c2, c3, c4, c5⟩ := go.out
  go_wp2_with fail
  refine (h13.out _).mono ?_
  rintro e wd ⟨rfl, kd⟩
  replace gb := Lib.hid (below_and gb.out kd)
  replace go := Lib.hid (go.out.later kd)
  clear kd c0 c1 c2 c3 c4 c5
  obtain ⟨c0, c1, c2, c3, c4, c5⟩ := go.out
  have k0 : ∀ o, (wd.alloc o).cell? ⟨w.heap.size, 0, none⟩ = some (.int .i64 9) := fun o => (World.cell?_alloc_some wd _ o (by rw [c0]; rfl)).trans c0
  go_wp2
  go_ret
  exact ⟨rfl, below_and gb.out (box_below _ _)⟩

theorem fields_1b (t : ByteArray) (k n a l c : Int) (x : Bool) (s : ByteArray) (w : World) (b0 : 0 ≤ c) (b1 : c ≤ 255) (e8 : (k == 8) = false) (e9 : (k == 9) = false) (hr : c % 4 = 1)
    (h8 : Hid (∀ w, Calls Try.prog 8 #[] w fun e w' => e = .returned (.bool true) ∧ Below w.heap.size w w'))
    (h13 : Hid (∀ w, Calls Try.prog 13 #[.agg #[.int .i64 k, .bool x, .int .i64 n, .int .i64 a, .int .i64 l, .string s]] w fun e w' => e = .returned (.bool true) ∧ Below w.heap.size w w'))
    (h13x : Hid (∀ w, Calls Try.prog 13 #[.agg #[.int .i64 k, .bool x, .int .i64 n, .int .i64 1, .int .i64 l, .string s]] w fun e w' => e = .returned (.bool false) ∧ Below w.heap.size w w'))
    (h17 : Hid (∀ n a l x s w, Calls Try.prog 17 #[.agg #[.int .i64 k, .bool x, .int .i64 n, .int .i64 a, .int .i64 l, .string s]] w fun e w' => e = .returned (.string t) ∧ Below w.heap.size w w')) :
    Calls Try.prog 7 #[.agg #[.int .i64 k, .bool x, .int .i64 n, .int .i64 a, .int .i64 l, .string s], .int .u8 c] w fun e w' => e = .returned (.bool true) ∧ Below w.heap.size w w' := by
  have hr' : c.tmod 4 = 1 := by rw [Int.tmod_eq_emod_of_nonneg b0]; exact hr
  go_enter Try.func7, Try.ntmps7
  go_wp2_with fail
  obtain ⟨wb, eb, kb, zb, ob⟩ := ob_box w k n a l x s
  rw [eb]
  clear eb zb
  refine (h8.out _).mono ?_
  rintro e wc ⟨rfl, kd⟩
  have gb := Lib.hid (below_and kb kd)
  have go := Lib.hid (ob.later kd)
  clear kb ob kd
  obtain ⟨c0, c1, c2, c3, c4, c5⟩ := go.out
  go_wp2_with fail
  refine (h13.out _).mono ?_
  rintro e wd ⟨rfl, kd⟩
  replace gb := Lib.hid (below_and gb.out kd)
  replace go := Lib.hid (go.out.later kd)
  clear kd c0 c1 c2 c3 c4 c5
  obtain ⟨c0, c1, c2, c3, c4, c5⟩ := go.out
  have k0 : ∀ o, (wd.alloc o).cell? ⟨w.heap.size, 0, none⟩ = some (.int .i64 k) := fun o => (World.cell?_alloc_some wd _ o (by rw [c0]; rfl)).trans c0
  go_wp2_with fail
  obtain ⟨we, eb, kb, zb, ob⟩ := ob_box wd k n 1 l x s
  rw [eb]
  obtain ⟨bx, hbx⟩ : ∃ bx, wd.heap.size = bx := ⟨_, rfl⟩
  have go2 : Hid (Two we w.heap.size bx k x n a l s k x n 1 l s) := Lib.hid ⟨go.out.later kb, hbx ▸ ob⟩
  replace gb := Lib.hid (below_and gb.out kb).drew
  replace go2 := Lib.hid go2.out.drew
  rw [hbx]
  clear eb kb zb ob c0 c1 c2 c3 c4 c5 k0 hbx go
  go_region_held3 (fun wx => wx.cell? ⟨w.heap.size, 0, none⟩ = some (.int .i64 k) ∧ wx.cell? ⟨w.heap.size, 1, none⟩ = some (.bool x) ∧ wx.cell? ⟨w.heap.size, 2, none⟩ = some (.int .i64 n) ∧ wx.cell? ⟨w.heap.size, 3, none⟩ = some (.int .i64 a) ∧ wx.cell? ⟨w.heap.size, 4, none⟩ = some (.int .i64 l) ∧ wx.cell? ⟨w.heap.size, 5, none⟩ = some (.string s) ∧ wx.cell? ⟨bx, 0, none⟩ = some (.int .i64 k) ∧ wx.cell? ⟨bx, 1, none⟩ = some (.bool x) ∧ wx.cell? ⟨bx, 2, none⟩ = some (.int .i64 n) ∧ wx.cell? ⟨bx, 3, none⟩ = some (.int .i64 1) ∧ wx.cell? ⟨bx, 4, none⟩ = some (.int .i64 l) ∧ wx.cell? ⟨bx, 5, none⟩ = some (.string s))
    (first | exact go2.out.flat | go_keep)
    (first | (go_at_call 13; refine (h13x.out _).mono ?_; rintro e wc ⟨rfl, kc⟩; replace gb := Lib.hid (below_and gb.out kc); replace go2 := Lib.hid (go2.out.later kc); clear kc) | (go_at_call 17; refine (h17.out _ _ _ _ _ _).mono ?_; rintro e wc ⟨rfl, kc⟩; replace gb := Lib.hid (below_and gb.out kc); replace go2 := Lib.hid (go2.out.later kc); clear kc))
  go_wp2
  go_ret
  exact ⟨ret_bool (by simp), gb.out⟩

theorem fields_2a (n a l c : Int) (x : Bool) (s : ByteArray) (w : World) (b0 : 0 ≤ c) (b1 : c ≤ 255) (hr : c % 4 = 2)
    (h8 : Hid (∀ w, Calls Try.prog 8 #[] w fun e w' => e = .returned (.bool true) ∧ Below w.heap.size w w'))
    (h13 : Hid (∀ w, Calls Try.prog 13 #[.agg #[.int .i64 8, .bool x, .int .i64 n, .int .i64 a, .int .i64 l, .string s]] w fun e w' => e = .returned (.bool true) ∧ Below w.heap.size w w')) :
    Calls Try.prog 7 #[.agg #[.int .i64 8, .bool x, .int .i64 n, .int .i64 a, .int .i64 l, .string s], .int .u8 c] w fun e w' => e = .returned (.bool true) ∧ Below w.heap.size w w' := by
  have hr' : c.tmod 4 = 2 := by rw [Int.tmod_eq_emod_of_nonneg b0]; exact hr
  go_enter Try.func7, Try.ntmps7
  go_wp2_with fail
  obtain ⟨wb, eb, kb, zb, ob⟩ := ob_box w 8 n a l x s
  rw [eb]
  clear eb zb
  refine (h8.out _).mono ?_
  rintro e wc ⟨rfl, kd⟩
  have gb := Lib.hid (below_and kb kd)
  have go := Lib.hid (ob.later kd)
  clear kb ob kd
  obtain ⟨c0, c1, c2, c3, c4, c5⟩ := go.out
  go_wp2_with fail
  refine (h13.out _).mono ?_
  rintro e wd ⟨rfl, kd⟩
  replace gb := Lib.hid (below_and gb.out kd)
  replace go := Lib.hid (go.out.later kd)
  clear kd c0 c1 c2 c3 c4 c5
  obtain ⟨c0, c1, c2, c3, c4, c5⟩ := go.out
  have k0 : ∀ o, (wd.alloc o).cell? ⟨w.heap.size, 0, none⟩ = some (.int .i64 8) := fun o => (World.cell?_alloc_some wd _ o (by rw [c0]; rfl)).trans c0
  go_wp2
  go_ret
  exact ⟨rfl, below_and gb.out (box_below _ _)⟩

theorem fields_2c (n a l c : Int) (x : Bool) (s : ByteArray) (w : World) (b0 : 0 ≤ c) (b1 : c ≤ 255) (hr : c % 4 = 2)
    (h8 : Hid (∀ w, Calls Try.prog 8 #[] w fun e w' => e = .returned (.bool true) ∧ Below w.heap.size w w'))
    (h13 : Hid (∀ w, Calls Try.prog 13 #[.agg #[.int .i64 9, .bool x, .int .i64 n, .int .i64 a, .int .i64 l, .string s]] w fun e w' => e = .returned (.bool true) ∧ Below w.heap.size w w')) :
    Calls Try.prog 7 #[.agg #[.int .i64 9, .bool x, .int .i64 n, .int .i64 a, .int .i64 l, .string s], .int .u8 c] w fun e w' => e = .returned (.bool true) ∧ Below w.heap.size w w' := by
  have hr' : c.tmod 4 = 2 := by rw [Int.tmod_eq_emod_of_nonneg b0]; exact hr
  go_enter Try.func7, Try.ntmps7
  go_wp2_with fail
  obtain ⟨wb, eb, kb, zb, ob⟩ := ob_box w 9 n a l x s
  rw [eb]
  clear eb zb
  refine (h8.out _).mono ?_
  rintro e wc ⟨rfl, kd⟩
  have gb := Lib.hid (below_and kb kd)
  have go := Lib.hid (ob.later kd)
  clear kb ob kd
  obtain ⟨c0, c1, c2, c3, c4, c5⟩ := go.out
  go_wp2_with fail
  refine (h13.out _).mono ?_
  rintro e wd ⟨rfl, kd⟩
  replace gb := Lib.hid (below_and gb.out kd)
  replace go := Lib.hid (go.out.later kd)
  clear kd c0 c1 c2 c3 c4 c5
  obtain ⟨c0, c1, c2, c3, c4, c5⟩ := go.out
  have k0 : ∀ o, (wd.alloc o).cell? ⟨w.heap.size, 0, none⟩ = some (.int .i64 9) := fun o => (World.cell?_alloc_some wd _ o (by rw [c0]; rfl)).trans c0
  go_wp2
  go_ret
  exact ⟨rfl, below_and gb.out (box_below _ _)⟩

theorem fields_2b (t : ByteArray) (k n a l c : Int) (x : Bool) (s : ByteArray) (w : World) (b0 : 0 ≤ c) (b1 : c ≤ 255) (e8 : (k == 8) = false) (e9 : (k == 9) = false) (hr : c % 4 = 2)
    (h8 : Hid (∀ w, Calls Try.prog 8 #[] w fun e w' => e = .returned (.bool true) ∧ Below w.heap.size w w'))
    (h13 : Hid (∀ w, Calls Try.prog 13 #[.agg #[.int .i64 k, .bool x, .int .i64 n, .int .i64 a, .int .i64 l, .string s]] w fun e w' => e = .returned (.bool true) ∧ Below w.heap.size w w'))
    (h13x : Hid (∀ w, Calls Try.prog 13 #[.agg #[.int .i64 k, .bool x, .int .i64 n, .int .i64 a, .int .i64 1, .string s]] w fun e w' => e = .returned (.bool false) ∧ Below w.heap.size w w'))
    (h17 : Hid (∀ n a l x s w, Calls Try.prog 17 #[.agg #[.int .i64 k, .bool x, .int .i64 n, .int .i64 a, .int .i64 l, .string s]] w fun e w' => e = .returned (.string t) ∧ Below w.heap.size w w')) :
    Calls Try.prog 7 #[.agg #[.int .i64 k, .bool x, .int .i64 n, .int .i64 a, .int .i64 l, .string s], .int .u8 c] w fun e w' => e = .returned (.bool true) ∧ Below w.heap.size w w' := by
  have hr' : c.tmod 4 = 2 := by rw [Int.tmod_eq_emod_of_nonneg b0]; exact hr
  go_enter Try.func7, Try.ntmps7
  go_wp2_with fail
  obtain ⟨wb, eb, kb, zb, ob⟩ := ob_box w k n a l x s
  rw [eb]
  clear eb zb
  refine (h8.out _).mono ?_
  rintro e wc ⟨rfl, kd⟩
  have gb := Lib.hid (below_and kb kd)
  have go := Lib.hid (ob.later kd)
  clear kb ob kd
  obtain ⟨c0, c1, c2, c3, c4, c5⟩ := go.out
  go_wp2_with fail
  refine (h13.out _).mono ?_
  rintro e wd ⟨rfl, kd⟩
  replace gb := Lib.hid (below_and gb.out kd)
  replace go := Lib.hid (go.out.later kd)
  clear kd c0 c1 c2 c3 c4 c5
  obtain ⟨c0, c1, c2, c3, c4, c5⟩ := go.out
  have k0 : ∀ o, (wd.alloc o).cell? ⟨w.heap.size, 0, none⟩ = some (.int .i64 k) := fun o => (World.cell?_alloc_some wd _ o (by rw [c0]; rfl)).trans c0
  go_wp2_with fail
  obtain ⟨we, eb, kb, zb, ob⟩ := ob_box wd k n a 1 x s
  rw [eb]
  obtain ⟨bx, hbx⟩ : ∃ bx, wd.heap.size = bx := ⟨_, rfl⟩
  have go2 : Hid (Two we w.heap.size bx k x n a l s k x n a 1 s) := Lib.hid ⟨go.out.later kb, hbx ▸ ob⟩
  replace gb := Lib.hid (below_and gb.out kb).drew
  replace go2 := Lib.hid go2.out.drew
  rw [hbx]
  clear eb kb zb ob c0 c1 c2 c3 c4 c5 k0 hbx go
  go_region_held3 (fun wx => wx.cell? ⟨w.heap.size, 0, none⟩ = some (.int .i64 k) ∧ wx.cell? ⟨w.heap.size, 1, none⟩ = some (.bool x) ∧ wx.cell? ⟨w.heap.size, 2, none⟩ = some (.int .i64 n) ∧ wx.cell? ⟨w.heap.size, 3, none⟩ = some (.int .i64 a) ∧ wx.cell? ⟨w.heap.size, 4, none⟩ = some (.int .i64 l) ∧ wx.cell? ⟨w.heap.size, 5, none⟩ = some (.string s) ∧ wx.cell? ⟨bx, 0, none⟩ = some (.int .i64 k) ∧ wx.cell? ⟨bx, 1, none⟩ = some (.bool x) ∧ wx.cell? ⟨bx, 2, none⟩ = some (.int .i64 n) ∧ wx.cell? ⟨bx, 3, none⟩ = some (.int .i64 a) ∧ wx.cell? ⟨bx, 4, none⟩ = some (.int .i64 1) ∧ wx.cell? ⟨bx, 5, none⟩ = some (.string s))
    (first | exact go2.out.flat | go_keep)
    (first | (go_at_call 13; refine (h13x.out _).mono ?_; rintro e wc ⟨rfl, kc⟩; replace gb := Lib.hid (below_and gb.out kc); replace go2 := Lib.hid (go2.out.later kc); clear kc) | (go_at_call 17; refine (h17.out _ _ _ _ _ _).mono ?_; rintro e wc ⟨rfl, kc⟩; replace gb := Lib.hid (below_and gb.out kc); replace go2 := Lib.hid (go2.out.later kc); clear kc))
  go_wp2
  go_ret
  exact ⟨ret_bool (by simp), gb.out⟩

theorem fields_3a8 (n a l c : Int) (x : Bool) (s : ByteArray) (w : World) (b0 : 0 ≤ c) (b1 : c ≤ 255) (hr : c % 4 = 3)
    (h8 : Hid (∀ w, Calls Try.prog 8 #[] w fun e w' => e = .returned (.bool true) ∧ Below w.heap.size w w'))
    (h13 : Hid (∀ w, Calls Try.prog 13 #[.agg #[.int .i64 8, .bool x, .int .i64 n, .int .i64 a, .int .i64 l, .string s]] w fun e w' => e = .returned (.bool true) ∧ Below w.heap.size w w')) :
    Calls Try.prog 7 #[.agg #[.int .i64 8, .bool x, .int .i64 n, .int .i64 a, .int .i64 l, .string s], .int .u8 c] w fun e w' => e = .returned (.bool true) ∧ Below w.heap.size w w' := by
  have hr' : c.tmod 4 = 3 := by rw [Int.tmod_eq_emod_of_nonneg b0]; exact hr
  go_enter Try.func7, Try.ntmps7
  go_wp2_with fail
  obtain ⟨wb, eb, kb, zb, ob⟩ := ob_box w 8 n a l x s
  rw [eb]
  clear eb zb
  refine (h8.out _).mono ?_
  rintro e wc ⟨rfl, kd⟩
  have gb := Lib.hid (below_and kb kd)
  have go := Lib.hid (ob.later kd)
  clear kb ob kd
  obtain ⟨c0, c1, c2, c3, c4, c5⟩ := go.out
  go_wp2_with fail
  refine (h13.out _).mono ?_
  rintro e wd ⟨rfl, kd⟩
  replace gb := Lib.hid (below_and gb.out kd)
  replace go := Lib.hid (go.out.later kd)
  clear kd c0 c1 c2 c3 c4 c5
  obtain ⟨c0, c1, c2, c3, c4, c5⟩ := go.out
  have k0 : ∀ o, (wd.alloc o).cell? ⟨w.heap.size, 0, none⟩ = some (.int .i64 8) := fun o => (World.cell?_alloc_some wd _ o (by rw [c0]; rfl)).trans c0
  go_wp2
  go_ret
  exact ⟨rfl, below_and gb.out (box_below _ _)⟩

theorem fields_3a9 (n a l c : Int) (x : Bool) (s : ByteArray) (w : World) (b0 : 0 ≤ c) (b1 : c ≤ 255) (hr : c % 4 = 3)
    (h8 : Hid (∀ w, Calls Try.prog 8 #[] w fun e w' => e = .returned (.bool true) ∧ Below w.heap.size w w'))
    (h13 : Hid (∀ w, Calls Try.prog 13 #[.agg #[.int .i64 9, .bool x, .int .i64 n, .int .i64 a, .int .i64 l, .string s]] w fun e w' => e = .returned (.bool true) ∧ Below w.heap.size w w')) :
    Calls Try.prog 7 #[.agg #[.int .i64 9, .bool x, .int .i64 n, .int .i64 a, .int .i64 l, .string s], .int .u8 c] w fun e w' => e = .returned (.bool true) ∧ Below w.heap.size w w' := by
  have hr' : c.tmod 4 = 3 := by rw [Int.tmod_eq_emod_of_nonneg b0]; exact hr
  go_enter Try.func7, Try.ntmps7
  go_wp2_with fail
  obtain ⟨wb, eb, kb, zb, ob⟩ := ob_box w 9 n a l x s
  rw [eb]
  clear eb zb
  refine (h8.out _).mono ?_
  rintro e wc ⟨rfl, kd⟩
  have gb := Lib.hid (below_and kb kd)
  have go := Lib.hid (ob.later kd)
  clear kb ob kd
  obtain ⟨c0, c1, c2, c3, c4, c5⟩ := go.out
  go_wp2_with fail
  refine (h13.out _).mono ?_
  rintro e wd ⟨rfl, kd⟩
  replace gb := Lib.hid (below_and gb.out kd)
  replace go := Lib.hid (go.out.later kd)
  clear kd c0 c1 c2 c3 c4 c5
  obtain ⟨c0, c1, c2, c3, c4, c5⟩ := go.out
  have k0 : ∀ o, (wd.alloc o).cell? ⟨w.heap.size, 0, none⟩ = some (.int .i64 9) := fun o => (World.cell?_alloc_some wd _ o (by rw [c0]; rfl)).trans c0
  go_wp2
  go_ret
  exact ⟨rfl, below_and gb.out (box_below _ _)⟩

theorem fields_3a (k n a l c : Int) (x : Bool) (s : ByteArray) (w : World) (b0 : 0 ≤ c) (b1 : c ≤ 255) (m1 : (k != 1) = true) (m6 : (k != 6) = true) (m5 : (k != 5) = true) (e8 : (k == 8) = false) (e9 : (k == 9) = false) (hr : c % 4 = 3)
    (h8 : Hid (∀ w, Calls Try.prog 8 #[] w fun e w' => e = .returned (.bool true) ∧ Below w.heap.size w w'))
    (h13 : Hid (∀ w, Calls Try.prog 13 #[.agg #[.int .i64 k, .bool x, .int .i64 n, .int .i64 a, .int .i64 l, .string s]] w fun e w' => e = .returned (.bool true) ∧ Below w.heap.size w w')) :
    Calls Try.prog 7 #[.agg #[.int .i64 k, .bool x, .int .i64 n, .int .i64 a, .int .i64 l, .string s], .int .u8 c] w fun e w' => e = .returned (.bool true) ∧ Below w.heap.size w w' := by
  have hr' : c.tmod 4 = 3 := by rw [Int.tmod_eq_emod_of_nonneg b0]; exact hr
  go_enter Try.func7, Try.ntmps7
  go_wp2_with fail
  obtain ⟨wb, eb, kb, zb, ob⟩ := ob_box w k n a l x s
  rw [eb]
  clear eb zb
  refine (h8.out _).mono ?_
  rintro e wc ⟨rfl, kd⟩
  have gb := Lib.hid (below_and kb kd)
  have go := Lib.hid (ob.later kd)
  clear kb ob kd
  obtain ⟨c0, c1, c2, c3, c4, c5⟩ := go.out
  go_wp2_with fail
  refine (h13.out _).mono ?_
  rintro e wd ⟨rfl, kd⟩
  replace gb := Lib.hid (below_and gb.out kd)
  replace go := Lib.hid (go.out.later kd)
  clear kd c0 c1 c2 c3 c4 c5
  obtain ⟨c0, c1, c2, c3, c4, c5⟩ := go.out
  have k0 : ∀ o, (wd.alloc o).cell? ⟨w.heap.size, 0, none⟩ = some (.int .i64 k) := fun o => (World.cell?_alloc_some wd _ o (by rw [c0]; rfl)).trans c0
  go_wp2
  go_ret
  exact ⟨rfl, below_and gb.out (box_below _ _)⟩

theorem fields_3b (t : ByteArray) (n a l c : Int) (x : Bool) (s : ByteArray) (w : World) (b0 : 0 ≤ c) (b1 : c ≤ 255) (hr : c % 4 = 3)
    (h8 : Hid (∀ w, Calls Try.prog 8 #[] w fun e w' => e = .returned (.bool true) ∧ Below w.heap.size w w'))
    (h13 : Hid (∀ w, Calls Try.prog 13 #[.agg #[.int .i64 1, .bool x, .int .i64 n, .int .i64 a, .int .i64 l, .string s]] w fun e w' => e = .returned (.bool true) ∧ Below w.heap.size w w'))
    (h13x : Hid (∀ w, Calls Try.prog 13 #[.agg #[.int .i64 1, .bool x, .int .i64 1, .int .i64 a, .int .i64 l, .string s]] w fun e w' => e = .returned (.bool false) ∧ Below w.heap.size w w'))
    (h17 : Hid (∀ n a l x s w, Calls Try.prog 17 #[.agg #[.int .i64 1, .bool x, .int .i64 n, .int .i64 a, .int .i64 l, .string s]] w fun e w' => e = .returned (.string t) ∧ Below w.heap.size w w')) :
    Calls Try.prog 7 #[.agg #[.int .i64 1, .bool x, .int .i64 n, .int .i64 a, .int .i64 l, .string s], .int .u8 c] w fun e w' => e = .returned (.bool true) ∧ Below w.heap.size w w' := by
  have hr' : c.tmod 4 = 3 := by rw [Int.tmod_eq_emod_of_nonneg b0]; exact hr
  go_enter Try.func7, Try.ntmps7
  go_wp2_with fail
  obtain ⟨wb, eb, kb, zb, ob⟩ := ob_box w 1 n a l x s
  rw [eb]
  clear eb zb
  refine (h8.out _).mono ?_
  rintro e wc ⟨rfl, kd⟩
  have gb := Lib.hid (below_and kb kd)
  have go := Lib.hid (ob.later kd)
  clear kb ob kd
  obtain ⟨c0, c1, c2, c3, c4, c5⟩ := go.out
  go_wp2_with fail
  refine (h13.out _).mono ?_
  rintro e wd ⟨rfl, kd⟩
  replace gb := Lib.hid (below_and gb.out kd)
  replace go := Lib.hid (go.out.later kd)
  clear kd c0 c1 c2 c3 c4 c5
  obtain ⟨c0, c1, c2, c3, c4, c5⟩ := go.out
  have k0 : ∀ o, (wd.alloc o).cell? ⟨w.heap.size, 0, none⟩ = some (.int .i64 1) := fun o => (World.cell?_alloc_some wd _ o (by rw [c0]; rfl)).trans c0
  go_wp2_with fail
  obtain ⟨we, eb, kb, zb, ob⟩ := ob_box wd 1 1 a l x s
  rw [eb]
  obtain ⟨bx, hbx⟩ : ∃ bx, wd.heap.size = bx := ⟨_, rfl⟩
  have go2 : Hid (Two we w.heap.size bx 1 x n a l s 1 x 1 a l s) := Lib.hid ⟨go.out.later kb, hbx ▸ ob⟩
  replace gb := Lib.hid (below_and gb.out kb).drew
  replace go2 := Lib.hid go2.out.drew
  rw [hbx]
  clear eb kb zb ob c0 c1 c2 c3 c4 c5 k0 hbx go
  go_region_held3 (fun wx => wx.cell? ⟨w.heap.size, 0, none⟩ = some (.int .i64 1) ∧ wx.cell? ⟨w.heap.size, 1, none⟩ = some (.bool x) ∧ wx.cell? ⟨w.heap.size, 2, none⟩ = some (.int .i64 n) ∧ wx.cell? ⟨w.heap.size, 3, none⟩ = some (.int .i64 a) ∧ wx.cell? ⟨w.heap.size, 4, none⟩ = some (.int .i64 l) ∧ wx.cell? ⟨w.heap.size, 5, none⟩ = some (.string s) ∧ wx.cell? ⟨bx, 0, none⟩ = some (.int .i64 1) ∧ wx.cell? ⟨bx, 1, none⟩ = some (.bool x) ∧ wx.cell? ⟨bx, 2, none⟩ = some (.int .i64 1) ∧ wx.cell? ⟨bx, 3, none⟩ = some (.int .i64 a) ∧ wx.cell? ⟨bx, 4, none⟩ = some (.int .i64 l) ∧ wx.cell? ⟨bx, 5, none⟩ = some (.string s))
    (first | exact go2.out.flat | go_keep)
    (first | (go_at_call 13; refine (h13x.out _).mono ?_; rintro e wc ⟨rfl, kc⟩; replace gb := Lib.hid (below_and gb.out kc); replace go2 := Lib.hid (go2.out.later kc); clear kc) | (go_at_call 17; refine (h17.out _ _ _ _ _ _).mono ?_; rintro e wc ⟨rfl, kc⟩; replace gb := Lib.hid (below_and gb.out kc); replace go2 := Lib.hid (go2.out.later kc); clear kc))
  go_wp2
  go_ret
  exact ⟨ret_bool (by simp), gb.out⟩

theorem fields_3c (t : ByteArray) (n a l c : Int) (x : Bool) (s : ByteArray) (w : World) (b0 : 0 ≤ c) (b1 : c ≤ 255) (hr : c % 4 = 3)
    (h8 : Hid (∀ w, Calls Try.prog 8 #[] w fun e w' => e = .returned (.bool true) ∧ Below w.heap.size w w'))
    (h13 : Hid (∀ w, Calls Try.prog 13 #[.agg #[.int .i64 6, .bool x, .int .i64 n, .int .i64 a, .int .i64 l, .string s]] w fun e w' => e = .returned (.bool true) ∧ Below w.heap.size w w'))
    (h13x : Hid (∀ w, Calls Try.prog 13 #[.agg #[.int .i64 6, .bool x, .int .i64 1, .int .i64 a, .int .i64 l, .string s]] w fun e w' => e = .returned (.bool false) ∧ Below w.heap.size w w'))
    (h17 : Hid (∀ n a l x s w, Calls Try.prog 17 #[.agg #[.int .i64 6, .bool x, .int .i64 n, .int .i64 a, .int .i64 l, .string s]] w fun e w' => e = .returned (.string t) ∧ Below w.heap.size w w')) :
    Calls Try.prog 7 #[.agg #[.int .i64 6, .bool x, .int .i64 n, .int .i64 a, .int .i64 l, .string s], .int .u8 c] w fun e w' => e = .returned (.bool true) ∧ Below w.heap.size w w' := by
  have hr' : c.tmod 4 = 3 := by rw [Int.tmod_eq_emod_of_nonneg b0]; exact hr
  go_enter Try.func7, Try.ntmps7
  go_wp2_with fail
  obtain ⟨wb, eb, kb, zb, ob⟩ := ob_box w 6 n a l x s
  rw [eb]
  clear eb zb
  refine (h8.out _).mono ?_
  rintro e wc ⟨rfl, kd⟩
  have gb := Lib.hid (below_and kb kd)
  have go := Lib.hid (ob.later kd)
  clear kb ob kd
  obtain ⟨c0, c1, c2, c3, c4, c5⟩ := go.out
  go_wp2_with fail
  refine (h13.out _).mono ?_
  rintro e wd ⟨rfl, kd⟩
  replace gb := Lib.hid (below_and gb.out kd)
  replace go := Lib.hid (go.out.later kd)
  clear kd c0 c1 c2 c3 c4 c5
  obtain ⟨c0, c1, c2, c3, c4, c5⟩ := go.out
  have k0 : ∀ o, (wd.alloc o).cell? ⟨w.heap.size, 0, none⟩ = some (.int .i64 6) := fun o => (World.cell?_alloc_some wd _ o (by rw [c0]; rfl)).trans c0
  go_wp2_with fail
  obtain ⟨we, eb, kb, zb, ob⟩ := ob_box wd 6 1 a l x s
  rw [eb]
  obtain ⟨bx, hbx⟩ : ∃ bx, wd.heap.size = bx := ⟨_, rfl⟩
  have go2 : Hid (Two we w.heap.size bx 6 x n a l s 6 x 1 a l s) := Lib.hid ⟨go.out.later kb, hbx ▸ ob⟩
  replace gb := Lib.hid (below_and gb.out kb).drew
  replace go2 := Lib.hid go2.out.drew
  rw [hbx]
  clear eb kb zb ob c0 c1 c2 c3 c4 c5 k0 hbx go
  go_region_held3 (fun wx => wx.cell? ⟨w.heap.size, 0, none⟩ = some (.int .i64 6) ∧ wx.cell? ⟨w.heap.size, 1, none⟩ = some (.bool x) ∧ wx.cell? ⟨w.heap.size, 2, none⟩ = some (.int .i64 n) ∧ wx.cell? ⟨w.heap.size, 3, none⟩ = some (.int .i64 a) ∧ wx.cell? ⟨w.heap.size, 4, none⟩ = some (.int .i64 l) ∧ wx.cell? ⟨w.heap.size, 5, none⟩ = some (.string s) ∧ wx.cell? ⟨bx, 0, none⟩ = some (.int .i64 6) ∧ wx.cell? ⟨bx, 1, none⟩ = some (.bool x) ∧ wx.cell? ⟨bx, 2, none⟩ = some (.int .i64 1) ∧ wx.cell? ⟨bx, 3, none⟩ = some (.int .i64 a) ∧ wx.cell? ⟨bx, 4, none⟩ = some (.int .i64 l) ∧ wx.cell? ⟨bx, 5, none⟩ = some (.string s))
    (first | exact go2.out.flat | go_keep)
    (first | (go_at_call 13; refine (h13x.out _).mono ?_; rintro e wc ⟨rfl, kc⟩; replace gb := Lib.hid (below_and gb.out kc); replace go2 := Lib.hid (go2.out.later kc); clear kc) | (go_at_call 17; refine (h17.out _ _ _ _ _ _).mono ?_; rintro e wc ⟨rfl, kc⟩; replace gb := Lib.hid (below_and gb.out kc); replace go2 := Lib.hid (go2.out.later kc); clear kc))
  go_wp2
  go_ret
  exact ⟨ret_bool (by simp), gb.out⟩

theorem fields_3d (t : ByteArray) (n a l c : Int) (x : Bool) (s : ByteArray) (w : World) (b0 : 0 ≤ c) (b1 : c ≤ 255) (hr : c % 4 = 3)
    (h8 : Hid (∀ w, Calls Try.prog 8 #[] w fun e w' => e = .returned (.bool true) ∧ Below w.heap.size w w'))
    (h13 : Hid (∀ w, Calls Try.prog 13 #[.agg #[.int .i64 5, .bool x, .int .i64 n, .int .i64 a, .int .i64 l, .string s]] w fun e w' => e = .returned (.bool true) ∧ Below w.heap.size w w'))
    (h13x : Hid (∀ w, Calls Try.prog 13 #[.agg #[.int .i64 5, .bool x, .int .i64 1, .int .i64 a, .int .i64 l, .string s]] w fun e w' => e = .returned (.bool false) ∧ Below w.heap.size w w'))
    (h17 : Hid (∀ n a l x s w, Calls Try.prog 17 #[.agg #[.int .i64 5, .bool x, .int .i64 n, .int .i64 a, .int .i64 l, .string s]] w fun e w' => e = .returned (.string t) ∧ Below w.heap.size w w')) :
    Calls Try.prog 7 #[.agg #[.int .i64 5, .bool x, .int .i64 n, .int .i64 a, .int .i64 l, .string s], .int .u8 c] w fun e w' => e = .returned (.bool true) ∧ Below w.heap.size w w' := by
  have hr' : c.tmod 4 = 3 := by rw [Int.tmod_eq_emod_of_nonneg b0]; exact hr
  go_enter Try.func7, Try.ntmps7
  go_wp2_with fail
  obtain ⟨wb, eb, kb, zb, ob⟩ := ob_box w 5 n a l x s
  rw [eb]
  clear eb zb
  refine (h8.out _).mono ?_
  rintro e wc ⟨rfl, kd⟩
  have gb := Lib.hid (below_and kb kd)
  have go := Lib.hid (ob.later kd)
  clear kb ob kd
  obtain ⟨c0, c1, c2, c3, c4, c5⟩ := go.out
  go_wp2_with fail
  refine (h13.out _).mono ?_
  rintro e wd ⟨rfl, kd⟩
  replace gb := Lib.hid (below_and gb.out kd)
  replace go := Lib.hid (go.out.later kd)
  clear kd c0 c1 c2 c3 c4 c5
  obtain ⟨c0, c1, c2, c3, c4, c5⟩ := go.out
  have k0 : ∀ o, (wd.alloc o).cell? ⟨w.heap.size, 0, none⟩ = some (.int .i64 5) := fun o => (World.cell?_alloc_some wd _ o (by rw [c0]; rfl)).trans c0
  go_wp2_with fail
  obtain ⟨we, eb, kb, zb, ob⟩ := ob_box wd 5 1 a l x s
  rw [eb]
  obtain ⟨bx, hbx⟩ : ∃ bx, wd.heap.size = bx := ⟨_, rfl⟩
  have go2 : Hid (Two we w.heap.size bx 5 x n a l s 5 x 1 a l s) := Lib.hid ⟨go.out.later kb, hbx ▸ ob⟩
  replace gb := Lib.hid (below_and gb.out kb).drew
  replace go2 := Lib.hid go2.out.drew
  rw [hbx]
  clear eb kb zb ob c0 c1 c2 c3 c4 c5 k0 hbx go
  go_region_held3 (fun wx => wx.cell? ⟨w.heap.size, 0, none⟩ = some (.int .i64 5) ∧ wx.cell? ⟨w.heap.size, 1, none⟩ = some (.bool x) ∧ wx.cell? ⟨w.heap.size, 2, none⟩ = some (.int .i64 n) ∧ wx.cell? ⟨w.heap.size, 3, none⟩ = some (.int .i64 a) ∧ wx.cell? ⟨w.heap.size, 4, none⟩ = some (.int .i64 l) ∧ wx.cell? ⟨w.heap.size, 5, none⟩ = some (.string s) ∧ wx.cell? ⟨bx, 0, none⟩ = some (.int .i64 5) ∧ wx.cell? ⟨bx, 1, none⟩ = some (.bool x) ∧ wx.cell? ⟨bx, 2, none⟩ = some (.int .i64 1) ∧ wx.cell? ⟨bx, 3, none⟩ = some (.int .i64 a) ∧ wx.cell? ⟨bx, 4, none⟩ = some (.int .i64 l) ∧ wx.cell? ⟨bx, 5, none⟩ = some (.string s))
    (first | exact go2.out.flat | go_keep)
    (first | (go_at_call 13; refine (h13x.out _).mono ?_; rintro e wc ⟨rfl, kc⟩; replace gb := Lib.hid (below_and gb.out kc); replace go2 := Lib.hid (go2.out.later kc); clear kc) | (go_at_call 17; refine (h17.out _ _ _ _ _ _).mono ?_; rintro e wc ⟨rfl, kc⟩; replace gb := Lib.hid (below_and gb.out kc); replace go2 := Lib.hid (go2.out.later kc); clear kc))
  go_wp2
  go_ret
  exact ⟨ret_bool (by simp), gb.out⟩

theorem fields_walk (k n a l c : Int) (x : Bool) (s : ByteArray) (w : World) (b0 : 0 ≤ c) (b1 : c ≤ 255) :
    Calls Try.prog 7 #[.agg #[.int .i64 k, .bool x, .int .i64 n, .int .i64 a, .int .i64 l, .string s], .int .u8 c] w fun e w' => e = .returned (.bool true) ∧ Below w.heap.size w w' := by
  have h8 := Lib.hid (fun w => known10_any w)
  have h13 := fun n a l s w => may_any k n a l x s w
  have h17 : Hid (∀ n a l x s w, Calls Try.prog 17 #[.agg #[.int .i64 k, .bool x, .int .i64 n, .int .i64 a, .int .i64 l, .string s]] w fun e w' => e = .returned (.string (typeO k)) ∧ Below w.heap.size w w') := Lib.hid (fun n a l x s w => type_any k n a l x s w)
  have ho := h13 n a l s
  cases hm : mayO k n a l s
  · rw [hm] at ho
    exact fields_not k n a l c x s w b0 b1 h8 (Lib.hid ho)
  · rw [hm] at ho
    have hr : c % 4 = 0 ∨ c % 4 = 1 ∨ c % 4 = 2 ∨ c % 4 = 3 := by omega
    rcases hr with hr | hr | hr | hr
    · by_cases hk : k = 5
      · subst hk; exact fields_0a n a l c x s w b0 b1 hr h8 (Lib.hid ho)
      · have hx := h13 n a l ⟨#[120]⟩
        rw [no_S k n a l hk] at hx
        by_cases h8' : k = 8
        · subst h8'; exact fields_0b8 _ n a l c x s w b0 b1 hr h8 (Lib.hid ho) (Lib.hid hx) h17
        · by_cases h9' : k = 9
          · subst h9'; exact fields_0b9 _ n a l c x s w b0 b1 hr h8 (Lib.hid ho) (Lib.hid hx) h17
          · exact fields_0b _ k n a l c x s w b0 b1 (by simp [hk]) (by simp [h8']) (by simp [h9']) hr h8 (Lib.hid ho) (Lib.hid hx) h17
    · by_cases hk : k = 8
      · subst hk; exact fields_1a n a l c x s w b0 b1 hr h8 (Lib.hid ho)
      · by_cases hk' : k = 9
        · subst hk'; exact fields_1c n a l c x s w b0 b1 hr h8 (Lib.hid ho)
        · have hx := h13 n 1 l s
          rw [no_At k n l s hk hk'] at hx
          exact fields_1b _ k n a l c x s w b0 b1 (by simp [hk]) (by simp [hk']) hr h8 (Lib.hid ho) (Lib.hid hx) h17
    · by_cases hk : k = 8
      · subst hk; exact fields_2a n a l c x s w b0 b1 hr h8 (Lib.hid ho)
      · by_cases hk' : k = 9
        · subst hk'; exact fields_2c n a l c x s w b0 b1 hr h8 (Lib.hid ho)
        · have hx := h13 n a 1 s
          rw [no_Len k n a s hk hk'] at hx
          exact fields_2b _ k n a l c x s w b0 b1 (by simp [hk]) (by simp [hk']) hr h8 (Lib.hid ho) (Lib.hid hx) h17
    · by_cases hk : k = 1 ∨ k = 5 ∨ k = 6
      · have hx := h13 1 a l s
        rw [no_N k a l s hk] at hx
        rcases hk with hk | hk | hk
        · subst hk; exact fields_3b _ n a l c x s w b0 b1 hr h8 (Lib.hid ho) (Lib.hid hx) h17
        · subst hk; exact fields_3d _ n a l c x s w b0 b1 hr h8 (Lib.hid ho) (Lib.hid hx) h17
        · subst hk; exact fields_3c _ n a l c x s w b0 b1 hr h8 (Lib.hid ho) (Lib.hid hx) h17
      · by_cases h8' : k = 8
        · subst h8'; exact fields_3a8 n a l c x s w b0 b1 hr h8 (Lib.hid ho)
        · by_cases h9' : k = 9
          · subst h9'; exact fields_3a9 n a l c x s w b0 b1 hr h8 (Lib.hid ho)
          · exact fields_3a k n a l c x s w b0 b1 (by simp; omega) (by simp; omega) (by simp; omega) (by simp [h8']) (by simp [h9']) hr h8 (Lib.hid ho)
end Go.Proofs.Ytelihdgpappklaa
