/- Walks of dict: Get. -/
import Derived.Test.YtigboibcgpfphaaD8
namespace Go.Proofs.Ytigboibcgpfphaa
open Go.RowKit Go.Maps
set_option linter.unusedVariables false

theorem obs_zero (w : World) (k n a l : Int) (x : Bool) (s : ByteArray) (k' n' a' l' : Int) (x' : Bool) (s' : ByteArray) :
    ∃ wb, ((w.alloc (.cells #[.int .i64 k, .bool x, .int .i64 n, .int .i64 a, .int .i64 l, .string s] 26)).alloc (.cells #[.int .i64 k', .bool x', .int .i64 n', .int .i64 a', .int .i64 l', .string s'] 26)).alloc (.cells #[.int .i64 0, .bool false, .int .i64 0, .int .i64 0, .int .i64 0, .string ⟨#[]⟩] 26) = wb ∧ Below w.heap.size w wb ∧
      wb.heap[w.heap.size]? = some (obObj k x n a l s) ∧ wb.heap[w.heap.size + 1]? = some (obObj k' x' n' a' l' s') ∧ wb.heap[w.heap.size + 2]? = some emptyOb := by
  refine ⟨_, rfl, below_and (below_and (box_below _ _) (box_below _ _)) (box_below _ _), ?_, ?_, ?_⟩
  · rw [Below.heap_alloc _ _ _ (by simp; omega), Below.heap_alloc _ _ _ (by simp)]
    exact heap_alloc_new _ _
  · rw [Below.heap_alloc _ _ _ (by simp)]
    have := heap_alloc_new (w.alloc (.cells #[.int .i64 k, .bool x, .int .i64 n, .int .i64 a, .int .i64 l, .string s] 26)) (obObj k' x' n' a' l' s')
    simpa using this
  · have := heap_alloc_new ((w.alloc (.cells #[.int .i64 k, .bool x, .int .i64 n, .int .i64 a, .int .i64 l, .string s] 26)).alloc (.cells #[.int .i64 k', .bool x', .int .i64 n', .int .i64 a', .int .i64 l', .string s'] 26)) emptyOb
    simpa using this
theorem later6 {w : World} {A : Nat} {c0 c1 c2 c3 c4 c5 : Value} {t : TypeId} (h : w.heap[A]? = some (.cells #[c0, c1, c2, c3, c4, c5] t (0, 0))) :
    ((∀ o, (w.alloc o).cell? ⟨A, 0, none⟩ = some c0) ∧ (∀ o, (w.alloc o).cell? ⟨A, 1, none⟩ = some c1) ∧ (∀ o, (w.alloc o).cell? ⟨A, 2, none⟩ = some c2) ∧ (∀ o, (w.alloc o).cell? ⟨A, 3, none⟩ = some c3) ∧ (∀ o, (w.alloc o).cell? ⟨A, 4, none⟩ = some c4) ∧ (∀ o, (w.alloc o).cell? ⟨A, 5, none⟩ = some c5)) ∧
    (∀ o, (w.alloc o).frozen? ⟨A, 0, none⟩ = false) ∧ (∀ o, (w.alloc o).frozen? ⟨A, 1, none⟩ = false) ∧ (∀ o, (w.alloc o).frozen? ⟨A, 2, none⟩ = false) ∧ (∀ o, (w.alloc o).frozen? ⟨A, 3, none⟩ = false) ∧ (∀ o, (w.alloc o).frozen? ⟨A, 4, none⟩ = false) ∧ (∀ o, (w.alloc o).frozen? ⟨A, 5, none⟩ = false) := by
  have q : ∀ o, (w.alloc o).heap[A]? = some (.cells #[c0, c1, c2, c3, c4, c5] t (0, 0)) := fun o => (Below.heap_alloc _ _ _ (blk_lt h)).trans h
  exact ⟨⟨fun o => cellAt (q o) 0, fun o => cellAt (q o) 1, fun o => cellAt (q o) 2, fun o => cellAt (q o) 3, fun o => cellAt (q o) 4, fun o => cellAt (q o) 5⟩, fun o => freeAt (q o) 0, fun o => freeAt (q o) 1, fun o => freeAt (q o) 2, fun o => freeAt (q o) 3, fun o => freeAt (q o) 4, fun o => freeAt (q o) 5⟩
abbrev put6 (w : World) (A : Nat) (v0 v1 v2 v3 v4 v5 : Value) : World := (((((w.setCell ⟨A, 0, none⟩ v0).setCell ⟨A, 1, none⟩ v1).setCell ⟨A, 2, none⟩ v2).setCell ⟨A, 3, none⟩ v3).setCell ⟨A, 4, none⟩ v4).setCell ⟨A, 5, none⟩ v5

theorem zdc_box (w : World) : ∃ wb, w.alloc (.cells #[.pointer none, .int .i64 0, .bool false, .int .i64 0, .int .i64 0, .int .i64 0, .string ⟨#[]⟩, .int .i64 0, .int .i64 0] 118) = wb ∧ Below w.heap.size w wb ∧ wb.heap.size = w.heap.size + 1 ∧ wb.heap[w.heap.size]? = some zeroDc :=
  ⟨_, rfl, box_below _ _, by simp, heap_alloc_new _ _⟩
set_option maxHeartbeats 1000000 in
set_option maxRecDepth 100000 in
theorem get_fail (hb : Nat) (k n a l p r E : Int) (x : Bool) (s : ByteArray) (k' n' a' l' : Int) (x' : Bool) (s' : ByteArray) (kq nq aq lq : Int) (xq : Bool) (sq : ByteArray) (kv nv av lv : Int) (xv : Bool) (sv : ByteArray) (w : World) (hE : (E != 0) = true)
    (ho : Hid (∀ wx, Below w.heap.size w wx → Calls Try.prog 75 #[ptr hb, obV k x n a l s, obV k' x' n' a' l' s'] wx fun e w' => e = .returned (.tuple #[zeroDcV, zeroOb, .int .i64 E]) ∧ Below wx.heap.size wx w')) :
    Calls Try.prog 42 #[ptr hb, obV k x n a l s, obV k' x' n' a' l' s'] w fun e w' => e = .returned (.tuple #[zeroOb, .int .i64 E]) ∧ Below w.heap.size w w' := by
  go_enter Try.func42, Try.ntmps42
  go_upto_region 1 with fail
  obtain ⟨wb, eb, kb, b1, b2, b3⟩ := obs_zero w k n a l x s k' n' a' l' x' s'
  rw [eb]
  obtain ⟨o0, o1, o2, o3, o4, o5⟩ := ob_cells b1
  obtain ⟨p0, p1, p2, p3, p4, p5⟩ := ob_cells b2
  go_wp2_with fail
  refine (ho.out wb kb).mono ?_
  rintro e w1 ⟨rfl, k1⟩
  have K1 := Lib.hid (below_and kb k1)
  have B1 := Lib.hid ((k1.block _ (blk_lt b1)).trans b1)
  have B2 := (k1.block _ (blk_lt b2)).trans b2
  have B3 := Lib.hid ((k1.block _ (blk_lt b3)).trans b3)
  clear eb kb b1 b2 b3 k1 o0 o1 o2 o3 o4 o5 p0 p1 p2 p3 p4 p5
  have LT := Lib.hid (blk_lt B2)
  obtain ⟨⟨p0, p1, p2, p3, p4, p5⟩, f0, f1, f2, f3, f4, f5⟩ := later6 B2
  have BB := Lib.hid B2
  clear B2
  go_upto_region 2 with fail
  obtain ⟨w2, e2, k2, z2, d2⟩ := zdc_box w1
  obtain ⟨w3, e3⟩ : ∃ w3, put6 w2 (w.heap.size + 1) (.int .i64 0) (.bool false) (.int .i64 0) (.int .i64 0) (.int .i64 0) (.string ⟨#[]⟩) = w3 := ⟨_, rfl⟩
  have e3' := e3
  unfold put6 at e3'
  rw [e2, e3']
  have ON : Hid (Only (w.heap.size + 1) w2 w3) := Lib.hid (by rw [← e3]; exact only6 _ _ _ _ _ _ _ _)
  have K2 := Lib.hid (below_and K1.out k2)
  have C2 : Hid (w3.heap[w.heap.size + 1]? = some emptyOb) := Lib.hid (by rw [← e3]; exact set6 ((k2.block _ (blk_lt BB.out)).trans BB.out) _ _ _ _ _ _)
  have C1 := Lib.hid ((ON.out.block _ (by omega)).trans ((k2.block _ (blk_lt B1.out)).trans B1.out))
  have C3 := Lib.hid ((ON.out.block _ (by omega)).trans ((k2.block _ (blk_lt B3.out)).trans B3.out))
  have C4 := Lib.hid ((ON.out.block _ (by have := LT.out; omega)).trans d2)
  have K3 := Lib.hid (only_below ON.out K2.out (by omega))
  clear e2 e3 e3' k2 z2 d2 p0 p1 p2 p3 p4 p5 f0 f1 f2 f3 f4 f5
  obtain ⟨⟨p0, p1, p2, p3, p4, p5⟩, f0, f1, f2, f3, f4, f5⟩ := cells6 C3.out
  go_wp2
  (try simp only [Exit.inBlock, Exit.then])
  exact bodyPost_ret (ret_cell rfl _ _ _ _ _ _ _ _ rfl rfl (set6 C3.out _ _ _ _ _ _) Try.underlying26 rfl (by kernel_rfl)) rfl ⟨rfl, set6_below K3.out (by omega) _ _ _ _ _ _⟩

set_option maxHeartbeats 1000000 in
set_option maxRecDepth 100000 in
theorem get_miss (hb : Nat) (k n a l p r i : Int) (x : Bool) (s : ByteArray) (k' n' a' l' : Int) (x' : Bool) (s' : ByteArray) (kq nq aq lq : Int) (xq : Bool) (sq : ByteArray) (kv nv av lv : Int) (xv : Bool) (sv : ByteArray) (w : World) 
    (ho : Hid (∀ wx, Below w.heap.size w wx → Calls Try.prog 75 #[ptr hb, obV k x n a l s, obV k' x' n' a' l' s'] wx fun e w' => e = .returned (.tuple #[dcV hb k x n a l s p r, obV kq xq nq aq lq sq, .int .i64 0]) ∧ Below wx.heap.size wx w'))
    (hf : Hid (∀ wx, Below w.heap.size w wx → Calls Try.prog 77 #[dcV hb k x n a l s p r, obV kq xq nq aq lq sq] wx fun e w' => e = .returned (.tuple #[.int .i64 i, .bool false]) ∧ Below wx.heap.size wx w')) :
    Calls Try.prog 42 #[ptr hb, obV k x n a l s, obV k' x' n' a' l' s'] w fun e w' => e = .returned (.tuple #[zeroOb, .int .i64 9]) ∧ Below w.heap.size w w' := by
  go_enter Try.func42, Try.ntmps42
  go_upto_region 1 with fail
  obtain ⟨wb, eb, kb, b1, b2, b3⟩ := obs_zero w k n a l x s k' n' a' l' x' s'
  rw [eb]
  obtain ⟨o0, o1, o2, o3, o4, o5⟩ := ob_cells b1
  obtain ⟨p0, p1, p2, p3, p4, p5⟩ := ob_cells b2
  go_wp2_with fail
  refine (ho.out wb kb).mono ?_
  rintro e w1 ⟨rfl, k1⟩
  have K1 := Lib.hid (below_and kb k1)
  have B1 := Lib.hid ((k1.block _ (blk_lt b1)).trans b1)
  have B2 := (k1.block _ (blk_lt b2)).trans b2
  have B3 := Lib.hid ((k1.block _ (blk_lt b3)).trans b3)
  clear eb kb b1 b2 b3 k1 o0 o1 o2 o3 o4 o5 p0 p1 p2 p3 p4 p5
  have LT := Lib.hid (blk_lt B2)
  obtain ⟨⟨p0, p1, p2, p3, p4, p5⟩, f0, f1, f2, f3, f4, f5⟩ := later6 B2
  have BB := Lib.hid B2
  clear B2
  go_upto_region 2 with fail
  obtain ⟨w2, e2, k2, z2, d2⟩ := dc_box w1 hb k x n a l s p r
  obtain ⟨w3, e3⟩ : ∃ w3, put6 w2 (w.heap.size + 1) (.int .i64 kq) (.bool xq) (.int .i64 nq) (.int .i64 aq) (.int .i64 lq) (.string sq) = w3 := ⟨_, rfl⟩
  have e3' := e3
  unfold put6 at e3'
  rw [e2, e3']
  have ON : Hid (Only (w.heap.size + 1) w2 w3) := Lib.hid (by rw [← e3]; exact only6 _ _ _ _ _ _ _ _)
  have K2 := Lib.hid (below_and K1.out k2)
  have C2 : Hid (w3.heap[w.heap.size + 1]? = some (obObj kq xq nq aq lq sq)) := Lib.hid (by rw [← e3]; exact set6 ((k2.block _ (blk_lt BB.out)).trans BB.out) _ _ _ _ _ _)
  have C1 := Lib.hid ((ON.out.block _ (by omega)).trans ((k2.block _ (blk_lt B1.out)).trans B1.out))
  have C3 := Lib.hid ((ON.out.block _ (by omega)).trans ((k2.block _ (blk_lt B3.out)).trans B3.out))
  have C4 := Lib.hid ((ON.out.block _ (by have := LT.out; omega)).trans d2)
  have K3 := Lib.hid (only_below ON.out K2.out (by omega))
  clear e2 e3 e3' k2 z2 d2 p0 p1 p2 p3 p4 p5 f0 f1 f2 f3 f4 f5
  obtain ⟨o0, o1, o2, o3, o4, o5⟩ := ob_cells C2.out
  obtain ⟨d0, d1, d2, d3, d4, d5, d6, d7, d8⟩ := dc_cells C4.out
  go_wp2_with fail
  refine (hf.out w3 K3.out).mono ?_
  rintro e w4 ⟨rfl, k4⟩
  have K4 := Lib.hid (below_and K3.out k4)
  have D1 := Lib.hid ((k4.block _ (blk_lt C1.out)).trans C1.out)
  have D3 := Lib.hid ((k4.block _ (blk_lt C3.out)).trans C3.out)
  clear k4 o0 o1 o2 o3 o4 o5 d0 d1 d2 d3 d4 d5 d6 d7 d8
  obtain ⟨⟨p0, p1, p2, p3, p4, p5⟩, f0, f1, f2, f3, f4, f5⟩ := cells6 D3.out
  go_wp2
  (try simp only [Exit.inBlock, Exit.then])
  exact bodyPost_ret (ret_cell rfl _ _ _ _ _ _ _ _ rfl rfl (set6 D3.out _ _ _ _ _ _) Try.underlying26 rfl (by kernel_rfl)) rfl ⟨rfl, set6_below K4.out (by omega) _ _ _ _ _ _⟩

set_option maxHeartbeats 1000000 in
set_option maxRecDepth 100000 in
theorem get_have (hb : Nat) (k n a l p r i j E : Int) (x : Bool) (s : ByteArray) (k' n' a' l' : Int) (x' : Bool) (s' : ByteArray) (kq nq aq lq : Int) (xq : Bool) (sq : ByteArray) (kv nv av lv : Int) (xv : Bool) (sv : ByteArray) (w : World) (ej : IntKind.i64.wrap (i + 1) = j)
    (ho : Hid (∀ wx, Below w.heap.size w wx → Calls Try.prog 75 #[ptr hb, obV k x n a l s, obV k' x' n' a' l' s'] wx fun e w' => e = .returned (.tuple #[dcV hb k x n a l s p r, obV kq xq nq aq lq sq, .int .i64 0]) ∧ Below wx.heap.size wx w'))
    (hf : Hid (∀ wx, Below w.heap.size w wx → Calls Try.prog 77 #[dcV hb k x n a l s p r, obV kq xq nq aq lq sq] wx fun e w' => e = .returned (.tuple #[.int .i64 i, .bool true]) ∧ Below wx.heap.size wx w'))
    (hg : Hid (∀ wx, Below w.heap.size w wx → Calls Try.prog 50 #[ptr hb, obV k x n a l s, .int .i64 j] wx fun e w' => e = .returned (.tuple #[obV kv xv nv av lv sv, .int .i64 E]) ∧ Below wx.heap.size wx w')) :
    Calls Try.prog 42 #[ptr hb, obV k x n a l s, obV k' x' n' a' l' s'] w fun e w' => e = .returned (.tuple #[obV kv xv nv av lv sv, .int .i64 E]) ∧ Below w.heap.size w w' := by
  go_enter Try.func42, Try.ntmps42
  go_upto_region 1 with fail
  obtain ⟨wb, eb, kb, b1, b2, b3⟩ := obs_zero w k n a l x s k' n' a' l' x' s'
  rw [eb]
  obtain ⟨o0, o1, o2, o3, o4, o5⟩ := ob_cells b1
  obtain ⟨p0, p1, p2, p3, p4, p5⟩ := ob_cells b2
  go_wp2_with fail
  refine (ho.out wb kb).mono ?_
  rintro e w1 ⟨rfl, k1⟩
  have K1 := Lib.hid (below_and kb k1)
  have B1 := Lib.hid ((k1.block _ (blk_lt b1)).trans b1)
  have B2 := (k1.block _ (blk_lt b2)).trans b2
  have B3 := Lib.hid ((k1.block _ (blk_lt b3)).trans b3)
  clear eb kb b1 b2 b3 k1 o0 o1 o2 o3 o4 o5 p0 p1 p2 p3 p4 p5
  have LT := Lib.hid (blk_lt B2)
  obtain ⟨⟨p0, p1, p2, p3, p4, p5⟩, f0, f1, f2, f3, f4, f5⟩ := later6 B2
  have BB := Lib.hid B2
  clear B2
  go_upto_region 2 with fail
  obtain ⟨w2, e2, k2, z2, d2⟩ := dc_box w1 hb k x n a l s p r
  obtain ⟨w3, e3⟩ : ∃ w3, put6 w2 (w.heap.size + 1) (.int .i64 kq) (.bool xq) (.int .i64 nq) (.int .i64 aq) (.int .i64 lq) (.string sq) = w3 := ⟨_, rfl⟩
  have e3' := e3
  unfold put6 at e3'
  rw [e2, e3']
  have ON : Hid (Only (w.heap.size + 1) w2 w3) := Lib.hid (by rw [← e3]; exact only6 _ _ _ _ _ _ _ _)
  have K2 := Lib.hid (below_and K1.out k2)
  have C2 : Hid (w3.heap[w.heap.size + 1]? = some (obObj kq xq nq aq lq sq)) := Lib.hid (by rw [← e3]; exact set6 ((k2.block _ (blk_lt BB.out)).trans BB.out) _ _ _ _ _ _)
  have C1 := Lib.hid ((ON.out.block _ (by omega)).trans ((k2.block _ (blk_lt B1.out)).trans B1.out))
  have C3 := Lib.hid ((ON.out.block _ (by omega)).trans ((k2.block _ (blk_lt B3.out)).trans B3.out))
  have C4 := Lib.hid ((ON.out.block _ (by have := LT.out; omega)).trans d2)
  have K3 := Lib.hid (only_below ON.out K2.out (by omega))
  clear e2 e3 e3' k2 z2 d2 p0 p1 p2 p3 p4 p5 f0 f1 f2 f3 f4 f5
  obtain ⟨o0, o1, o2, o3, o4, o5⟩ := ob_cells C2.out
  obtain ⟨d0, d1, d2, d3, d4, d5, d6, d7, d8⟩ := dc_cells C4.out
  go_wp2_with fail
  refine (hf.out w3 K3.out).mono ?_
  rintro e w4 ⟨rfl, k4⟩
  have K4 := Lib.hid (below_and K3.out k4)
  have D1 := Lib.hid ((k4.block _ (blk_lt C1.out)).trans C1.out)
  have D3 := Lib.hid ((k4.block _ (blk_lt C3.out)).trans C3.out)
  clear k4 o0 o1 o2 o3 o4 o5 d0 d1 d2 d3 d4 d5 d6 d7 d8
  obtain ⟨o0, o1, o2, o3, o4, o5⟩ := ob_cells D1.out
  go_wp2_with fail
  refine (hg.out w4 K4.out).mono ?_
  rintro e w5 ⟨rfl, k5⟩
  have K5 := Lib.hid (below_and K4.out k5)
  have E3 := Lib.hid ((k5.block _ (blk_lt D3.out)).trans D3.out)
  clear k5 o0 o1 o2 o3 o4 o5
  obtain ⟨⟨p0, p1, p2, p3, p4, p5⟩, f0, f1, f2, f3, f4, f5⟩ := cells6 E3.out
  go_wp2
  (try simp only [Exit.inBlock, Exit.then])
  exact bodyPost_ret (ret_cell rfl _ _ _ _ _ _ _ _ rfl rfl (set6 E3.out _ _ _ _ _ _) Try.underlying26 rfl (by kernel_rfl)) rfl ⟨rfl, set6_below K5.out (by omega) _ _ _ _ _ _⟩

end Go.Proofs.Ytigboibcgpfphaa
