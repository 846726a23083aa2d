/- Walks of dict: open. -/
import Derived.Test.YtigboibcgpfphaaD5
namespace Go.Proofs.Ytigboibcgpfphaa
open Go.RowKit Go.Maps
set_option linter.unusedVariables false

abbrev zeroDc : Obj := .cells #[.pointer none, .int .i64 0, .bool false, .int .i64 0, .int .i64 0, .int .i64 0, .string ⟨#[]⟩, .int .i64 0, .int .i64 0] 118 (0, 0)
theorem cells9 {w : World} {A : Nat} {c0 c1 c2 c3 c4 c5 c6 c7 c8 : Value} {t : TypeId} (h : w.heap[A]? = some (.cells #[c0, c1, c2, c3, c4, c5, c6, c7, c8] t (0, 0))) :
    (w.cell? ⟨A, 0, none⟩ = some c0 ∧ w.cell? ⟨A, 1, none⟩ = some c1 ∧ w.cell? ⟨A, 2, none⟩ = some c2 ∧ w.cell? ⟨A, 3, none⟩ = some c3 ∧ w.cell? ⟨A, 4, none⟩ = some c4 ∧ w.cell? ⟨A, 5, none⟩ = some c5 ∧ w.cell? ⟨A, 6, none⟩ = some c6 ∧ w.cell? ⟨A, 7, none⟩ = some c7 ∧ w.cell? ⟨A, 8, none⟩ = some c8) ∧
    w.frozen? ⟨A, 0, none⟩ = false ∧ w.frozen? ⟨A, 1, none⟩ = false ∧ w.frozen? ⟨A, 2, none⟩ = false ∧ w.frozen? ⟨A, 3, none⟩ = false ∧ w.frozen? ⟨A, 4, none⟩ = false ∧ w.frozen? ⟨A, 5, none⟩ = false ∧ w.frozen? ⟨A, 6, none⟩ = false ∧ w.frozen? ⟨A, 7, none⟩ = false ∧ w.frozen? ⟨A, 8, none⟩ = false :=
  ⟨⟨cellAt h 0, cellAt h 1, cellAt h 2, cellAt h 3, cellAt h 4, cellAt h 5, cellAt h 6, cellAt h 7, cellAt h 8⟩, freeAt h 0, freeAt h 1, freeAt h 2, freeAt h 3, freeAt h 4, freeAt h 5, freeAt h 6, freeAt h 7, freeAt h 8⟩
abbrev put9 (w : World) (A : Nat) (v0 v1 v2 v3 v4 v5 v6 v7 v8 : Value) : World := ((((((((w.setCell ⟨A, 0, none⟩ v0).setCell ⟨A, 1, none⟩ v1).setCell ⟨A, 2, none⟩ v2).setCell ⟨A, 3, none⟩ v3).setCell ⟨A, 4, none⟩ v4).setCell ⟨A, 5, none⟩ v5).setCell ⟨A, 6, none⟩ v6).setCell ⟨A, 7, none⟩ v7).setCell ⟨A, 8, none⟩ v8
theorem set9 {w : World} {A : Nat} {c0 c1 c2 c3 c4 c5 c6 c7 c8 : Value} {t : TypeId} (h : w.heap[A]? = some (.cells #[c0, c1, c2, c3, c4, c5, c6, c7, c8] t (0, 0))) (v0 v1 v2 v3 v4 v5 v6 v7 v8 : Value) :
    (put9 w A v0 v1 v2 v3 v4 v5 v6 v7 v8).heap[A]? = some (.cells #[v0, v1, v2, v3, v4, v5, v6, v7, v8] t (0, 0)) := by
  have h0 := heap_setCell_same w A 0 _ t v0 h
  simp only [List.setIfInBounds_toArray, List.set_cons_zero] at h0
  have h1 := heap_setCell_same _ A 1 _ t v1 h0
  simp only [List.setIfInBounds_toArray, List.set_cons_zero, List.set_cons_succ] at h1
  have h2 := heap_setCell_same _ A 2 _ t v2 h1
  simp only [List.setIfInBounds_toArray, List.set_cons_zero, List.set_cons_succ] at h2
  have h3 := heap_setCell_same _ A 3 _ t v3 h2
  simp only [List.setIfInBounds_toArray, List.set_cons_zero, List.set_cons_succ] at h3
  have h4 := heap_setCell_same _ A 4 _ t v4 h3
  simp only [List.setIfInBounds_toArray, List.set_cons_zero, List.set_cons_succ] at h4
  have h5 := heap_setCell_same _ A 5 _ t v5 h4
  simp only [List.setIfInBounds_toArray, List.set_cons_zero, List.set_cons_succ] at h5
  have h6 := heap_setCell_same _ A 6 _ t v6 h5
  simp only [List.setIfInBounds_toArray, List.set_cons_zero, List.set_cons_succ] at h6
  have h7 := heap_setCell_same _ A 7 _ t v7 h6
  simp only [List.setIfInBounds_toArray, List.set_cons_zero, List.set_cons_succ] at h7
  have h8 := heap_setCell_same _ A 8 _ t v8 h7
  simp only [List.setIfInBounds_toArray, List.set_cons_zero, List.set_cons_succ] at h8
  exact h8
theorem only9 (A : Nat) (w : World) (v0 v1 v2 v3 v4 v5 v6 v7 v8 : Value) : Only A w (put9 w A v0 v1 v2 v3 v4 v5 v6 v7 v8) :=
  ((((((((((Only.refl A w).set 0 v0).set 1 v1).set 2 v2).set 3 v3).set 4 v4).set 5 v5).set 6 v6).set 7 v7).set 8 v8)
theorem only_below {A n : Nat} {w w1 w2 : World} (h : Only A w1 w2) (k : Below n w w1) (hA : n ≤ A) : Below n w w2 :=
  ⟨h.os.trans k.os, h.tape.trans k.tape, h.output.trans k.output, by rw [h.size]; exact k.size, fun i hi => (h.block i (by omega)).trans (k.block i hi)⟩
theorem ob_zdc (w : World) (k n a l : Int) (x : Bool) (s : ByteArray) : ∃ wb, (w.alloc (.cells #[.int .i64 k, .bool x, .int .i64 n, .int .i64 a, .int .i64 l, .string s] 26)).alloc zeroDc = wb ∧ Below w.heap.size w wb ∧ wb.heap.size = w.heap.size + 2 ∧ wb.heap[w.heap.size]? = some (obObj k x n a l s) ∧ wb.heap[w.heap.size + 1]? = some zeroDc := by
  refine ⟨_, rfl, below_and (box_below _ _) (box_below _ _), by simp, ?_, ?_⟩
  · rw [Below.heap_alloc _ _ _ (by simp)]
    exact heap_alloc_new _ _
  · have := heap_alloc_new (w.alloc (.cells #[.int .i64 k, .bool x, .int .i64 n, .int .i64 a, .int .i64 l, .string s] 26)) zeroDc
    simpa using this

set_option maxHeartbeats 1000000 in
set_option maxRecDepth 100000 in
theorem open_walk (hb z q p room : Nat) (n a l : Int) (x : Bool) (s : ByteArray) (w : World) (hz : z = q + 1) (hq : q = 2 * room) (hp : p ≤ room) (hr : room ≤ 1000)
    (hs : Hid (∀ wx, Below w.heap.size w wx → Calls Try.prog 64 #[ptr hb, obV 10 x n a l s] wx fun e w' => e = .returned (.tuple #[.int .i64 z, .int .i64 0]) ∧ Below wx.heap.size wx w'))
    (hg : Hid (∀ wx, Below w.heap.size w wx → Calls Try.prog 50 #[ptr hb, obV 10 x n a l s, .int .i64 0] wx fun e w' => e = .returned (.tuple #[obV 3 false p 0 0 ⟨#[]⟩, .int .i64 0]) ∧ Below wx.heap.size wx w')) :
    Calls Try.prog 82 #[ptr hb, obV 10 x n a l s] w fun e w' => e = .returned (.tuple #[dcV hb 10 x n a l s p room, .int .i64 0]) ∧ Below w.heap.size w w' := by
  have e1 : IntKind.i64.wrap ((z : Int) - 1) = q := by rw [wrapi_in _ (by omega) (by omega)]; omega
  have e2 : wrap64 ((q : Int) / 2) = room := by unfold wrap64; omega
  have HP : Hid (p ≤ room) := Lib.hid hp
  clear hz hq hp hr
  go_enter Try.func82, Try.ntmps82
  go_wp2_with fail
  obtain ⟨wb, eb, kb, zb, ob, db⟩ := ob_zdc w 10 n a l x s
  rw [eb]
  refine (hs.out wb kb).mono ?_
  rintro e w1 ⟨rfl, k1⟩
  have K1 := Lib.hid (below_and kb k1)
  have O1 := Lib.hid ((k1.block _ (blk_lt ob)).trans ob)
  have D1 := Lib.hid ((k1.block _ (blk_lt db)).trans db)
  obtain ⟨o0, o1, o2, o3, o4, o5⟩ := ob_cells O1.out
  clear eb kb zb ob db k1
  go_wp2_with fail
  refine (hg.out w1 K1.out).mono ?_
  rintro e w2 ⟨rfl, k2⟩
  have K2 := Lib.hid (below_and K1.out k2)
  have O2 := Lib.hid ((k2.block _ (blk_lt O1.out)).trans O1.out)
  have D2 := Lib.hid ((k2.block _ (blk_lt D1.out)).trans D1.out)
  clear k2 o0 o1 o2 o3 o4 o5
  go_upto_region 9 with fail
  obtain ⟨w3, e3, k3, z3, b3⟩ := ob_box w2 3 p 0 0 false ⟨#[]⟩
  rw [e3]
  have K3 := Lib.hid (below_and K2.out k3)
  have O3 := Lib.hid ((k3.block _ (blk_lt O2.out)).trans O2.out)
  have D3 := Lib.hid ((k3.block _ (blk_lt D2.out)).trans D2.out)
  obtain ⟨b0, b1, b2, b3, b4, b5⟩ := b3
  obtain ⟨o0, o1, o2, o3, o4, o5⟩ := ob_cells O3.out
  obtain ⟨⟨c0, c1, c2, c3, c4, c5, c6, c7, c8⟩, f0, f1, f2, f3, f4, f5, f6, f7, f8⟩ := cells9 D3.out
  have m2 : (p : Int) ≤ room := by have := HP.out; omega
  have m3 : ¬ ((room : Int) < p) := by have := HP.out; omega
  have m4 : ¬ (room < p) := by have := HP.out; omega
  clear e3 k3 z3
  go_wp2
  (try simp only [Exit.inBlock, Exit.then])
  exact bodyPost_ret (ret_cell rfl _ _ _ _ _ _ _ _ rfl rfl (set9 D3.out _ _ _ _ _ _ _ _ _) Try.underlying118 rfl (by kernel_rfl)) rfl ⟨rfl, only_below (only9 _ _ _ _ _ _ _ _ _ _ _) K3.out (Nat.le_succ _)⟩
end Go.Proofs.Ytigboibcgpfphaa
