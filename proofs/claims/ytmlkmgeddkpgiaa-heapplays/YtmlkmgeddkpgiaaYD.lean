/- YD: U27, U28, U29, U30, U31, U32, U33, U34, U35, U37. -/
import Derived.Test.YtmlkmgeddkpgiaaYC
import Derived.StillTailTactics
import Derived.Deep.Slices
import Derived.WideShapes
import Derived.ChangeSame
import Derived.OpenShut
/- HeapPlays: make1 of tympanlaw11. -/
namespace Go.Proofs.Ytmlkmgeddkpgiaa
open Go.RowKit
set_option linter.unusedVariables false
set_option linter.unusedSimpArgs false

/-- A step as a value and in a block. -/
abbrev stV (W A B N M : Int) (S : ByteArray) (k : Int) (x : Bool) (n a l : Int) (s : ByteArray) : Value := .agg #[.int .i64 W, .int .i64 A, .int .i64 B, .int .i64 N, .int .i64 M, .string S, .int .i64 k, .bool x, .int .i64 n, .int .i64 a, .int .i64 l, .string s]
abbrev stObj (W A B N M : Int) (S : ByteArray) (k : Int) (x : Bool) (n a l : Int) (s : ByteArray) : Obj := .cells #[.int .i64 W, .int .i64 A, .int .i64 B, .int .i64 N, .int .i64 M, .string S, .int .i64 k, .bool x, .int .i64 n, .int .i64 a, .int .i64 l, .string s] 35 (0, 0)
/-- The boxes of a call: the step's, the answer's, the two answers'. -/
structure MakeAt (w : World) (B : Nat) (W A B' N M : Int) (S : ByteArray) (k : Int) (x : Bool) (n a l : Int) (s : ByteArray) (o1 o2 : Ob) : Prop where
  st : w.heap[B]? = some (stObj W A B' N M S k x n a l s)
  rt : w.heap[B + 1]? = some emptyOb
  b1 : w.heap[B + 2]? = some (obObj o1.k o1.x o1.n o1.a o1.l o1.s)
  b2 : w.heap[B + 3]? = some (obObj o2.k o2.x o2.n o2.a o2.l o2.s)
theorem MakeAt.kept {w w' : World} {B : Nat} {W A B' N M : Int} {S : ByteArray} {k : Int} {x : Bool} {n a l : Int} {s : ByteArray} {o1 o2 : Ob} (h : MakeAt w B W A B' N M S k x n a l s o1 o2) (q : ∀ b, B ≤ b → b < B + 4 → w'.heap[b]? = w.heap[b]?) : MakeAt w' B W A B' N M S k x n a l s o1 o2 :=
  ⟨(q _ (by omega) (by omega)).trans h.st, (q _ (by omega) (by omega)).trans h.rt, (q _ (by omega) (by omega)).trans h.b1, (q _ (by omega) (by omega)).trans h.b2⟩
theorem make_box (w : World) (W A B N M : Int) (S : ByteArray) (k : Int) (x : Bool) (n a l : Int) (s : ByteArray) :
    ∃ wb, (((w.alloc (stObj W A B N M S k x n a l s)).alloc emptyOb).alloc emptyOb).alloc emptyOb = wb ∧ Below w.heap.size w wb ∧ wb.heap.size = w.heap.size + 4 ∧ MakeAt wb w.heap.size W A B N M S k x n a l s Ob.zero Ob.zero := by
  have e1 : (w.alloc (stObj W A B N M S k x n a l s)).heap.size = w.heap.size + 1 := by simp
  have e2 : ((w.alloc (stObj W A B N M S k x n a l s)).alloc emptyOb).heap.size = w.heap.size + 2 := by simp
  have e3 : (((w.alloc (stObj W A B N M S k x n a l s)).alloc emptyOb).alloc emptyOb).heap.size = w.heap.size + 3 := by simp
  refine ⟨_, rfl, below_and (box_below _ _) (below_and (box_below _ _) (below_and (box_below _ _) (box_below _ _))), by simp, ⟨?_, ?_, ?_, ?_⟩⟩
  · rw [Below.heap_alloc _ _ _ (by omega), Below.heap_alloc _ _ _ (by omega), Below.heap_alloc _ _ _ (by omega)]
    exact heap_alloc_new _ _
  · rw [Below.heap_alloc _ _ _ (by omega), Below.heap_alloc _ _ _ (by omega), ← e1]
    exact heap_alloc_new _ _
  · rw [Below.heap_alloc _ _ _ (by omega), ← e2]
    exact heap_alloc_new _ _
  · rw [← e3]
    exact heap_alloc_new _ _
/-- The first answer's box is written. -/
theorem MakeAt.set1 {w w' : World} {B : Nat} {W A B' N M : Int} {S : ByteArray} {k : Int} {x : Bool} {n a l : Int} {s : ByteArray} {o1 o2 : Ob} (h : MakeAt w B W A B' N M S k x n a l s o1 o2) (o : Ob) (on : Only (B + 2) w w') (hb : w'.heap[B + 2]? = some (obObj o.k o.x o.n o.a o.l o.s)) : MakeAt w' B W A B' N M S k x n a l s o o2 :=
  ⟨(on.block _ (by omega)).trans h.st, (on.block _ (by omega)).trans h.rt, hb, (on.block _ (by omega)).trans h.b2⟩
theorem MakeAt.set2 {w w' : World} {B : Nat} {W A B' N M : Int} {S : ByteArray} {k : Int} {x : Bool} {n a l : Int} {s : ByteArray} {o1 o2 : Ob} (h : MakeAt w B W A B' N M S k x n a l s o1 o2) (o : Ob) (on : Only (B + 3) w w') (hb : w'.heap[B + 3]? = some (obObj o.k o.x o.n o.a o.l o.s)) : MakeAt w' B W A B' N M S k x n a l s o1 o :=
  ⟨(on.block _ (by omega)).trans h.st, (on.block _ (by omega)).trans h.rt, (on.block _ (by omega)).trans h.b1, hb⟩
/-- What make1 holds of the world: both sides, the boxes, and that what was ours stays. -/
structure Mk (out : Nat → Prop) (w0 : World) (hb gb rb fb : Nat) (P Q A B : List Cel) (w : World) : Prop where
  play : Play (fun b => out b ∨ (w0.heap.size ≤ b ∧ b < w0.heap.size + 4)) hb gb rb fb P Q A B w
  keep : Kept out w0 w
  size : w0.heap.size + 4 ≤ w.heap.size
section
variable {out : Nat → Prop} {w0 w w' : World} {hb gb rb fb : Nat} {P Q A B P' Q' A' B' : List Cel}
theorem Mk.start (h : Play out hb gb rb fb P Q A B w0) (k : Below w0.heap.size w0 w) (z : w.heap.size = w0.heap.size + 4) : Mk out w0 hb gb rb fb P Q A B w :=
  ⟨(h.mine (kept_of k fun b q => q.1)).sub (fun b q => q.imp id fun q => ⟨q.1, by omega⟩), kept_of k fun b q => h.lt q, by omega⟩
theorem Mk.done (h : Mk out w0 hb gb rb fb P Q A B w) (p : Play (fun b => out b ∨ (w0.heap.size ≤ b ∧ b < w0.heap.size + 4)) hb gb rb fb P' Q' A' B' w') (k : Kept (fun b => out b ∨ (w0.heap.size ≤ b ∧ b < w0.heap.size + 4)) w w') : Mk out w0 hb gb rb fb P' Q' A' B' w' :=
  ⟨p, h.keep.trans (k.sub fun b q => .inl q), Nat.le_trans h.size k.size⟩
theorem Mk.set (h : Mk out w0 hb gb rb fb P Q A B w) (ho : ∀ b, out b → b < w0.heap.size) {C : Nat} (hC : w0.heap.size ≤ C ∧ C < w0.heap.size + 4) (on : Only C w w') : Mk out w0 hb gb rb fb P Q A B w' :=
  ⟨(h.play.mine (kept_only on fun q => q.2 (.inr hC))).sub (fun b q => .inl q), h.keep.trans (kept_only on fun q => by have := ho _ q; omega), by rw [on.size]; exact h.size⟩
end
set_option maxHeartbeats 2000000 in
set_option maxRecDepth 100000 in
theorem make_arr {out : Nat → Prop} {hb gb rb fb : Nat} {P P1 Q B' : List Cel} {w : World} (h : Play out hb gb rb fb P Q P B' w) (vl : Value) (A B N M : Int) (S : ByteArray) (k : Int) (x : Bool) (n a l : Int) (s : ByteArray) (k' : Int) (x' : Bool) (n' a' l' : Int) (s' : ByteArray) (E : Int)
    (C1 : Hid (∀ out w, Play out hb gb rb fb P Q P B' w → Calls Try.prog 65 #[ptr hb, .int .i64 N] w fun e w' => e = .returned (.tuple #[obV k' x' n' a' l' s', .int .i64 E]) ∧ Play out hb gb rb fb P1 Q P B' w' ∧ Kept out w w'))
    (C2 : Hid (∀ out w, Play out hb gb rb fb P1 Q P B' w → Calls Try.prog 68 #[ptr rb, .int .i64 N] w fun e w' => e = .returned (.tuple #[obV k' x' n' a' l' s', .int .i64 E]) ∧ Play out hb gb rb fb P1 Q P1 B' w' ∧ Kept out w w'))
    (hE : (E = 0 ∧ ¬ k' = 0) ∨ (k' = 0 ∧ ¬ E = 0)) :
    Calls Try.prog 13 #[ptr hb, ptr rb, vl, stV 0 A B N M S k x n a l s] w fun e w' => e = .returned (.tuple #[obV k' x' n' a' l' s', .bool true]) ∧ Play out hb gb rb fb P1 Q P1 B' w' ∧ Kept out w w' := by
  have LT : Hid (∀ b, out b → b < w.heap.size) := Lib.hid fun b q => h.lt q
  go_enter Try.func13, Try.ntmps13
  go_upto_region 2 with fail
  obtain ⟨wb, eb, kb, zb, mb⟩ := make_box w 0 A B N M S k x n a l s
  rw [eb]
  have MB := Lib.hid mb
  have H := Lib.hid (Mk.start h kb zb)
  clear eb kb h zb
  have cst := mb.st
  clear mb
  have c0 : wb.cell? ⟨w.heap.size, 0, none⟩ = some (.int .i64 0) := cellAt cst 0
  have c3 : wb.cell? ⟨w.heap.size, 3, none⟩ = some (.int .i64 N) := cellAt cst 3
  clear cst
  go_wp2_with fail
  refine (C1.out _ _ H.out.play).mono ?_
  rintro e w1 ⟨rfl, h1, k1⟩
  have H1 := Lib.hid (H.out.done h1 k1)
  have m1 := MB.out.kept fun b q1 q2 => k1.block b (.inr ⟨q1, q2⟩)
  have M1 := Lib.hid m1
  have cst := m1.st
  have cb := m1.b1
  clear h1 k1 m1 c0 c3
  obtain ⟨⟨r0, r1, r2, r3, r4, r5⟩, f0, f1, f2, f3, f4, f5⟩ := cells6 cb
  go_upto_region 9 with fail
  obtain ⟨w2, e2, b2, o2⟩ := set6_box cb (.int .i64 k') (.bool x') (.int .i64 n') (.int .i64 a') (.int .i64 l') (.string s')
  rw [e2]
  have H2 := Lib.hid (H1.out.set LT.out (C := w.heap.size + 2) (by omega) o2)
  have m2 := M1.out.set1 ⟨k', x', n', a', l', s'⟩ o2 b2
  have M2 := Lib.hid m2
  clear e2 b2 o2 cb cst r0 r1 r2 r3 r4 r5 f0 f1 f2 f3 f4 f5
  have cst := m2.st
  clear m2
  have c3 : w2.cell? ⟨w.heap.size, 3, none⟩ = some (.int .i64 N) := cellAt cst 3
  clear cst
  go_wp2_with fail
  refine (C2.out _ _ H2.out.play).mono ?_
  rintro e w3 ⟨rfl, h3, k3⟩
  have H3 := Lib.hid (H2.out.done h3 k3)
  have m3 := M2.out.kept fun b q1 q2 => k3.block b (.inr ⟨q1, q2⟩)
  have M3 := Lib.hid m3
  have cb := m3.b2
  clear h3 k3 m3 c3
  obtain ⟨⟨r0, r1, r2, r3, r4, r5⟩, f0, f1, f2, f3, f4, f5⟩ := cells6 cb
  go_upto_region 16 with fail
  obtain ⟨w4, e4, b4, o4⟩ := set6_box cb (.int .i64 k') (.bool x') (.int .i64 n') (.int .i64 a') (.int .i64 l') (.string s')
  rw [e4]
  have H4 := Lib.hid (H3.out.set LT.out (C := w.heap.size + 3) (by omega) o4)
  have m4 := M3.out.set2 ⟨k', x', n', a', l', s'⟩ o4 b4
  have M4 := Lib.hid m4
  clear e4 b4 o4 cb r0 r1 r2 r3 r4 r5 f0 f1 f2 f3 f4 f5
  obtain ⟨⟨u0, u1, u2, u3, u4, u5⟩, -, -, -, -, -, -⟩ := cells6 m4.b1
  obtain ⟨⟨v0, v1, v2, v3, v4, v5⟩, -, -, -, -, -, -⟩ := cells6 m4.b2
  clear m4
  have qe : ∀ w, (binOp .eql 24 (.agg #[.int .i64 k', .bool x', .int .i64 n', .int .i64 a', .int .i64 l', .string s']) (.agg #[.int .i64 k', .bool x', .int .i64 n', .int .i64 a', .int .i64 l', .string s'])).run Try.prog w = .ok (.bool true) w := fun w => by rw [eqO]; simp
  rcases hE with ⟨rfl, hk⟩ | ⟨rfl, hk⟩
  · have hk1 := bne_iff_ne.2 hk
    have hk2 := beq_eq_false_iff_ne.2 hk
    clear hk u0 u1 u2 u3 u4 u5 v0 v1 v2 v3 v4 v5
    have SX : Hid (w4.drew.heap[w.heap.size + 2]? = some (obObj k' x' n' a' l' s') ∧ w4.drew.heap[w.heap.size + 3]? = some (obObj k' x' n' a' l' s')) := Lib.hid ⟨M4.out.b1, M4.out.b2⟩
    have H5 := Lib.hid (H4.out.done (H4.out.play.below ((Below.refl _ w4).drew)) (H4.out.play.kept ((Below.refl _ w4).drew)))
    have CB : Hid (w4.drew.heap[w.heap.size + 1]? = some emptyOb) := Lib.hid M4.out.rt
    (try refine wp_region_noPanic ?_)
    refine wp_region_held_drew (S := fun wx => wx.heap[w.heap.size + 2]? = some (obObj k' x' n' a' l' s') ∧ wx.heap[w.heap.size + 3]? = some (obObj k' x' n' a' l' s')) (by kernel_rfl) SX.out (fun _ => ?_)
    generalize w4.drew = w5 at SX H5 CB ⊢
    refine wpAnyH_take (i := 0) (v := obV k' x' n' a' l' s') rfl (by kernel_rfl) (by kernel_rfl) (by kernel_rfl) (fun _ _ _ h => h) (Or.inl ⟨by rfl, fun wx hS => ?_⟩) SX.out ?_
    · have ⟨⟨u0, u1, u2, u3, u4, u5⟩, _⟩ := cells6 hS.1; have ⟨⟨v0, v1, v2, v3, v4, v5⟩, _⟩ := cells6 hS.2; go_simp
    try simp only [Act.put, List.getElem_toArray, List.getElem_cons_succ, List.getElem_cons_zero, List.setIfInBounds_toArray, List.set_cons_zero, List.set_cons_succ]
    refine wpAnyH_take (i := 1) (v := obV k' x' n' a' l' s') rfl (by kernel_rfl) (by kernel_rfl) (by kernel_rfl) (fun _ _ _ h => h) (Or.inl ⟨by rfl, fun wx hS => ?_⟩) SX.out ?_
    · have ⟨⟨u0, u1, u2, u3, u4, u5⟩, _⟩ := cells6 hS.1; have ⟨⟨v0, v1, v2, v3, v4, v5⟩, _⟩ := cells6 hS.2; go_simp
    try simp only [Act.put, List.getElem_toArray, List.getElem_cons_succ, List.getElem_cons_zero, List.setIfInBounds_toArray, List.set_cons_zero, List.set_cons_succ]
    refine wpAnyH_take (i := 2) (v := obV k' x' n' a' l' s') rfl (by kernel_rfl) (by kernel_rfl) (by kernel_rfl) (fun _ _ _ h => h) (Or.inl ⟨by rfl, fun wx hS => ?_⟩) SX.out ?_
    · have ⟨⟨u0, u1, u2, u3, u4, u5⟩, _⟩ := cells6 hS.1; have ⟨⟨v0, v1, v2, v3, v4, v5⟩, _⟩ := cells6 hS.2; go_simp
    try simp only [Act.put, List.getElem_toArray, List.getElem_cons_succ, List.getElem_cons_zero, List.setIfInBounds_toArray, List.set_cons_zero, List.set_cons_succ]
    refine wpAnyH_take (i := 3) (v := .bool true) rfl (by kernel_rfl) (by kernel_rfl) (by kernel_rfl) (fun _ _ _ h => h) (Or.inl ⟨by rfl, fun wx hS => ?_⟩) SX.out ?_
    · go_simp
    try simp only [Act.put, List.getElem_toArray, List.getElem_cons_succ, List.getElem_cons_zero, List.setIfInBounds_toArray, List.set_cons_zero, List.set_cons_succ]
    refine wpAnyH_take (i := 4) (v := .bool true) rfl (by kernel_rfl) (by kernel_rfl) (by kernel_rfl) (fun _ _ _ h => h) (Or.inl ⟨by rfl, fun wx hS => ?_⟩) SX.out ?_
    · go_simp
    try simp only [Act.put, List.getElem_toArray, List.getElem_cons_succ, List.getElem_cons_zero, List.setIfInBounds_toArray, List.set_cons_zero, List.set_cons_succ]
    refine wpAnyH_take (i := 5) (v := .int .i64 0) rfl (by kernel_rfl) (by kernel_rfl) (by kernel_rfl) (fun _ _ _ h => h) (Or.inl ⟨by rfl, fun wx hS => ?_⟩) SX.out ?_
    · go_simp
    try simp only [Act.put, List.getElem_toArray, List.getElem_cons_succ, List.getElem_cons_zero, List.setIfInBounds_toArray, List.set_cons_zero, List.set_cons_succ]
    refine wpAnyH_take (i := 6) (v := .int .i64 0) rfl (by kernel_rfl) (by kernel_rfl) (by kernel_rfl) (fun _ _ _ h => h) (Or.inl ⟨by rfl, fun wx hS => ?_⟩) SX.out ?_
    · go_simp
    try simp only [Act.put, List.getElem_toArray, List.getElem_cons_succ, List.getElem_cons_zero, List.setIfInBounds_toArray, List.set_cons_zero, List.set_cons_succ]
    refine wpAnyH_take (i := 7) (v := .bool true) rfl (by kernel_rfl) (by kernel_rfl) (by kernel_rfl) (fun _ _ _ h => h) (Or.inl ⟨by rfl, fun wx hS => ?_⟩) SX.out ?_
    · go_simp
    try simp only [Act.put, List.getElem_toArray, List.getElem_cons_succ, List.getElem_cons_zero, List.setIfInBounds_toArray, List.set_cons_zero, List.set_cons_succ]
    refine wpAnyH_take (i := 8) (v := .bool true) rfl (by kernel_rfl) (by kernel_rfl) (by kernel_rfl) (fun _ _ _ h => h) (Or.inl ⟨by rfl, fun wx hS => ?_⟩) SX.out ?_
    · go_simp
    try simp only [Act.put, List.getElem_toArray, List.getElem_cons_succ, List.getElem_cons_zero, List.setIfInBounds_toArray, List.set_cons_zero, List.set_cons_succ]
    refine wpAnyH_take (i := 9) (v := .bool true) rfl (by kernel_rfl) (by kernel_rfl) (by kernel_rfl) (fun _ _ _ h => h) (Or.inl ⟨by rfl, fun wx hS => ?_⟩) SX.out ?_
    · go_simp
    try simp only [Act.put, List.getElem_toArray, List.getElem_cons_succ, List.getElem_cons_zero, List.setIfInBounds_toArray, List.set_cons_zero, List.set_cons_succ]
    refine wpAnyH_take (i := 10) (v := .int .i64 0) rfl (by kernel_rfl) (by kernel_rfl) (by kernel_rfl) (fun _ _ _ h => h) (Or.inl ⟨by rfl, fun wx hS => ?_⟩) SX.out ?_
    · go_simp
    try simp only [Act.put, List.getElem_toArray, List.getElem_cons_succ, List.getElem_cons_zero, List.setIfInBounds_toArray, List.set_cons_zero, List.set_cons_succ]
    refine wpAnyH_take (i := 11) (v := .bool true) rfl (by kernel_rfl) (by kernel_rfl) (by kernel_rfl) (fun _ _ _ h => h) (Or.inl ⟨by rfl, fun wx hS => ?_⟩) SX.out ?_
    · go_simp
    try simp only [Act.put, List.getElem_toArray, List.getElem_cons_succ, List.getElem_cons_zero, List.setIfInBounds_toArray, List.set_cons_zero, List.set_cons_succ]
    refine wpAnyH_take (i := 12) (v := .pointer (some ⟨w.heap.size + 1 + 1 + 1, 0, none⟩)) rfl (by kernel_rfl) (by kernel_rfl) (by kernel_rfl) (fun _ _ _ h => h) (Or.inl ⟨by rfl, fun wx hS => ?_⟩) SX.out ?_
    · go_simp
    try simp only [Act.put, List.getElem_toArray, List.getElem_cons_succ, List.getElem_cons_zero, List.setIfInBounds_toArray, List.set_cons_zero, List.set_cons_succ]
    refine wpAnyH_take (i := 13) (v := .int .i64 k') rfl (by kernel_rfl) (by kernel_rfl) (by kernel_rfl) (fun _ _ _ h => h) (Or.inl ⟨by rfl, fun wx hS => ?_⟩) SX.out ?_
    · have ⟨⟨u0, u1, u2, u3, u4, u5⟩, _⟩ := cells6 hS.1; have ⟨⟨v0, v1, v2, v3, v4, v5⟩, _⟩ := cells6 hS.2; go_simp
    try simp only [Act.put, List.getElem_toArray, List.getElem_cons_succ, List.getElem_cons_zero, List.setIfInBounds_toArray, List.set_cons_zero, List.set_cons_succ]
    refine wpAnyH_take (i := 14) (v := .bool true) rfl (by kernel_rfl) (by kernel_rfl) (by kernel_rfl) (fun _ _ _ h => h) (Or.inl ⟨by rfl, fun wx hS => ?_⟩) SX.out ?_
    · go_simp
    try simp only [Act.put, List.getElem_toArray, List.getElem_cons_succ, List.getElem_cons_zero, List.setIfInBounds_toArray, List.set_cons_zero, List.set_cons_succ]
    refine wpAnyH_take (i := 15) (v := .bool true) rfl (by kernel_rfl) (by kernel_rfl) (by kernel_rfl) (fun _ _ _ h => h) (Or.inl ⟨by rfl, fun wx hS => ?_⟩) SX.out ?_
    · go_simp
    try simp only [Act.put, List.getElem_toArray, List.getElem_cons_succ, List.getElem_cons_zero, List.setIfInBounds_toArray, List.set_cons_zero, List.set_cons_succ]
    refine wpAnyH_take (i := 16) (v := .bool true) rfl (by kernel_rfl) (by kernel_rfl) (by kernel_rfl) (fun _ _ _ h => h) (Or.inl ⟨by rfl, fun wx hS => ?_⟩) SX.out ?_
    · go_simp
    try simp only [Act.put, List.getElem_toArray, List.getElem_cons_succ, List.getElem_cons_zero, List.setIfInBounds_toArray, List.set_cons_zero, List.set_cons_succ]
    obtain ⟨⟨r0, r1, r2, r3, r4, r5⟩, f0, f1, f2, f3, f4, f5⟩ := cells6 CB.out
    refine wpAnyH_ready (rs := [17]) (by kernel_rfl) (by simp) ?_
    refine AllReadyH.cons rfl (fun K hK => ?_) AllReadyH.nil
    go_simp
    obtain ⟨w6, e6, b6, o6⟩ := set6_box CB.out (.int .i64 k') (.bool x') (.int .i64 n') (.int .i64 a') (.int .i64 l') (.string s')
    rw [e6]
    have H6 := Lib.hid (H5.out.set LT.out (C := w.heap.size + 1) (by omega) o6)
    have SY : Hid (w6.heap[w.heap.size + 2]? = some (obObj k' x' n' a' l' s') ∧ w6.heap[w.heap.size + 3]? = some (obObj k' x' n' a' l' s')) := Lib.hid ⟨(o6.block _ (by omega)).trans SX.out.1, (o6.block _ (by omega)).trans SX.out.2⟩
    have B6 := Lib.hid b6
    clear e6 o6 b6 r0 r1 r2 r3 r4 r5 f0 f1 f2 f3 f4 f5 SX CB
    refine hK.out _ _ SY.out (fun _ => ?_)
    clear hK
    try simp only [Act.put, List.getElem_toArray, List.getElem_cons_succ, List.getElem_cons_zero, List.setIfInBounds_toArray, List.set_cons_zero, List.set_cons_succ]
    refine wpAnyH_take (i := 18) (v := .bool true) rfl (by kernel_rfl) (by kernel_rfl) (by kernel_rfl) (fun _ _ _ h => h) (Or.inl ⟨by rfl, fun wx hS => ?_⟩) SY.out ?_
    · go_simp
    try simp only [Act.put, List.getElem_toArray, List.getElem_cons_succ, List.getElem_cons_zero, List.setIfInBounds_toArray, List.set_cons_zero, List.set_cons_succ]
    refine wpAnyH_done (by kernel_rfl) ?_ _
    (try refine no_panic ?_)
    go_wp2
    (try simp only [Exit.inBlock, Exit.then])
    exact bodyPost_ret (ret_cell rfl _ _ _ _ _ _ _ _ rfl rfl B6.out Try.underlying24 rfl (by kernel_rfl)) rfl ⟨rfl, H6.out.play.sub fun b q => .inl q, H6.out.keep⟩
  · have hk1 := bne_iff_ne.2 hk
    have hk2 := beq_eq_false_iff_ne.2 hk
    clear hk u0 u1 u2 u3 u4 u5 v0 v1 v2 v3 v4 v5
    have SX : Hid (w4.drew.heap[w.heap.size + 2]? = some (obObj 0 x' n' a' l' s') ∧ w4.drew.heap[w.heap.size + 3]? = some (obObj 0 x' n' a' l' s')) := Lib.hid ⟨M4.out.b1, M4.out.b2⟩
    have H5 := Lib.hid (H4.out.done (H4.out.play.below ((Below.refl _ w4).drew)) (H4.out.play.kept ((Below.refl _ w4).drew)))
    have CB : Hid (w4.drew.heap[w.heap.size + 1]? = some emptyOb) := Lib.hid M4.out.rt
    (try refine wp_region_noPanic ?_)
    refine wp_region_held_drew (S := fun wx => wx.heap[w.heap.size + 2]? = some (obObj 0 x' n' a' l' s') ∧ wx.heap[w.heap.size + 3]? = some (obObj 0 x' n' a' l' s')) (by kernel_rfl) SX.out (fun _ => ?_)
    generalize w4.drew = w5 at SX H5 CB ⊢
    refine wpAnyH_take (i := 0) (v := obV 0 x' n' a' l' s') rfl (by kernel_rfl) (by kernel_rfl) (by kernel_rfl) (fun _ _ _ h => h) (Or.inl ⟨by rfl, fun wx hS => ?_⟩) SX.out ?_
    · have ⟨⟨u0, u1, u2, u3, u4, u5⟩, _⟩ := cells6 hS.1; have ⟨⟨v0, v1, v2, v3, v4, v5⟩, _⟩ := cells6 hS.2; go_simp
    try simp only [Act.put, List.getElem_toArray, List.getElem_cons_succ, List.getElem_cons_zero, List.setIfInBounds_toArray, List.set_cons_zero, List.set_cons_succ]
    refine wpAnyH_take (i := 1) (v := obV 0 x' n' a' l' s') rfl (by kernel_rfl) (by kernel_rfl) (by kernel_rfl) (fun _ _ _ h => h) (Or.inl ⟨by rfl, fun wx hS => ?_⟩) SX.out ?_
    · have ⟨⟨u0, u1, u2, u3, u4, u5⟩, _⟩ := cells6 hS.1; have ⟨⟨v0, v1, v2, v3, v4, v5⟩, _⟩ := cells6 hS.2; go_simp
    try simp only [Act.put, List.getElem_toArray, List.getElem_cons_succ, List.getElem_cons_zero, List.setIfInBounds_toArray, List.set_cons_zero, List.set_cons_succ]
    refine wpAnyH_take (i := 2) (v := obV 0 x' n' a' l' s') rfl (by kernel_rfl) (by kernel_rfl) (by kernel_rfl) (fun _ _ _ h => h) (Or.inl ⟨by rfl, fun wx hS => ?_⟩) SX.out ?_
    · have ⟨⟨u0, u1, u2, u3, u4, u5⟩, _⟩ := cells6 hS.1; have ⟨⟨v0, v1, v2, v3, v4, v5⟩, _⟩ := cells6 hS.2; go_simp
    try simp only [Act.put, List.getElem_toArray, List.getElem_cons_succ, List.getElem_cons_zero, List.setIfInBounds_toArray, List.set_cons_zero, List.set_cons_succ]
    refine wpAnyH_take (i := 3) (v := .bool true) rfl (by kernel_rfl) (by kernel_rfl) (by kernel_rfl) (fun _ _ _ h => h) (Or.inl ⟨by rfl, fun wx hS => ?_⟩) SX.out ?_
    · go_simp
    try simp only [Act.put, List.getElem_toArray, List.getElem_cons_succ, List.getElem_cons_zero, List.setIfInBounds_toArray, List.set_cons_zero, List.set_cons_succ]
    refine wpAnyH_take (i := 4) (v := .bool true) rfl (by kernel_rfl) (by kernel_rfl) (by kernel_rfl) (fun _ _ _ h => h) (Or.inl ⟨by rfl, fun wx hS => ?_⟩) SX.out ?_
    · go_simp
    try simp only [Act.put, List.getElem_toArray, List.getElem_cons_succ, List.getElem_cons_zero, List.setIfInBounds_toArray, List.set_cons_zero, List.set_cons_succ]
    refine wpAnyH_take (i := 5) (v := .int .i64 E) rfl (by kernel_rfl) (by kernel_rfl) (by kernel_rfl) (fun _ _ _ h => h) (Or.inl ⟨by rfl, fun wx hS => ?_⟩) SX.out ?_
    · go_simp
    try simp only [Act.put, List.getElem_toArray, List.getElem_cons_succ, List.getElem_cons_zero, List.setIfInBounds_toArray, List.set_cons_zero, List.set_cons_succ]
    refine wpAnyH_take (i := 6) (v := .int .i64 E) rfl (by kernel_rfl) (by kernel_rfl) (by kernel_rfl) (fun _ _ _ h => h) (Or.inl ⟨by rfl, fun wx hS => ?_⟩) SX.out ?_
    · go_simp
    try simp only [Act.put, List.getElem_toArray, List.getElem_cons_succ, List.getElem_cons_zero, List.setIfInBounds_toArray, List.set_cons_zero, List.set_cons_succ]
    refine wpAnyH_take (i := 7) (v := .bool true) rfl (by kernel_rfl) (by kernel_rfl) (by kernel_rfl) (fun _ _ _ h => h) (Or.inl ⟨by rfl, fun wx hS => ?_⟩) SX.out ?_
    · go_simp
    try simp only [Act.put, List.getElem_toArray, List.getElem_cons_succ, List.getElem_cons_zero, List.setIfInBounds_toArray, List.set_cons_zero, List.set_cons_succ]
    refine wpAnyH_take (i := 8) (v := .bool true) rfl (by kernel_rfl) (by kernel_rfl) (by kernel_rfl) (fun _ _ _ h => h) (Or.inl ⟨by rfl, fun wx hS => ?_⟩) SX.out ?_
    · go_simp
    try simp only [Act.put, List.getElem_toArray, List.getElem_cons_succ, List.getElem_cons_zero, List.setIfInBounds_toArray, List.set_cons_zero, List.set_cons_succ]
    refine wpAnyH_take (i := 9) (v := .bool true) rfl (by kernel_rfl) (by kernel_rfl) (by kernel_rfl) (fun _ _ _ h => h) (Or.inl ⟨by rfl, fun wx hS => ?_⟩) SX.out ?_
    · go_simp
    try simp only [Act.put, List.getElem_toArray, List.getElem_cons_succ, List.getElem_cons_zero, List.setIfInBounds_toArray, List.set_cons_zero, List.set_cons_succ]
    refine wpAnyH_take (i := 10) (v := .int .i64 E) rfl (by kernel_rfl) (by kernel_rfl) (by kernel_rfl) (fun _ _ _ h => h) (Or.inl ⟨by rfl, fun wx hS => ?_⟩) SX.out ?_
    · go_simp
    try simp only [Act.put, List.getElem_toArray, List.getElem_cons_succ, List.getElem_cons_zero, List.setIfInBounds_toArray, List.set_cons_zero, List.set_cons_succ]
    refine wpAnyH_take (i := 11) (v := .bool false) rfl (by kernel_rfl) (by kernel_rfl) (by kernel_rfl) (fun _ _ _ h => h) (Or.inl ⟨by rfl, fun wx hS => ?_⟩) SX.out ?_
    · go_simp
    try simp only [Act.put, List.getElem_toArray, List.getElem_cons_succ, List.getElem_cons_zero, List.setIfInBounds_toArray, List.set_cons_zero, List.set_cons_succ]
    refine wpAnyH_take (i := 12) (v := .pointer (some ⟨w.heap.size + 1 + 1 + 1, 0, none⟩)) rfl (by kernel_rfl) (by kernel_rfl) (by kernel_rfl) (fun _ _ _ h => h) (Or.inl ⟨by rfl, fun wx hS => ?_⟩) SX.out ?_
    · go_simp
    try simp only [Act.put, List.getElem_toArray, List.getElem_cons_succ, List.getElem_cons_zero, List.setIfInBounds_toArray, List.set_cons_zero, List.set_cons_succ]
    refine wpAnyH_take (i := 13) (v := .int .i64 0) rfl (by kernel_rfl) (by kernel_rfl) (by kernel_rfl) (fun _ _ _ h => h) (Or.inl ⟨by rfl, fun wx hS => ?_⟩) SX.out ?_
    · have ⟨⟨u0, u1, u2, u3, u4, u5⟩, _⟩ := cells6 hS.1; have ⟨⟨v0, v1, v2, v3, v4, v5⟩, _⟩ := cells6 hS.2; go_simp
    try simp only [Act.put, List.getElem_toArray, List.getElem_cons_succ, List.getElem_cons_zero, List.setIfInBounds_toArray, List.set_cons_zero, List.set_cons_succ]
    refine wpAnyH_take (i := 14) (v := .bool false) rfl (by kernel_rfl) (by kernel_rfl) (by kernel_rfl) (fun _ _ _ h => h) (Or.inl ⟨by rfl, fun wx hS => ?_⟩) SX.out ?_
    · go_simp
    try simp only [Act.put, List.getElem_toArray, List.getElem_cons_succ, List.getElem_cons_zero, List.setIfInBounds_toArray, List.set_cons_zero, List.set_cons_succ]
    refine wpAnyH_take (i := 15) (v := .bool true) rfl (by kernel_rfl) (by kernel_rfl) (by kernel_rfl) (fun _ _ _ h => h) (Or.inl ⟨by rfl, fun wx hS => ?_⟩) SX.out ?_
    · go_simp
    try simp only [Act.put, List.getElem_toArray, List.getElem_cons_succ, List.getElem_cons_zero, List.setIfInBounds_toArray, List.set_cons_zero, List.set_cons_succ]
    refine wpAnyH_take (i := 16) (v := .bool true) rfl (by kernel_rfl) (by kernel_rfl) (by kernel_rfl) (fun _ _ _ h => h) (Or.inl ⟨by rfl, fun wx hS => ?_⟩) SX.out ?_
    · go_simp
    try simp only [Act.put, List.getElem_toArray, List.getElem_cons_succ, List.getElem_cons_zero, List.setIfInBounds_toArray, List.set_cons_zero, List.set_cons_succ]
    obtain ⟨⟨r0, r1, r2, r3, r4, r5⟩, f0, f1, f2, f3, f4, f5⟩ := cells6 CB.out
    refine wpAnyH_ready (rs := [17]) (by kernel_rfl) (by simp) ?_
    refine AllReadyH.cons rfl (fun K hK => ?_) AllReadyH.nil
    go_simp
    obtain ⟨w6, e6, b6, o6⟩ := set6_box CB.out (.int .i64 0) (.bool x') (.int .i64 n') (.int .i64 a') (.int .i64 l') (.string s')
    rw [e6]
    have H6 := Lib.hid (H5.out.set LT.out (C := w.heap.size + 1) (by omega) o6)
    have SY : Hid (w6.heap[w.heap.size + 2]? = some (obObj 0 x' n' a' l' s') ∧ w6.heap[w.heap.size + 3]? = some (obObj 0 x' n' a' l' s')) := Lib.hid ⟨(o6.block _ (by omega)).trans SX.out.1, (o6.block _ (by omega)).trans SX.out.2⟩
    have B6 := Lib.hid b6
    clear e6 o6 b6 r0 r1 r2 r3 r4 r5 f0 f1 f2 f3 f4 f5 SX CB
    refine hK.out _ _ SY.out (fun _ => ?_)
    clear hK
    try simp only [Act.put, List.getElem_toArray, List.getElem_cons_succ, List.getElem_cons_zero, List.setIfInBounds_toArray, List.set_cons_zero, List.set_cons_succ]
    refine wpAnyH_take (i := 18) (v := .bool true) rfl (by kernel_rfl) (by kernel_rfl) (by kernel_rfl) (fun _ _ _ h => h) (Or.inl ⟨by rfl, fun wx hS => ?_⟩) SY.out ?_
    · go_simp
    try simp only [Act.put, List.getElem_toArray, List.getElem_cons_succ, List.getElem_cons_zero, List.setIfInBounds_toArray, List.set_cons_zero, List.set_cons_succ]
    refine wpAnyH_done (by kernel_rfl) ?_ _
    (try refine no_panic ?_)
    go_wp2
    (try simp only [Exit.inBlock, Exit.then])
    exact bodyPost_ret (ret_cell rfl _ _ _ _ _ _ _ _ rfl rfl B6.out Try.underlying24 rfl (by kernel_rfl)) rfl ⟨rfl, H6.out.play.sub fun b q => .inl q, H6.out.keep⟩
set_option maxHeartbeats 2000000 in
set_option maxRecDepth 100000 in
theorem make_str {out : Nat → Prop} {hb gb rb fb : Nat} {P P1 Q B' : List Cel} {w : World} (h : Play out hb gb rb fb P Q P B' w) (vl : Value) (A B N M : Int) (S : ByteArray) (k : Int) (x : Bool) (n a l : Int) (s : ByteArray) (k' : Int) (x' : Bool) (n' a' l' : Int) (s' : ByteArray) (E : Int)
    (C1 : Hid (∀ out w, Play out hb gb rb fb P Q P B' w → Calls Try.prog 49 #[ptr hb, .string S] w fun e w' => e = .returned (.tuple #[obV k' x' n' a' l' s', .int .i64 E]) ∧ Play out hb gb rb fb P1 Q P B' w' ∧ Kept out w w'))
    (C2 : Hid (∀ out w, Play out hb gb rb fb P1 Q P B' w → Calls Try.prog 50 #[ptr rb, .string S] w fun e w' => e = .returned (.tuple #[obV k' x' n' a' l' s', .int .i64 E]) ∧ Play out hb gb rb fb P1 Q P1 B' w' ∧ Kept out w w'))
    (hE : (E = 0 ∧ ¬ k' = 0) ∨ (k' = 0 ∧ ¬ E = 0)) :
    Calls Try.prog 13 #[ptr hb, ptr rb, vl, stV 1 A B N M S k x n a l s] w fun e w' => e = .returned (.tuple #[obV k' x' n' a' l' s', .bool true]) ∧ Play out hb gb rb fb P1 Q P1 B' w' ∧ Kept out w w' := by
  have LT : Hid (∀ b, out b → b < w.heap.size) := Lib.hid fun b q => h.lt q
  go_enter Try.func13, Try.ntmps13
  go_upto_region 2 with fail
  obtain ⟨wb, eb, kb, zb, mb⟩ := make_box w 1 A B N M S k x n a l s
  rw [eb]
  have MB := Lib.hid mb
  have H := Lib.hid (Mk.start h kb zb)
  clear eb kb h zb
  have cst := mb.st
  clear mb
  have c0 : wb.cell? ⟨w.heap.size, 0, none⟩ = some (.int .i64 1) := cellAt cst 0
  have c5 : wb.cell? ⟨w.heap.size, 5, none⟩ = some (.string S) := cellAt cst 5
  clear cst
  go_wp2_with fail
  refine (C1.out _ _ H.out.play).mono ?_
  rintro e w1 ⟨rfl, h1, k1⟩
  have H1 := Lib.hid (H.out.done h1 k1)
  have m1 := MB.out.kept fun b q1 q2 => k1.block b (.inr ⟨q1, q2⟩)
  have M1 := Lib.hid m1
  have cst := m1.st
  have cb := m1.b1
  clear h1 k1 m1 c0 c5
  obtain ⟨⟨r0, r1, r2, r3, r4, r5⟩, f0, f1, f2, f3, f4, f5⟩ := cells6 cb
  go_upto_region 12 with fail
  obtain ⟨w2, e2, b2, o2⟩ := set6_box cb (.int .i64 k') (.bool x') (.int .i64 n') (.int .i64 a') (.int .i64 l') (.string s')
  rw [e2]
  have H2 := Lib.hid (H1.out.set LT.out (C := w.heap.size + 2) (by omega) o2)
  have m2 := M1.out.set1 ⟨k', x', n', a', l', s'⟩ o2 b2
  have M2 := Lib.hid m2
  clear e2 b2 o2 cb cst r0 r1 r2 r3 r4 r5 f0 f1 f2 f3 f4 f5
  have cst := m2.st
  clear m2
  have c5 : w2.cell? ⟨w.heap.size, 5, none⟩ = some (.string S) := cellAt cst 5
  clear cst
  go_wp2_with fail
  refine (C2.out _ _ H2.out.play).mono ?_
  rintro e w3 ⟨rfl, h3, k3⟩
  have H3 := Lib.hid (H2.out.done h3 k3)
  have m3 := M2.out.kept fun b q1 q2 => k3.block b (.inr ⟨q1, q2⟩)
  have M3 := Lib.hid m3
  have cb := m3.b2
  clear h3 k3 m3 c5
  obtain ⟨⟨r0, r1, r2, r3, r4, r5⟩, f0, f1, f2, f3, f4, f5⟩ := cells6 cb
  go_upto_region 16 with fail
  obtain ⟨w4, e4, b4, o4⟩ := set6_box cb (.int .i64 k') (.bool x') (.int .i64 n') (.int .i64 a') (.int .i64 l') (.string s')
  rw [e4]
  have H4 := Lib.hid (H3.out.set LT.out (C := w.heap.size + 3) (by omega) o4)
  have m4 := M3.out.set2 ⟨k', x', n', a', l', s'⟩ o4 b4
  have M4 := Lib.hid m4
  clear e4 b4 o4 cb r0 r1 r2 r3 r4 r5 f0 f1 f2 f3 f4 f5
  obtain ⟨⟨u0, u1, u2, u3, u4, u5⟩, -, -, -, -, -, -⟩ := cells6 m4.b1
  obtain ⟨⟨v0, v1, v2, v3, v4, v5⟩, -, -, -, -, -, -⟩ := cells6 m4.b2
  clear m4
  have qe : ∀ w, (binOp .eql 24 (.agg #[.int .i64 k', .bool x', .int .i64 n', .int .i64 a', .int .i64 l', .string s']) (.agg #[.int .i64 k', .bool x', .int .i64 n', .int .i64 a', .int .i64 l', .string s'])).run Try.prog w = .ok (.bool true) w := fun w => by rw [eqO]; simp
  rcases hE with ⟨rfl, hk⟩ | ⟨rfl, hk⟩
  · have hk1 := bne_iff_ne.2 hk
    have hk2 := beq_eq_false_iff_ne.2 hk
    clear hk u0 u1 u2 u3 u4 u5 v0 v1 v2 v3 v4 v5
    have SX : Hid (w4.drew.heap[w.heap.size + 2]? = some (obObj k' x' n' a' l' s') ∧ w4.drew.heap[w.heap.size + 3]? = some (obObj k' x' n' a' l' s')) := Lib.hid ⟨M4.out.b1, M4.out.b2⟩
    have H5 := Lib.hid (H4.out.done (H4.out.play.below ((Below.refl _ w4).drew)) (H4.out.play.kept ((Below.refl _ w4).drew)))
    have CB : Hid (w4.drew.heap[w.heap.size + 1]? = some emptyOb) := Lib.hid M4.out.rt
    (try refine wp_region_noPanic ?_)
    refine wp_region_held_drew (S := fun wx => wx.heap[w.heap.size + 2]? = some (obObj k' x' n' a' l' s') ∧ wx.heap[w.heap.size + 3]? = some (obObj k' x' n' a' l' s')) (by kernel_rfl) SX.out (fun _ => ?_)
    generalize w4.drew = w5 at SX H5 CB ⊢
    refine wpAnyH_take (i := 0) (v := obV k' x' n' a' l' s') rfl (by kernel_rfl) (by kernel_rfl) (by kernel_rfl) (fun _ _ _ h => h) (Or.inl ⟨by rfl, fun wx hS => ?_⟩) SX.out ?_
    · have ⟨⟨u0, u1, u2, u3, u4, u5⟩, _⟩ := cells6 hS.1; have ⟨⟨v0, v1, v2, v3, v4, v5⟩, _⟩ := cells6 hS.2; go_simp
    try simp only [Act.put, List.getElem_toArray, List.getElem_cons_succ, List.getElem_cons_zero, List.setIfInBounds_toArray, List.set_cons_zero, List.set_cons_succ]
    refine wpAnyH_take (i := 1) (v := obV k' x' n' a' l' s') rfl (by kernel_rfl) (by kernel_rfl) (by kernel_rfl) (fun _ _ _ h => h) (Or.inl ⟨by rfl, fun wx hS => ?_⟩) SX.out ?_
    · have ⟨⟨u0, u1, u2, u3, u4, u5⟩, _⟩ := cells6 hS.1; have ⟨⟨v0, v1, v2, v3, v4, v5⟩, _⟩ := cells6 hS.2; go_simp
    try simp only [Act.put, List.getElem_toArray, List.getElem_cons_succ, List.getElem_cons_zero, List.setIfInBounds_toArray, List.set_cons_zero, List.set_cons_succ]
    refine wpAnyH_take (i := 2) (v := obV k' x' n' a' l' s') rfl (by kernel_rfl) (by kernel_rfl) (by kernel_rfl) (fun _ _ _ h => h) (Or.inl ⟨by rfl, fun wx hS => ?_⟩) SX.out ?_
    · have ⟨⟨u0, u1, u2, u3, u4, u5⟩, _⟩ := cells6 hS.1; have ⟨⟨v0, v1, v2, v3, v4, v5⟩, _⟩ := cells6 hS.2; go_simp
    try simp only [Act.put, List.getElem_toArray, List.getElem_cons_succ, List.getElem_cons_zero, List.setIfInBounds_toArray, List.set_cons_zero, List.set_cons_succ]
    refine wpAnyH_take (i := 3) (v := .bool true) rfl (by kernel_rfl) (by kernel_rfl) (by kernel_rfl) (fun _ _ _ h => h) (Or.inl ⟨by rfl, fun wx hS => ?_⟩) SX.out ?_
    · go_simp
    try simp only [Act.put, List.getElem_toArray, List.getElem_cons_succ, List.getElem_cons_zero, List.setIfInBounds_toArray, List.set_cons_zero, List.set_cons_succ]
    refine wpAnyH_take (i := 4) (v := .bool true) rfl (by kernel_rfl) (by kernel_rfl) (by kernel_rfl) (fun _ _ _ h => h) (Or.inl ⟨by rfl, fun wx hS => ?_⟩) SX.out ?_
    · go_simp
    try simp only [Act.put, List.getElem_toArray, List.getElem_cons_succ, List.getElem_cons_zero, List.setIfInBounds_toArray, List.set_cons_zero, List.set_cons_succ]
    refine wpAnyH_take (i := 5) (v := .int .i64 0) rfl (by kernel_rfl) (by kernel_rfl) (by kernel_rfl) (fun _ _ _ h => h) (Or.inl ⟨by rfl, fun wx hS => ?_⟩) SX.out ?_
    · go_simp
    try simp only [Act.put, List.getElem_toArray, List.getElem_cons_succ, List.getElem_cons_zero, List.setIfInBounds_toArray, List.set_cons_zero, List.set_cons_succ]
    refine wpAnyH_take (i := 6) (v := .int .i64 0) rfl (by kernel_rfl) (by kernel_rfl) (by kernel_rfl) (fun _ _ _ h => h) (Or.inl ⟨by rfl, fun wx hS => ?_⟩) SX.out ?_
    · go_simp
    try simp only [Act.put, List.getElem_toArray, List.getElem_cons_succ, List.getElem_cons_zero, List.setIfInBounds_toArray, List.set_cons_zero, List.set_cons_succ]
    refine wpAnyH_take (i := 7) (v := .bool true) rfl (by kernel_rfl) (by kernel_rfl) (by kernel_rfl) (fun _ _ _ h => h) (Or.inl ⟨by rfl, fun wx hS => ?_⟩) SX.out ?_
    · go_simp
    try simp only [Act.put, List.getElem_toArray, List.getElem_cons_succ, List.getElem_cons_zero, List.setIfInBounds_toArray, List.set_cons_zero, List.set_cons_succ]
    refine wpAnyH_take (i := 8) (v := .bool true) rfl (by kernel_rfl) (by kernel_rfl) (by kernel_rfl) (fun _ _ _ h => h) (Or.inl ⟨by rfl, fun wx hS => ?_⟩) SX.out ?_
    · go_simp
    try simp only [Act.put, List.getElem_toArray, List.getElem_cons_succ, List.getElem_cons_zero, List.setIfInBounds_toArray, List.set_cons_zero, List.set_cons_succ]
    refine wpAnyH_take (i := 9) (v := .bool true) rfl (by kernel_rfl) (by kernel_rfl) (by kernel_rfl) (fun _ _ _ h => h) (Or.inl ⟨by rfl, fun wx hS => ?_⟩) SX.out ?_
    · go_simp
    try simp only [Act.put, List.getElem_toArray, List.getElem_cons_succ, List.getElem_cons_zero, List.setIfInBounds_toArray, List.set_cons_zero, List.set_cons_succ]
    refine wpAnyH_take (i := 10) (v := .int .i64 0) rfl (by kernel_rfl) (by kernel_rfl) (by kernel_rfl) (fun _ _ _ h => h) (Or.inl ⟨by rfl, fun wx hS => ?_⟩) SX.out ?_
    · go_simp
    try simp only [Act.put, List.getElem_toArray, List.getElem_cons_succ, List.getElem_cons_zero, List.setIfInBounds_toArray, List.set_cons_zero, List.set_cons_succ]
    refine wpAnyH_take (i := 11) (v := .bool true) rfl (by kernel_rfl) (by kernel_rfl) (by kernel_rfl) (fun _ _ _ h => h) (Or.inl ⟨by rfl, fun wx hS => ?_⟩) SX.out ?_
    · go_simp
    try simp only [Act.put, List.getElem_toArray, List.getElem_cons_succ, List.getElem_cons_zero, List.setIfInBounds_toArray, List.set_cons_zero, List.set_cons_succ]
    refine wpAnyH_take (i := 12) (v := .pointer (some ⟨w.heap.size + 1 + 1 + 1, 0, none⟩)) rfl (by kernel_rfl) (by kernel_rfl) (by kernel_rfl) (fun _ _ _ h => h) (Or.inl ⟨by rfl, fun wx hS => ?_⟩) SX.out ?_
    · go_simp
    try simp only [Act.put, List.getElem_toArray, List.getElem_cons_succ, List.getElem_cons_zero, List.setIfInBounds_toArray, List.set_cons_zero, List.set_cons_succ]
    refine wpAnyH_take (i := 13) (v := .int .i64 k') rfl (by kernel_rfl) (by kernel_rfl) (by kernel_rfl) (fun _ _ _ h => h) (Or.inl ⟨by rfl, fun wx hS => ?_⟩) SX.out ?_
    · have ⟨⟨u0, u1, u2, u3, u4, u5⟩, _⟩ := cells6 hS.1; have ⟨⟨v0, v1, v2, v3, v4, v5⟩, _⟩ := cells6 hS.2; go_simp
    try simp only [Act.put, List.getElem_toArray, List.getElem_cons_succ, List.getElem_cons_zero, List.setIfInBounds_toArray, List.set_cons_zero, List.set_cons_succ]
    refine wpAnyH_take (i := 14) (v := .bool true) rfl (by kernel_rfl) (by kernel_rfl) (by kernel_rfl) (fun _ _ _ h => h) (Or.inl ⟨by rfl, fun wx hS => ?_⟩) SX.out ?_
    · go_simp
    try simp only [Act.put, List.getElem_toArray, List.getElem_cons_succ, List.getElem_cons_zero, List.setIfInBounds_toArray, List.set_cons_zero, List.set_cons_succ]
    refine wpAnyH_take (i := 15) (v := .bool true) rfl (by kernel_rfl) (by kernel_rfl) (by kernel_rfl) (fun _ _ _ h => h) (Or.inl ⟨by rfl, fun wx hS => ?_⟩) SX.out ?_
    · go_simp
    try simp only [Act.put, List.getElem_toArray, List.getElem_cons_succ, List.getElem_cons_zero, List.setIfInBounds_toArray, List.set_cons_zero, List.set_cons_succ]
    refine wpAnyH_take (i := 16) (v := .bool true) rfl (by kernel_rfl) (by kernel_rfl) (by kernel_rfl) (fun _ _ _ h => h) (Or.inl ⟨by rfl, fun wx hS => ?_⟩) SX.out ?_
    · go_simp
    try simp only [Act.put, List.getElem_toArray, List.getElem_cons_succ, List.getElem_cons_zero, List.setIfInBounds_toArray, List.set_cons_zero, List.set_cons_succ]
    obtain ⟨⟨r0, r1, r2, r3, r4, r5⟩, f0, f1, f2, f3, f4, f5⟩ := cells6 CB.out
    refine wpAnyH_ready (rs := [17]) (by kernel_rfl) (by simp) ?_
    refine AllReadyH.cons rfl (fun K hK => ?_) AllReadyH.nil
    go_simp
    obtain ⟨w6, e6, b6, o6⟩ := set6_box CB.out (.int .i64 k') (.bool x') (.int .i64 n') (.int .i64 a') (.int .i64 l') (.string s')
    rw [e6]
    have H6 := Lib.hid (H5.out.set LT.out (C := w.heap.size + 1) (by omega) o6)
    have SY : Hid (w6.heap[w.heap.size + 2]? = some (obObj k' x' n' a' l' s') ∧ w6.heap[w.heap.size + 3]? = some (obObj k' x' n' a' l' s')) := Lib.hid ⟨(o6.block _ (by omega)).trans SX.out.1, (o6.block _ (by omega)).trans SX.out.2⟩
    have B6 := Lib.hid b6
    clear e6 o6 b6 r0 r1 r2 r3 r4 r5 f0 f1 f2 f3 f4 f5 SX CB
    refine hK.out _ _ SY.out (fun _ => ?_)
    clear hK
    try simp only [Act.put, List.getElem_toArray, List.getElem_cons_succ, List.getElem_cons_zero, List.setIfInBounds_toArray, List.set_cons_zero, List.set_cons_succ]
    refine wpAnyH_take (i := 18) (v := .bool true) rfl (by kernel_rfl) (by kernel_rfl) (by kernel_rfl) (fun _ _ _ h => h) (Or.inl ⟨by rfl, fun wx hS => ?_⟩) SY.out ?_
    · go_simp
    try simp only [Act.put, List.getElem_toArray, List.getElem_cons_succ, List.getElem_cons_zero, List.setIfInBounds_toArray, List.set_cons_zero, List.set_cons_succ]
    refine wpAnyH_done (by kernel_rfl) ?_ _
    (try refine no_panic ?_)
    go_wp2
    (try simp only [Exit.inBlock, Exit.then])
    exact bodyPost_ret (ret_cell rfl _ _ _ _ _ _ _ _ rfl rfl B6.out Try.underlying24 rfl (by kernel_rfl)) rfl ⟨rfl, H6.out.play.sub fun b q => .inl q, H6.out.keep⟩
  · have hk1 := bne_iff_ne.2 hk
    have hk2 := beq_eq_false_iff_ne.2 hk
    clear hk u0 u1 u2 u3 u4 u5 v0 v1 v2 v3 v4 v5
    have SX : Hid (w4.drew.heap[w.heap.size + 2]? = some (obObj 0 x' n' a' l' s') ∧ w4.drew.heap[w.heap.size + 3]? = some (obObj 0 x' n' a' l' s')) := Lib.hid ⟨M4.out.b1, M4.out.b2⟩
    have H5 := Lib.hid (H4.out.done (H4.out.play.below ((Below.refl _ w4).drew)) (H4.out.play.kept ((Below.refl _ w4).drew)))
    have CB : Hid (w4.drew.heap[w.heap.size + 1]? = some emptyOb) := Lib.hid M4.out.rt
    (try refine wp_region_noPanic ?_)
    refine wp_region_held_drew (S := fun wx => wx.heap[w.heap.size + 2]? = some (obObj 0 x' n' a' l' s') ∧ wx.heap[w.heap.size + 3]? = some (obObj 0 x' n' a' l' s')) (by kernel_rfl) SX.out (fun _ => ?_)
    generalize w4.drew = w5 at SX H5 CB ⊢
    refine wpAnyH_take (i := 0) (v := obV 0 x' n' a' l' s') rfl (by kernel_rfl) (by kernel_rfl) (by kernel_rfl) (fun _ _ _ h => h) (Or.inl ⟨by rfl, fun wx hS => ?_⟩) SX.out ?_
    · have ⟨⟨u0, u1, u2, u3, u4, u5⟩, _⟩ := cells6 hS.1; have ⟨⟨v0, v1, v2, v3, v4, v5⟩, _⟩ := cells6 hS.2; go_simp
    try simp only [Act.put, List.getElem_toArray, List.getElem_cons_succ, List.getElem_cons_zero, List.setIfInBounds_toArray, List.set_cons_zero, List.set_cons_succ]
    refine wpAnyH_take (i := 1) (v := obV 0 x' n' a' l' s') rfl (by kernel_rfl) (by kernel_rfl) (by kernel_rfl) (fun _ _ _ h => h) (Or.inl ⟨by rfl, fun wx hS => ?_⟩) SX.out ?_
    · have ⟨⟨u0, u1, u2, u3, u4, u5⟩, _⟩ := cells6 hS.1; have ⟨⟨v0, v1, v2, v3, v4, v5⟩, _⟩ := cells6 hS.2; go_simp
    try simp only [Act.put, List.getElem_toArray, List.getElem_cons_succ, List.getElem_cons_zero, List.setIfInBounds_toArray, List.set_cons_zero, List.set_cons_succ]
    refine wpAnyH_take (i := 2) (v := obV 0 x' n' a' l' s') rfl (by kernel_rfl) (by kernel_rfl) (by kernel_rfl) (fun _ _ _ h => h) (Or.inl ⟨by rfl, fun wx hS => ?_⟩) SX.out ?_
    · have ⟨⟨u0, u1, u2, u3, u4, u5⟩, _⟩ := cells6 hS.1; have ⟨⟨v0, v1, v2, v3, v4, v5⟩, _⟩ := cells6 hS.2; go_simp
    try simp only [Act.put, List.getElem_toArray, List.getElem_cons_succ, List.getElem_cons_zero, List.setIfInBounds_toArray, List.set_cons_zero, List.set_cons_succ]
    refine wpAnyH_take (i := 3) (v := .bool true) rfl (by kernel_rfl) (by kernel_rfl) (by kernel_rfl) (fun _ _ _ h => h) (Or.inl ⟨by rfl, fun wx hS => ?_⟩) SX.out ?_
    · go_simp
    try simp only [Act.put, List.getElem_toArray, List.getElem_cons_succ, List.getElem_cons_zero, List.setIfInBounds_toArray, List.set_cons_zero, List.set_cons_succ]
    refine wpAnyH_take (i := 4) (v := .bool true) rfl (by kernel_rfl) (by kernel_rfl) (by kernel_rfl) (fun _ _ _ h => h) (Or.inl ⟨by rfl, fun wx hS => ?_⟩) SX.out ?_
    · go_simp
    try simp only [Act.put, List.getElem_toArray, List.getElem_cons_succ, List.getElem_cons_zero, List.setIfInBounds_toArray, List.set_cons_zero, List.set_cons_succ]
    refine wpAnyH_take (i := 5) (v := .int .i64 E) rfl (by kernel_rfl) (by kernel_rfl) (by kernel_rfl) (fun _ _ _ h => h) (Or.inl ⟨by rfl, fun wx hS => ?_⟩) SX.out ?_
    · go_simp
    try simp only [Act.put, List.getElem_toArray, List.getElem_cons_succ, List.getElem_cons_zero, List.setIfInBounds_toArray, List.set_cons_zero, List.set_cons_succ]
    refine wpAnyH_take (i := 6) (v := .int .i64 E) rfl (by kernel_rfl) (by kernel_rfl) (by kernel_rfl) (fun _ _ _ h => h) (Or.inl ⟨by rfl, fun wx hS => ?_⟩) SX.out ?_
    · go_simp
    try simp only [Act.put, List.getElem_toArray, List.getElem_cons_succ, List.getElem_cons_zero, List.setIfInBounds_toArray, List.set_cons_zero, List.set_cons_succ]
    refine wpAnyH_take (i := 7) (v := .bool true) rfl (by kernel_rfl) (by kernel_rfl) (by kernel_rfl) (fun _ _ _ h => h) (Or.inl ⟨by rfl, fun wx hS => ?_⟩) SX.out ?_
    · go_simp
    try simp only [Act.put, List.getElem_toArray, List.getElem_cons_succ, List.getElem_cons_zero, List.setIfInBounds_toArray, List.set_cons_zero, List.set_cons_succ]
    refine wpAnyH_take (i := 8) (v := .bool true) rfl (by kernel_rfl) (by kernel_rfl) (by kernel_rfl) (fun _ _ _ h => h) (Or.inl ⟨by rfl, fun wx hS => ?_⟩) SX.out ?_
    · go_simp
    try simp only [Act.put, List.getElem_toArray, List.getElem_cons_succ, List.getElem_cons_zero, List.setIfInBounds_toArray, List.set_cons_zero, List.set_cons_succ]
    refine wpAnyH_take (i := 9) (v := .bool true) rfl (by kernel_rfl) (by kernel_rfl) (by kernel_rfl) (fun _ _ _ h => h) (Or.inl ⟨by rfl, fun wx hS => ?_⟩) SX.out ?_
    · go_simp
    try simp only [Act.put, List.getElem_toArray, List.getElem_cons_succ, List.getElem_cons_zero, List.setIfInBounds_toArray, List.set_cons_zero, List.set_cons_succ]
    refine wpAnyH_take (i := 10) (v := .int .i64 E) rfl (by kernel_rfl) (by kernel_rfl) (by kernel_rfl) (fun _ _ _ h => h) (Or.inl ⟨by rfl, fun wx hS => ?_⟩) SX.out ?_
    · go_simp
    try simp only [Act.put, List.getElem_toArray, List.getElem_cons_succ, List.getElem_cons_zero, List.setIfInBounds_toArray, List.set_cons_zero, List.set_cons_succ]
    refine wpAnyH_take (i := 11) (v := .bool false) rfl (by kernel_rfl) (by kernel_rfl) (by kernel_rfl) (fun _ _ _ h => h) (Or.inl ⟨by rfl, fun wx hS => ?_⟩) SX.out ?_
    · go_simp
    try simp only [Act.put, List.getElem_toArray, List.getElem_cons_succ, List.getElem_cons_zero, List.setIfInBounds_toArray, List.set_cons_zero, List.set_cons_succ]
    refine wpAnyH_take (i := 12) (v := .pointer (some ⟨w.heap.size + 1 + 1 + 1, 0, none⟩)) rfl (by kernel_rfl) (by kernel_rfl) (by kernel_rfl) (fun _ _ _ h => h) (Or.inl ⟨by rfl, fun wx hS => ?_⟩) SX.out ?_
    · go_simp
    try simp only [Act.put, List.getElem_toArray, List.getElem_cons_succ, List.getElem_cons_zero, List.setIfInBounds_toArray, List.set_cons_zero, List.set_cons_succ]
    refine wpAnyH_take (i := 13) (v := .int .i64 0) rfl (by kernel_rfl) (by kernel_rfl) (by kernel_rfl) (fun _ _ _ h => h) (Or.inl ⟨by rfl, fun wx hS => ?_⟩) SX.out ?_
    · have ⟨⟨u0, u1, u2, u3, u4, u5⟩, _⟩ := cells6 hS.1; have ⟨⟨v0, v1, v2, v3, v4, v5⟩, _⟩ := cells6 hS.2; go_simp
    try simp only [Act.put, List.getElem_toArray, List.getElem_cons_succ, List.getElem_cons_zero, List.setIfInBounds_toArray, List.set_cons_zero, List.set_cons_succ]
    refine wpAnyH_take (i := 14) (v := .bool false) rfl (by kernel_rfl) (by kernel_rfl) (by kernel_rfl) (fun _ _ _ h => h) (Or.inl ⟨by rfl, fun wx hS => ?_⟩) SX.out ?_
    · go_simp
    try simp only [Act.put, List.getElem_toArray, List.getElem_cons_succ, List.getElem_cons_zero, List.setIfInBounds_toArray, List.set_cons_zero, List.set_cons_succ]
    refine wpAnyH_take (i := 15) (v := .bool true) rfl (by kernel_rfl) (by kernel_rfl) (by kernel_rfl) (fun _ _ _ h => h) (Or.inl ⟨by rfl, fun wx hS => ?_⟩) SX.out ?_
    · go_simp
    try simp only [Act.put, List.getElem_toArray, List.getElem_cons_succ, List.getElem_cons_zero, List.setIfInBounds_toArray, List.set_cons_zero, List.set_cons_succ]
    refine wpAnyH_take (i := 16) (v := .bool true) rfl (by kernel_rfl) (by kernel_rfl) (by kernel_rfl) (fun _ _ _ h => h) (Or.inl ⟨by rfl, fun wx hS => ?_⟩) SX.out ?_
    · go_simp
    try simp only [Act.put, List.getElem_toArray, List.getElem_cons_succ, List.getElem_cons_zero, List.setIfInBounds_toArray, List.set_cons_zero, List.set_cons_succ]
    obtain ⟨⟨r0, r1, r2, r3, r4, r5⟩, f0, f1, f2, f3, f4, f5⟩ := cells6 CB.out
    refine wpAnyH_ready (rs := [17]) (by kernel_rfl) (by simp) ?_
    refine AllReadyH.cons rfl (fun K hK => ?_) AllReadyH.nil
    go_simp
    obtain ⟨w6, e6, b6, o6⟩ := set6_box CB.out (.int .i64 0) (.bool x') (.int .i64 n') (.int .i64 a') (.int .i64 l') (.string s')
    rw [e6]
    have H6 := Lib.hid (H5.out.set LT.out (C := w.heap.size + 1) (by omega) o6)
    have SY : Hid (w6.heap[w.heap.size + 2]? = some (obObj 0 x' n' a' l' s') ∧ w6.heap[w.heap.size + 3]? = some (obObj 0 x' n' a' l' s')) := Lib.hid ⟨(o6.block _ (by omega)).trans SX.out.1, (o6.block _ (by omega)).trans SX.out.2⟩
    have B6 := Lib.hid b6
    clear e6 o6 b6 r0 r1 r2 r3 r4 r5 f0 f1 f2 f3 f4 f5 SX CB
    refine hK.out _ _ SY.out (fun _ => ?_)
    clear hK
    try simp only [Act.put, List.getElem_toArray, List.getElem_cons_succ, List.getElem_cons_zero, List.setIfInBounds_toArray, List.set_cons_zero, List.set_cons_succ]
    refine wpAnyH_take (i := 18) (v := .bool true) rfl (by kernel_rfl) (by kernel_rfl) (by kernel_rfl) (fun _ _ _ h => h) (Or.inl ⟨by rfl, fun wx hS => ?_⟩) SY.out ?_
    · go_simp
    try simp only [Act.put, List.getElem_toArray, List.getElem_cons_succ, List.getElem_cons_zero, List.setIfInBounds_toArray, List.set_cons_zero, List.set_cons_succ]
    refine wpAnyH_done (by kernel_rfl) ?_ _
    (try refine no_panic ?_)
    go_wp2
    (try simp only [Exit.inBlock, Exit.then])
    exact bodyPost_ret (ret_cell rfl _ _ _ _ _ _ _ _ rfl rfl B6.out Try.underlying24 rfl (by kernel_rfl)) rfl ⟨rfl, H6.out.play.sub fun b q => .inl q, H6.out.keep⟩
set_option maxHeartbeats 2000000 in
set_option maxRecDepth 100000 in
theorem make_dic {out : Nat → Prop} {hb gb rb fb : Nat} {P P1 Q B' : List Cel} {w : World} (h : Play out hb gb rb fb P Q P B' w) (vl : Value) (A B N M : Int) (S : ByteArray) (k : Int) (x : Bool) (n a l : Int) (s : ByteArray) (k' : Int) (x' : Bool) (n' a' l' : Int) (s' : ByteArray) (E : Int)
    (C1 : Hid (∀ out w, Play out hb gb rb fb P Q P B' w → Calls Try.prog 69 #[ptr hb, .int .i64 N] w fun e w' => e = .returned (.tuple #[obV k' x' n' a' l' s', .int .i64 E]) ∧ Play out hb gb rb fb P1 Q P B' w' ∧ Kept out w w'))
    (C2 : Hid (∀ out w, Play out hb gb rb fb P1 Q P B' w → Calls Try.prog 28 #[ptr rb, .int .i64 N] w fun e w' => e = .returned (.tuple #[obV k' x' n' a' l' s', .int .i64 E]) ∧ Play out hb gb rb fb P1 Q P1 B' w' ∧ Kept out w w'))
    (hE : (E = 0 ∧ ¬ k' = 0) ∨ (k' = 0 ∧ ¬ E = 0)) :
    Calls Try.prog 13 #[ptr hb, ptr rb, vl, stV 2 A B N M S k x n a l s] w fun e w' => e = .returned (.tuple #[obV k' x' n' a' l' s', .bool true]) ∧ Play out hb gb rb fb P1 Q P1 B' w' ∧ Kept out w w' := by
  have LT : Hid (∀ b, out b → b < w.heap.size) := Lib.hid fun b q => h.lt q
  go_enter Try.func13, Try.ntmps13
  go_upto_region 2 with fail
  obtain ⟨wb, eb, kb, zb, mb⟩ := make_box w 2 A B N M S k x n a l s
  rw [eb]
  have MB := Lib.hid mb
  have H := Lib.hid (Mk.start h kb zb)
  clear eb kb h zb
  have cst := mb.st
  clear mb
  have c0 : wb.cell? ⟨w.heap.size, 0, none⟩ = some (.int .i64 2) := cellAt cst 0
  have c3 : wb.cell? ⟨w.heap.size, 3, none⟩ = some (.int .i64 N) := cellAt cst 3
  clear cst
  go_wp2_with fail
  refine (C1.out _ _ H.out.play).mono ?_
  rintro e w1 ⟨rfl, h1, k1⟩
  have H1 := Lib.hid (H.out.done h1 k1)
  have m1 := MB.out.kept fun b q1 q2 => k1.block b (.inr ⟨q1, q2⟩)
  have M1 := Lib.hid m1
  have cst := m1.st
  have cb := m1.b1
  clear h1 k1 m1 c0 c3
  obtain ⟨⟨r0, r1, r2, r3, r4, r5⟩, f0, f1, f2, f3, f4, f5⟩ := cells6 cb
  go_upto_region 15 with fail
  obtain ⟨w2, e2, b2, o2⟩ := set6_box cb (.int .i64 k') (.bool x') (.int .i64 n') (.int .i64 a') (.int .i64 l') (.string s')
  rw [e2]
  have H2 := Lib.hid (H1.out.set LT.out (C := w.heap.size + 2) (by omega) o2)
  have m2 := M1.out.set1 ⟨k', x', n', a', l', s'⟩ o2 b2
  have M2 := Lib.hid m2
  clear e2 b2 o2 cb cst r0 r1 r2 r3 r4 r5 f0 f1 f2 f3 f4 f5
  have cst := m2.st
  clear m2
  have c3 : w2.cell? ⟨w.heap.size, 3, none⟩ = some (.int .i64 N) := cellAt cst 3
  clear cst
  go_wp2_with fail
  refine (C2.out _ _ H2.out.play).mono ?_
  rintro e w3 ⟨rfl, h3, k3⟩
  have H3 := Lib.hid (H2.out.done h3 k3)
  have m3 := M2.out.kept fun b q1 q2 => k3.block b (.inr ⟨q1, q2⟩)
  have M3 := Lib.hid m3
  have cb := m3.b2
  clear h3 k3 m3 c3
  obtain ⟨⟨r0, r1, r2, r3, r4, r5⟩, f0, f1, f2, f3, f4, f5⟩ := cells6 cb
  go_upto_region 16 with fail
  obtain ⟨w4, e4, b4, o4⟩ := set6_box cb (.int .i64 k') (.bool x') (.int .i64 n') (.int .i64 a') (.int .i64 l') (.string s')
  rw [e4]
  have H4 := Lib.hid (H3.out.set LT.out (C := w.heap.size + 3) (by omega) o4)
  have m4 := M3.out.set2 ⟨k', x', n', a', l', s'⟩ o4 b4
  have M4 := Lib.hid m4
  clear e4 b4 o4 cb r0 r1 r2 r3 r4 r5 f0 f1 f2 f3 f4 f5
  obtain ⟨⟨u0, u1, u2, u3, u4, u5⟩, -, -, -, -, -, -⟩ := cells6 m4.b1
  obtain ⟨⟨v0, v1, v2, v3, v4, v5⟩, -, -, -, -, -, -⟩ := cells6 m4.b2
  clear m4
  have qe : ∀ w, (binOp .eql 24 (.agg #[.int .i64 k', .bool x', .int .i64 n', .int .i64 a', .int .i64 l', .string s']) (.agg #[.int .i64 k', .bool x', .int .i64 n', .int .i64 a', .int .i64 l', .string s'])).run Try.prog w = .ok (.bool true) w := fun w => by rw [eqO]; simp
  rcases hE with ⟨rfl, hk⟩ | ⟨rfl, hk⟩
  · have hk1 := bne_iff_ne.2 hk
    have hk2 := beq_eq_false_iff_ne.2 hk
    clear hk u0 u1 u2 u3 u4 u5 v0 v1 v2 v3 v4 v5
    have SX : Hid (w4.drew.heap[w.heap.size + 2]? = some (obObj k' x' n' a' l' s') ∧ w4.drew.heap[w.heap.size + 3]? = some (obObj k' x' n' a' l' s')) := Lib.hid ⟨M4.out.b1, M4.out.b2⟩
    have H5 := Lib.hid (H4.out.done (H4.out.play.below ((Below.refl _ w4).drew)) (H4.out.play.kept ((Below.refl _ w4).drew)))
    have CB : Hid (w4.drew.heap[w.heap.size + 1]? = some emptyOb) := Lib.hid M4.out.rt
    (try refine wp_region_noPanic ?_)
    refine wp_region_held_drew (S := fun wx => wx.heap[w.heap.size + 2]? = some (obObj k' x' n' a' l' s') ∧ wx.heap[w.heap.size + 3]? = some (obObj k' x' n' a' l' s')) (by kernel_rfl) SX.out (fun _ => ?_)
    generalize w4.drew = w5 at SX H5 CB ⊢
    refine wpAnyH_take (i := 0) (v := obV k' x' n' a' l' s') rfl (by kernel_rfl) (by kernel_rfl) (by kernel_rfl) (fun _ _ _ h => h) (Or.inl ⟨by rfl, fun wx hS => ?_⟩) SX.out ?_
    · have ⟨⟨u0, u1, u2, u3, u4, u5⟩, _⟩ := cells6 hS.1; have ⟨⟨v0, v1, v2, v3, v4, v5⟩, _⟩ := cells6 hS.2; go_simp
    try simp only [Act.put, List.getElem_toArray, List.getElem_cons_succ, List.getElem_cons_zero, List.setIfInBounds_toArray, List.set_cons_zero, List.set_cons_succ]
    refine wpAnyH_take (i := 1) (v := obV k' x' n' a' l' s') rfl (by kernel_rfl) (by kernel_rfl) (by kernel_rfl) (fun _ _ _ h => h) (Or.inl ⟨by rfl, fun wx hS => ?_⟩) SX.out ?_
    · have ⟨⟨u0, u1, u2, u3, u4, u5⟩, _⟩ := cells6 hS.1; have ⟨⟨v0, v1, v2, v3, v4, v5⟩, _⟩ := cells6 hS.2; go_simp
    try simp only [Act.put, List.getElem_toArray, List.getElem_cons_succ, List.getElem_cons_zero, List.setIfInBounds_toArray, List.set_cons_zero, List.set_cons_succ]
    refine wpAnyH_take (i := 2) (v := obV k' x' n' a' l' s') rfl (by kernel_rfl) (by kernel_rfl) (by kernel_rfl) (fun _ _ _ h => h) (Or.inl ⟨by rfl, fun wx hS => ?_⟩) SX.out ?_
    · have ⟨⟨u0, u1, u2, u3, u4, u5⟩, _⟩ := cells6 hS.1; have ⟨⟨v0, v1, v2, v3, v4, v5⟩, _⟩ := cells6 hS.2; go_simp
    try simp only [Act.put, List.getElem_toArray, List.getElem_cons_succ, List.getElem_cons_zero, List.setIfInBounds_toArray, List.set_cons_zero, List.set_cons_succ]
    refine wpAnyH_take (i := 3) (v := .bool true) rfl (by kernel_rfl) (by kernel_rfl) (by kernel_rfl) (fun _ _ _ h => h) (Or.inl ⟨by rfl, fun wx hS => ?_⟩) SX.out ?_
    · go_simp
    try simp only [Act.put, List.getElem_toArray, List.getElem_cons_succ, List.getElem_cons_zero, List.setIfInBounds_toArray, List.set_cons_zero, List.set_cons_succ]
    refine wpAnyH_take (i := 4) (v := .bool true) rfl (by kernel_rfl) (by kernel_rfl) (by kernel_rfl) (fun _ _ _ h => h) (Or.inl ⟨by rfl, fun wx hS => ?_⟩) SX.out ?_
    · go_simp
    try simp only [Act.put, List.getElem_toArray, List.getElem_cons_succ, List.getElem_cons_zero, List.setIfInBounds_toArray, List.set_cons_zero, List.set_cons_succ]
    refine wpAnyH_take (i := 5) (v := .int .i64 0) rfl (by kernel_rfl) (by kernel_rfl) (by kernel_rfl) (fun _ _ _ h => h) (Or.inl ⟨by rfl, fun wx hS => ?_⟩) SX.out ?_
    · go_simp
    try simp only [Act.put, List.getElem_toArray, List.getElem_cons_succ, List.getElem_cons_zero, List.setIfInBounds_toArray, List.set_cons_zero, List.set_cons_succ]
    refine wpAnyH_take (i := 6) (v := .int .i64 0) rfl (by kernel_rfl) (by kernel_rfl) (by kernel_rfl) (fun _ _ _ h => h) (Or.inl ⟨by rfl, fun wx hS => ?_⟩) SX.out ?_
    · go_simp
    try simp only [Act.put, List.getElem_toArray, List.getElem_cons_succ, List.getElem_cons_zero, List.setIfInBounds_toArray, List.set_cons_zero, List.set_cons_succ]
    refine wpAnyH_take (i := 7) (v := .bool true) rfl (by kernel_rfl) (by kernel_rfl) (by kernel_rfl) (fun _ _ _ h => h) (Or.inl ⟨by rfl, fun wx hS => ?_⟩) SX.out ?_
    · go_simp
    try simp only [Act.put, List.getElem_toArray, List.getElem_cons_succ, List.getElem_cons_zero, List.setIfInBounds_toArray, List.set_cons_zero, List.set_cons_succ]
    refine wpAnyH_take (i := 8) (v := .bool true) rfl (by kernel_rfl) (by kernel_rfl) (by kernel_rfl) (fun _ _ _ h => h) (Or.inl ⟨by rfl, fun wx hS => ?_⟩) SX.out ?_
    · go_simp
    try simp only [Act.put, List.getElem_toArray, List.getElem_cons_succ, List.getElem_cons_zero, List.setIfInBounds_toArray, List.set_cons_zero, List.set_cons_succ]
    refine wpAnyH_take (i := 9) (v := .bool true) rfl (by kernel_rfl) (by kernel_rfl) (by kernel_rfl) (fun _ _ _ h => h) (Or.inl ⟨by rfl, fun wx hS => ?_⟩) SX.out ?_
    · go_simp
    try simp only [Act.put, List.getElem_toArray, List.getElem_cons_succ, List.getElem_cons_zero, List.setIfInBounds_toArray, List.set_cons_zero, List.set_cons_succ]
    refine wpAnyH_take (i := 10) (v := .int .i64 0) rfl (by kernel_rfl) (by kernel_rfl) (by kernel_rfl) (fun _ _ _ h => h) (Or.inl ⟨by rfl, fun wx hS => ?_⟩) SX.out ?_
    · go_simp
    try simp only [Act.put, List.getElem_toArray, List.getElem_cons_succ, List.getElem_cons_zero, List.setIfInBounds_toArray, List.set_cons_zero, List.set_cons_succ]
    refine wpAnyH_take (i := 11) (v := .bool true) rfl (by kernel_rfl) (by kernel_rfl) (by kernel_rfl) (fun _ _ _ h => h) (Or.inl ⟨by rfl, fun wx hS => ?_⟩) SX.out ?_
    · go_simp
    try simp only [Act.put, List.getElem_toArray, List.getElem_cons_succ, List.getElem_cons_zero, List.setIfInBounds_toArray, List.set_cons_zero, List.set_cons_succ]
    refine wpAnyH_take (i := 12) (v := .pointer (some ⟨w.heap.size + 1 + 1 + 1, 0, none⟩)) rfl (by kernel_rfl) (by kernel_rfl) (by kernel_rfl) (fun _ _ _ h => h) (Or.inl ⟨by rfl, fun wx hS => ?_⟩) SX.out ?_
    · go_simp
    try simp only [Act.put, List.getElem_toArray, List.getElem_cons_succ, List.getElem_cons_zero, List.setIfInBounds_toArray, List.set_cons_zero, List.set_cons_succ]
    refine wpAnyH_take (i := 13) (v := .int .i64 k') rfl (by kernel_rfl) (by kernel_rfl) (by kernel_rfl) (fun _ _ _ h => h) (Or.inl ⟨by rfl, fun wx hS => ?_⟩) SX.out ?_
    · have ⟨⟨u0, u1, u2, u3, u4, u5⟩, _⟩ := cells6 hS.1; have ⟨⟨v0, v1, v2, v3, v4, v5⟩, _⟩ := cells6 hS.2; go_simp
    try simp only [Act.put, List.getElem_toArray, List.getElem_cons_succ, List.getElem_cons_zero, List.setIfInBounds_toArray, List.set_cons_zero, List.set_cons_succ]
    refine wpAnyH_take (i := 14) (v := .bool true) rfl (by kernel_rfl) (by kernel_rfl) (by kernel_rfl) (fun _ _ _ h => h) (Or.inl ⟨by rfl, fun wx hS => ?_⟩) SX.out ?_
    · go_simp
    try simp only [Act.put, List.getElem_toArray, List.getElem_cons_succ, List.getElem_cons_zero, List.setIfInBounds_toArray, List.set_cons_zero, List.set_cons_succ]
    refine wpAnyH_take (i := 15) (v := .bool true) rfl (by kernel_rfl) (by kernel_rfl) (by kernel_rfl) (fun _ _ _ h => h) (Or.inl ⟨by rfl, fun wx hS => ?_⟩) SX.out ?_
    · go_simp
    try simp only [Act.put, List.getElem_toArray, List.getElem_cons_succ, List.getElem_cons_zero, List.setIfInBounds_toArray, List.set_cons_zero, List.set_cons_succ]
    refine wpAnyH_take (i := 16) (v := .bool true) rfl (by kernel_rfl) (by kernel_rfl) (by kernel_rfl) (fun _ _ _ h => h) (Or.inl ⟨by rfl, fun wx hS => ?_⟩) SX.out ?_
    · go_simp
    try simp only [Act.put, List.getElem_toArray, List.getElem_cons_succ, List.getElem_cons_zero, List.setIfInBounds_toArray, List.set_cons_zero, List.set_cons_succ]
    obtain ⟨⟨r0, r1, r2, r3, r4, r5⟩, f0, f1, f2, f3, f4, f5⟩ := cells6 CB.out
    refine wpAnyH_ready (rs := [17]) (by kernel_rfl) (by simp) ?_
    refine AllReadyH.cons rfl (fun K hK => ?_) AllReadyH.nil
    go_simp
    obtain ⟨w6, e6, b6, o6⟩ := set6_box CB.out (.int .i64 k') (.bool x') (.int .i64 n') (.int .i64 a') (.int .i64 l') (.string s')
    rw [e6]
    have H6 := Lib.hid (H5.out.set LT.out (C := w.heap.size + 1) (by omega) o6)
    have SY : Hid (w6.heap[w.heap.size + 2]? = some (obObj k' x' n' a' l' s') ∧ w6.heap[w.heap.size + 3]? = some (obObj k' x' n' a' l' s')) := Lib.hid ⟨(o6.block _ (by omega)).trans SX.out.1, (o6.block _ (by omega)).trans SX.out.2⟩
    have B6 := Lib.hid b6
    clear e6 o6 b6 r0 r1 r2 r3 r4 r5 f0 f1 f2 f3 f4 f5 SX CB
    refine hK.out _ _ SY.out (fun _ => ?_)
    clear hK
    try simp only [Act.put, List.getElem_toArray, List.getElem_cons_succ, List.getElem_cons_zero, List.setIfInBounds_toArray, List.set_cons_zero, List.set_cons_succ]
    refine wpAnyH_take (i := 18) (v := .bool true) rfl (by kernel_rfl) (by kernel_rfl) (by kernel_rfl) (fun _ _ _ h => h) (Or.inl ⟨by rfl, fun wx hS => ?_⟩) SY.out ?_
    · go_simp
    try simp only [Act.put, List.getElem_toArray, List.getElem_cons_succ, List.getElem_cons_zero, List.setIfInBounds_toArray, List.set_cons_zero, List.set_cons_succ]
    refine wpAnyH_done (by kernel_rfl) ?_ _
    (try refine no_panic ?_)
    go_wp2
    (try simp only [Exit.inBlock, Exit.then])
    exact bodyPost_ret (ret_cell rfl _ _ _ _ _ _ _ _ rfl rfl B6.out Try.underlying24 rfl (by kernel_rfl)) rfl ⟨rfl, H6.out.play.sub fun b q => .inl q, H6.out.keep⟩
  · have hk1 := bne_iff_ne.2 hk
    have hk2 := beq_eq_false_iff_ne.2 hk
    clear hk u0 u1 u2 u3 u4 u5 v0 v1 v2 v3 v4 v5
    have SX : Hid (w4.drew.heap[w.heap.size + 2]? = some (obObj 0 x' n' a' l' s') ∧ w4.drew.heap[w.heap.size + 3]? = some (obObj 0 x' n' a' l' s')) := Lib.hid ⟨M4.out.b1, M4.out.b2⟩
    have H5 := Lib.hid (H4.out.done (H4.out.play.below ((Below.refl _ w4).drew)) (H4.out.play.kept ((Below.refl _ w4).drew)))
    have CB : Hid (w4.drew.heap[w.heap.size + 1]? = some emptyOb) := Lib.hid M4.out.rt
    (try refine wp_region_noPanic ?_)
    refine wp_region_held_drew (S := fun wx => wx.heap[w.heap.size + 2]? = some (obObj 0 x' n' a' l' s') ∧ wx.heap[w.heap.size + 3]? = some (obObj 0 x' n' a' l' s')) (by kernel_rfl) SX.out (fun _ => ?_)
    generalize w4.drew = w5 at SX H5 CB ⊢
    refine wpAnyH_take (i := 0) (v := obV 0 x' n' a' l' s') rfl (by kernel_rfl) (by kernel_rfl) (by kernel_rfl) (fun _ _ _ h => h) (Or.inl ⟨by rfl, fun wx hS => ?_⟩) SX.out ?_
    · have ⟨⟨u0, u1, u2, u3, u4, u5⟩, _⟩ := cells6 hS.1; have ⟨⟨v0, v1, v2, v3, v4, v5⟩, _⟩ := cells6 hS.2; go_simp
    try simp only [Act.put, List.getElem_toArray, List.getElem_cons_succ, List.getElem_cons_zero, List.setIfInBounds_toArray, List.set_cons_zero, List.set_cons_succ]
    refine wpAnyH_take (i := 1) (v := obV 0 x' n' a' l' s') rfl (by kernel_rfl) (by kernel_rfl) (by kernel_rfl) (fun _ _ _ h => h) (Or.inl ⟨by rfl, fun wx hS => ?_⟩) SX.out ?_
    · have ⟨⟨u0, u1, u2, u3, u4, u5⟩, _⟩ := cells6 hS.1; have ⟨⟨v0, v1, v2, v3, v4, v5⟩, _⟩ := cells6 hS.2; go_simp
    try simp only [Act.put, List.getElem_toArray, List.getElem_cons_succ, List.getElem_cons_zero, List.setIfInBounds_toArray, List.set_cons_zero, List.set_cons_succ]
    refine wpAnyH_take (i := 2) (v := obV 0 x' n' a' l' s') rfl (by kernel_rfl) (by kernel_rfl) (by kernel_rfl) (fun _ _ _ h => h) (Or.inl ⟨by rfl, fun wx hS => ?_⟩) SX.out ?_
    · have ⟨⟨u0, u1, u2, u3, u4, u5⟩, _⟩ := cells6 hS.1; have ⟨⟨v0, v1, v2, v3, v4, v5⟩, _⟩ := cells6 hS.2; go_simp
    try simp only [Act.put, List.getElem_toArray, List.getElem_cons_succ, List.getElem_cons_zero, List.setIfInBounds_toArray, List.set_cons_zero, List.set_cons_succ]
    refine wpAnyH_take (i := 3) (v := .bool true) rfl (by kernel_rfl) (by kernel_rfl) (by kernel_rfl) (fun _ _ _ h => h) (Or.inl ⟨by rfl, fun wx hS => ?_⟩) SX.out ?_
    · go_simp
    try simp only [Act.put, List.getElem_toArray, List.getElem_cons_succ, List.getElem_cons_zero, List.setIfInBounds_toArray, List.set_cons_zero, List.set_cons_succ]
    refine wpAnyH_take (i := 4) (v := .bool true) rfl (by kernel_rfl) (by kernel_rfl) (by kernel_rfl) (fun _ _ _ h => h) (Or.inl ⟨by rfl, fun wx hS => ?_⟩) SX.out ?_
    · go_simp
    try simp only [Act.put, List.getElem_toArray, List.getElem_cons_succ, List.getElem_cons_zero, List.setIfInBounds_toArray, List.set_cons_zero, List.set_cons_succ]
    refine wpAnyH_take (i := 5) (v := .int .i64 E) rfl (by kernel_rfl) (by kernel_rfl) (by kernel_rfl) (fun _ _ _ h => h) (Or.inl ⟨by rfl, fun wx hS => ?_⟩) SX.out ?_
    · go_simp
    try simp only [Act.put, List.getElem_toArray, List.getElem_cons_succ, List.getElem_cons_zero, List.setIfInBounds_toArray, List.set_cons_zero, List.set_cons_succ]
    refine wpAnyH_take (i := 6) (v := .int .i64 E) rfl (by kernel_rfl) (by kernel_rfl) (by kernel_rfl) (fun _ _ _ h => h) (Or.inl ⟨by rfl, fun wx hS => ?_⟩) SX.out ?_
    · go_simp
    try simp only [Act.put, List.getElem_toArray, List.getElem_cons_succ, List.getElem_cons_zero, List.setIfInBounds_toArray, List.set_cons_zero, List.set_cons_succ]
    refine wpAnyH_take (i := 7) (v := .bool true) rfl (by kernel_rfl) (by kernel_rfl) (by kernel_rfl) (fun _ _ _ h => h) (Or.inl ⟨by rfl, fun wx hS => ?_⟩) SX.out ?_
    · go_simp
    try simp only [Act.put, List.getElem_toArray, List.getElem_cons_succ, List.getElem_cons_zero, List.setIfInBounds_toArray, List.set_cons_zero, List.set_cons_succ]
    refine wpAnyH_take (i := 8) (v := .bool true) rfl (by kernel_rfl) (by kernel_rfl) (by kernel_rfl) (fun _ _ _ h => h) (Or.inl ⟨by rfl, fun wx hS => ?_⟩) SX.out ?_
    · go_simp
    try simp only [Act.put, List.getElem_toArray, List.getElem_cons_succ, List.getElem_cons_zero, List.setIfInBounds_toArray, List.set_cons_zero, List.set_cons_succ]
    refine wpAnyH_take (i := 9) (v := .bool true) rfl (by kernel_rfl) (by kernel_rfl) (by kernel_rfl) (fun _ _ _ h => h) (Or.inl ⟨by rfl, fun wx hS => ?_⟩) SX.out ?_
    · go_simp
    try simp only [Act.put, List.getElem_toArray, List.getElem_cons_succ, List.getElem_cons_zero, List.setIfInBounds_toArray, List.set_cons_zero, List.set_cons_succ]
    refine wpAnyH_take (i := 10) (v := .int .i64 E) rfl (by kernel_rfl) (by kernel_rfl) (by kernel_rfl) (fun _ _ _ h => h) (Or.inl ⟨by rfl, fun wx hS => ?_⟩) SX.out ?_
    · go_simp
    try simp only [Act.put, List.getElem_toArray, List.getElem_cons_succ, List.getElem_cons_zero, List.setIfInBounds_toArray, List.set_cons_zero, List.set_cons_succ]
    refine wpAnyH_take (i := 11) (v := .bool false) rfl (by kernel_rfl) (by kernel_rfl) (by kernel_rfl) (fun _ _ _ h => h) (Or.inl ⟨by rfl, fun wx hS => ?_⟩) SX.out ?_
    · go_simp
    try simp only [Act.put, List.getElem_toArray, List.getElem_cons_succ, List.getElem_cons_zero, List.setIfInBounds_toArray, List.set_cons_zero, List.set_cons_succ]
    refine wpAnyH_take (i := 12) (v := .pointer (some ⟨w.heap.size + 1 + 1 + 1, 0, none⟩)) rfl (by kernel_rfl) (by kernel_rfl) (by kernel_rfl) (fun _ _ _ h => h) (Or.inl ⟨by rfl, fun wx hS => ?_⟩) SX.out ?_
    · go_simp
    try simp only [Act.put, List.getElem_toArray, List.getElem_cons_succ, List.getElem_cons_zero, List.setIfInBounds_toArray, List.set_cons_zero, List.set_cons_succ]
    refine wpAnyH_take (i := 13) (v := .int .i64 0) rfl (by kernel_rfl) (by kernel_rfl) (by kernel_rfl) (fun _ _ _ h => h) (Or.inl ⟨by rfl, fun wx hS => ?_⟩) SX.out ?_
    · have ⟨⟨u0, u1, u2, u3, u4, u5⟩, _⟩ := cells6 hS.1; have ⟨⟨v0, v1, v2, v3, v4, v5⟩, _⟩ := cells6 hS.2; go_simp
    try simp only [Act.put, List.getElem_toArray, List.getElem_cons_succ, List.getElem_cons_zero, List.setIfInBounds_toArray, List.set_cons_zero, List.set_cons_succ]
    refine wpAnyH_take (i := 14) (v := .bool false) rfl (by kernel_rfl) (by kernel_rfl) (by kernel_rfl) (fun _ _ _ h => h) (Or.inl ⟨by rfl, fun wx hS => ?_⟩) SX.out ?_
    · go_simp
    try simp only [Act.put, List.getElem_toArray, List.getElem_cons_succ, List.getElem_cons_zero, List.setIfInBounds_toArray, List.set_cons_zero, List.set_cons_succ]
    refine wpAnyH_take (i := 15) (v := .bool true) rfl (by kernel_rfl) (by kernel_rfl) (by kernel_rfl) (fun _ _ _ h => h) (Or.inl ⟨by rfl, fun wx hS => ?_⟩) SX.out ?_
    · go_simp
    try simp only [Act.put, List.getElem_toArray, List.getElem_cons_succ, List.getElem_cons_zero, List.setIfInBounds_toArray, List.set_cons_zero, List.set_cons_succ]
    refine wpAnyH_take (i := 16) (v := .bool true) rfl (by kernel_rfl) (by kernel_rfl) (by kernel_rfl) (fun _ _ _ h => h) (Or.inl ⟨by rfl, fun wx hS => ?_⟩) SX.out ?_
    · go_simp
    try simp only [Act.put, List.getElem_toArray, List.getElem_cons_succ, List.getElem_cons_zero, List.setIfInBounds_toArray, List.set_cons_zero, List.set_cons_succ]
    obtain ⟨⟨r0, r1, r2, r3, r4, r5⟩, f0, f1, f2, f3, f4, f5⟩ := cells6 CB.out
    refine wpAnyH_ready (rs := [17]) (by kernel_rfl) (by simp) ?_
    refine AllReadyH.cons rfl (fun K hK => ?_) AllReadyH.nil
    go_simp
    obtain ⟨w6, e6, b6, o6⟩ := set6_box CB.out (.int .i64 0) (.bool x') (.int .i64 n') (.int .i64 a') (.int .i64 l') (.string s')
    rw [e6]
    have H6 := Lib.hid (H5.out.set LT.out (C := w.heap.size + 1) (by omega) o6)
    have SY : Hid (w6.heap[w.heap.size + 2]? = some (obObj 0 x' n' a' l' s') ∧ w6.heap[w.heap.size + 3]? = some (obObj 0 x' n' a' l' s')) := Lib.hid ⟨(o6.block _ (by omega)).trans SX.out.1, (o6.block _ (by omega)).trans SX.out.2⟩
    have B6 := Lib.hid b6
    clear e6 o6 b6 r0 r1 r2 r3 r4 r5 f0 f1 f2 f3 f4 f5 SX CB
    refine hK.out _ _ SY.out (fun _ => ?_)
    clear hK
    try simp only [Act.put, List.getElem_toArray, List.getElem_cons_succ, List.getElem_cons_zero, List.setIfInBounds_toArray, List.set_cons_zero, List.set_cons_succ]
    refine wpAnyH_take (i := 18) (v := .bool true) rfl (by kernel_rfl) (by kernel_rfl) (by kernel_rfl) (fun _ _ _ h => h) (Or.inl ⟨by rfl, fun wx hS => ?_⟩) SY.out ?_
    · go_simp
    try simp only [Act.put, List.getElem_toArray, List.getElem_cons_succ, List.getElem_cons_zero, List.setIfInBounds_toArray, List.set_cons_zero, List.set_cons_succ]
    refine wpAnyH_done (by kernel_rfl) ?_ _
    (try refine no_panic ?_)
    go_wp2
    (try simp only [Exit.inBlock, Exit.then])
    exact bodyPost_ret (ret_cell rfl _ _ _ _ _ _ _ _ rfl rfl B6.out Try.underlying24 rfl (by kernel_rfl)) rfl ⟨rfl, H6.out.play.sub fun b q => .inl q, H6.out.keep⟩
end Go.Proofs.Ytmlkmgeddkpgiaa

/- HeapPlays: make1 of tympanlaw11, the part. -/
namespace Go.Proofs.Ytmlkmgeddkpgiaa
open Go.RowKit
set_option linter.unusedVariables false
set_option linter.unusedSimpArgs false
set_option maxHeartbeats 2000000 in
set_option maxRecDepth 100000 in
theorem make_prt {out : Nat → Prop} {hb gb rb fb : Nat} {P Q B' : List Cel} {w : World} (h : Play out hb gb rb fb P Q P B' w) (vl : Value) (W A B N M : Int) (S : ByteArray) (k : Int) (x : Bool) (n a l : Int) (s : ByteArray) (kq : Int) (xq : Bool) (nq aq lq : Int) (sq : ByteArray) (k' : Int) (x' : Bool) (n' a' l' : Int) (s' : ByteArray) (E : Int) (g0 : ¬ W = 0) (g1 : ¬ W = 1) (g2 : ¬ W = 2)
    (C0 : Hid (∀ wx, Below w.heap.size w wx → Calls Try.prog 12 #[vl, .int .i64 A, obV k x n a l s] wx fun e w' => e = .returned (obV kq xq nq aq lq sq) ∧ Below wx.heap.size wx w'))
    (C1 : Hid (∀ out w, Play out hb gb rb fb P Q P B' w → Calls Try.prog 66 #[ptr hb, obV kq xq nq aq lq sq, .int .i64 N, .int .i64 M] w fun e w' => e = .returned (.tuple #[obV k' x' n' a' l' s', .int .i64 E]) ∧ Below w.heap.size w w'))
    (C2 : Hid (∀ out w, Play out hb gb rb fb P Q P B' w → Calls Try.prog 70 #[ptr rb, obV kq xq nq aq lq sq, .int .i64 N, .int .i64 M] w fun e w' => e = .returned (.tuple #[obV k' x' n' a' l' s', .int .i64 E]) ∧ Below w.heap.size w w'))
    (hE : (E = 0 ∧ ¬ k' = 0) ∨ (k' = 0 ∧ ¬ E = 0)) :
    Calls Try.prog 13 #[ptr hb, ptr rb, vl, stV W A B N M S k x n a l s] w fun e w' => e = .returned (.tuple #[obV k' x' n' a' l' s', .bool true]) ∧ Play out hb gb rb fb P Q P B' w' ∧ Kept out w w' := by
  have LT : Hid (∀ b, out b → b < w.heap.size) := Lib.hid fun b q => h.lt q
  go_enter Try.func13, Try.ntmps13
  go_upto_region 2 with fail
  obtain ⟨wb, eb, kb, zb, mb⟩ := make_box w W A B N M S k x n a l s
  rw [eb]
  have MB := Lib.hid mb
  have KB := Lib.hid kb
  have H := Lib.hid (Mk.start h kb zb)
  clear eb kb h zb
  have cst := mb.st
  clear mb
  have c0 : wb.cell? ⟨w.heap.size, 0, none⟩ = some (.int .i64 W) := cellAt cst 0
  have c1 : wb.cell? ⟨w.heap.size, 1, none⟩ = some (.int .i64 A) := cellAt cst 1
  have c6 : wb.cell? ⟨w.heap.size, 6, none⟩ = some (.int .i64 k) := cellAt cst 6
  have c7 : wb.cell? ⟨w.heap.size, 7, none⟩ = some (.bool x) := cellAt cst 7
  have c8 : wb.cell? ⟨w.heap.size, 8, none⟩ = some (.int .i64 n) := cellAt cst 8
  have c9 : wb.cell? ⟨w.heap.size, 9, none⟩ = some (.int .i64 a) := cellAt cst 9
  have c10 : wb.cell? ⟨w.heap.size, 10, none⟩ = some (.int .i64 l) := cellAt cst 10
  have c11 : wb.cell? ⟨w.heap.size, 11, none⟩ = some (.string s) := cellAt cst 11
  clear cst
  go_wp2_with fail
  refine (C0.out _ KB.out).mono ?_
  rintro e wp ⟨rfl, kp⟩
  have HP := Lib.hid (H.out.done (H.out.play.below kp) (H.out.play.kept kp))
  have MP := Lib.hid (MB.out.kept fun b q1 q2 => kp.block b (by have := H.out.size; omega))
  clear kp c0 c1 c6 c7 c8 c9 c10 c11
  go_upto_region 5 with fail
  obtain ⟨wd, ed, kd, zd, od⟩ := ob_box wp kq nq aq lq xq sq
  rw [ed]
  have DG : Hid (w.heap.size + 4 ≤ wp.heap.size) := Lib.hid HP.out.size
  have HD := Lib.hid (HP.out.done (HP.out.play.below kd) (HP.out.play.kept kd))
  have md := MP.out.kept fun b q1 q2 => kd.block b (by have := HP.out.size; omega)
  have MD := Lib.hid md
  have OD := Lib.hid od
  have SD : Hid (wp.heap.size < wd.heap.size) := Lib.hid (by omega)
  have cst := md.st
  clear ed kd zd md
  obtain ⟨d0, d1, d2, d3, d4, d5⟩ := od
  have c3 : wd.cell? ⟨w.heap.size, 3, none⟩ = some (.int .i64 N) := cellAt cst 3
  have c4 : wd.cell? ⟨w.heap.size, 4, none⟩ = some (.int .i64 M) := cellAt cst 4
  clear cst
  go_wp2_with fail
  refine (C1.out _ _ HD.out.play).mono ?_
  rintro e w1 ⟨rfl, k1⟩
  have H1 := Lib.hid (HD.out.done (HD.out.play.below k1) (HD.out.play.kept k1))
  have m1 := MD.out.kept fun b q1 q2 => k1.block b (by have := HD.out.size; omega)
  have M1 := Lib.hid m1
  have O1 := Lib.hid (OD.out.later k1)
  have cb := m1.b1
  clear k1 m1 c3 c4 d0 d1 d2 d3 d4 d5
  obtain ⟨⟨r0, r1, r2, r3, r4, r5⟩, f0, f1, f2, f3, f4, f5⟩ := cells6 cb
  go_upto_region 6 with fail
  obtain ⟨w2, e2, b2, o2⟩ := set6_box cb (.int .i64 k') (.bool x') (.int .i64 n') (.int .i64 a') (.int .i64 l') (.string s')
  rw [e2]
  have H2 := Lib.hid (H1.out.set LT.out (C := w.heap.size + 2) (by omega) o2)
  have m2 := M1.out.set1 ⟨k', x', n', a', l', s'⟩ o2 b2
  have M2 := Lib.hid m2
  obtain ⟨d0, d1, d2, d3, d4, d5⟩ := O1.out.only o2 (by have := DG.out; omega)
  clear e2 b2 o2 cb r0 r1 r2 r3 r4 r5 f0 f1 f2 f3 f4 f5
  have cst := m2.st
  clear m2
  have c3 : w2.cell? ⟨w.heap.size, 3, none⟩ = some (.int .i64 N) := cellAt cst 3
  have c4 : w2.cell? ⟨w.heap.size, 4, none⟩ = some (.int .i64 M) := cellAt cst 4
  clear cst
  go_wp2_with fail
  refine (C2.out _ _ H2.out.play).mono ?_
  rintro e w3 ⟨rfl, k3⟩
  have H3 := Lib.hid (H2.out.done (H2.out.play.below k3) (H2.out.play.kept k3))
  have m3 := M2.out.kept fun b q1 q2 => k3.block b (by have := H2.out.size; omega)
  have M3 := Lib.hid m3
  have cb := m3.b2
  clear k3 m3 c3 c4 d0 d1 d2 d3 d4 d5
  obtain ⟨⟨r0, r1, r2, r3, r4, r5⟩, f0, f1, f2, f3, f4, f5⟩ := cells6 cb
  go_upto_region 16 with fail
  obtain ⟨w4, e4, b4, o4⟩ := set6_box cb (.int .i64 k') (.bool x') (.int .i64 n') (.int .i64 a') (.int .i64 l') (.string s')
  rw [e4]
  have H4 := Lib.hid (H3.out.set LT.out (C := w.heap.size + 3) (by omega) o4)
  have m4 := M3.out.set2 ⟨k', x', n', a', l', s'⟩ o4 b4
  have M4 := Lib.hid m4
  clear e4 b4 o4 cb r0 r1 r2 r3 r4 r5 f0 f1 f2 f3 f4 f5
  obtain ⟨⟨u0, u1, u2, u3, u4, u5⟩, -, -, -, -, -, -⟩ := cells6 m4.b1
  obtain ⟨⟨v0, v1, v2, v3, v4, v5⟩, -, -, -, -, -, -⟩ := cells6 m4.b2
  clear m4
  have qe : ∀ w, (binOp .eql 24 (.agg #[.int .i64 k', .bool x', .int .i64 n', .int .i64 a', .int .i64 l', .string s']) (.agg #[.int .i64 k', .bool x', .int .i64 n', .int .i64 a', .int .i64 l', .string s'])).run Try.prog w = .ok (.bool true) w := fun w => by rw [eqO]; simp
  rcases hE with ⟨rfl, hk⟩ | ⟨rfl, hk⟩
  · have hk1 := bne_iff_ne.2 hk
    have hk2 := beq_eq_false_iff_ne.2 hk
    clear hk u0 u1 u2 u3 u4 u5 v0 v1 v2 v3 v4 v5
    have SX : Hid (w4.drew.heap[w.heap.size + 2]? = some (obObj k' x' n' a' l' s') ∧ w4.drew.heap[w.heap.size + 3]? = some (obObj k' x' n' a' l' s')) := Lib.hid ⟨M4.out.b1, M4.out.b2⟩
    have H5 := Lib.hid (H4.out.done (H4.out.play.below ((Below.refl _ w4).drew)) (H4.out.play.kept ((Below.refl _ w4).drew)))
    have CB : Hid (w4.drew.heap[w.heap.size + 1]? = some emptyOb) := Lib.hid M4.out.rt
    (try refine wp_region_noPanic ?_)
    refine wp_region_held_drew (S := fun wx => wx.heap[w.heap.size + 2]? = some (obObj k' x' n' a' l' s') ∧ wx.heap[w.heap.size + 3]? = some (obObj k' x' n' a' l' s')) (by kernel_rfl) SX.out (fun _ => ?_)
    generalize w4.drew = w5 at SX H5 CB ⊢
    refine wpAnyH_take (i := 0) (v := obV k' x' n' a' l' s') rfl (by kernel_rfl) (by kernel_rfl) (by kernel_rfl) (fun _ _ _ h => h) (Or.inl ⟨by rfl, fun wx hS => ?_⟩) SX.out ?_
    · have ⟨⟨u0, u1, u2, u3, u4, u5⟩, _⟩ := cells6 hS.1; have ⟨⟨v0, v1, v2, v3, v4, v5⟩, _⟩ := cells6 hS.2; go_simp
    try simp only [Act.put, List.getElem_toArray, List.getElem_cons_succ, List.getElem_cons_zero, List.setIfInBounds_toArray, List.set_cons_zero, List.set_cons_succ]
    refine wpAnyH_take (i := 1) (v := obV k' x' n' a' l' s') rfl (by kernel_rfl) (by kernel_rfl) (by kernel_rfl) (fun _ _ _ h => h) (Or.inl ⟨by rfl, fun wx hS => ?_⟩) SX.out ?_
    · have ⟨⟨u0, u1, u2, u3, u4, u5⟩, _⟩ := cells6 hS.1; have ⟨⟨v0, v1, v2, v3, v4, v5⟩, _⟩ := cells6 hS.2; go_simp
    try simp only [Act.put, List.getElem_toArray, List.getElem_cons_succ, List.getElem_cons_zero, List.setIfInBounds_toArray, List.set_cons_zero, List.set_cons_succ]
    refine wpAnyH_take (i := 2) (v := obV k' x' n' a' l' s') rfl (by kernel_rfl) (by kernel_rfl) (by kernel_rfl) (fun _ _ _ h => h) (Or.inl ⟨by rfl, fun wx hS => ?_⟩) SX.out ?_
    · have ⟨⟨u0, u1, u2, u3, u4, u5⟩, _⟩ := cells6 hS.1; have ⟨⟨v0, v1, v2, v3, v4, v5⟩, _⟩ := cells6 hS.2; go_simp
    try simp only [Act.put, List.getElem_toArray, List.getElem_cons_succ, List.getElem_cons_zero, List.setIfInBounds_toArray, List.set_cons_zero, List.set_cons_succ]
    refine wpAnyH_take (i := 3) (v := .bool true) rfl (by kernel_rfl) (by kernel_rfl) (by kernel_rfl) (fun _ _ _ h => h) (Or.inl ⟨by rfl, fun wx hS => ?_⟩) SX.out ?_
    · go_simp
    try simp only [Act.put, List.getElem_toArray, List.getElem_cons_succ, List.getElem_cons_zero, List.setIfInBounds_toArray, List.set_cons_zero, List.set_cons_succ]
    refine wpAnyH_take (i := 4) (v := .bool true) rfl (by kernel_rfl) (by kernel_rfl) (by kernel_rfl) (fun _ _ _ h => h) (Or.inl ⟨by rfl, fun wx hS => ?_⟩) SX.out ?_
    · go_simp
    try simp only [Act.put, List.getElem_toArray, List.getElem_cons_succ, List.getElem_cons_zero, List.setIfInBounds_toArray, List.set_cons_zero, List.set_cons_succ]
    refine wpAnyH_take (i := 5) (v := .int .i64 0) rfl (by kernel_rfl) (by kernel_rfl) (by kernel_rfl) (fun _ _ _ h => h) (Or.inl ⟨by rfl, fun wx hS => ?_⟩) SX.out ?_
    · go_simp
    try simp only [Act.put, List.getElem_toArray, List.getElem_cons_succ, List.getElem_cons_zero, List.setIfInBounds_toArray, List.set_cons_zero, List.set_cons_succ]
    refine wpAnyH_take (i := 6) (v := .int .i64 0) rfl (by kernel_rfl) (by kernel_rfl) (by kernel_rfl) (fun _ _ _ h => h) (Or.inl ⟨by rfl, fun wx hS => ?_⟩) SX.out ?_
    · go_simp
    try simp only [Act.put, List.getElem_toArray, List.getElem_cons_succ, List.getElem_cons_zero, List.setIfInBounds_toArray, List.set_cons_zero, List.set_cons_succ]
    refine wpAnyH_take (i := 7) (v := .bool true) rfl (by kernel_rfl) (by kernel_rfl) (by kernel_rfl) (fun _ _ _ h => h) (Or.inl ⟨by rfl, fun wx hS => ?_⟩) SX.out ?_
    · go_simp
    try simp only [Act.put, List.getElem_toArray, List.getElem_cons_succ, List.getElem_cons_zero, List.setIfInBounds_toArray, List.set_cons_zero, List.set_cons_succ]
    refine wpAnyH_take (i := 8) (v := .bool true) rfl (by kernel_rfl) (by kernel_rfl) (by kernel_rfl) (fun _ _ _ h => h) (Or.inl ⟨by rfl, fun wx hS => ?_⟩) SX.out ?_
    · go_simp
    try simp only [Act.put, List.getElem_toArray, List.getElem_cons_succ, List.getElem_cons_zero, List.setIfInBounds_toArray, List.set_cons_zero, List.set_cons_succ]
    refine wpAnyH_take (i := 9) (v := .bool true) rfl (by kernel_rfl) (by kernel_rfl) (by kernel_rfl) (fun _ _ _ h => h) (Or.inl ⟨by rfl, fun wx hS => ?_⟩) SX.out ?_
    · go_simp
    try simp only [Act.put, List.getElem_toArray, List.getElem_cons_succ, List.getElem_cons_zero, List.setIfInBounds_toArray, List.set_cons_zero, List.set_cons_succ]
    refine wpAnyH_take (i := 10) (v := .int .i64 0) rfl (by kernel_rfl) (by kernel_rfl) (by kernel_rfl) (fun _ _ _ h => h) (Or.inl ⟨by rfl, fun wx hS => ?_⟩) SX.out ?_
    · go_simp
    try simp only [Act.put, List.getElem_toArray, List.getElem_cons_succ, List.getElem_cons_zero, List.setIfInBounds_toArray, List.set_cons_zero, List.set_cons_succ]
    refine wpAnyH_take (i := 11) (v := .bool true) rfl (by kernel_rfl) (by kernel_rfl) (by kernel_rfl) (fun _ _ _ h => h) (Or.inl ⟨by rfl, fun wx hS => ?_⟩) SX.out ?_
    · go_simp
    try simp only [Act.put, List.getElem_toArray, List.getElem_cons_succ, List.getElem_cons_zero, List.setIfInBounds_toArray, List.set_cons_zero, List.set_cons_succ]
    refine wpAnyH_take (i := 12) (v := .pointer (some ⟨w.heap.size + 1 + 1 + 1, 0, none⟩)) rfl (by kernel_rfl) (by kernel_rfl) (by kernel_rfl) (fun _ _ _ h => h) (Or.inl ⟨by rfl, fun wx hS => ?_⟩) SX.out ?_
    · go_simp
    try simp only [Act.put, List.getElem_toArray, List.getElem_cons_succ, List.getElem_cons_zero, List.setIfInBounds_toArray, List.set_cons_zero, List.set_cons_succ]
    refine wpAnyH_take (i := 13) (v := .int .i64 k') rfl (by kernel_rfl) (by kernel_rfl) (by kernel_rfl) (fun _ _ _ h => h) (Or.inl ⟨by rfl, fun wx hS => ?_⟩) SX.out ?_
    · have ⟨⟨u0, u1, u2, u3, u4, u5⟩, _⟩ := cells6 hS.1; have ⟨⟨v0, v1, v2, v3, v4, v5⟩, _⟩ := cells6 hS.2; go_simp
    try simp only [Act.put, List.getElem_toArray, List.getElem_cons_succ, List.getElem_cons_zero, List.setIfInBounds_toArray, List.set_cons_zero, List.set_cons_succ]
    refine wpAnyH_take (i := 14) (v := .bool true) rfl (by kernel_rfl) (by kernel_rfl) (by kernel_rfl) (fun _ _ _ h => h) (Or.inl ⟨by rfl, fun wx hS => ?_⟩) SX.out ?_
    · go_simp
    try simp only [Act.put, List.getElem_toArray, List.getElem_cons_succ, List.getElem_cons_zero, List.setIfInBounds_toArray, List.set_cons_zero, List.set_cons_succ]
    refine wpAnyH_take (i := 15) (v := .bool true) rfl (by kernel_rfl) (by kernel_rfl) (by kernel_rfl) (fun _ _ _ h => h) (Or.inl ⟨by rfl, fun wx hS => ?_⟩) SX.out ?_
    · go_simp
    try simp only [Act.put, List.getElem_toArray, List.getElem_cons_succ, List.getElem_cons_zero, List.setIfInBounds_toArray, List.set_cons_zero, List.set_cons_succ]
    refine wpAnyH_take (i := 16) (v := .bool true) rfl (by kernel_rfl) (by kernel_rfl) (by kernel_rfl) (fun _ _ _ h => h) (Or.inl ⟨by rfl, fun wx hS => ?_⟩) SX.out ?_
    · go_simp
    try simp only [Act.put, List.getElem_toArray, List.getElem_cons_succ, List.getElem_cons_zero, List.setIfInBounds_toArray, List.set_cons_zero, List.set_cons_succ]
    obtain ⟨⟨r0, r1, r2, r3, r4, r5⟩, f0, f1, f2, f3, f4, f5⟩ := cells6 CB.out
    refine wpAnyH_ready (rs := [17]) (by kernel_rfl) (by simp) ?_
    refine AllReadyH.cons rfl (fun K hK => ?_) AllReadyH.nil
    go_simp
    obtain ⟨w6, e6, b6, o6⟩ := set6_box CB.out (.int .i64 k') (.bool x') (.int .i64 n') (.int .i64 a') (.int .i64 l') (.string s')
    rw [e6]
    have H6 := Lib.hid (H5.out.set LT.out (C := w.heap.size + 1) (by omega) o6)
    have SY : Hid (w6.heap[w.heap.size + 2]? = some (obObj k' x' n' a' l' s') ∧ w6.heap[w.heap.size + 3]? = some (obObj k' x' n' a' l' s')) := Lib.hid ⟨(o6.block _ (by omega)).trans SX.out.1, (o6.block _ (by omega)).trans SX.out.2⟩
    have B6 := Lib.hid b6
    clear e6 o6 b6 r0 r1 r2 r3 r4 r5 f0 f1 f2 f3 f4 f5 SX CB
    refine hK.out _ _ SY.out (fun _ => ?_)
    clear hK
    try simp only [Act.put, List.getElem_toArray, List.getElem_cons_succ, List.getElem_cons_zero, List.setIfInBounds_toArray, List.set_cons_zero, List.set_cons_succ]
    refine wpAnyH_take (i := 18) (v := .bool true) rfl (by kernel_rfl) (by kernel_rfl) (by kernel_rfl) (fun _ _ _ h => h) (Or.inl ⟨by rfl, fun wx hS => ?_⟩) SY.out ?_
    · go_simp
    try simp only [Act.put, List.getElem_toArray, List.getElem_cons_succ, List.getElem_cons_zero, List.setIfInBounds_toArray, List.set_cons_zero, List.set_cons_succ]
    refine wpAnyH_done (by kernel_rfl) ?_ _
    (try refine no_panic ?_)
    go_wp2
    (try simp only [Exit.inBlock, Exit.then])
    exact bodyPost_ret (ret_cell rfl _ _ _ _ _ _ _ _ rfl rfl B6.out Try.underlying24 rfl (by kernel_rfl)) rfl ⟨rfl, H6.out.play.sub fun b q => .inl q, H6.out.keep⟩
  · have hk1 := bne_iff_ne.2 hk
    have hk2 := beq_eq_false_iff_ne.2 hk
    clear hk u0 u1 u2 u3 u4 u5 v0 v1 v2 v3 v4 v5
    have SX : Hid (w4.drew.heap[w.heap.size + 2]? = some (obObj 0 x' n' a' l' s') ∧ w4.drew.heap[w.heap.size + 3]? = some (obObj 0 x' n' a' l' s')) := Lib.hid ⟨M4.out.b1, M4.out.b2⟩
    have H5 := Lib.hid (H4.out.done (H4.out.play.below ((Below.refl _ w4).drew)) (H4.out.play.kept ((Below.refl _ w4).drew)))
    have CB : Hid (w4.drew.heap[w.heap.size + 1]? = some emptyOb) := Lib.hid M4.out.rt
    (try refine wp_region_noPanic ?_)
    refine wp_region_held_drew (S := fun wx => wx.heap[w.heap.size + 2]? = some (obObj 0 x' n' a' l' s') ∧ wx.heap[w.heap.size + 3]? = some (obObj 0 x' n' a' l' s')) (by kernel_rfl) SX.out (fun _ => ?_)
    generalize w4.drew = w5 at SX H5 CB ⊢
    refine wpAnyH_take (i := 0) (v := obV 0 x' n' a' l' s') rfl (by kernel_rfl) (by kernel_rfl) (by kernel_rfl) (fun _ _ _ h => h) (Or.inl ⟨by rfl, fun wx hS => ?_⟩) SX.out ?_
    · have ⟨⟨u0, u1, u2, u3, u4, u5⟩, _⟩ := cells6 hS.1; have ⟨⟨v0, v1, v2, v3, v4, v5⟩, _⟩ := cells6 hS.2; go_simp
    try simp only [Act.put, List.getElem_toArray, List.getElem_cons_succ, List.getElem_cons_zero, List.setIfInBounds_toArray, List.set_cons_zero, List.set_cons_succ]
    refine wpAnyH_take (i := 1) (v := obV 0 x' n' a' l' s') rfl (by kernel_rfl) (by kernel_rfl) (by kernel_rfl) (fun _ _ _ h => h) (Or.inl ⟨by rfl, fun wx hS => ?_⟩) SX.out ?_
    · have ⟨⟨u0, u1, u2, u3, u4, u5⟩, _⟩ := cells6 hS.1; have ⟨⟨v0, v1, v2, v3, v4, v5⟩, _⟩ := cells6 hS.2; go_simp
    try simp only [Act.put, List.getElem_toArray, List.getElem_cons_succ, List.getElem_cons_zero, List.setIfInBounds_toArray, List.set_cons_zero, List.set_cons_succ]
    refine wpAnyH_take (i := 2) (v := obV 0 x' n' a' l' s') rfl (by kernel_rfl) (by kernel_rfl) (by kernel_rfl) (fun _ _ _ h => h) (Or.inl ⟨by rfl, fun wx hS => ?_⟩) SX.out ?_
    · have ⟨⟨u0, u1, u2, u3, u4, u5⟩, _⟩ := cells6 hS.1; have ⟨⟨v0, v1, v2, v3, v4, v5⟩, _⟩ := cells6 hS.2; go_simp
    try simp only [Act.put, List.getElem_toArray, List.getElem_cons_succ, List.getElem_cons_zero, List.setIfInBounds_toArray, List.set_cons_zero, List.set_cons_succ]
    refine wpAnyH_take (i := 3) (v := .bool true) rfl (by kernel_rfl) (by kernel_rfl) (by kernel_rfl) (fun _ _ _ h => h) (Or.inl ⟨by rfl, fun wx hS => ?_⟩) SX.out ?_
    · go_simp
    try simp only [Act.put, List.getElem_toArray, List.getElem_cons_succ, List.getElem_cons_zero, List.setIfInBounds_toArray, List.set_cons_zero, List.set_cons_succ]
    refine wpAnyH_take (i := 4) (v := .bool true) rfl (by kernel_rfl) (by kernel_rfl) (by kernel_rfl) (fun _ _ _ h => h) (Or.inl ⟨by rfl, fun wx hS => ?_⟩) SX.out ?_
    · go_simp
    try simp only [Act.put, List.getElem_toArray, List.getElem_cons_succ, List.getElem_cons_zero, List.setIfInBounds_toArray, List.set_cons_zero, List.set_cons_succ]
    refine wpAnyH_take (i := 5) (v := .int .i64 E) rfl (by kernel_rfl) (by kernel_rfl) (by kernel_rfl) (fun _ _ _ h => h) (Or.inl ⟨by rfl, fun wx hS => ?_⟩) SX.out ?_
    · go_simp
    try simp only [Act.put, List.getElem_toArray, List.getElem_cons_succ, List.getElem_cons_zero, List.setIfInBounds_toArray, List.set_cons_zero, List.set_cons_succ]
    refine wpAnyH_take (i := 6) (v := .int .i64 E) rfl (by kernel_rfl) (by kernel_rfl) (by kernel_rfl) (fun _ _ _ h => h) (Or.inl ⟨by rfl, fun wx hS => ?_⟩) SX.out ?_
    · go_simp
    try simp only [Act.put, List.getElem_toArray, List.getElem_cons_succ, List.getElem_cons_zero, List.setIfInBounds_toArray, List.set_cons_zero, List.set_cons_succ]
    refine wpAnyH_take (i := 7) (v := .bool true) rfl (by kernel_rfl) (by kernel_rfl) (by kernel_rfl) (fun _ _ _ h => h) (Or.inl ⟨by rfl, fun wx hS => ?_⟩) SX.out ?_
    · go_simp
    try simp only [Act.put, List.getElem_toArray, List.getElem_cons_succ, List.getElem_cons_zero, List.setIfInBounds_toArray, List.set_cons_zero, List.set_cons_succ]
    refine wpAnyH_take (i := 8) (v := .bool true) rfl (by kernel_rfl) (by kernel_rfl) (by kernel_rfl) (fun _ _ _ h => h) (Or.inl ⟨by rfl, fun wx hS => ?_⟩) SX.out ?_
    · go_simp
    try simp only [Act.put, List.getElem_toArray, List.getElem_cons_succ, List.getElem_cons_zero, List.setIfInBounds_toArray, List.set_cons_zero, List.set_cons_succ]
    refine wpAnyH_take (i := 9) (v := .bool true) rfl (by kernel_rfl) (by kernel_rfl) (by kernel_rfl) (fun _ _ _ h => h) (Or.inl ⟨by rfl, fun wx hS => ?_⟩) SX.out ?_
    · go_simp
    try simp only [Act.put, List.getElem_toArray, List.getElem_cons_succ, List.getElem_cons_zero, List.setIfInBounds_toArray, List.set_cons_zero, List.set_cons_succ]
    refine wpAnyH_take (i := 10) (v := .int .i64 E) rfl (by kernel_rfl) (by kernel_rfl) (by kernel_rfl) (fun _ _ _ h => h) (Or.inl ⟨by rfl, fun wx hS => ?_⟩) SX.out ?_
    · go_simp
    try simp only [Act.put, List.getElem_toArray, List.getElem_cons_succ, List.getElem_cons_zero, List.setIfInBounds_toArray, List.set_cons_zero, List.set_cons_succ]
    refine wpAnyH_take (i := 11) (v := .bool false) rfl (by kernel_rfl) (by kernel_rfl) (by kernel_rfl) (fun _ _ _ h => h) (Or.inl ⟨by rfl, fun wx hS => ?_⟩) SX.out ?_
    · go_simp
    try simp only [Act.put, List.getElem_toArray, List.getElem_cons_succ, List.getElem_cons_zero, List.setIfInBounds_toArray, List.set_cons_zero, List.set_cons_succ]
    refine wpAnyH_take (i := 12) (v := .pointer (some ⟨w.heap.size + 1 + 1 + 1, 0, none⟩)) rfl (by kernel_rfl) (by kernel_rfl) (by kernel_rfl) (fun _ _ _ h => h) (Or.inl ⟨by rfl, fun wx hS => ?_⟩) SX.out ?_
    · go_simp
    try simp only [Act.put, List.getElem_toArray, List.getElem_cons_succ, List.getElem_cons_zero, List.setIfInBounds_toArray, List.set_cons_zero, List.set_cons_succ]
    refine wpAnyH_take (i := 13) (v := .int .i64 0) rfl (by kernel_rfl) (by kernel_rfl) (by kernel_rfl) (fun _ _ _ h => h) (Or.inl ⟨by rfl, fun wx hS => ?_⟩) SX.out ?_
    · have ⟨⟨u0, u1, u2, u3, u4, u5⟩, _⟩ := cells6 hS.1; have ⟨⟨v0, v1, v2, v3, v4, v5⟩, _⟩ := cells6 hS.2; go_simp
    try simp only [Act.put, List.getElem_toArray, List.getElem_cons_succ, List.getElem_cons_zero, List.setIfInBounds_toArray, List.set_cons_zero, List.set_cons_succ]
    refine wpAnyH_take (i := 14) (v := .bool false) rfl (by kernel_rfl) (by kernel_rfl) (by kernel_rfl) (fun _ _ _ h => h) (Or.inl ⟨by rfl, fun wx hS => ?_⟩) SX.out ?_
    · go_simp
    try simp only [Act.put, List.getElem_toArray, List.getElem_cons_succ, List.getElem_cons_zero, List.setIfInBounds_toArray, List.set_cons_zero, List.set_cons_succ]
    refine wpAnyH_take (i := 15) (v := .bool true) rfl (by kernel_rfl) (by kernel_rfl) (by kernel_rfl) (fun _ _ _ h => h) (Or.inl ⟨by rfl, fun wx hS => ?_⟩) SX.out ?_
    · go_simp
    try simp only [Act.put, List.getElem_toArray, List.getElem_cons_succ, List.getElem_cons_zero, List.setIfInBounds_toArray, List.set_cons_zero, List.set_cons_succ]
    refine wpAnyH_take (i := 16) (v := .bool true) rfl (by kernel_rfl) (by kernel_rfl) (by kernel_rfl) (fun _ _ _ h => h) (Or.inl ⟨by rfl, fun wx hS => ?_⟩) SX.out ?_
    · go_simp
    try simp only [Act.put, List.getElem_toArray, List.getElem_cons_succ, List.getElem_cons_zero, List.setIfInBounds_toArray, List.set_cons_zero, List.set_cons_succ]
    obtain ⟨⟨r0, r1, r2, r3, r4, r5⟩, f0, f1, f2, f3, f4, f5⟩ := cells6 CB.out
    refine wpAnyH_ready (rs := [17]) (by kernel_rfl) (by simp) ?_
    refine AllReadyH.cons rfl (fun K hK => ?_) AllReadyH.nil
    go_simp
    obtain ⟨w6, e6, b6, o6⟩ := set6_box CB.out (.int .i64 0) (.bool x') (.int .i64 n') (.int .i64 a') (.int .i64 l') (.string s')
    rw [e6]
    have H6 := Lib.hid (H5.out.set LT.out (C := w.heap.size + 1) (by omega) o6)
    have SY : Hid (w6.heap[w.heap.size + 2]? = some (obObj 0 x' n' a' l' s') ∧ w6.heap[w.heap.size + 3]? = some (obObj 0 x' n' a' l' s')) := Lib.hid ⟨(o6.block _ (by omega)).trans SX.out.1, (o6.block _ (by omega)).trans SX.out.2⟩
    have B6 := Lib.hid b6
    clear e6 o6 b6 r0 r1 r2 r3 r4 r5 f0 f1 f2 f3 f4 f5 SX CB
    refine hK.out _ _ SY.out (fun _ => ?_)
    clear hK
    try simp only [Act.put, List.getElem_toArray, List.getElem_cons_succ, List.getElem_cons_zero, List.setIfInBounds_toArray, List.set_cons_zero, List.set_cons_succ]
    refine wpAnyH_take (i := 18) (v := .bool true) rfl (by kernel_rfl) (by kernel_rfl) (by kernel_rfl) (fun _ _ _ h => h) (Or.inl ⟨by rfl, fun wx hS => ?_⟩) SY.out ?_
    · go_simp
    try simp only [Act.put, List.getElem_toArray, List.getElem_cons_succ, List.getElem_cons_zero, List.setIfInBounds_toArray, List.set_cons_zero, List.set_cons_succ]
    refine wpAnyH_done (by kernel_rfl) ?_ _
    (try refine no_panic ?_)
    go_wp2
    (try simp only [Exit.inBlock, Exit.then])
    exact bodyPost_ret (ret_cell rfl _ _ _ _ _ _ _ _ rfl rfl B6.out Try.underlying24 rfl (by kernel_rfl)) rfl ⟨rfl, H6.out.play.sub fun b q => .inl q, H6.out.keep⟩
end Go.Proofs.Ytmlkmgeddkpgiaa

/- HeapPlays: make1 of tympanlaw11, whatever the step. -/
namespace Go.Proofs.Ytmlkmgeddkpgiaa
open Go.RowKit
set_option linter.unusedVariables false
theorem mkO_k (P : List Cel) (k : Int) (n : Nat) : (mkE P n = 0 ∧ (mkO P k n).k = k) ∨ ((mkO P k n).k = 0 ∧ ¬ mkE P n = 0) := by
  by_cases e : mkE P n = 0
  · exact .inl ⟨e, by rw [mkO, if_pos e]⟩
  · exact .inr ⟨by rw [mkO, if_neg e]; rfl, e⟩
theorem arr_k (P : List Cel) (n : Int) : (arrE P n = 0 ∧ ¬ (arrO P n).k = 0) ∨ ((arrO P n).k = 0 ∧ ¬ arrE P n = 0) := by
  by_cases h : n < 0
  · have e : arrE P n = 2 := by rw [arrE, if_pos h]
    exact .inr ⟨by rw [arrO, e]; rfl, by rw [e]; decide⟩
  · have e : arrE P n = mkE P n.toNat := by rw [arrE, if_neg h]
    rcases mkO_k P 9 n.toNat with ⟨a, b⟩ | ⟨a, b⟩
    · exact .inl ⟨by rw [e, a], by rw [arrO, e, if_pos a, b]; decide⟩
    · exact .inr ⟨by rw [arrO, e, if_neg b]; rfl, by rw [e]; exact b⟩
theorem dic_k (P : List Cel) (n : Int) : (dicE P n = 0 ∧ ¬ (dicO P n).k = 0) ∨ ((dicO P n).k = 0 ∧ ¬ dicE P n = 0) := by
  by_cases h : n < 0 ∨ 1000 < n
  · have e : dicE P n = 2 := by rw [dicE, if_pos h]
    exact .inr ⟨by rw [dicO, e]; rfl, by rw [e]; decide⟩
  · have e : dicE P n = mkE P (2 * n.toNat + 1) := by rw [dicE, if_neg h]
    rcases mkO_k P 10 (2 * n.toNat + 1) with ⟨a, b⟩ | ⟨a, b⟩
    · exact .inl ⟨by rw [e, a], by rw [dicO, e, if_pos a, b]; decide⟩
    · exact .inr ⟨by rw [dicO, e, if_neg b]; rfl, by rw [e]; exact b⟩
theorem str_k (P : List Cel) (s : ByteArray) : (strE P s = 0 ∧ ¬ (strO P s).k = 0) ∨ ((strO P s).k = 0 ∧ ¬ strE P s = 0) := by
  rcases mkO_k P 8 s.size with ⟨a, b⟩ | ⟨a, b⟩
  · exact .inl ⟨a, by rw [strO, b]; decide⟩
  · exact .inr ⟨a, b⟩
theorem part_k (P : List Cel) (o : Ob) (i m : Int) : (partE P o i m = 0 ∧ ¬ (partO P o i m).k = 0) ∨ ((partO P o i m).k = 0 ∧ ¬ partE P o i m = 0) := by
  by_cases e : partE P o i m = 0
  · refine .inl ⟨e, ?_⟩
    rw [partO, if_pos e]
    show ¬ o.k = 0
    intro h
    have hc : okO P o = false := by simp [okO, h, comp]
    rw [partE, hc] at e
    simp [errO, h, comp] at e
  · exact .inr ⟨by rw [partO, if_neg e]; rfl, e⟩
/-- What make1 makes, and what the heap is then. -/
def makO (P : List Cel) (L : List Ob) (W A N M : Int) (S : ByteArray) (q : Ob) : Ob := if W = 0 then arrO P N else if W = 1 then strO P S else if W = 2 then dicO P N else partO P (pickO L A q) N M
def makP (P : List Cel) (W N : Int) (S : ByteArray) : List Cel := if W = 0 then arrP P N else if W = 1 then strQ P S else if W = 2 then dicP P N else P
theorem make_any {out : Nat → Prop} {hb gb rb fb : Nat} {P Q B' : List Cel} {w : World} {vl : Value} {L : List Ob} (h : Play out hb gb rb fb P Q P B' w) (hl : Lis w vl L) (W A B N M : Int) (S : ByteArray) (q : Ob) (hN : N < 9223372036854775808) (hM : M < 9223372036854775808) :
    Calls Try.prog 13 #[ptr hb, ptr rb, vl, stV W A B N M S q.k q.x q.n q.a q.l q.s] w fun e w' => e = .returned (.tuple #[(makO P L W A N M S q).val, .bool true]) ∧ Play out hb gb rb fb (makP P W N S) Q (makP P W N S) B' w' ∧ Kept out w w' := by
  by_cases h0 : W = 0
  · rw [makO, makP, if_pos h0, if_pos h0]
    subst h0
    exact make_arr h vl A B N M S q.k q.x q.n q.a q.l q.s _ _ _ _ _ _ (arrE P N) (Lib.hid fun out w hp => pArray hp N) (Lib.hid fun out w hp => qArray hp N) (arr_k P N)
  by_cases h1 : W = 1
  · rw [makO, makP, if_neg h0, if_neg h0, if_pos h1, if_pos h1]
    subst h1
    exact make_str h vl A B N M S q.k q.x q.n q.a q.l q.s _ _ _ _ _ _ (strE P S) (Lib.hid fun out w hp => pString hp S) (Lib.hid fun out w hp => qString hp S) (str_k P S)
  by_cases h2 : W = 2
  · rw [makO, makP, if_neg h0, if_neg h0, if_neg h1, if_neg h1, if_pos h2, if_pos h2]
    subst h2
    exact make_dic h vl A B N M S q.k q.x q.n q.a q.l q.s _ _ _ _ _ _ (dicE P N) (Lib.hid fun out w hp => pDict hp N) (Lib.hid fun out w hp => qDict hp N) (dic_k P N)
  rw [makO, makP, if_neg h0, if_neg h0, if_neg h1, if_neg h1, if_neg h2, if_neg h2]
  exact make_prt h vl W A B N M S q.k q.x q.n q.a q.l q.s _ _ _ _ _ _ _ _ _ _ _ _ (partE P (pickO L A q) N M) h0 h1 h2 (Lib.hid fun wx kx => pick_any (hl.later kx) A q) (Lib.hid fun out w hp => pPart hp (pickO L A q) N M hN) (Lib.hid fun out w hp => qPart hp (pickO L A q) N M (by omega) (by omega)) (part_k P _ N M)
end Go.Proofs.Ytmlkmgeddkpgiaa

/- HeapPlays: same of tympanlaw11. -/
namespace Go.Proofs.Ytmlkmgeddkpgiaa
open Go.RowKit
set_option linter.unusedVariables false
set_option linter.unusedSimpArgs false
set_option maxHeartbeats 4000000 in
set_option maxRecDepth 100000 in
theorem same_walk (hb rb : Nat) (k : Int) (x : Bool) (n a l : Int) (s : ByteArray) (i zn ze zg zj zp : Int) (zt : ByteArray) (zm : Bool) (L : List Ob) (hL : L.length ≤ 40000) (k' : Int) (x' : Bool) (n' a' l' : Int) (s' : ByteArray) (w : World)
    (S1 : Hid (∀ wx, Below w.heap.size w wx → Calls Try.prog 76 #[ptr hb, obV k x n a l s] wx fun e w' => e = .returned (.tuple #[.int .i64 zn, .int .i64 ze]) ∧ Below wx.heap.size wx w'))
    (I1 : Hid (∀ wx, Below w.heap.size w wx → Calls Try.prog 78 #[ptr hb, obV k x n a l s] wx fun e w' => ∃ v, e = .returned (.tuple #[v, .int .i64 zg]) ∧ ItemsOf wx L v w'))
    (B1 : Hid (∀ wx, Below w.heap.size w wx → Calls Try.prog 51 #[ptr hb, obV k x n a l s] wx fun e w' => e = .returned (.tuple #[.string zt, .int .i64 zj]) ∧ Below wx.heap.size wx w'))
    (G1 : Hid (∀ wx, Below w.heap.size w wx → Calls Try.prog 67 #[ptr hb, obV k x n a l s, .int .i64 i] wx fun e w' => e = .returned (.tuple #[obV k' x' n' a' l' s', .int .i64 zp]) ∧ Below wx.heap.size wx w'))
    (M1 : Hid (∀ wx, Below w.heap.size w wx → Calls Try.prog 81 #[ptr hb, obV k x n a l s] wx fun e w' => e = .returned (.bool zm) ∧ Below wx.heap.size wx w'))
    (S2 : Hid (∀ wx, Below w.heap.size w wx → Calls Try.prog 77 #[ptr rb, obV k x n a l s] wx fun e w' => e = .returned (.tuple #[.int .i64 zn, .int .i64 ze]) ∧ Below wx.heap.size wx w'))
    (I2 : Hid (∀ wx, Below w.heap.size w wx → Calls Try.prog 79 #[ptr rb, obV k x n a l s] wx fun e w' => ∃ v, e = .returned (.tuple #[v, .int .i64 zg]) ∧ ItemsOf wx L v w'))
    (B2 : Hid (∀ wx, Below w.heap.size w wx → Calls Try.prog 52 #[ptr rb, obV k x n a l s] wx fun e w' => e = .returned (.tuple #[.string zt, .int .i64 zj]) ∧ Below wx.heap.size wx w'))
    (G2 : Hid (∀ wx, Below w.heap.size w wx → Calls Try.prog 80 #[ptr rb, obV k x n a l s, .int .i64 i] wx fun e w' => e = .returned (.tuple #[obV k' x' n' a' l' s', .int .i64 zp]) ∧ Below wx.heap.size wx w'))
    (M2 : Hid (∀ wx, Below w.heap.size w wx → Calls Try.prog 74 #[ptr rb, obV k x n a l s] wx fun e w' => e = .returned (.bool zm) ∧ Below wx.heap.size wx w'))
    : Calls Try.prog 22 #[ptr hb, ptr rb, obV k x n a l s, .int .i64 i] w fun e w' => e = .returned (.bool true) ∧ Below w.heap.size w w' := by
  go_enter Try.func22, Try.ntmps22
  go_upto_region 1 with fail
  obtain ⟨w0, e0, k0, z0, oa⟩ := ob_box w k n a l x s
  rw [e0]
  have K0 := Lib.hid k0
  have LT0 : Hid (w.heap.size < w0.heap.size) := Lib.hid (by omega)
  have O0 := Lib.hid oa
  clear e0 k0 z0
  obtain ⟨c0, c1, c2, c3, c4, c5⟩ := oa
  go_wp2_with fail
  refine (S1.out _ K0.out).mono ?_
  rintro e w1 ⟨rfl, kk⟩
  have K1 := Lib.hid (below_and K0.out kk)
  have O1 := Lib.hid (O0.out.later kk)
  clear kk c0 c1 c2 c3 c4 c5
  obtain ⟨c0, c1, c2, c3, c4, c5⟩ := O1.out
  go_wp2_with fail
  refine (S2.out _ K1.out).mono ?_
  rintro e w2 ⟨rfl, kk⟩
  have K2 := Lib.hid (below_and K1.out kk)
  have O2 := Lib.hid (O1.out.later kk)
  clear kk c0 c1 c2 c3 c4 c5
  obtain ⟨c0, c1, c2, c3, c4, c5⟩ := O2.out
  go_wp2_with fail
  refine (I1.out _ K2.out).mono ?_
  rintro e w3 ⟨va, rfl, it⟩
  have kk := it.below
  have LI1 := Lib.hid it.lis
  clear it
  have K3 := Lib.hid (below_and K2.out kk)
  have O3 := Lib.hid (O2.out.later kk)
  clear kk c0 c1 c2 c3 c4 c5
  obtain ⟨c0, c1, c2, c3, c4, c5⟩ := O3.out
  go_wp2_with fail
  refine (I2.out _ K3.out).mono ?_
  rintro e w4 ⟨vb, rfl, it⟩
  have kk := it.below
  have LI2 := Lib.hid it.lis
  clear it
  have K4 := Lib.hid (below_and K3.out kk)
  have O4 := Lib.hid (O3.out.later kk)
  replace LI1 := Lib.hid (LI1.out.later kk)
  clear kk c0 c1 c2 c3 c4 c5
  obtain ⟨c0, c1, c2, c3, c4, c5⟩ := O4.out
  go_wp2_with fail
  refine (B1.out _ K4.out).mono ?_
  rintro e w5 ⟨rfl, kk⟩
  have K5 := Lib.hid (below_and K4.out kk)
  have O5 := Lib.hid (O4.out.later kk)
  replace LI1 := Lib.hid (LI1.out.later kk)
  replace LI2 := Lib.hid (LI2.out.later kk)
  clear kk c0 c1 c2 c3 c4 c5
  obtain ⟨c0, c1, c2, c3, c4, c5⟩ := O5.out
  go_wp2_with fail
  refine (B2.out _ K5.out).mono ?_
  rintro e w6 ⟨rfl, kk⟩
  have K6 := Lib.hid (below_and K5.out kk)
  have O6 := Lib.hid (O5.out.later kk)
  replace LI1 := Lib.hid (LI1.out.later kk)
  replace LI2 := Lib.hid (LI2.out.later kk)
  clear kk c0 c1 c2 c3 c4 c5
  obtain ⟨c0, c1, c2, c3, c4, c5⟩ := O6.out
  go_wp2_with fail
  refine (G1.out _ K6.out).mono ?_
  rintro e w7 ⟨rfl, kk⟩
  have K7 := Lib.hid (below_and K6.out kk)
  have O7 := Lib.hid (O6.out.later kk)
  replace LI1 := Lib.hid (LI1.out.later kk)
  replace LI2 := Lib.hid (LI2.out.later kk)
  clear kk c0 c1 c2 c3 c4 c5
  go_upto_region 8 with fail
  obtain ⟨w8, e8, kk, z8, ox⟩ := ob_box w7 k' n' a' l' x' s'
  rw [e8]
  have K8 := Lib.hid (below_and K7.out kk)
  have O8 := Lib.hid (O7.out.later kk)
  have X8 := Lib.hid ox
  replace LI1 := Lib.hid (LI1.out.later kk)
  replace LI2 := Lib.hid (LI2.out.later kk)
  clear e8 kk z8 ox
  obtain ⟨c0, c1, c2, c3, c4, c5⟩ := O8.out
  go_wp2_with fail
  refine (G2.out _ K8.out).mono ?_
  rintro e w9 ⟨rfl, kk⟩
  have K9 := Lib.hid (below_and K8.out kk)
  have O9 := Lib.hid (O8.out.later kk)
  replace LI1 := Lib.hid (LI1.out.later kk)
  replace LI2 := Lib.hid (LI2.out.later kk)
  have X9 := Lib.hid (X8.out.later kk)
  clear kk c0 c1 c2 c3 c4 c5
  go_upto_region 9 with fail
  obtain ⟨wc, ec, kk, zc, oy⟩ := ob_box w9 k' n' a' l' x' s'
  rw [ec]
  have KC := Lib.hid (below_and K9.out kk)
  have OC := Lib.hid (O9.out.later kk)
  have XC := Lib.hid (X9.out.later kk)
  have YC := Lib.hid oy
  replace LI1 := Lib.hid (LI1.out.later kk)
  replace LI2 := Lib.hid (LI2.out.later kk)
  clear ec kk zc oy
  have qe : ∀ w, (binOp .eql 24 (.agg #[.int .i64 k', .bool x', .int .i64 n', .int .i64 a', .int .i64 l', .string s']) (.agg #[.int .i64 k', .bool x', .int .i64 n', .int .i64 a', .int .i64 l', .string s'])).run Try.prog w = .ok (.bool true) w := fun w => by rw [eqO]; simp
  have SX : Hid (Below wc.heap.size wc wc.drew) := Lib.hid (Below.refl _ _).drew
  (try refine wp_region_noPanic ?_)
  refine wp_region_held_drew (S := fun wx => Below wc.heap.size wc wx) (by kernel_rfl) SX.out (fun _ => ?_)
  generalize wc.drew = wd at SX ⊢
  refine wpAnyH_take (i := 0) (v := .int .i64 zn) rfl (by kernel_rfl) (by kernel_rfl) (by kernel_rfl) (fun _ _ _ h => h) (Or.inl ⟨by rfl, fun wx hS => ?_⟩) SX.out ?_
  · go_simp
  try simp only [Act.put, List.getElem_toArray, List.getElem_cons_succ, List.getElem_cons_zero, List.setIfInBounds_toArray, List.set_cons_zero, List.set_cons_succ]
  refine wpAnyH_take (i := 1) (v := .int .i64 zn) rfl (by kernel_rfl) (by kernel_rfl) (by kernel_rfl) (fun _ _ _ h => h) (Or.inl ⟨by rfl, fun wx hS => ?_⟩) SX.out ?_
  · go_simp
  try simp only [Act.put, List.getElem_toArray, List.getElem_cons_succ, List.getElem_cons_zero, List.setIfInBounds_toArray, List.set_cons_zero, List.set_cons_succ]
  refine wpAnyH_take (i := 2) (v := .bool true) rfl (by kernel_rfl) (by kernel_rfl) (by kernel_rfl) (fun _ _ _ h => h) (Or.inl ⟨by rfl, fun wx hS => ?_⟩) SX.out ?_
  · go_simp
  try simp only [Act.put, List.getElem_toArray, List.getElem_cons_succ, List.getElem_cons_zero, List.setIfInBounds_toArray, List.set_cons_zero, List.set_cons_succ]
  refine wpAnyH_take (i := 3) (v := .bool true) rfl (by kernel_rfl) (by kernel_rfl) (by kernel_rfl) (fun _ _ _ h => h) (Or.inl ⟨by rfl, fun wx hS => ?_⟩) SX.out ?_
  · go_simp
  try simp only [Act.put, List.getElem_toArray, List.getElem_cons_succ, List.getElem_cons_zero, List.setIfInBounds_toArray, List.set_cons_zero, List.set_cons_succ]
  refine wpAnyH_take (i := 4) (v := .int .i64 ze) rfl (by kernel_rfl) (by kernel_rfl) (by kernel_rfl) (fun _ _ _ h => h) (Or.inl ⟨by rfl, fun wx hS => ?_⟩) SX.out ?_
  · go_simp
  try simp only [Act.put, List.getElem_toArray, List.getElem_cons_succ, List.getElem_cons_zero, List.setIfInBounds_toArray, List.set_cons_zero, List.set_cons_succ]
  refine wpAnyH_take (i := 5) (v := .int .i64 ze) rfl (by kernel_rfl) (by kernel_rfl) (by kernel_rfl) (fun _ _ _ h => h) (Or.inl ⟨by rfl, fun wx hS => ?_⟩) SX.out ?_
  · go_simp
  try simp only [Act.put, List.getElem_toArray, List.getElem_cons_succ, List.getElem_cons_zero, List.setIfInBounds_toArray, List.set_cons_zero, List.set_cons_succ]
  refine wpAnyH_take (i := 6) (v := .bool true) rfl (by kernel_rfl) (by kernel_rfl) (by kernel_rfl) (fun _ _ _ h => h) (Or.inl ⟨by rfl, fun wx hS => ?_⟩) SX.out ?_
  · go_simp
  try simp only [Act.put, List.getElem_toArray, List.getElem_cons_succ, List.getElem_cons_zero, List.setIfInBounds_toArray, List.set_cons_zero, List.set_cons_succ]
  refine wpAnyH_take (i := 7) (v := .bool true) rfl (by kernel_rfl) (by kernel_rfl) (by kernel_rfl) (fun _ _ _ h => h) (Or.inl ⟨by rfl, fun wx hS => ?_⟩) SX.out ?_
  · go_simp
  try simp only [Act.put, List.getElem_toArray, List.getElem_cons_succ, List.getElem_cons_zero, List.setIfInBounds_toArray, List.set_cons_zero, List.set_cons_succ]
  refine wpAnyH_take (i := 8) (v := .bool true) rfl (by kernel_rfl) (by kernel_rfl) (by kernel_rfl) (fun _ _ _ h => h) (Or.inl ⟨by rfl, fun wx hS => ?_⟩) SX.out ?_
  · go_simp
  try simp only [Act.put, List.getElem_toArray, List.getElem_cons_succ, List.getElem_cons_zero, List.setIfInBounds_toArray, List.set_cons_zero, List.set_cons_succ]
  refine wpAnyH_take (i := 9) (v := va) rfl (by kernel_rfl) (by kernel_rfl) (by kernel_rfl) (fun _ _ _ h => h) (Or.inl ⟨by rfl, fun wx hS => ?_⟩) SX.out ?_
  · go_simp
  try simp only [Act.put, List.getElem_toArray, List.getElem_cons_succ, List.getElem_cons_zero, List.setIfInBounds_toArray, List.set_cons_zero, List.set_cons_succ]
  refine wpAnyH_take (i := 10) (v := vb) rfl (by kernel_rfl) (by kernel_rfl) (by kernel_rfl) (fun _ _ _ h => h) (Or.inl ⟨by rfl, fun wx hS => ?_⟩) SX.out ?_
  · go_simp
  try simp only [Act.put, List.getElem_toArray, List.getElem_cons_succ, List.getElem_cons_zero, List.setIfInBounds_toArray, List.set_cons_zero, List.set_cons_succ]
  refine wpAnyH_ready (rs := [11]) (by kernel_rfl) (by simp) ?_
  refine AllReadyH.cons rfl (fun K hK => ?_) AllReadyH.nil
  go_simp
  refine (same_is (LI1.out.later SX.out) (LI2.out.later SX.out) hL).mono ?_
  rintro e we ⟨rfl, kk⟩
  replace SX := Lib.hid (below_and SX.out kk)
  clear kk
  refine hK.out _ _ SX.out (fun _ => ?_)
  clear hK
  try simp only [Act.put, List.getElem_toArray, List.getElem_cons_succ, List.getElem_cons_zero, List.setIfInBounds_toArray, List.set_cons_zero, List.set_cons_succ]
  refine wpAnyH_take (i := 12) (v := .bool true) rfl (by kernel_rfl) (by kernel_rfl) (by kernel_rfl) (fun _ _ _ h => h) (Or.inl ⟨by rfl, fun wx hS => ?_⟩) SX.out ?_
  · go_simp
  try simp only [Act.put, List.getElem_toArray, List.getElem_cons_succ, List.getElem_cons_zero, List.setIfInBounds_toArray, List.set_cons_zero, List.set_cons_succ]
  refine wpAnyH_take (i := 13) (v := .bool true) rfl (by kernel_rfl) (by kernel_rfl) (by kernel_rfl) (fun _ _ _ h => h) (Or.inl ⟨by rfl, fun wx hS => ?_⟩) SX.out ?_
  · go_simp
  try simp only [Act.put, List.getElem_toArray, List.getElem_cons_succ, List.getElem_cons_zero, List.setIfInBounds_toArray, List.set_cons_zero, List.set_cons_succ]
  refine wpAnyH_take (i := 14) (v := .int .i64 zg) rfl (by kernel_rfl) (by kernel_rfl) (by kernel_rfl) (fun _ _ _ h => h) (Or.inl ⟨by rfl, fun wx hS => ?_⟩) SX.out ?_
  · go_simp
  try simp only [Act.put, List.getElem_toArray, List.getElem_cons_succ, List.getElem_cons_zero, List.setIfInBounds_toArray, List.set_cons_zero, List.set_cons_succ]
  refine wpAnyH_take (i := 15) (v := .int .i64 zg) rfl (by kernel_rfl) (by kernel_rfl) (by kernel_rfl) (fun _ _ _ h => h) (Or.inl ⟨by rfl, fun wx hS => ?_⟩) SX.out ?_
  · go_simp
  try simp only [Act.put, List.getElem_toArray, List.getElem_cons_succ, List.getElem_cons_zero, List.setIfInBounds_toArray, List.set_cons_zero, List.set_cons_succ]
  refine wpAnyH_take (i := 16) (v := .bool true) rfl (by kernel_rfl) (by kernel_rfl) (by kernel_rfl) (fun _ _ _ h => h) (Or.inl ⟨by rfl, fun wx hS => ?_⟩) SX.out ?_
  · go_simp
  try simp only [Act.put, List.getElem_toArray, List.getElem_cons_succ, List.getElem_cons_zero, List.setIfInBounds_toArray, List.set_cons_zero, List.set_cons_succ]
  refine wpAnyH_take (i := 17) (v := .bool true) rfl (by kernel_rfl) (by kernel_rfl) (by kernel_rfl) (fun _ _ _ h => h) (Or.inl ⟨by rfl, fun wx hS => ?_⟩) SX.out ?_
  · go_simp
  try simp only [Act.put, List.getElem_toArray, List.getElem_cons_succ, List.getElem_cons_zero, List.setIfInBounds_toArray, List.set_cons_zero, List.set_cons_succ]
  refine wpAnyH_take (i := 18) (v := .bool true) rfl (by kernel_rfl) (by kernel_rfl) (by kernel_rfl) (fun _ _ _ h => h) (Or.inl ⟨by rfl, fun wx hS => ?_⟩) SX.out ?_
  · go_simp
  try simp only [Act.put, List.getElem_toArray, List.getElem_cons_succ, List.getElem_cons_zero, List.setIfInBounds_toArray, List.set_cons_zero, List.set_cons_succ]
  refine wpAnyH_take (i := 19) (v := .string zt) rfl (by kernel_rfl) (by kernel_rfl) (by kernel_rfl) (fun _ _ _ h => h) (Or.inl ⟨by rfl, fun wx hS => ?_⟩) SX.out ?_
  · go_simp
  try simp only [Act.put, List.getElem_toArray, List.getElem_cons_succ, List.getElem_cons_zero, List.setIfInBounds_toArray, List.set_cons_zero, List.set_cons_succ]
  refine wpAnyH_take (i := 20) (v := .string zt) rfl (by kernel_rfl) (by kernel_rfl) (by kernel_rfl) (fun _ _ _ h => h) (Or.inl ⟨by rfl, fun wx hS => ?_⟩) SX.out ?_
  · go_simp
  try simp only [Act.put, List.getElem_toArray, List.getElem_cons_succ, List.getElem_cons_zero, List.setIfInBounds_toArray, List.set_cons_zero, List.set_cons_succ]
  refine wpAnyH_take (i := 21) (v := .bool true) rfl (by kernel_rfl) (by kernel_rfl) (by kernel_rfl) (fun _ _ _ h => h) (Or.inl ⟨by rfl, fun wx hS => ?_⟩) SX.out ?_
  · go_simp
  try simp only [Act.put, List.getElem_toArray, List.getElem_cons_succ, List.getElem_cons_zero, List.setIfInBounds_toArray, List.set_cons_zero, List.set_cons_succ]
  refine wpAnyH_take (i := 22) (v := .bool true) rfl (by kernel_rfl) (by kernel_rfl) (by kernel_rfl) (fun _ _ _ h => h) (Or.inl ⟨by rfl, fun wx hS => ?_⟩) SX.out ?_
  · go_simp
  try simp only [Act.put, List.getElem_toArray, List.getElem_cons_succ, List.getElem_cons_zero, List.setIfInBounds_toArray, List.set_cons_zero, List.set_cons_succ]
  refine wpAnyH_take (i := 23) (v := .bool true) rfl (by kernel_rfl) (by kernel_rfl) (by kernel_rfl) (fun _ _ _ h => h) (Or.inl ⟨by rfl, fun wx hS => ?_⟩) SX.out ?_
  · go_simp
  try simp only [Act.put, List.getElem_toArray, List.getElem_cons_succ, List.getElem_cons_zero, List.setIfInBounds_toArray, List.set_cons_zero, List.set_cons_succ]
  refine wpAnyH_take (i := 24) (v := .int .i64 zj) rfl (by kernel_rfl) (by kernel_rfl) (by kernel_rfl) (fun _ _ _ h => h) (Or.inl ⟨by rfl, fun wx hS => ?_⟩) SX.out ?_
  · go_simp
  try simp only [Act.put, List.getElem_toArray, List.getElem_cons_succ, List.getElem_cons_zero, List.setIfInBounds_toArray, List.set_cons_zero, List.set_cons_succ]
  refine wpAnyH_take (i := 25) (v := .int .i64 zj) rfl (by kernel_rfl) (by kernel_rfl) (by kernel_rfl) (fun _ _ _ h => h) (Or.inl ⟨by rfl, fun wx hS => ?_⟩) SX.out ?_
  · go_simp
  try simp only [Act.put, List.getElem_toArray, List.getElem_cons_succ, List.getElem_cons_zero, List.setIfInBounds_toArray, List.set_cons_zero, List.set_cons_succ]
  refine wpAnyH_take (i := 26) (v := .bool true) rfl (by kernel_rfl) (by kernel_rfl) (by kernel_rfl) (fun _ _ _ h => h) (Or.inl ⟨by rfl, fun wx hS => ?_⟩) SX.out ?_
  · go_simp
  try simp only [Act.put, List.getElem_toArray, List.getElem_cons_succ, List.getElem_cons_zero, List.setIfInBounds_toArray, List.set_cons_zero, List.set_cons_succ]
  refine wpAnyH_take (i := 27) (v := .bool true) rfl (by kernel_rfl) (by kernel_rfl) (by kernel_rfl) (fun _ _ _ h => h) (Or.inl ⟨by rfl, fun wx hS => ?_⟩) SX.out ?_
  · go_simp
  try simp only [Act.put, List.getElem_toArray, List.getElem_cons_succ, List.getElem_cons_zero, List.setIfInBounds_toArray, List.set_cons_zero, List.set_cons_succ]
  refine wpAnyH_take (i := 28) (v := .bool true) rfl (by kernel_rfl) (by kernel_rfl) (by kernel_rfl) (fun _ _ _ h => h) (Or.inl ⟨by rfl, fun wx hS => ?_⟩) SX.out ?_
  · go_simp
  try simp only [Act.put, List.getElem_toArray, List.getElem_cons_succ, List.getElem_cons_zero, List.setIfInBounds_toArray, List.set_cons_zero, List.set_cons_succ]
  refine wpAnyH_take (i := 29) (v := obV k' x' n' a' l' s') rfl (by kernel_rfl) (by kernel_rfl) (by kernel_rfl) (fun _ _ _ h => h) (Or.inl ⟨by rfl, fun wx hS => ?_⟩) SX.out ?_
  · have ⟨c0, c1, c2, c3, c4, c5⟩ := OC.out.later hS; have ⟨u0, u1, u2, u3, u4, u5⟩ := XC.out.later hS; have ⟨v0, v1, v2, v3, v4, v5⟩ := YC.out.later hS; go_simp
  try simp only [Act.put, List.getElem_toArray, List.getElem_cons_succ, List.getElem_cons_zero, List.setIfInBounds_toArray, List.set_cons_zero, List.set_cons_succ]
  refine wpAnyH_take (i := 30) (v := obV k' x' n' a' l' s') rfl (by kernel_rfl) (by kernel_rfl) (by kernel_rfl) (fun _ _ _ h => h) (Or.inl ⟨by rfl, fun wx hS => ?_⟩) SX.out ?_
  · have ⟨c0, c1, c2, c3, c4, c5⟩ := OC.out.later hS; have ⟨u0, u1, u2, u3, u4, u5⟩ := XC.out.later hS; have ⟨v0, v1, v2, v3, v4, v5⟩ := YC.out.later hS; go_simp
  try simp only [Act.put, List.getElem_toArray, List.getElem_cons_succ, List.getElem_cons_zero, List.setIfInBounds_toArray, List.set_cons_zero, List.set_cons_succ]
  refine wpAnyH_take (i := 31) (v := .bool true) rfl (by kernel_rfl) (by kernel_rfl) (by kernel_rfl) (fun _ _ _ h => h) (Or.inl ⟨by rfl, fun wx hS => ?_⟩) SX.out ?_
  · go_simp
  try simp only [Act.put, List.getElem_toArray, List.getElem_cons_succ, List.getElem_cons_zero, List.setIfInBounds_toArray, List.set_cons_zero, List.set_cons_succ]
  refine wpAnyH_take (i := 32) (v := .bool true) rfl (by kernel_rfl) (by kernel_rfl) (by kernel_rfl) (fun _ _ _ h => h) (Or.inl ⟨by rfl, fun wx hS => ?_⟩) SX.out ?_
  · go_simp
  try simp only [Act.put, List.getElem_toArray, List.getElem_cons_succ, List.getElem_cons_zero, List.setIfInBounds_toArray, List.set_cons_zero, List.set_cons_succ]
  refine wpAnyH_take (i := 33) (v := .bool true) rfl (by kernel_rfl) (by kernel_rfl) (by kernel_rfl) (fun _ _ _ h => h) (Or.inl ⟨by rfl, fun wx hS => ?_⟩) SX.out ?_
  · go_simp
  try simp only [Act.put, List.getElem_toArray, List.getElem_cons_succ, List.getElem_cons_zero, List.setIfInBounds_toArray, List.set_cons_zero, List.set_cons_succ]
  refine wpAnyH_take (i := 34) (v := .int .i64 zp) rfl (by kernel_rfl) (by kernel_rfl) (by kernel_rfl) (fun _ _ _ h => h) (Or.inl ⟨by rfl, fun wx hS => ?_⟩) SX.out ?_
  · go_simp
  try simp only [Act.put, List.getElem_toArray, List.getElem_cons_succ, List.getElem_cons_zero, List.setIfInBounds_toArray, List.set_cons_zero, List.set_cons_succ]
  refine wpAnyH_take (i := 35) (v := .int .i64 zp) rfl (by kernel_rfl) (by kernel_rfl) (by kernel_rfl) (fun _ _ _ h => h) (Or.inl ⟨by rfl, fun wx hS => ?_⟩) SX.out ?_
  · go_simp
  try simp only [Act.put, List.getElem_toArray, List.getElem_cons_succ, List.getElem_cons_zero, List.setIfInBounds_toArray, List.set_cons_zero, List.set_cons_succ]
  refine wpAnyH_take (i := 36) (v := .bool true) rfl (by kernel_rfl) (by kernel_rfl) (by kernel_rfl) (fun _ _ _ h => h) (Or.inl ⟨by rfl, fun wx hS => ?_⟩) SX.out ?_
  · go_simp
  try simp only [Act.put, List.getElem_toArray, List.getElem_cons_succ, List.getElem_cons_zero, List.setIfInBounds_toArray, List.set_cons_zero, List.set_cons_succ]
  refine wpAnyH_take (i := 37) (v := .bool true) rfl (by kernel_rfl) (by kernel_rfl) (by kernel_rfl) (fun _ _ _ h => h) (Or.inl ⟨by rfl, fun wx hS => ?_⟩) SX.out ?_
  · go_simp
  try simp only [Act.put, List.getElem_toArray, List.getElem_cons_succ, List.getElem_cons_zero, List.setIfInBounds_toArray, List.set_cons_zero, List.set_cons_succ]
  refine wpAnyH_take (i := 38) (v := .bool true) rfl (by kernel_rfl) (by kernel_rfl) (by kernel_rfl) (fun _ _ _ h => h) (Or.inl ⟨by rfl, fun wx hS => ?_⟩) SX.out ?_
  · go_simp
  try simp only [Act.put, List.getElem_toArray, List.getElem_cons_succ, List.getElem_cons_zero, List.setIfInBounds_toArray, List.set_cons_zero, List.set_cons_succ]
  refine wpAnyH_take (i := 39) (v := ptr hb) rfl (by kernel_rfl) (by kernel_rfl) (by kernel_rfl) (fun _ _ _ h => h) (Or.inl ⟨by rfl, fun wx hS => ?_⟩) SX.out ?_
  · go_simp
  try simp only [Act.put, List.getElem_toArray, List.getElem_cons_succ, List.getElem_cons_zero, List.setIfInBounds_toArray, List.set_cons_zero, List.set_cons_succ]
  refine wpAnyH_take (i := 40) (v := obV k x n a l s) rfl (by kernel_rfl) (by kernel_rfl) (by kernel_rfl) (fun _ _ _ h => h) (Or.inl ⟨by rfl, fun wx hS => ?_⟩) SX.out ?_
  · have ⟨c0, c1, c2, c3, c4, c5⟩ := OC.out.later hS; have ⟨u0, u1, u2, u3, u4, u5⟩ := XC.out.later hS; have ⟨v0, v1, v2, v3, v4, v5⟩ := YC.out.later hS; go_simp
  try simp only [Act.put, List.getElem_toArray, List.getElem_cons_succ, List.getElem_cons_zero, List.setIfInBounds_toArray, List.set_cons_zero, List.set_cons_succ]
  refine wpAnyH_take (i := 42) (v := ptr rb) rfl (by kernel_rfl) (by kernel_rfl) (by kernel_rfl) (fun _ _ _ h => h) (Or.inl ⟨by rfl, fun wx hS => ?_⟩) SX.out ?_
  · go_simp
  try simp only [Act.put, List.getElem_toArray, List.getElem_cons_succ, List.getElem_cons_zero, List.setIfInBounds_toArray, List.set_cons_zero, List.set_cons_succ]
  refine wpAnyH_take (i := 43) (v := obV k x n a l s) rfl (by kernel_rfl) (by kernel_rfl) (by kernel_rfl) (fun _ _ _ h => h) (Or.inl ⟨by rfl, fun wx hS => ?_⟩) SX.out ?_
  · have ⟨c0, c1, c2, c3, c4, c5⟩ := OC.out.later hS; have ⟨u0, u1, u2, u3, u4, u5⟩ := XC.out.later hS; have ⟨v0, v1, v2, v3, v4, v5⟩ := YC.out.later hS; go_simp
  try simp only [Act.put, List.getElem_toArray, List.getElem_cons_succ, List.getElem_cons_zero, List.setIfInBounds_toArray, List.set_cons_zero, List.set_cons_succ]
  refine wpAnyH_ready (rs := [41]) (by kernel_rfl) (by simp) ?_
  refine AllReadyH.cons rfl (fun K hK => ?_) AllReadyH.nil
  go_simp
  refine (M1.out _ (below_and KC.out SX.out)).mono ?_
  rintro e wf ⟨rfl, kk⟩
  replace SX := Lib.hid (below_and SX.out kk)
  clear kk
  refine hK.out _ _ SX.out (fun _ => ?_)
  clear hK
  try simp only [Act.put, List.getElem_toArray, List.getElem_cons_succ, List.getElem_cons_zero, List.setIfInBounds_toArray, List.set_cons_zero, List.set_cons_succ]
  refine wpAnyH_ready (rs := [44]) (by kernel_rfl) (by simp) ?_
  refine AllReadyH.cons rfl (fun K hK => ?_) AllReadyH.nil
  go_simp
  refine (M2.out _ (below_and KC.out SX.out)).mono ?_
  rintro e wg ⟨rfl, kk⟩
  replace SX := Lib.hid (below_and SX.out kk)
  clear kk
  refine hK.out _ _ SX.out (fun _ => ?_)
  clear hK
  try simp only [Act.put, List.getElem_toArray, List.getElem_cons_succ, List.getElem_cons_zero, List.setIfInBounds_toArray, List.set_cons_zero, List.set_cons_succ]
  refine wpAnyH_take (i := 45) (v := .bool true) rfl (by kernel_rfl) (by kernel_rfl) (by kernel_rfl) (fun _ _ _ h => h) (Or.inl ⟨by rfl, fun wx hS => ?_⟩) SX.out ?_
  · go_simp
  try simp only [Act.put, List.getElem_toArray, List.getElem_cons_succ, List.getElem_cons_zero, List.setIfInBounds_toArray, List.set_cons_zero, List.set_cons_succ]
  refine wpAnyH_take (i := 46) (v := .bool true) rfl (by kernel_rfl) (by kernel_rfl) (by kernel_rfl) (fun _ _ _ h => h) (Or.inl ⟨by rfl, fun wx hS => ?_⟩) SX.out ?_
  · go_simp
  try simp only [Act.put, List.getElem_toArray, List.getElem_cons_succ, List.getElem_cons_zero, List.setIfInBounds_toArray, List.set_cons_zero, List.set_cons_succ]
  refine wpAnyH_take (i := 47) (v := .bool true) rfl (by kernel_rfl) (by kernel_rfl) (by kernel_rfl) (fun _ _ _ h => h) (Or.inl ⟨by rfl, fun wx hS => ?_⟩) SX.out ?_
  · go_simp
  try simp only [Act.put, List.getElem_toArray, List.getElem_cons_succ, List.getElem_cons_zero, List.setIfInBounds_toArray, List.set_cons_zero, List.set_cons_succ]
  refine wpAnyH_done (by kernel_rfl) ?_ _
  (try refine no_panic ?_)
  go_wp2
  go_ret
  exact ⟨rfl, below_and KC.out SX.out⟩
end Go.Proofs.Ytmlkmgeddkpgiaa

/- HeapPlays: same of tympanlaw11 over both sides. -/
namespace Go.Proofs.Ytmlkmgeddkpgiaa
open Go.RowKit
set_option linter.unusedVariables false
theorem Play.wf {out : Nat → Prop} {hb gb rb fb : Nat} {P Q A B : List Cel} {w : World} (h : Play out hb gb rb fb P Q A B w) : WfP P := by
  obtain ⟨own, v, R, vF, F, ⟨role, c, d, h1, h2, h3, ⟨vc, ivs, pb, rv, h4⟩, _⟩, _⟩ := h
  exact h4.wf
theorem its_len {P : List Cel} (h : WfP P) (o : Ob) : (itsL P o).length ≤ 40000 := by
  rw [itsL]
  split
  · rw [itemsL]
    have h1 : (cellOf P o).size ≤ 40000 := by
      by_cases e : o.n.toNat < P.length
      · have hm : P[o.n.toNat] ∈ P := List.getElem_mem e
        have : cellOf P o = P[o.n.toNat] := by rw [cellOf, List.getD_eq_getElem?_getD, List.getElem?_eq_getElem e]; rfl
        rw [this]
        have h2 := sum_le_used hm
        exact Nat.le_trans h2 h.used
      · have : cellOf P o = Cel.none := by rw [cellOf, List.getD_eq_getElem?_getD, List.getElem?_eq_none (by omega)]; rfl
        rw [this]
        decide
    have h2 : (cellOf P o).it.length ≤ (cellOf P o).size := Nat.le_add_right _ _
    simp
    omega
  · simp
theorem alike_any {out : Nat → Prop} {hb gb rb fb : Nat} {P Q B : List Cel} {w : World} (h : Play out hb gb rb fb P Q P B w) (o : Ob) (i : Int) : Calls Try.prog 22 #[ptr hb, ptr rb, o.val, .int .i64 i] w fun e w' => e = .returned (.bool true) ∧ Below w.heap.size w w' :=
  same_walk hb rb o.k o.x o.n o.a o.l o.s i (lenO P o) (errO P o) (itsE P o) (bytE P o) (getE P o i) (bytV P o) (mayH P o) (itsL P o) (its_len h.wf o) (getO P o i).k (getO P o i).x (getO P o i).n (getO P o i).a (getO P o i).l (getO P o i).s w
    (Lib.hid fun wx kx => pSize (h.below kx) o) (Lib.hid fun wx kx => pItems (h.below kx) o) (Lib.hid fun wx kx => pBytes (h.below kx) o) (Lib.hid fun wx kx => pGet (h.below kx) o i) (Lib.hid fun wx kx => pMay (h.below kx) o)
    (Lib.hid fun wx kx => qSize (h.below kx) o) (Lib.hid fun wx kx => qItems (h.below kx) o) (Lib.hid fun wx kx => qBytes (h.below kx) o) (Lib.hid fun wx kx => qGet (h.below kx) o i) (Lib.hid fun wx kx => qMay (h.below kx) o)
end Go.Proofs.Ytmlkmgeddkpgiaa

/- HeapPlays: a round: both sides, the boxes of the law and its list of objects. -/
namespace Go.Proofs.Ytmlkmgeddkpgiaa
open Go.RowKit
set_option linter.unusedVariables false

/-- Both sides, the boxes bs (a block and what lies in it), the list X of the objects so far in va; w0 is the world at the call. -/
structure Rd (w0 : World) (hb gb rb fb : Nat) (P Q A B : List Cel) (va : Value) (X : List Ob) (bs : List (Nat × Obj)) (w : World) : Prop where
  st : ∃ out, Play out hb gb rb fb P Q A B w ∧ (∀ b, b < w0.heap.size → out b) ∧ (∀ p, p ∈ bs → out p.1) ∧ ∀ g, va.ownBlock = some g → out g
  box : ∀ p, p ∈ bs → w.heap[p.1]? = some p.2 ∧ w0.heap.size ≤ p.1
  nd : (bs.map (·.1)).Nodup
  row : w.ownsRow w0.heap.size 24 6 va X.length (obCells X)
  far : ∀ g, va.ownBlock = some g → ∀ p, p ∈ bs → p.1 ≠ g
  below : Below w0.heap.size w0 w
section
variable {w0 w w' : World} {hb gb rb fb : Nat} {P Q A B : List Cel} {va : Value} {X : List Ob} {bs : List (Nat × Obj)}
theorem Rd.blk (h : Rd w0 hb gb rb fb P Q A B va X bs w) {p : Nat × Obj} (q : p ∈ bs) : p.1 < w.heap.size := by
  obtain ⟨out, h1, _, h3, _⟩ := h.st
  exact h1.lt (h3 p q)
/-- A call: what it leaves of what is ours. -/
theorem Rd.step (h : Rd w0 hb gb rb fb P Q A B va X bs w) : ∃ out, Play out hb gb rb fb P Q A B w ∧ ∀ (hb' gb' rb' fb' : Nat) (P' Q' A' B' : List Cel) (w' : World), Play out hb' gb' rb' fb' P' Q' A' B' w' → Kept out w w' → Rd w0 hb' gb' rb' fb' P' Q' A' B' va X bs w' := by
  obtain ⟨out, h1, h2, h3, h4⟩ := h.st
  exact ⟨out, h1, fun _ _ _ _ _ _ _ _ w' p k => ⟨⟨out, p, h2, h3, h4⟩, fun q m => ⟨(k.block _ (h3 q m)).trans (h.box q m).1, (h.box q m).2⟩, h.nd, owns_at h.row fun g e => k.block g (h4 g e), h.far, h.below.trans (k.below fun b q => h2 b q)⟩⟩
theorem Rd.later (h : Rd w0 hb gb rb fb P Q A B va X bs w) (k : Below w.heap.size w w') : Rd w0 hb gb rb fb P Q A B va X bs w' := by
  obtain ⟨out, h1, fin⟩ := h.step
  exact fin _ _ _ _ _ _ _ _ w' (h1.below k) (h1.kept k)
theorem Rd.new (h : Rd w0 hb gb rb fb P Q A B va X bs w) (o : Obj) : Rd w0 hb gb rb fb P Q A B va X ((w.heap.size, o) :: bs) (w.alloc o) := by
  obtain ⟨out, h1, h2, h3, h4⟩ := h.st
  have hn : w0.heap.size ≤ w.heap.size := h.below.size
  refine ⟨⟨_, h1.box o, fun b q => .inl (h2 b q), fun p q => ?_, fun g e => .inl (h4 g e)⟩, fun p q => ?_, ?_, owns_at h.row fun g e => Below.heap_alloc _ _ _ (h1.lt (h4 g e)), fun g e p q => ?_, h.below.trans ((box_below w o).mono hn)⟩
  · rcases List.mem_cons.1 q with rfl | q
    · exact .inr rfl
    · exact .inl (h3 p q)
  · rcases List.mem_cons.1 q with rfl | q
    · exact ⟨heap_alloc_new _ _, hn⟩
    · exact ⟨(Below.heap_alloc _ _ _ (h.blk q)).trans (h.box p q).1, (h.box p q).2⟩
  · rw [List.map_cons, List.nodup_cons]
    refine ⟨fun e => ?_, h.nd⟩
    obtain ⟨p, q, e⟩ := List.mem_map.1 e
    have := h.blk q
    omega
  · rcases List.mem_cons.1 q with rfl | q
    · have := h1.lt (h4 g e)
      show w.heap.size ≠ g
      omega
    · exact h.far g e p q
theorem Rd.sub {bs' : List (Nat × Obj)} (h : Rd w0 hb gb rb fb P Q A B va X bs w) (s : bs'.Sublist bs) : Rd w0 hb gb rb fb P Q A B va X bs' w := by
  obtain ⟨out, h1, h2, h3, h4⟩ := h.st
  exact ⟨⟨out, h1, h2, fun p q => h3 p (s.subset q), h4⟩, fun p q => h.box p (s.subset q), h.nd.sublist (s.map _), h.row, fun g e p q => h.far g e p (s.subset q), h.below⟩
/-- The newest box is written. -/
theorem Rd.set {b : Nat} {o o' : Obj} (h : Rd w0 hb gb rb fb P Q A B va X ((b, o) :: bs) w) (on : Only b w w') (hb' : w'.heap[b]? = some o') : Rd w0 hb gb rb fb P Q A B va X ((b, o') :: bs) w' := by
  obtain ⟨out, h1, h2, h3, h4⟩ := h.st
  have ob : out b := h3 _ (List.mem_cons_self ..)
  have hb0 : w0.heap.size ≤ b := (h.box _ (List.mem_cons_self ..)).2
  have nd := h.nd
  rw [List.map_cons, List.nodup_cons] at nd
  refine ⟨⟨out, (h1.mine (kept_only on fun q => q.2 ob)).sub fun b q => .inl q, h2, fun p q => ?_, h4⟩, fun p q => ?_, ?_, owns_at h.row fun g e => on.block g fun e' => h.far g e _ (List.mem_cons_self ..) e'.symm, fun g e p q => ?_, h.below.trans (Kept.below (kept_only on (own := fun c => c < w0.heap.size) (by omega)) fun b q => q)⟩
  · rcases List.mem_cons.1 q with rfl | q
    · exact ob
    · exact h3 p (List.mem_cons_of_mem _ q)
  · rcases List.mem_cons.1 q with rfl | q
    · exact ⟨hb', hb0⟩
    · refine ⟨(on.block _ fun e => nd.1 (List.mem_map.2 ⟨p, q, e⟩)).trans (h.box p (List.mem_cons_of_mem _ q)).1, (h.box p (List.mem_cons_of_mem _ q)).2⟩
  · rw [List.map_cons, List.nodup_cons]
    exact nd
  · rcases List.mem_cons.1 q with rfl | q
    · exact h.far g e (b, o) (List.mem_cons_self ..)
    · exact h.far g e p (List.mem_cons_of_mem _ q)
/-- The list has grown by an object. -/
theorem Rd.push {g cap : Nat} {p : Option Addr} {c : Nat} {x : Ob} (h : Rd w0 hb gb rb fb P Q A B (.slice p X.length c) X bs w)
    (hown : w'.ownsRow w0.heap.size 24 6 (.slice (some ⟨g, 0, none⟩) (X.length + 1) cap) (X.length + 1) (obCells X ++ x.cells)) (hg : w.grownBy w' (Value.slice p X.length c).ownBlock) (hw : (Value.slice p X.length c).ownBlock = some g ∨ w.heap.size ≤ g) :
    Rd w0 hb gb rb fb P Q A B (.slice (some ⟨g, 0, none⟩) (X.length + 1) cap) (X ++ [x]) bs w' := by
  obtain ⟨out, h1, h2, h3, h4⟩ := h.st
  have ne : ∀ b, b < w.heap.size → (Value.slice p X.length c).ownBlock ≠ some b → w'.heap[b]? = w.heap[b]? := fun b hb q => hg.block b hb fun e => q e.symm
  have kk : Kept (fun b => b < w.heap.size ∧ ¬ out b) w w' := ⟨hg.os, hg.tape, hg.output, hg.size, fun b q => ne b q.1 fun e => q.2 (h4 b e)⟩
  have lg := (hown.lt g rfl).2
  have row0 := h.row
  refine ⟨⟨_, h1.mine kk, fun b q => .inl (h2 b q), fun p q => .inl (h3 p q), fun g' e => ?_⟩, fun p q => ⟨(ne _ (h.blk q) fun e => h.far _ e p q rfl).trans (h.box p q).1, (h.box p q).2⟩, h.nd, ?_, fun g' e p q => ?_, h.below.trans ⟨hg.os, hg.tape, hg.output, hg.size, fun b q => ne b (h1.lt (h2 b q)) fun e => by have := (row0.lt b e).1; omega⟩⟩
  · obtain rfl := own_eq e
    rcases hw with r | r
    · exact .inl (h4 _ r)
    · exact .inr ⟨r, lg⟩
  · have e : (X ++ [x]).length = X.length + 1 := by simp
    rw [e, obCells_append]
    simpa [obCells] using hown
  · obtain rfl := own_eq e
    rcases hw with r | r
    · exact h.far _ r p q
    · have := h.blk q
      omega
theorem Rd.lis (h : Rd w0 hb gb rb fb P Q A B va X bs w) : Lis w va X := Lis.of_owns h.row
end
end Go.Proofs.Ytmlkmgeddkpgiaa

/- HeapPlays: the beginning, and a step as it lies in the list. -/
namespace Go.Proofs.Ytmlkmgeddkpgiaa
open Go.RowKit
set_option linter.unusedVariables false

/-- A new heap of the reference (as in SavePlays). -/
theorem RH.fresh (w : World) : RH (fun b => b = w.heap.size) w.heap.size (.slice none 0 0) [] (w.alloc (.cells #[.slice none 0 0] 31)) :=
  ⟨heap_alloc_new _ _, rfl, .inl ⟨rfl, rfl, rfl⟩, fun i r h => (by simp at h), ⟨Nat.zero_le _, by decide, fun c h => by simp [cels] at h⟩, fun g h => (by simp [Value.ownBlock] at h)⟩
/-- One heap of the program; what is ours has the colour 0. -/
def OneH (own : Nat → Prop) (hb : Nat) (P : List Cel) (w : World) : Prop := ∃ role, PHeap role 1 hb P w ∧ ∀ b, own b → b < w.heap.size ∧ (role b).1 = 0
theorem OneH.new (w : World) : OneH (fun b => b < w.heap.size) w.heap.size [] (w.alloc (.cells #[.slice none 0 0, .int .i64 0] 97)) :=
  ⟨_, newHeap (fun _ => (0, 0)) 1 w, fun b hb => ⟨by simp; omega, by rw [paint_old hb]⟩⟩
theorem OneH.box {own : Nat → Prop} {hb : Nat} {P : List Cel} {w : World} (h : OneH own hb P w) (o : Obj) : OneH (fun b => own b ∨ b = w.heap.size) hb P (w.alloc o) := by
  obtain ⟨role, ⟨vc, ivs, pb, rv, h1⟩, h2⟩ := h
  refine ⟨paint role w.heap.size fun _ => (0, 0), ⟨vc, ivs, pb, rv, h1.paint (box_below _ _) _⟩, fun b hb => ?_⟩
  rcases hb with hb | rfl
  · have := h2 b hb
    rw [paint_old this.1]
    exact ⟨by simp; omega, this.2⟩
  · exact ⟨by simp, by rw [paint_new (Nat.le_refl _)]⟩
theorem cloneHeap {own : Nat → Prop} {hb : Nat} {P : List Cel} {w : World} (h : OneH own hb P w) : Calls Try.prog 10 #[ptr hb] w fun e w' => ∃ nb, e = .returned (ptr nb) ∧ TwoH own hb nb P P w' ∧ Kept own w w' := by
  obtain ⟨role, ⟨vc, ivs, pb, rv, h4⟩, h6⟩ := h
  refine copy_walk hb (fun nb w' => TwoH own hb nb P P w' ∧ Kept own w w') w (Lib.hid ?_)
  have hp := h4.paint (box_below w (.cells #[.slice none 0 0, .int .i64 0] 97)) fun _ => (2, 0)
  refine (become_any hp 2 w.heap.size (by omega) _ _ (heap_alloc_new _ _) (paint_new (Nat.le_refl _))).mono ?_
  rintro e w' ⟨rfl, role', q1, q2⟩
  have hsz : w.heap.size ≤ w'.heap.size := Nat.le_trans (by simp) q2.size
  refine ⟨rfl, ⟨role', 1, 2, by omega, by omega, by omega, PHeap.keep (⟨_, _, _, _, hp⟩ : PHeap _ 1 hb P _) q2 (by omega), q1, fun b q => ?_⟩, q2.os, q2.tape, q2.output, hsz, fun b q => ?_⟩
  · have hl := (h6 b q).1
    refine ⟨Nat.lt_of_lt_of_le hl hsz, ?_⟩
    rw [q2.same b (by simp; omega), paint_old hl]
    exact (h6 b q).2
  · have hl := (h6 b q).1
    rw [q2.block b (by simp; omega) (by rw [paint_old hl, (h6 b q).2]; omega), Below.heap_alloc _ _ _ hl]
theorem Play.start {own out : Nat → Prop} {hb gb rb : Nat} {w : World} {v : Value} (h : TwoH (fun b => own b ∨ out b) hb gb [] [] w) (r : RH own rb v [] w) (d : ∀ b, out b → ¬ own b) :
    Calls Try.prog 11 #[ptr rb] w fun e w' => ∃ fb, e = .returned (ptr fb) ∧ Play out hb gb rb fb [] [] [] [] w' ∧ Kept out w w' := by
  have ho := fun b (q : own b) => h.lt (.inl q)
  refine (rcopy_any r ho).mono ?_
  rintro e w' ⟨nf, rfl, ⟨vN, r1⟩, r2, k⟩
  refine ⟨nf, rfl, ⟨Plus own w w', v, [], vN, [], (h.mut (kept_of k fun b q => q.1)).sub ?_, r2, r1, ?_, rfl, rfl⟩, kept_of k fun b q => h.lt (.inr q)⟩
  · rintro b ((q | q) | q)
    · exact .inl (.inl q)
    · exact .inr q
    · exact .inl (.inr q)
  · rintro b q (q' | q')
    · exact d b q q'
    · have := h.lt (.inr q)
      omega
/-- A step: its cells in the row. -/
structure StepV where
  what : Int
  a : Int
  b : Int
  n : Int
  m : Int
  s : ByteArray
  o : Ob
abbrev stepL (A : StepV) : List Value := [.int .i64 A.what, .int .i64 A.a, .int .i64 A.b, .int .i64 A.n, .int .i64 A.m, .string A.s, .int .i64 A.o.k, .bool A.o.x, .int .i64 A.o.n, .int .i64 A.o.a, .int .i64 A.o.l, .string A.o.s]
structure StepAt (w : World) (p : Option Addr) (i : Nat) (A : StepV) : Prop where
  at_ : ∃ ad, p = some ad ∧ ad.block < w.heap.size ∧ ∀ j u, (stepL A)[j]? = some u → w.cell? ((ad.add (i * 12)).add j) = some u
  nb : A.n < 9223372036854775808
  mb : A.m < 9223372036854775808
theorem addBlock (a : Addr) (k : Nat) : (a.add k).block = a.block := by
  unfold Addr.add
  split <;> rfl
end Go.Proofs.Ytmlkmgeddkpgiaa

/- HeapPlays: region 13, both picks and their boxes, over its frame written out. -/
namespace Go.Proofs.Ytmlkmgeddkpgiaa
open Go.RowKit
set_option linter.unusedVariables false
set_option linter.unusedSimpArgs false

/-- A region of a code, by its number. -/
def regionAt (n : Nat) : Code → Option Code
  | .region k ops d => if k = n then some (.region k ops d) else none
  | .seq a b => match regionAt n a with
    | some c => some c
    | none => regionAt n b
  | .cond _ a b => match regionAt n a with
    | some c => some c
    | none => regionAt n b
  | .block _ c => regionAt n c
  | .loop c => regionAt n c
  | _ => none
noncomputable def codeAt (n : Nat) : Code := (Try.f3.body.bind (regionAt n)).getD .skip
theorem Rd.swap {w0 w : World} {hb gb rb fb : Nat} {P Q A B : List Cel} {va : Value} {X : List Ob} {p q : Nat × Obj} {bs : List (Nat × Obj)} (h : Rd w0 hb gb rb fb P Q A B va X (p :: q :: bs) w) : Rd w0 hb gb rb fb P Q A B va X (q :: p :: bs) w := by
  obtain ⟨out, h1, h2, h3, h4⟩ := h.st
  have m : ∀ r, r ∈ q :: p :: bs → r ∈ p :: q :: bs := fun r hr => (List.Perm.swap p q bs).mem_iff.1 hr
  exact ⟨⟨out, h1, h2, fun r hr => h3 r (m r hr), h4⟩, fun r hr => h.box r (m r hr), ((List.Perm.swap p q bs).map _).nodup_iff.2 h.nd, h.row, fun g e r hr => h.far g e r (m r hr), h.below⟩
set_option maxHeartbeats 20000000 in
set_option maxRecDepth 1000000 in
theorem reg13 (w0 wb : World) (hb gb rb fb : Nat) (P Q : List Cel) (va : Value) (X : List Ob) (bs : List (Nat × Obj)) (ba : Nat) (A : StepV) (k1 : Int) (x_1 : Bool) (n1 a1 l1 : Int) (s1 : ByteArray) (k2 : Int) (x_2 : Bool) (n2 a2 l2 : Int) (s2 : ByteArray)
    (x0 x1 x2 x3 x4 x5 x6 x7 x8 x10 x12 x13 x14 x15 x16 x17 x18 x19 x20 x21 x22 x23 x24 x25 x26 x27 x28 x29 x30 x31 x32 x33 x34 x35 x36 x37 x38 x39 x40 x41 x42 x43 x44 x45 x46 x47 x48 x49 x50 x51 x52 x53 x54 x55 x56 x57 x58 x59 x60 x61 x62 x63 x64 x65 x66 x67 x68 x69 x70 x71 x72 x73 x74 x75 x76 x77 x78 x79 x80 x81 x82 x83 x84 x85 x86 x87 x88 x89 x90 x91 x92 x93 x94 x95 x96 x97 x98 x99 x100 x101 x102 x103 x104 x105 x106 x107 x108 x109 x110 x111 x112 x113 x114 x115 x116 x117 x118 x119 x120 x121 x122 x123 x124 x125 x126 x127 x128 x129 x130 x131 x132 x133 x134 x135 x136 x137 x138 x139 x140 x141 x142 x143 x144 x145 x146 x147 x148 x149 x150 x151 x152 x153 x154 x155 x156 x157 x158 x159 x160 x161 x162 x163 x164 x165 x166 x167 x168 x169 x170 x171 x172 x173 x174 x175 x176 x177 x178 x179 x180 x181 x182 x183 x184 x185 x186 x187 x188 x189 x190 x191 x192 x193 x194 x195 x196 x197 x198 x199 x200 x201 x202 x203 x204 x205 x206 x207 x208 x209 x210 x211 x212 x213 x214 : Value)
    (C1 : Hid (∀ wx, Lis wx va X → Calls Try.prog 12 #[va, .int .i64 A.a, obV A.o.k A.o.x A.o.n A.o.a A.o.l A.o.s] wx fun e w' => e = .returned (obV k1 x_1 n1 a1 l1 s1) ∧ Below wx.heap.size wx w'))
    (C2 : Hid (∀ wx, Lis wx va X → Calls Try.prog 12 #[va, .int .i64 A.b, obV A.o.k A.o.x A.o.n A.o.a A.o.l A.o.s] wx fun e w' => e = .returned (obV k2 x_2 n2 a2 l2 s2) ∧ Below wx.heap.size wx w'))
    (RB : Hid (Rd w0 hb gb rb fb P Q P Q va X ((ba, stObj A.what A.a A.b A.n A.m A.s A.o.k A.o.x A.o.n A.o.a A.o.l A.o.s) :: bs) wb)) (Q0 : Exit → Act → World → Prop)
    (hexit : Hid (∀ (b1 b2 : Nat) (y53 y54 y55 y56 y57 y58 y59 y60 y61 y62 y63 y64 : Value) (wj : World), Rd w0 hb gb rb fb P Q P Q va X ((b2, obObj k2 x_2 n2 a2 l2 s2) :: (b1, obObj k1 x_1 n1 a1 l1 s1) :: (ba, stObj A.what A.a A.b A.n A.m A.s A.o.k A.o.x A.o.n A.o.a A.o.l A.o.s) :: bs) wj → Q0 .normal ⟨#[x0, x1, x2, x3, x4, x5, x6, x7, x8, va, x10, .pointer (some ⟨ba, 0, none⟩), .pointer (some ⟨b1, 0, none⟩), .pointer (some ⟨b2, 0, none⟩), x14, x15, x16, x17, x18, x19, x20, x21, x22, x23, x24, x25, x26, x27, x28, x29, x30, x31, x32, x33, x34, x35, x36, x37, x38, x39, x40, x41, x42, x43, x44, x45, x46, x47, x48, x49, x50, x51, x52, y53, y54, y55, y56, y57, y58, y59, y60, y61, y62, y63, y64, x65, x66, x67, x68, x69, x70, x71, x72, x73, x74, x75, x76, x77, x78, x79, x80, x81, x82, x83, x84, x85, x86, x87, x88, x89, x90, x91, x92, x93, x94, x95, x96, x97, x98, x99, x100, x101, x102, x103, x104, x105, x106, x107, x108, x109, x110, x111, x112, x113, x114, x115, x116, x117, x118, x119, x120, x121, x122, x123, x124, x125, x126, x127, x128, x129, x130, x131, x132, x133, x134, x135, x136, x137, x138, x139, x140, x141, x142, x143, x144, x145, x146, x147, x148, x149, x150, x151, x152, x153, x154, x155, x156, x157, x158, x159, x160, x161, x162, x163, x164, x165, x166, x167, x168, x169, x170, x171, x172, x173, x174, x175, x176, x177, x178, x179, x180, x181, x182, x183, x184, x185, x186, x187, x188, x189, x190, x191, x192, x193, x194, x195, x196, x197, x198, x199, x200, x201, x202, x203, x204, x205, x206, x207, x208, x209, x210, x211, x212, x213, x214], []⟩ wj)) :
    Code.wp Try.prog (codeAt 13) Q0 ⟨#[x0, x1, x2, x3, x4, x5, x6, x7, x8, va, x10, .pointer (some ⟨ba, 0, none⟩), x12, x13, x14, x15, x16, x17, x18, x19, x20, x21, x22, x23, x24, x25, x26, x27, x28, x29, x30, x31, x32, x33, x34, x35, x36, x37, x38, x39, x40, x41, x42, x43, x44, x45, x46, x47, x48, x49, x50, x51, x52, x53, x54, x55, x56, x57, x58, x59, x60, x61, x62, x63, x64, x65, x66, x67, x68, x69, x70, x71, x72, x73, x74, x75, x76, x77, x78, x79, x80, x81, x82, x83, x84, x85, x86, x87, x88, x89, x90, x91, x92, x93, x94, x95, x96, x97, x98, x99, x100, x101, x102, x103, x104, x105, x106, x107, x108, x109, x110, x111, x112, x113, x114, x115, x116, x117, x118, x119, x120, x121, x122, x123, x124, x125, x126, x127, x128, x129, x130, x131, x132, x133, x134, x135, x136, x137, x138, x139, x140, x141, x142, x143, x144, x145, x146, x147, x148, x149, x150, x151, x152, x153, x154, x155, x156, x157, x158, x159, x160, x161, x162, x163, x164, x165, x166, x167, x168, x169, x170, x171, x172, x173, x174, x175, x176, x177, x178, x179, x180, x181, x182, x183, x184, x185, x186, x187, x188, x189, x190, x191, x192, x193, x194, x195, x196, x197, x198, x199, x200, x201, x202, x203, x204, x205, x206, x207, x208, x209, x210, x211, x212, x213, x214], []⟩ wb := by
  have SX : Hid (wb.drew.heap[ba]? = some (stObj A.what A.a A.b A.n A.m A.s A.o.k A.o.x A.o.n A.o.a A.o.l A.o.s)) := Lib.hid (RB.out.box (ba, stObj A.what A.a A.b A.n A.m A.s A.o.k A.o.x A.o.n A.o.a A.o.l A.o.s) (by simp)).1
  have RX : Hid (Rd w0 hb gb rb fb P Q P Q va X ((ba, stObj A.what A.a A.b A.n A.m A.s A.o.k A.o.x A.o.n A.o.a A.o.l A.o.s) :: bs) wb.drew) := Lib.hid (RB.out.later (Below.refl _ _).drew)
  clear RB
  conv => arg 2; whnf
  (try refine wp_region_noPanic ?_)
  refine wp_region_held_drew (S := fun wx => wx.heap[ba]? = some (stObj A.what A.a A.b A.n A.m A.s A.o.k A.o.x A.o.n A.o.a A.o.l A.o.s)) (by kernel_rfl) SX.out (fun _ => ?_)
  generalize wb.drew = w_0 at SX RX ⊢
  refine wpAnyH_take (i := 0) (v := va) rfl (by kernel_rfl) (by kernel_rfl) (by kernel_rfl) (fun _ _ _ h => h) (Or.inl ⟨by rfl, fun wx hS => ?_⟩) SX.out ?_
  · go_simp
  try simp only [Act.put, List.getElem_toArray, List.getElem_cons_succ, List.getElem_cons_zero, List.setIfInBounds_toArray, List.set_cons_zero, List.set_cons_succ]
  refine wpAnyH_take (i := 1) (v := .pointer (some ⟨ba, 1, none⟩)) rfl (by kernel_rfl) (by kernel_rfl) (by kernel_rfl) (fun _ _ _ h => h) (Or.inl ⟨by rfl, fun wx hS => ?_⟩) SX.out ?_
  · go_simp
  try simp only [Act.put, List.getElem_toArray, List.getElem_cons_succ, List.getElem_cons_zero, List.setIfInBounds_toArray, List.set_cons_zero, List.set_cons_succ]
  refine wpAnyH_take (i := 2) (v := .int .i64 A.a) rfl (by kernel_rfl) (by kernel_rfl) (by kernel_rfl) (fun _ _ _ h => h) (Or.inl ⟨by rfl, fun wx hS => ?_⟩) SX.out ?_
  · have hc : ∀ i, wx.cell? ⟨ba, i, none⟩ = (stepL A).toArray[i]? := fun i => cellAt hS i; have c1 := hc 1; have c2 := hc 2; have c6 := hc 6; have c7 := hc 7; have c8 := hc 8; have c9 := hc 9; have c10 := hc 10; have c11 := hc 11; clear hc; go_simp
  try simp only [Act.put, List.getElem_toArray, List.getElem_cons_succ, List.getElem_cons_zero, List.setIfInBounds_toArray, List.set_cons_zero, List.set_cons_succ]
  refine wpAnyH_take (i := 3) (v := .pointer (some ⟨ba, 6, none⟩)) rfl (by kernel_rfl) (by kernel_rfl) (by kernel_rfl) (fun _ _ _ h => h) (Or.inl ⟨by rfl, fun wx hS => ?_⟩) SX.out ?_
  · go_simp
  try simp only [Act.put, List.getElem_toArray, List.getElem_cons_succ, List.getElem_cons_zero, List.setIfInBounds_toArray, List.set_cons_zero, List.set_cons_succ]
  refine wpAnyH_take (i := 4) (v := obV A.o.k A.o.x A.o.n A.o.a A.o.l A.o.s) rfl (by kernel_rfl) (by kernel_rfl) (by kernel_rfl) (fun _ _ _ h => h) (Or.inl ⟨by rfl, fun wx hS => ?_⟩) SX.out ?_
  · have hc : ∀ i, wx.cell? ⟨ba, i, none⟩ = (stepL A).toArray[i]? := fun i => cellAt hS i; have c1 := hc 1; have c2 := hc 2; have c6 := hc 6; have c7 := hc 7; have c8 := hc 8; have c9 := hc 9; have c10 := hc 10; have c11 := hc 11; clear hc; go_simp
  try simp only [Act.put, List.getElem_toArray, List.getElem_cons_succ, List.getElem_cons_zero, List.setIfInBounds_toArray, List.set_cons_zero, List.set_cons_succ]
  refine wpAnyH_take (i := 6) (v := va) rfl (by kernel_rfl) (by kernel_rfl) (by kernel_rfl) (fun _ _ _ h => h) (Or.inl ⟨by rfl, fun wx hS => ?_⟩) SX.out ?_
  · go_simp
  try simp only [Act.put, List.getElem_toArray, List.getElem_cons_succ, List.getElem_cons_zero, List.setIfInBounds_toArray, List.set_cons_zero, List.set_cons_succ]
  refine wpAnyH_take (i := 7) (v := .pointer (some ⟨ba, 2, none⟩)) rfl (by kernel_rfl) (by kernel_rfl) (by kernel_rfl) (fun _ _ _ h => h) (Or.inl ⟨by rfl, fun wx hS => ?_⟩) SX.out ?_
  · go_simp
  try simp only [Act.put, List.getElem_toArray, List.getElem_cons_succ, List.getElem_cons_zero, List.setIfInBounds_toArray, List.set_cons_zero, List.set_cons_succ]
  refine wpAnyH_take (i := 8) (v := .int .i64 A.b) rfl (by kernel_rfl) (by kernel_rfl) (by kernel_rfl) (fun _ _ _ h => h) (Or.inl ⟨by rfl, fun wx hS => ?_⟩) SX.out ?_
  · have hc : ∀ i, wx.cell? ⟨ba, i, none⟩ = (stepL A).toArray[i]? := fun i => cellAt hS i; have c1 := hc 1; have c2 := hc 2; have c6 := hc 6; have c7 := hc 7; have c8 := hc 8; have c9 := hc 9; have c10 := hc 10; have c11 := hc 11; clear hc; go_simp
  try simp only [Act.put, List.getElem_toArray, List.getElem_cons_succ, List.getElem_cons_zero, List.setIfInBounds_toArray, List.set_cons_zero, List.set_cons_succ]
  refine wpAnyH_take (i := 9) (v := .pointer (some ⟨ba, 6, none⟩)) rfl (by kernel_rfl) (by kernel_rfl) (by kernel_rfl) (fun _ _ _ h => h) (Or.inl ⟨by rfl, fun wx hS => ?_⟩) SX.out ?_
  · go_simp
  try simp only [Act.put, List.getElem_toArray, List.getElem_cons_succ, List.getElem_cons_zero, List.setIfInBounds_toArray, List.set_cons_zero, List.set_cons_succ]
  refine wpAnyH_take (i := 10) (v := obV A.o.k A.o.x A.o.n A.o.a A.o.l A.o.s) rfl (by kernel_rfl) (by kernel_rfl) (by kernel_rfl) (fun _ _ _ h => h) (Or.inl ⟨by rfl, fun wx hS => ?_⟩) SX.out ?_
  · have hc : ∀ i, wx.cell? ⟨ba, i, none⟩ = (stepL A).toArray[i]? := fun i => cellAt hS i; have c1 := hc 1; have c2 := hc 2; have c6 := hc 6; have c7 := hc 7; have c8 := hc 8; have c9 := hc 9; have c10 := hc 10; have c11 := hc 11; clear hc; go_simp
  try simp only [Act.put, List.getElem_toArray, List.getElem_cons_succ, List.getElem_cons_zero, List.setIfInBounds_toArray, List.set_cons_zero, List.set_cons_succ]
  refine wpAnyH_ready (rs := [5, 12, 13]) (by kernel_rfl) (by simp) ?_
  refine AllReadyH.cons rfl (fun K hK => ?_) (AllReadyH.cons rfl (fun K hK => ?_) (AllReadyH.cons rfl (fun K hK => ?_) AllReadyH.nil))
  · go_simp
    refine (C1.out _ RX.out.lis).mono ?_
    rintro e w_1 ⟨rfl, kk⟩
    have RY := Lib.hid (RX.out.later kk)
    clear RX SX kk
    have RX := RY
    clear RY
    have SX := Lib.hid (RX.out.box (ba, stObj A.what A.a A.b A.n A.m A.s A.o.k A.o.x A.o.n A.o.a A.o.l A.o.s) (by simp)).1
    refine hK.out _ _ SX.out (fun _ => ?_)
    clear hK
    try simp only [Act.put, List.getElem_toArray, List.getElem_cons_succ, List.getElem_cons_zero, List.setIfInBounds_toArray, List.set_cons_zero, List.set_cons_succ]
    refine wpAnyH_ready (rs := [11, 12, 13]) (by kernel_rfl) (by simp) ?_
    refine AllReadyH.cons rfl (fun K hK => ?_) (AllReadyH.cons rfl (fun K hK => ?_) (AllReadyH.cons rfl (fun K hK => ?_) AllReadyH.nil))
    · go_simp
      refine (C2.out _ RX.out.lis).mono ?_
      rintro e w_2 ⟨rfl, kk⟩
      have RY := Lib.hid (RX.out.later kk)
      clear RX SX kk
      have RX := RY
      clear RY
      have SX := Lib.hid (RX.out.box (ba, stObj A.what A.a A.b A.n A.m A.s A.o.k A.o.x A.o.n A.o.a A.o.l A.o.s) (by simp)).1
      refine hK.out _ _ SX.out (fun _ => ?_)
      clear hK
      try simp only [Act.put, List.getElem_toArray, List.getElem_cons_succ, List.getElem_cons_zero, List.setIfInBounds_toArray, List.set_cons_zero, List.set_cons_succ]
      refine wpAnyH_ready (rs := [12, 13]) (by kernel_rfl) (by simp) ?_
      refine AllReadyH.cons rfl (fun K hK => ?_) (AllReadyH.cons rfl (fun K hK => ?_) AllReadyH.nil)
      · go_simp
        obtain ⟨w_3, ey, ry⟩ : ∃ w_3, w_2.alloc emptyOb = w_3 ∧ Rd w0 hb gb rb fb P Q P Q va X ((w_2.heap.size, emptyOb) :: (ba, stObj A.what A.a A.b A.n A.m A.s A.o.k A.o.x A.o.n A.o.a A.o.l A.o.s) :: bs) w_3 := ⟨_, rfl, RX.out.new _⟩
        rw [ey]
        clear RX SX ey
        have RX := Lib.hid ry
        clear ry
        have SX := Lib.hid (RX.out.box (ba, stObj A.what A.a A.b A.n A.m A.s A.o.k A.o.x A.o.n A.o.a A.o.l A.o.s) (by simp)).1
        refine hK.out _ _ SX.out (fun _ => ?_)
        clear hK
        try simp only [Act.put, List.getElem_toArray, List.getElem_cons_succ, List.getElem_cons_zero, List.setIfInBounds_toArray, List.set_cons_zero, List.set_cons_succ]
        refine wpAnyH_ready (rs := [13]) (by kernel_rfl) (by simp) ?_
        refine AllReadyH.cons rfl (fun K hK => ?_) AllReadyH.nil
        go_simp
        obtain ⟨w_4, ey, ry⟩ : ∃ w_4, w_3.alloc emptyOb = w_4 ∧ Rd w0 hb gb rb fb P Q P Q va X ((w_3.heap.size, emptyOb) :: (w_2.heap.size, emptyOb) :: (ba, stObj A.what A.a A.b A.n A.m A.s A.o.k A.o.x A.o.n A.o.a A.o.l A.o.s) :: bs) w_4 := ⟨_, rfl, RX.out.new _⟩
        rw [ey]
        clear RX SX ey
        have RX := Lib.hid ry
        clear ry
        have SX := Lib.hid (RX.out.box (ba, stObj A.what A.a A.b A.n A.m A.s A.o.k A.o.x A.o.n A.o.a A.o.l A.o.s) (by simp)).1
        refine hK.out _ _ SX.out (fun _ => ?_)
        clear hK
        try simp only [Act.put, List.getElem_toArray, List.getElem_cons_succ, List.getElem_cons_zero, List.setIfInBounds_toArray, List.set_cons_zero, List.set_cons_succ]
        have RY := Lib.hid RX.out.swap
        clear RX
        have RX := RY
        clear RY
        obtain ⟨⟨r0, r1, r2, r3, r4, r5⟩, f0, f1, f2, f3, f4, f5⟩ := cells6 (RX.out.box (w_2.heap.size, emptyOb) (by simp)).1
        refine wpAnyH_ready (rs := [14]) (by kernel_rfl) (by simp) ?_
        refine AllReadyH.cons rfl (fun K hK => ?_) AllReadyH.nil
        go_simp
        obtain ⟨w_5, ey, by_, oy⟩ := set6_box (RX.out.box (w_2.heap.size, emptyOb) (by simp)).1 (.int .i64 k1) (.bool x_1) (.int .i64 n1) (.int .i64 a1) (.int .i64 l1) (.string s1)
        rw [ey]
        have RY := Lib.hid (RX.out.set oy by_)
        clear RX SX ey by_ oy r0 r1 r2 r3 r4 r5 f0 f1 f2 f3 f4 f5
        have RX := RY
        clear RY
        have SX := Lib.hid (RX.out.box (ba, stObj A.what A.a A.b A.n A.m A.s A.o.k A.o.x A.o.n A.o.a A.o.l A.o.s) (by simp)).1
        refine hK.out _ _ SX.out (fun _ => ?_)
        clear hK
        try simp only [Act.put, List.getElem_toArray, List.getElem_cons_succ, List.getElem_cons_zero, List.setIfInBounds_toArray, List.set_cons_zero, List.set_cons_succ]
        have RY := Lib.hid RX.out.swap
        clear RX
        have RX := RY
        clear RY
        obtain ⟨⟨r0, r1, r2, r3, r4, r5⟩, f0, f1, f2, f3, f4, f5⟩ := cells6 (RX.out.box (w_3.heap.size, emptyOb) (by simp)).1
        refine wpAnyH_ready (rs := [15]) (by kernel_rfl) (by simp) ?_
        refine AllReadyH.cons rfl (fun K hK => ?_) AllReadyH.nil
        go_simp
        obtain ⟨w_6, ey, by_, oy⟩ := set6_box (RX.out.box (w_3.heap.size, emptyOb) (by simp)).1 (.int .i64 k2) (.bool x_2) (.int .i64 n2) (.int .i64 a2) (.int .i64 l2) (.string s2)
        rw [ey]
        have RY := Lib.hid (RX.out.set oy by_)
        clear RX SX ey by_ oy r0 r1 r2 r3 r4 r5 f0 f1 f2 f3 f4 f5
        have RX := RY
        clear RY
        have SX := Lib.hid (RX.out.box (ba, stObj A.what A.a A.b A.n A.m A.s A.o.k A.o.x A.o.n A.o.a A.o.l A.o.s) (by simp)).1
        refine hK.out _ _ SX.out (fun _ => ?_)
        clear hK
        try simp only [Act.put, List.getElem_toArray, List.getElem_cons_succ, List.getElem_cons_zero, List.setIfInBounds_toArray, List.set_cons_zero, List.set_cons_succ]
        refine wpAnyH_done (by kernel_rfl) ?_ _
        (try refine no_panic ?_)
        exact hexit.out _ _ _ _ _ _ _ _ _ _ _ _ _ _ _ RX.out
      · go_simp
        obtain ⟨w_7, ey, ry⟩ : ∃ w_7, w_2.alloc emptyOb = w_7 ∧ Rd w0 hb gb rb fb P Q P Q va X ((w_2.heap.size, emptyOb) :: (ba, stObj A.what A.a A.b A.n A.m A.s A.o.k A.o.x A.o.n A.o.a A.o.l A.o.s) :: bs) w_7 := ⟨_, rfl, RX.out.new _⟩
        rw [ey]
        clear RX SX ey
        have RX := Lib.hid ry
        clear ry
        have SX := Lib.hid (RX.out.box (ba, stObj A.what A.a A.b A.n A.m A.s A.o.k A.o.x A.o.n A.o.a A.o.l A.o.s) (by simp)).1
        refine hK.out _ _ SX.out (fun _ => ?_)
        clear hK
        try simp only [Act.put, List.getElem_toArray, List.getElem_cons_succ, List.getElem_cons_zero, List.setIfInBounds_toArray, List.set_cons_zero, List.set_cons_succ]
        refine wpAnyH_ready (rs := [12]) (by kernel_rfl) (by simp) ?_
        refine AllReadyH.cons rfl (fun K hK => ?_) AllReadyH.nil
        go_simp
        obtain ⟨w_8, ey, ry⟩ : ∃ w_8, w_7.alloc emptyOb = w_8 ∧ Rd w0 hb gb rb fb P Q P Q va X ((w_7.heap.size, emptyOb) :: (w_2.heap.size, emptyOb) :: (ba, stObj A.what A.a A.b A.n A.m A.s A.o.k A.o.x A.o.n A.o.a A.o.l A.o.s) :: bs) w_8 := ⟨_, rfl, RX.out.new _⟩
        rw [ey]
        clear RX SX ey
        have RX := Lib.hid ry
        clear ry
        have SX := Lib.hid (RX.out.box (ba, stObj A.what A.a A.b A.n A.m A.s A.o.k A.o.x A.o.n A.o.a A.o.l A.o.s) (by simp)).1
        refine hK.out _ _ SX.out (fun _ => ?_)
        clear hK
        try simp only [Act.put, List.getElem_toArray, List.getElem_cons_succ, List.getElem_cons_zero, List.setIfInBounds_toArray, List.set_cons_zero, List.set_cons_succ]
        obtain ⟨⟨r0, r1, r2, r3, r4, r5⟩, f0, f1, f2, f3, f4, f5⟩ := cells6 (RX.out.box (w_7.heap.size, emptyOb) (by simp)).1
        refine wpAnyH_ready (rs := [14]) (by kernel_rfl) (by simp) ?_
        refine AllReadyH.cons rfl (fun K hK => ?_) AllReadyH.nil
        go_simp
        obtain ⟨w_9, ey, by_, oy⟩ := set6_box (RX.out.box (w_7.heap.size, emptyOb) (by simp)).1 (.int .i64 k1) (.bool x_1) (.int .i64 n1) (.int .i64 a1) (.int .i64 l1) (.string s1)
        rw [ey]
        have RY := Lib.hid (RX.out.set oy by_)
        clear RX SX ey by_ oy r0 r1 r2 r3 r4 r5 f0 f1 f2 f3 f4 f5
        have RX := RY
        clear RY
        have SX := Lib.hid (RX.out.box (ba, stObj A.what A.a A.b A.n A.m A.s A.o.k A.o.x A.o.n A.o.a A.o.l A.o.s) (by simp)).1
        refine hK.out _ _ SX.out (fun _ => ?_)
        clear hK
        try simp only [Act.put, List.getElem_toArray, List.getElem_cons_succ, List.getElem_cons_zero, List.setIfInBounds_toArray, List.set_cons_zero, List.set_cons_succ]
        have RY := Lib.hid RX.out.swap
        clear RX
        have RX := RY
        clear RY
        obtain ⟨⟨r0, r1, r2, r3, r4, r5⟩, f0, f1, f2, f3, f4, f5⟩ := cells6 (RX.out.box (w_2.heap.size, emptyOb) (by simp)).1
        refine wpAnyH_ready (rs := [15]) (by kernel_rfl) (by simp) ?_
        refine AllReadyH.cons rfl (fun K hK => ?_) AllReadyH.nil
        go_simp
        obtain ⟨w_10, ey, by_, oy⟩ := set6_box (RX.out.box (w_2.heap.size, emptyOb) (by simp)).1 (.int .i64 k2) (.bool x_2) (.int .i64 n2) (.int .i64 a2) (.int .i64 l2) (.string s2)
        rw [ey]
        have RY := Lib.hid (RX.out.set oy by_)
        clear RX SX ey by_ oy r0 r1 r2 r3 r4 r5 f0 f1 f2 f3 f4 f5
        have RX := RY
        clear RY
        have SX := Lib.hid (RX.out.box (ba, stObj A.what A.a A.b A.n A.m A.s A.o.k A.o.x A.o.n A.o.a A.o.l A.o.s) (by simp)).1
        refine hK.out _ _ SX.out (fun _ => ?_)
        clear hK
        try simp only [Act.put, List.getElem_toArray, List.getElem_cons_succ, List.getElem_cons_zero, List.setIfInBounds_toArray, List.set_cons_zero, List.set_cons_succ]
        refine wpAnyH_done (by kernel_rfl) ?_ _
        (try refine no_panic ?_)
        exact hexit.out _ _ _ _ _ _ _ _ _ _ _ _ _ _ _ RX.out
    · go_simp
      obtain ⟨w_11, ey, ry⟩ : ∃ w_11, w_1.alloc emptyOb = w_11 ∧ Rd w0 hb gb rb fb P Q P Q va X ((w_1.heap.size, emptyOb) :: (ba, stObj A.what A.a A.b A.n A.m A.s A.o.k A.o.x A.o.n A.o.a A.o.l A.o.s) :: bs) w_11 := ⟨_, rfl, RX.out.new _⟩
      rw [ey]
      clear RX SX ey
      have RX := Lib.hid ry
      clear ry
      have SX := Lib.hid (RX.out.box (ba, stObj A.what A.a A.b A.n A.m A.s A.o.k A.o.x A.o.n A.o.a A.o.l A.o.s) (by simp)).1
      refine hK.out _ _ SX.out (fun _ => ?_)
      clear hK
      try simp only [Act.put, List.getElem_toArray, List.getElem_cons_succ, List.getElem_cons_zero, List.setIfInBounds_toArray, List.set_cons_zero, List.set_cons_succ]
      refine wpAnyH_ready (rs := [11, 13]) (by kernel_rfl) (by simp) ?_
      refine AllReadyH.cons rfl (fun K hK => ?_) (AllReadyH.cons rfl (fun K hK => ?_) AllReadyH.nil)
      · go_simp
        refine (C2.out _ RX.out.lis).mono ?_
        rintro e w_12 ⟨rfl, kk⟩
        have RY := Lib.hid (RX.out.later kk)
        clear RX SX kk
        have RX := RY
        clear RY
        have SX := Lib.hid (RX.out.box (ba, stObj A.what A.a A.b A.n A.m A.s A.o.k A.o.x A.o.n A.o.a A.o.l A.o.s) (by simp)).1
        refine hK.out _ _ SX.out (fun _ => ?_)
        clear hK
        try simp only [Act.put, List.getElem_toArray, List.getElem_cons_succ, List.getElem_cons_zero, List.setIfInBounds_toArray, List.set_cons_zero, List.set_cons_succ]
        refine wpAnyH_ready (rs := [13]) (by kernel_rfl) (by simp) ?_
        refine AllReadyH.cons rfl (fun K hK => ?_) AllReadyH.nil
        go_simp
        obtain ⟨w_13, ey, ry⟩ : ∃ w_13, w_12.alloc emptyOb = w_13 ∧ Rd w0 hb gb rb fb P Q P Q va X ((w_12.heap.size, emptyOb) :: (w_1.heap.size, emptyOb) :: (ba, stObj A.what A.a A.b A.n A.m A.s A.o.k A.o.x A.o.n A.o.a A.o.l A.o.s) :: bs) w_13 := ⟨_, rfl, RX.out.new _⟩
        rw [ey]
        clear RX SX ey
        have RX := Lib.hid ry
        clear ry
        have SX := Lib.hid (RX.out.box (ba, stObj A.what A.a A.b A.n A.m A.s A.o.k A.o.x A.o.n A.o.a A.o.l A.o.s) (by simp)).1
        refine hK.out _ _ SX.out (fun _ => ?_)
        clear hK
        try simp only [Act.put, List.getElem_toArray, List.getElem_cons_succ, List.getElem_cons_zero, List.setIfInBounds_toArray, List.set_cons_zero, List.set_cons_succ]
        have RY := Lib.hid RX.out.swap
        clear RX
        have RX := RY
        clear RY
        obtain ⟨⟨r0, r1, r2, r3, r4, r5⟩, f0, f1, f2, f3, f4, f5⟩ := cells6 (RX.out.box (w_1.heap.size, emptyOb) (by simp)).1
        refine wpAnyH_ready (rs := [14]) (by kernel_rfl) (by simp) ?_
        refine AllReadyH.cons rfl (fun K hK => ?_) AllReadyH.nil
        go_simp
        obtain ⟨w_14, ey, by_, oy⟩ := set6_box (RX.out.box (w_1.heap.size, emptyOb) (by simp)).1 (.int .i64 k1) (.bool x_1) (.int .i64 n1) (.int .i64 a1) (.int .i64 l1) (.string s1)
        rw [ey]
        have RY := Lib.hid (RX.out.set oy by_)
        clear RX SX ey by_ oy r0 r1 r2 r3 r4 r5 f0 f1 f2 f3 f4 f5
        have RX := RY
        clear RY
        have SX := Lib.hid (RX.out.box (ba, stObj A.what A.a A.b A.n A.m A.s A.o.k A.o.x A.o.n A.o.a A.o.l A.o.s) (by simp)).1
        refine hK.out _ _ SX.out (fun _ => ?_)
        clear hK
        try simp only [Act.put, List.getElem_toArray, List.getElem_cons_succ, List.getElem_cons_zero, List.setIfInBounds_toArray, List.set_cons_zero, List.set_cons_succ]
        have RY := Lib.hid RX.out.swap
        clear RX
        have RX := RY
        clear RY
        obtain ⟨⟨r0, r1, r2, r3, r4, r5⟩, f0, f1, f2, f3, f4, f5⟩ := cells6 (RX.out.box (w_12.heap.size, emptyOb) (by simp)).1
        refine wpAnyH_ready (rs := [15]) (by kernel_rfl) (by simp) ?_
        refine AllReadyH.cons rfl (fun K hK => ?_) AllReadyH.nil
        go_simp
        obtain ⟨w_15, ey, by_, oy⟩ := set6_box (RX.out.box (w_12.heap.size, emptyOb) (by simp)).1 (.int .i64 k2) (.bool x_2) (.int .i64 n2) (.int .i64 a2) (.int .i64 l2) (.string s2)
        rw [ey]
        have RY := Lib.hid (RX.out.set oy by_)
        clear RX SX ey by_ oy r0 r1 r2 r3 r4 r5 f0 f1 f2 f3 f4 f5
        have RX := RY
        clear RY
        have SX := Lib.hid (RX.out.box (ba, stObj A.what A.a A.b A.n A.m A.s A.o.k A.o.x A.o.n A.o.a A.o.l A.o.s) (by simp)).1
        refine hK.out _ _ SX.out (fun _ => ?_)
        clear hK
        try simp only [Act.put, List.getElem_toArray, List.getElem_cons_succ, List.getElem_cons_zero, List.setIfInBounds_toArray, List.set_cons_zero, List.set_cons_succ]
        refine wpAnyH_done (by kernel_rfl) ?_ _
        (try refine no_panic ?_)
        exact hexit.out _ _ _ _ _ _ _ _ _ _ _ _ _ _ _ RX.out
      · go_simp
        obtain ⟨w_16, ey, ry⟩ : ∃ w_16, w_11.alloc emptyOb = w_16 ∧ Rd w0 hb gb rb fb P Q P Q va X ((w_11.heap.size, emptyOb) :: (w_1.heap.size, emptyOb) :: (ba, stObj A.what A.a A.b A.n A.m A.s A.o.k A.o.x A.o.n A.o.a A.o.l A.o.s) :: bs) w_16 := ⟨_, rfl, RX.out.new _⟩
        rw [ey]
        clear RX SX ey
        have RX := Lib.hid ry
        clear ry
        have SX := Lib.hid (RX.out.box (ba, stObj A.what A.a A.b A.n A.m A.s A.o.k A.o.x A.o.n A.o.a A.o.l A.o.s) (by simp)).1
        refine hK.out _ _ SX.out (fun _ => ?_)
        clear hK
        try simp only [Act.put, List.getElem_toArray, List.getElem_cons_succ, List.getElem_cons_zero, List.setIfInBounds_toArray, List.set_cons_zero, List.set_cons_succ]
        refine wpAnyH_ready (rs := [11]) (by kernel_rfl) (by simp) ?_
        refine AllReadyH.cons rfl (fun K hK => ?_) AllReadyH.nil
        go_simp
        refine (C2.out _ RX.out.lis).mono ?_
        rintro e w_17 ⟨rfl, kk⟩
        have RY := Lib.hid (RX.out.later kk)
        clear RX SX kk
        have RX := RY
        clear RY
        have SX := Lib.hid (RX.out.box (ba, stObj A.what A.a A.b A.n A.m A.s A.o.k A.o.x A.o.n A.o.a A.o.l A.o.s) (by simp)).1
        refine hK.out _ _ SX.out (fun _ => ?_)
        clear hK
        try simp only [Act.put, List.getElem_toArray, List.getElem_cons_succ, List.getElem_cons_zero, List.setIfInBounds_toArray, List.set_cons_zero, List.set_cons_succ]
        have RY := Lib.hid RX.out.swap
        clear RX
        have RX := RY
        clear RY
        obtain ⟨⟨r0, r1, r2, r3, r4, r5⟩, f0, f1, f2, f3, f4, f5⟩ := cells6 (RX.out.box (w_1.heap.size, emptyOb) (by simp)).1
        refine wpAnyH_ready (rs := [14]) (by kernel_rfl) (by simp) ?_
        refine AllReadyH.cons rfl (fun K hK => ?_) AllReadyH.nil
        go_simp
        obtain ⟨w_18, ey, by_, oy⟩ := set6_box (RX.out.box (w_1.heap.size, emptyOb) (by simp)).1 (.int .i64 k1) (.bool x_1) (.int .i64 n1) (.int .i64 a1) (.int .i64 l1) (.string s1)
        rw [ey]
        have RY := Lib.hid (RX.out.set oy by_)
        clear RX SX ey by_ oy r0 r1 r2 r3 r4 r5 f0 f1 f2 f3 f4 f5
        have RX := RY
        clear RY
        have SX := Lib.hid (RX.out.box (ba, stObj A.what A.a A.b A.n A.m A.s A.o.k A.o.x A.o.n A.o.a A.o.l A.o.s) (by simp)).1
        refine hK.out _ _ SX.out (fun _ => ?_)
        clear hK
        try simp only [Act.put, List.getElem_toArray, List.getElem_cons_succ, List.getElem_cons_zero, List.setIfInBounds_toArray, List.set_cons_zero, List.set_cons_succ]
        have RY := Lib.hid RX.out.swap
        clear RX
        have RX := RY
        clear RY
        obtain ⟨⟨r0, r1, r2, r3, r4, r5⟩, f0, f1, f2, f3, f4, f5⟩ := cells6 (RX.out.box (w_11.heap.size, emptyOb) (by simp)).1
        refine wpAnyH_ready (rs := [15]) (by kernel_rfl) (by simp) ?_
        refine AllReadyH.cons rfl (fun K hK => ?_) AllReadyH.nil
        go_simp
        obtain ⟨w_19, ey, by_, oy⟩ := set6_box (RX.out.box (w_11.heap.size, emptyOb) (by simp)).1 (.int .i64 k2) (.bool x_2) (.int .i64 n2) (.int .i64 a2) (.int .i64 l2) (.string s2)
        rw [ey]
        have RY := Lib.hid (RX.out.set oy by_)
        clear RX SX ey by_ oy r0 r1 r2 r3 r4 r5 f0 f1 f2 f3 f4 f5
        have RX := RY
        clear RY
        have SX := Lib.hid (RX.out.box (ba, stObj A.what A.a A.b A.n A.m A.s A.o.k A.o.x A.o.n A.o.a A.o.l A.o.s) (by simp)).1
        refine hK.out _ _ SX.out (fun _ => ?_)
        clear hK
        try simp only [Act.put, List.getElem_toArray, List.getElem_cons_succ, List.getElem_cons_zero, List.setIfInBounds_toArray, List.set_cons_zero, List.set_cons_succ]
        refine wpAnyH_done (by kernel_rfl) ?_ _
        (try refine no_panic ?_)
        exact hexit.out _ _ _ _ _ _ _ _ _ _ _ _ _ _ _ RX.out
    · go_simp
      obtain ⟨w_20, ey, ry⟩ : ∃ w_20, w_1.alloc emptyOb = w_20 ∧ Rd w0 hb gb rb fb P Q P Q va X ((w_1.heap.size, emptyOb) :: (ba, stObj A.what A.a A.b A.n A.m A.s A.o.k A.o.x A.o.n A.o.a A.o.l A.o.s) :: bs) w_20 := ⟨_, rfl, RX.out.new _⟩
      rw [ey]
      clear RX SX ey
      have RX := Lib.hid ry
      clear ry
      have SX := Lib.hid (RX.out.box (ba, stObj A.what A.a A.b A.n A.m A.s A.o.k A.o.x A.o.n A.o.a A.o.l A.o.s) (by simp)).1
      refine hK.out _ _ SX.out (fun _ => ?_)
      clear hK
      try simp only [Act.put, List.getElem_toArray, List.getElem_cons_succ, List.getElem_cons_zero, List.setIfInBounds_toArray, List.set_cons_zero, List.set_cons_succ]
      refine wpAnyH_ready (rs := [11, 12]) (by kernel_rfl) (by simp) ?_
      refine AllReadyH.cons rfl (fun K hK => ?_) (AllReadyH.cons rfl (fun K hK => ?_) AllReadyH.nil)
      · go_simp
        refine (C2.out _ RX.out.lis).mono ?_
        rintro e w_21 ⟨rfl, kk⟩
        have RY := Lib.hid (RX.out.later kk)
        clear RX SX kk
        have RX := RY
        clear RY
        have SX := Lib.hid (RX.out.box (ba, stObj A.what A.a A.b A.n A.m A.s A.o.k A.o.x A.o.n A.o.a A.o.l A.o.s) (by simp)).1
        refine hK.out _ _ SX.out (fun _ => ?_)
        clear hK
        try simp only [Act.put, List.getElem_toArray, List.getElem_cons_succ, List.getElem_cons_zero, List.setIfInBounds_toArray, List.set_cons_zero, List.set_cons_succ]
        refine wpAnyH_ready (rs := [12]) (by kernel_rfl) (by simp) ?_
        refine AllReadyH.cons rfl (fun K hK => ?_) AllReadyH.nil
        go_simp
        obtain ⟨w_22, ey, ry⟩ : ∃ w_22, w_21.alloc emptyOb = w_22 ∧ Rd w0 hb gb rb fb P Q P Q va X ((w_21.heap.size, emptyOb) :: (w_1.heap.size, emptyOb) :: (ba, stObj A.what A.a A.b A.n A.m A.s A.o.k A.o.x A.o.n A.o.a A.o.l A.o.s) :: bs) w_22 := ⟨_, rfl, RX.out.new _⟩
        rw [ey]
        clear RX SX ey
        have RX := Lib.hid ry
        clear ry
        have SX := Lib.hid (RX.out.box (ba, stObj A.what A.a A.b A.n A.m A.s A.o.k A.o.x A.o.n A.o.a A.o.l A.o.s) (by simp)).1
        refine hK.out _ _ SX.out (fun _ => ?_)
        clear hK
        try simp only [Act.put, List.getElem_toArray, List.getElem_cons_succ, List.getElem_cons_zero, List.setIfInBounds_toArray, List.set_cons_zero, List.set_cons_succ]
        obtain ⟨⟨r0, r1, r2, r3, r4, r5⟩, f0, f1, f2, f3, f4, f5⟩ := cells6 (RX.out.box (w_21.heap.size, emptyOb) (by simp)).1
        refine wpAnyH_ready (rs := [14]) (by kernel_rfl) (by simp) ?_
        refine AllReadyH.cons rfl (fun K hK => ?_) AllReadyH.nil
        go_simp
        obtain ⟨w_23, ey, by_, oy⟩ := set6_box (RX.out.box (w_21.heap.size, emptyOb) (by simp)).1 (.int .i64 k1) (.bool x_1) (.int .i64 n1) (.int .i64 a1) (.int .i64 l1) (.string s1)
        rw [ey]
        have RY := Lib.hid (RX.out.set oy by_)
        clear RX SX ey by_ oy r0 r1 r2 r3 r4 r5 f0 f1 f2 f3 f4 f5
        have RX := RY
        clear RY
        have SX := Lib.hid (RX.out.box (ba, stObj A.what A.a A.b A.n A.m A.s A.o.k A.o.x A.o.n A.o.a A.o.l A.o.s) (by simp)).1
        refine hK.out _ _ SX.out (fun _ => ?_)
        clear hK
        try simp only [Act.put, List.getElem_toArray, List.getElem_cons_succ, List.getElem_cons_zero, List.setIfInBounds_toArray, List.set_cons_zero, List.set_cons_succ]
        have RY := Lib.hid RX.out.swap
        clear RX
        have RX := RY
        clear RY
        obtain ⟨⟨r0, r1, r2, r3, r4, r5⟩, f0, f1, f2, f3, f4, f5⟩ := cells6 (RX.out.box (w_1.heap.size, emptyOb) (by simp)).1
        refine wpAnyH_ready (rs := [15]) (by kernel_rfl) (by simp) ?_
        refine AllReadyH.cons rfl (fun K hK => ?_) AllReadyH.nil
        go_simp
        obtain ⟨w_24, ey, by_, oy⟩ := set6_box (RX.out.box (w_1.heap.size, emptyOb) (by simp)).1 (.int .i64 k2) (.bool x_2) (.int .i64 n2) (.int .i64 a2) (.int .i64 l2) (.string s2)
        rw [ey]
        have RY := Lib.hid (RX.out.set oy by_)
        clear RX SX ey by_ oy r0 r1 r2 r3 r4 r5 f0 f1 f2 f3 f4 f5
        have RX := RY
        clear RY
        have SX := Lib.hid (RX.out.box (ba, stObj A.what A.a A.b A.n A.m A.s A.o.k A.o.x A.o.n A.o.a A.o.l A.o.s) (by simp)).1
        refine hK.out _ _ SX.out (fun _ => ?_)
        clear hK
        try simp only [Act.put, List.getElem_toArray, List.getElem_cons_succ, List.getElem_cons_zero, List.setIfInBounds_toArray, List.set_cons_zero, List.set_cons_succ]
        refine wpAnyH_done (by kernel_rfl) ?_ _
        (try refine no_panic ?_)
        exact hexit.out _ _ _ _ _ _ _ _ _ _ _ _ _ _ _ RX.out
      · go_simp
        obtain ⟨w_25, ey, ry⟩ : ∃ w_25, w_20.alloc emptyOb = w_25 ∧ Rd w0 hb gb rb fb P Q P Q va X ((w_20.heap.size, emptyOb) :: (w_1.heap.size, emptyOb) :: (ba, stObj A.what A.a A.b A.n A.m A.s A.o.k A.o.x A.o.n A.o.a A.o.l A.o.s) :: bs) w_25 := ⟨_, rfl, RX.out.new _⟩
        rw [ey]
        clear RX SX ey
        have RX := Lib.hid ry
        clear ry
        have SX := Lib.hid (RX.out.box (ba, stObj A.what A.a A.b A.n A.m A.s A.o.k A.o.x A.o.n A.o.a A.o.l A.o.s) (by simp)).1
        refine hK.out _ _ SX.out (fun _ => ?_)
        clear hK
        try simp only [Act.put, List.getElem_toArray, List.getElem_cons_succ, List.getElem_cons_zero, List.setIfInBounds_toArray, List.set_cons_zero, List.set_cons_succ]
        refine wpAnyH_ready (rs := [11]) (by kernel_rfl) (by simp) ?_
        refine AllReadyH.cons rfl (fun K hK => ?_) AllReadyH.nil
        go_simp
        refine (C2.out _ RX.out.lis).mono ?_
        rintro e w_26 ⟨rfl, kk⟩
        have RY := Lib.hid (RX.out.later kk)
        clear RX SX kk
        have RX := RY
        clear RY
        have SX := Lib.hid (RX.out.box (ba, stObj A.what A.a A.b A.n A.m A.s A.o.k A.o.x A.o.n A.o.a A.o.l A.o.s) (by simp)).1
        refine hK.out _ _ SX.out (fun _ => ?_)
        clear hK
        try simp only [Act.put, List.getElem_toArray, List.getElem_cons_succ, List.getElem_cons_zero, List.setIfInBounds_toArray, List.set_cons_zero, List.set_cons_succ]
        obtain ⟨⟨r0, r1, r2, r3, r4, r5⟩, f0, f1, f2, f3, f4, f5⟩ := cells6 (RX.out.box (w_20.heap.size, emptyOb) (by simp)).1
        refine wpAnyH_ready (rs := [14]) (by kernel_rfl) (by simp) ?_
        refine AllReadyH.cons rfl (fun K hK => ?_) AllReadyH.nil
        go_simp
        obtain ⟨w_27, ey, by_, oy⟩ := set6_box (RX.out.box (w_20.heap.size, emptyOb) (by simp)).1 (.int .i64 k1) (.bool x_1) (.int .i64 n1) (.int .i64 a1) (.int .i64 l1) (.string s1)
        rw [ey]
        have RY := Lib.hid (RX.out.set oy by_)
        clear RX SX ey by_ oy r0 r1 r2 r3 r4 r5 f0 f1 f2 f3 f4 f5
        have RX := RY
        clear RY
        have SX := Lib.hid (RX.out.box (ba, stObj A.what A.a A.b A.n A.m A.s A.o.k A.o.x A.o.n A.o.a A.o.l A.o.s) (by simp)).1
        refine hK.out _ _ SX.out (fun _ => ?_)
        clear hK
        try simp only [Act.put, List.getElem_toArray, List.getElem_cons_succ, List.getElem_cons_zero, List.setIfInBounds_toArray, List.set_cons_zero, List.set_cons_succ]
        have RY := Lib.hid RX.out.swap
        clear RX
        have RX := RY
        clear RY
        obtain ⟨⟨r0, r1, r2, r3, r4, r5⟩, f0, f1, f2, f3, f4, f5⟩ := cells6 (RX.out.box (w_1.heap.size, emptyOb) (by simp)).1
        refine wpAnyH_ready (rs := [15]) (by kernel_rfl) (by simp) ?_
        refine AllReadyH.cons rfl (fun K hK => ?_) AllReadyH.nil
        go_simp
        obtain ⟨w_28, ey, by_, oy⟩ := set6_box (RX.out.box (w_1.heap.size, emptyOb) (by simp)).1 (.int .i64 k2) (.bool x_2) (.int .i64 n2) (.int .i64 a2) (.int .i64 l2) (.string s2)
        rw [ey]
        have RY := Lib.hid (RX.out.set oy by_)
        clear RX SX ey by_ oy r0 r1 r2 r3 r4 r5 f0 f1 f2 f3 f4 f5
        have RX := RY
        clear RY
        have SX := Lib.hid (RX.out.box (ba, stObj A.what A.a A.b A.n A.m A.s A.o.k A.o.x A.o.n A.o.a A.o.l A.o.s) (by simp)).1
        refine hK.out _ _ SX.out (fun _ => ?_)
        clear hK
        try simp only [Act.put, List.getElem_toArray, List.getElem_cons_succ, List.getElem_cons_zero, List.setIfInBounds_toArray, List.set_cons_zero, List.set_cons_succ]
        refine wpAnyH_done (by kernel_rfl) ?_ _
        (try refine no_panic ?_)
        exact hexit.out _ _ _ _ _ _ _ _ _ _ _ _ _ _ _ RX.out
  · go_simp
    obtain ⟨w_29, ey, ry⟩ : ∃ w_29, w_0.alloc emptyOb = w_29 ∧ Rd w0 hb gb rb fb P Q P Q va X ((w_0.heap.size, emptyOb) :: (ba, stObj A.what A.a A.b A.n A.m A.s A.o.k A.o.x A.o.n A.o.a A.o.l A.o.s) :: bs) w_29 := ⟨_, rfl, RX.out.new _⟩
    rw [ey]
    clear RX SX ey
    have RX := Lib.hid ry
    clear ry
    have SX := Lib.hid (RX.out.box (ba, stObj A.what A.a A.b A.n A.m A.s A.o.k A.o.x A.o.n A.o.a A.o.l A.o.s) (by simp)).1
    refine hK.out _ _ SX.out (fun _ => ?_)
    clear hK
    try simp only [Act.put, List.getElem_toArray, List.getElem_cons_succ, List.getElem_cons_zero, List.setIfInBounds_toArray, List.set_cons_zero, List.set_cons_succ]
    refine wpAnyH_ready (rs := [5, 13]) (by kernel_rfl) (by simp) ?_
    refine AllReadyH.cons rfl (fun K hK => ?_) (AllReadyH.cons rfl (fun K hK => ?_) AllReadyH.nil)
    · go_simp
      refine (C1.out _ RX.out.lis).mono ?_
      rintro e w_30 ⟨rfl, kk⟩
      have RY := Lib.hid (RX.out.later kk)
      clear RX SX kk
      have RX := RY
      clear RY
      have SX := Lib.hid (RX.out.box (ba, stObj A.what A.a A.b A.n A.m A.s A.o.k A.o.x A.o.n A.o.a A.o.l A.o.s) (by simp)).1
      refine hK.out _ _ SX.out (fun _ => ?_)
      clear hK
      try simp only [Act.put, List.getElem_toArray, List.getElem_cons_succ, List.getElem_cons_zero, List.setIfInBounds_toArray, List.set_cons_zero, List.set_cons_succ]
      refine wpAnyH_ready (rs := [11, 13]) (by kernel_rfl) (by simp) ?_
      refine AllReadyH.cons rfl (fun K hK => ?_) (AllReadyH.cons rfl (fun K hK => ?_) AllReadyH.nil)
      · go_simp
        refine (C2.out _ RX.out.lis).mono ?_
        rintro e w_31 ⟨rfl, kk⟩
        have RY := Lib.hid (RX.out.later kk)
        clear RX SX kk
        have RX := RY
        clear RY
        have SX := Lib.hid (RX.out.box (ba, stObj A.what A.a A.b A.n A.m A.s A.o.k A.o.x A.o.n A.o.a A.o.l A.o.s) (by simp)).1
        refine hK.out _ _ SX.out (fun _ => ?_)
        clear hK
        try simp only [Act.put, List.getElem_toArray, List.getElem_cons_succ, List.getElem_cons_zero, List.setIfInBounds_toArray, List.set_cons_zero, List.set_cons_succ]
        refine wpAnyH_ready (rs := [13]) (by kernel_rfl) (by simp) ?_
        refine AllReadyH.cons rfl (fun K hK => ?_) AllReadyH.nil
        go_simp
        obtain ⟨w_32, ey, ry⟩ : ∃ w_32, w_31.alloc emptyOb = w_32 ∧ Rd w0 hb gb rb fb P Q P Q va X ((w_31.heap.size, emptyOb) :: (w_0.heap.size, emptyOb) :: (ba, stObj A.what A.a A.b A.n A.m A.s A.o.k A.o.x A.o.n A.o.a A.o.l A.o.s) :: bs) w_32 := ⟨_, rfl, RX.out.new _⟩
        rw [ey]
        clear RX SX ey
        have RX := Lib.hid ry
        clear ry
        have SX := Lib.hid (RX.out.box (ba, stObj A.what A.a A.b A.n A.m A.s A.o.k A.o.x A.o.n A.o.a A.o.l A.o.s) (by simp)).1
        refine hK.out _ _ SX.out (fun _ => ?_)
        clear hK
        try simp only [Act.put, List.getElem_toArray, List.getElem_cons_succ, List.getElem_cons_zero, List.setIfInBounds_toArray, List.set_cons_zero, List.set_cons_succ]
        have RY := Lib.hid RX.out.swap
        clear RX
        have RX := RY
        clear RY
        obtain ⟨⟨r0, r1, r2, r3, r4, r5⟩, f0, f1, f2, f3, f4, f5⟩ := cells6 (RX.out.box (w_0.heap.size, emptyOb) (by simp)).1
        refine wpAnyH_ready (rs := [14]) (by kernel_rfl) (by simp) ?_
        refine AllReadyH.cons rfl (fun K hK => ?_) AllReadyH.nil
        go_simp
        obtain ⟨w_33, ey, by_, oy⟩ := set6_box (RX.out.box (w_0.heap.size, emptyOb) (by simp)).1 (.int .i64 k1) (.bool x_1) (.int .i64 n1) (.int .i64 a1) (.int .i64 l1) (.string s1)
        rw [ey]
        have RY := Lib.hid (RX.out.set oy by_)
        clear RX SX ey by_ oy r0 r1 r2 r3 r4 r5 f0 f1 f2 f3 f4 f5
        have RX := RY
        clear RY
        have SX := Lib.hid (RX.out.box (ba, stObj A.what A.a A.b A.n A.m A.s A.o.k A.o.x A.o.n A.o.a A.o.l A.o.s) (by simp)).1
        refine hK.out _ _ SX.out (fun _ => ?_)
        clear hK
        try simp only [Act.put, List.getElem_toArray, List.getElem_cons_succ, List.getElem_cons_zero, List.setIfInBounds_toArray, List.set_cons_zero, List.set_cons_succ]
        have RY := Lib.hid RX.out.swap
        clear RX
        have RX := RY
        clear RY
        obtain ⟨⟨r0, r1, r2, r3, r4, r5⟩, f0, f1, f2, f3, f4, f5⟩ := cells6 (RX.out.box (w_31.heap.size, emptyOb) (by simp)).1
        refine wpAnyH_ready (rs := [15]) (by kernel_rfl) (by simp) ?_
        refine AllReadyH.cons rfl (fun K hK => ?_) AllReadyH.nil
        go_simp
        obtain ⟨w_34, ey, by_, oy⟩ := set6_box (RX.out.box (w_31.heap.size, emptyOb) (by simp)).1 (.int .i64 k2) (.bool x_2) (.int .i64 n2) (.int .i64 a2) (.int .i64 l2) (.string s2)
        rw [ey]
        have RY := Lib.hid (RX.out.set oy by_)
        clear RX SX ey by_ oy r0 r1 r2 r3 r4 r5 f0 f1 f2 f3 f4 f5
        have RX := RY
        clear RY
        have SX := Lib.hid (RX.out.box (ba, stObj A.what A.a A.b A.n A.m A.s A.o.k A.o.x A.o.n A.o.a A.o.l A.o.s) (by simp)).1
        refine hK.out _ _ SX.out (fun _ => ?_)
        clear hK
        try simp only [Act.put, List.getElem_toArray, List.getElem_cons_succ, List.getElem_cons_zero, List.setIfInBounds_toArray, List.set_cons_zero, List.set_cons_succ]
        refine wpAnyH_done (by kernel_rfl) ?_ _
        (try refine no_panic ?_)
        exact hexit.out _ _ _ _ _ _ _ _ _ _ _ _ _ _ _ RX.out
      · go_simp
        obtain ⟨w_35, ey, ry⟩ : ∃ w_35, w_30.alloc emptyOb = w_35 ∧ Rd w0 hb gb rb fb P Q P Q va X ((w_30.heap.size, emptyOb) :: (w_0.heap.size, emptyOb) :: (ba, stObj A.what A.a A.b A.n A.m A.s A.o.k A.o.x A.o.n A.o.a A.o.l A.o.s) :: bs) w_35 := ⟨_, rfl, RX.out.new _⟩
        rw [ey]
        clear RX SX ey
        have RX := Lib.hid ry
        clear ry
        have SX := Lib.hid (RX.out.box (ba, stObj A.what A.a A.b A.n A.m A.s A.o.k A.o.x A.o.n A.o.a A.o.l A.o.s) (by simp)).1
        refine hK.out _ _ SX.out (fun _ => ?_)
        clear hK
        try simp only [Act.put, List.getElem_toArray, List.getElem_cons_succ, List.getElem_cons_zero, List.setIfInBounds_toArray, List.set_cons_zero, List.set_cons_succ]
        refine wpAnyH_ready (rs := [11]) (by kernel_rfl) (by simp) ?_
        refine AllReadyH.cons rfl (fun K hK => ?_) AllReadyH.nil
        go_simp
        refine (C2.out _ RX.out.lis).mono ?_
        rintro e w_36 ⟨rfl, kk⟩
        have RY := Lib.hid (RX.out.later kk)
        clear RX SX kk
        have RX := RY
        clear RY
        have SX := Lib.hid (RX.out.box (ba, stObj A.what A.a A.b A.n A.m A.s A.o.k A.o.x A.o.n A.o.a A.o.l A.o.s) (by simp)).1
        refine hK.out _ _ SX.out (fun _ => ?_)
        clear hK
        try simp only [Act.put, List.getElem_toArray, List.getElem_cons_succ, List.getElem_cons_zero, List.setIfInBounds_toArray, List.set_cons_zero, List.set_cons_succ]
        have RY := Lib.hid RX.out.swap
        clear RX
        have RX := RY
        clear RY
        obtain ⟨⟨r0, r1, r2, r3, r4, r5⟩, f0, f1, f2, f3, f4, f5⟩ := cells6 (RX.out.box (w_0.heap.size, emptyOb) (by simp)).1
        refine wpAnyH_ready (rs := [14]) (by kernel_rfl) (by simp) ?_
        refine AllReadyH.cons rfl (fun K hK => ?_) AllReadyH.nil
        go_simp
        obtain ⟨w_37, ey, by_, oy⟩ := set6_box (RX.out.box (w_0.heap.size, emptyOb) (by simp)).1 (.int .i64 k1) (.bool x_1) (.int .i64 n1) (.int .i64 a1) (.int .i64 l1) (.string s1)
        rw [ey]
        have RY := Lib.hid (RX.out.set oy by_)
        clear RX SX ey by_ oy r0 r1 r2 r3 r4 r5 f0 f1 f2 f3 f4 f5
        have RX := RY
        clear RY
        have SX := Lib.hid (RX.out.box (ba, stObj A.what A.a A.b A.n A.m A.s A.o.k A.o.x A.o.n A.o.a A.o.l A.o.s) (by simp)).1
        refine hK.out _ _ SX.out (fun _ => ?_)
        clear hK
        try simp only [Act.put, List.getElem_toArray, List.getElem_cons_succ, List.getElem_cons_zero, List.setIfInBounds_toArray, List.set_cons_zero, List.set_cons_succ]
        have RY := Lib.hid RX.out.swap
        clear RX
        have RX := RY
        clear RY
        obtain ⟨⟨r0, r1, r2, r3, r4, r5⟩, f0, f1, f2, f3, f4, f5⟩ := cells6 (RX.out.box (w_30.heap.size, emptyOb) (by simp)).1
        refine wpAnyH_ready (rs := [15]) (by kernel_rfl) (by simp) ?_
        refine AllReadyH.cons rfl (fun K hK => ?_) AllReadyH.nil
        go_simp
        obtain ⟨w_38, ey, by_, oy⟩ := set6_box (RX.out.box (w_30.heap.size, emptyOb) (by simp)).1 (.int .i64 k2) (.bool x_2) (.int .i64 n2) (.int .i64 a2) (.int .i64 l2) (.string s2)
        rw [ey]
        have RY := Lib.hid (RX.out.set oy by_)
        clear RX SX ey by_ oy r0 r1 r2 r3 r4 r5 f0 f1 f2 f3 f4 f5
        have RX := RY
        clear RY
        have SX := Lib.hid (RX.out.box (ba, stObj A.what A.a A.b A.n A.m A.s A.o.k A.o.x A.o.n A.o.a A.o.l A.o.s) (by simp)).1
        refine hK.out _ _ SX.out (fun _ => ?_)
        clear hK
        try simp only [Act.put, List.getElem_toArray, List.getElem_cons_succ, List.getElem_cons_zero, List.setIfInBounds_toArray, List.set_cons_zero, List.set_cons_succ]
        refine wpAnyH_done (by kernel_rfl) ?_ _
        (try refine no_panic ?_)
        exact hexit.out _ _ _ _ _ _ _ _ _ _ _ _ _ _ _ RX.out
    · go_simp
      obtain ⟨w_39, ey, ry⟩ : ∃ w_39, w_29.alloc emptyOb = w_39 ∧ Rd w0 hb gb rb fb P Q P Q va X ((w_29.heap.size, emptyOb) :: (w_0.heap.size, emptyOb) :: (ba, stObj A.what A.a A.b A.n A.m A.s A.o.k A.o.x A.o.n A.o.a A.o.l A.o.s) :: bs) w_39 := ⟨_, rfl, RX.out.new _⟩
      rw [ey]
      clear RX SX ey
      have RX := Lib.hid ry
      clear ry
      have SX := Lib.hid (RX.out.box (ba, stObj A.what A.a A.b A.n A.m A.s A.o.k A.o.x A.o.n A.o.a A.o.l A.o.s) (by simp)).1
      refine hK.out _ _ SX.out (fun _ => ?_)
      clear hK
      try simp only [Act.put, List.getElem_toArray, List.getElem_cons_succ, List.getElem_cons_zero, List.setIfInBounds_toArray, List.set_cons_zero, List.set_cons_succ]
      refine wpAnyH_ready (rs := [5]) (by kernel_rfl) (by simp) ?_
      refine AllReadyH.cons rfl (fun K hK => ?_) AllReadyH.nil
      go_simp
      refine (C1.out _ RX.out.lis).mono ?_
      rintro e w_40 ⟨rfl, kk⟩
      have RY := Lib.hid (RX.out.later kk)
      clear RX SX kk
      have RX := RY
      clear RY
      have SX := Lib.hid (RX.out.box (ba, stObj A.what A.a A.b A.n A.m A.s A.o.k A.o.x A.o.n A.o.a A.o.l A.o.s) (by simp)).1
      refine hK.out _ _ SX.out (fun _ => ?_)
      clear hK
      try simp only [Act.put, List.getElem_toArray, List.getElem_cons_succ, List.getElem_cons_zero, List.setIfInBounds_toArray, List.set_cons_zero, List.set_cons_succ]
      refine wpAnyH_ready (rs := [11]) (by kernel_rfl) (by simp) ?_
      refine AllReadyH.cons rfl (fun K hK => ?_) AllReadyH.nil
      go_simp
      refine (C2.out _ RX.out.lis).mono ?_
      rintro e w_41 ⟨rfl, kk⟩
      have RY := Lib.hid (RX.out.later kk)
      clear RX SX kk
      have RX := RY
      clear RY
      have SX := Lib.hid (RX.out.box (ba, stObj A.what A.a A.b A.n A.m A.s A.o.k A.o.x A.o.n A.o.a A.o.l A.o.s) (by simp)).1
      refine hK.out _ _ SX.out (fun _ => ?_)
      clear hK
      try simp only [Act.put, List.getElem_toArray, List.getElem_cons_succ, List.getElem_cons_zero, List.setIfInBounds_toArray, List.set_cons_zero, List.set_cons_succ]
      have RY := Lib.hid RX.out.swap
      clear RX
      have RX := RY
      clear RY
      obtain ⟨⟨r0, r1, r2, r3, r4, r5⟩, f0, f1, f2, f3, f4, f5⟩ := cells6 (RX.out.box (w_0.heap.size, emptyOb) (by simp)).1
      refine wpAnyH_ready (rs := [14]) (by kernel_rfl) (by simp) ?_
      refine AllReadyH.cons rfl (fun K hK => ?_) AllReadyH.nil
      go_simp
      obtain ⟨w_42, ey, by_, oy⟩ := set6_box (RX.out.box (w_0.heap.size, emptyOb) (by simp)).1 (.int .i64 k1) (.bool x_1) (.int .i64 n1) (.int .i64 a1) (.int .i64 l1) (.string s1)
      rw [ey]
      have RY := Lib.hid (RX.out.set oy by_)
      clear RX SX ey by_ oy r0 r1 r2 r3 r4 r5 f0 f1 f2 f3 f4 f5
      have RX := RY
      clear RY
      have SX := Lib.hid (RX.out.box (ba, stObj A.what A.a A.b A.n A.m A.s A.o.k A.o.x A.o.n A.o.a A.o.l A.o.s) (by simp)).1
      refine hK.out _ _ SX.out (fun _ => ?_)
      clear hK
      try simp only [Act.put, List.getElem_toArray, List.getElem_cons_succ, List.getElem_cons_zero, List.setIfInBounds_toArray, List.set_cons_zero, List.set_cons_succ]
      have RY := Lib.hid RX.out.swap
      clear RX
      have RX := RY
      clear RY
      obtain ⟨⟨r0, r1, r2, r3, r4, r5⟩, f0, f1, f2, f3, f4, f5⟩ := cells6 (RX.out.box (w_29.heap.size, emptyOb) (by simp)).1
      refine wpAnyH_ready (rs := [15]) (by kernel_rfl) (by simp) ?_
      refine AllReadyH.cons rfl (fun K hK => ?_) AllReadyH.nil
      go_simp
      obtain ⟨w_43, ey, by_, oy⟩ := set6_box (RX.out.box (w_29.heap.size, emptyOb) (by simp)).1 (.int .i64 k2) (.bool x_2) (.int .i64 n2) (.int .i64 a2) (.int .i64 l2) (.string s2)
      rw [ey]
      have RY := Lib.hid (RX.out.set oy by_)
      clear RX SX ey by_ oy r0 r1 r2 r3 r4 r5 f0 f1 f2 f3 f4 f5
      have RX := RY
      clear RY
      have SX := Lib.hid (RX.out.box (ba, stObj A.what A.a A.b A.n A.m A.s A.o.k A.o.x A.o.n A.o.a A.o.l A.o.s) (by simp)).1
      refine hK.out _ _ SX.out (fun _ => ?_)
      clear hK
      try simp only [Act.put, List.getElem_toArray, List.getElem_cons_succ, List.getElem_cons_zero, List.setIfInBounds_toArray, List.set_cons_zero, List.set_cons_succ]
      refine wpAnyH_done (by kernel_rfl) ?_ _
      (try refine no_panic ?_)
      exact hexit.out _ _ _ _ _ _ _ _ _ _ _ _ _ _ _ RX.out
  · go_simp
    obtain ⟨w_44, ey, ry⟩ : ∃ w_44, w_0.alloc emptyOb = w_44 ∧ Rd w0 hb gb rb fb P Q P Q va X ((w_0.heap.size, emptyOb) :: (ba, stObj A.what A.a A.b A.n A.m A.s A.o.k A.o.x A.o.n A.o.a A.o.l A.o.s) :: bs) w_44 := ⟨_, rfl, RX.out.new _⟩
    rw [ey]
    clear RX SX ey
    have RX := Lib.hid ry
    clear ry
    have SX := Lib.hid (RX.out.box (ba, stObj A.what A.a A.b A.n A.m A.s A.o.k A.o.x A.o.n A.o.a A.o.l A.o.s) (by simp)).1
    refine hK.out _ _ SX.out (fun _ => ?_)
    clear hK
    try simp only [Act.put, List.getElem_toArray, List.getElem_cons_succ, List.getElem_cons_zero, List.setIfInBounds_toArray, List.set_cons_zero, List.set_cons_succ]
    refine wpAnyH_ready (rs := [5, 12]) (by kernel_rfl) (by simp) ?_
    refine AllReadyH.cons rfl (fun K hK => ?_) (AllReadyH.cons rfl (fun K hK => ?_) AllReadyH.nil)
    · go_simp
      refine (C1.out _ RX.out.lis).mono ?_
      rintro e w_45 ⟨rfl, kk⟩
      have RY := Lib.hid (RX.out.later kk)
      clear RX SX kk
      have RX := RY
      clear RY
      have SX := Lib.hid (RX.out.box (ba, stObj A.what A.a A.b A.n A.m A.s A.o.k A.o.x A.o.n A.o.a A.o.l A.o.s) (by simp)).1
      refine hK.out _ _ SX.out (fun _ => ?_)
      clear hK
      try simp only [Act.put, List.getElem_toArray, List.getElem_cons_succ, List.getElem_cons_zero, List.setIfInBounds_toArray, List.set_cons_zero, List.set_cons_succ]
      refine wpAnyH_ready (rs := [11, 12]) (by kernel_rfl) (by simp) ?_
      refine AllReadyH.cons rfl (fun K hK => ?_) (AllReadyH.cons rfl (fun K hK => ?_) AllReadyH.nil)
      · go_simp
        refine (C2.out _ RX.out.lis).mono ?_
        rintro e w_46 ⟨rfl, kk⟩
        have RY := Lib.hid (RX.out.later kk)
        clear RX SX kk
        have RX := RY
        clear RY
        have SX := Lib.hid (RX.out.box (ba, stObj A.what A.a A.b A.n A.m A.s A.o.k A.o.x A.o.n A.o.a A.o.l A.o.s) (by simp)).1
        refine hK.out _ _ SX.out (fun _ => ?_)
        clear hK
        try simp only [Act.put, List.getElem_toArray, List.getElem_cons_succ, List.getElem_cons_zero, List.setIfInBounds_toArray, List.set_cons_zero, List.set_cons_succ]
        refine wpAnyH_ready (rs := [12]) (by kernel_rfl) (by simp) ?_
        refine AllReadyH.cons rfl (fun K hK => ?_) AllReadyH.nil
        go_simp
        obtain ⟨w_47, ey, ry⟩ : ∃ w_47, w_46.alloc emptyOb = w_47 ∧ Rd w0 hb gb rb fb P Q P Q va X ((w_46.heap.size, emptyOb) :: (w_0.heap.size, emptyOb) :: (ba, stObj A.what A.a A.b A.n A.m A.s A.o.k A.o.x A.o.n A.o.a A.o.l A.o.s) :: bs) w_47 := ⟨_, rfl, RX.out.new _⟩
        rw [ey]
        clear RX SX ey
        have RX := Lib.hid ry
        clear ry
        have SX := Lib.hid (RX.out.box (ba, stObj A.what A.a A.b A.n A.m A.s A.o.k A.o.x A.o.n A.o.a A.o.l A.o.s) (by simp)).1
        refine hK.out _ _ SX.out (fun _ => ?_)
        clear hK
        try simp only [Act.put, List.getElem_toArray, List.getElem_cons_succ, List.getElem_cons_zero, List.setIfInBounds_toArray, List.set_cons_zero, List.set_cons_succ]
        obtain ⟨⟨r0, r1, r2, r3, r4, r5⟩, f0, f1, f2, f3, f4, f5⟩ := cells6 (RX.out.box (w_46.heap.size, emptyOb) (by simp)).1
        refine wpAnyH_ready (rs := [14]) (by kernel_rfl) (by simp) ?_
        refine AllReadyH.cons rfl (fun K hK => ?_) AllReadyH.nil
        go_simp
        obtain ⟨w_48, ey, by_, oy⟩ := set6_box (RX.out.box (w_46.heap.size, emptyOb) (by simp)).1 (.int .i64 k1) (.bool x_1) (.int .i64 n1) (.int .i64 a1) (.int .i64 l1) (.string s1)
        rw [ey]
        have RY := Lib.hid (RX.out.set oy by_)
        clear RX SX ey by_ oy r0 r1 r2 r3 r4 r5 f0 f1 f2 f3 f4 f5
        have RX := RY
        clear RY
        have SX := Lib.hid (RX.out.box (ba, stObj A.what A.a A.b A.n A.m A.s A.o.k A.o.x A.o.n A.o.a A.o.l A.o.s) (by simp)).1
        refine hK.out _ _ SX.out (fun _ => ?_)
        clear hK
        try simp only [Act.put, List.getElem_toArray, List.getElem_cons_succ, List.getElem_cons_zero, List.setIfInBounds_toArray, List.set_cons_zero, List.set_cons_succ]
        have RY := Lib.hid RX.out.swap
        clear RX
        have RX := RY
        clear RY
        obtain ⟨⟨r0, r1, r2, r3, r4, r5⟩, f0, f1, f2, f3, f4, f5⟩ := cells6 (RX.out.box (w_0.heap.size, emptyOb) (by simp)).1
        refine wpAnyH_ready (rs := [15]) (by kernel_rfl) (by simp) ?_
        refine AllReadyH.cons rfl (fun K hK => ?_) AllReadyH.nil
        go_simp
        obtain ⟨w_49, ey, by_, oy⟩ := set6_box (RX.out.box (w_0.heap.size, emptyOb) (by simp)).1 (.int .i64 k2) (.bool x_2) (.int .i64 n2) (.int .i64 a2) (.int .i64 l2) (.string s2)
        rw [ey]
        have RY := Lib.hid (RX.out.set oy by_)
        clear RX SX ey by_ oy r0 r1 r2 r3 r4 r5 f0 f1 f2 f3 f4 f5
        have RX := RY
        clear RY
        have SX := Lib.hid (RX.out.box (ba, stObj A.what A.a A.b A.n A.m A.s A.o.k A.o.x A.o.n A.o.a A.o.l A.o.s) (by simp)).1
        refine hK.out _ _ SX.out (fun _ => ?_)
        clear hK
        try simp only [Act.put, List.getElem_toArray, List.getElem_cons_succ, List.getElem_cons_zero, List.setIfInBounds_toArray, List.set_cons_zero, List.set_cons_succ]
        refine wpAnyH_done (by kernel_rfl) ?_ _
        (try refine no_panic ?_)
        exact hexit.out _ _ _ _ _ _ _ _ _ _ _ _ _ _ _ RX.out
      · go_simp
        obtain ⟨w_50, ey, ry⟩ : ∃ w_50, w_45.alloc emptyOb = w_50 ∧ Rd w0 hb gb rb fb P Q P Q va X ((w_45.heap.size, emptyOb) :: (w_0.heap.size, emptyOb) :: (ba, stObj A.what A.a A.b A.n A.m A.s A.o.k A.o.x A.o.n A.o.a A.o.l A.o.s) :: bs) w_50 := ⟨_, rfl, RX.out.new _⟩
        rw [ey]
        clear RX SX ey
        have RX := Lib.hid ry
        clear ry
        have SX := Lib.hid (RX.out.box (ba, stObj A.what A.a A.b A.n A.m A.s A.o.k A.o.x A.o.n A.o.a A.o.l A.o.s) (by simp)).1
        refine hK.out _ _ SX.out (fun _ => ?_)
        clear hK
        try simp only [Act.put, List.getElem_toArray, List.getElem_cons_succ, List.getElem_cons_zero, List.setIfInBounds_toArray, List.set_cons_zero, List.set_cons_succ]
        refine wpAnyH_ready (rs := [11]) (by kernel_rfl) (by simp) ?_
        refine AllReadyH.cons rfl (fun K hK => ?_) AllReadyH.nil
        go_simp
        refine (C2.out _ RX.out.lis).mono ?_
        rintro e w_51 ⟨rfl, kk⟩
        have RY := Lib.hid (RX.out.later kk)
        clear RX SX kk
        have RX := RY
        clear RY
        have SX := Lib.hid (RX.out.box (ba, stObj A.what A.a A.b A.n A.m A.s A.o.k A.o.x A.o.n A.o.a A.o.l A.o.s) (by simp)).1
        refine hK.out _ _ SX.out (fun _ => ?_)
        clear hK
        try simp only [Act.put, List.getElem_toArray, List.getElem_cons_succ, List.getElem_cons_zero, List.setIfInBounds_toArray, List.set_cons_zero, List.set_cons_succ]
        obtain ⟨⟨r0, r1, r2, r3, r4, r5⟩, f0, f1, f2, f3, f4, f5⟩ := cells6 (RX.out.box (w_45.heap.size, emptyOb) (by simp)).1
        refine wpAnyH_ready (rs := [14]) (by kernel_rfl) (by simp) ?_
        refine AllReadyH.cons rfl (fun K hK => ?_) AllReadyH.nil
        go_simp
        obtain ⟨w_52, ey, by_, oy⟩ := set6_box (RX.out.box (w_45.heap.size, emptyOb) (by simp)).1 (.int .i64 k1) (.bool x_1) (.int .i64 n1) (.int .i64 a1) (.int .i64 l1) (.string s1)
        rw [ey]
        have RY := Lib.hid (RX.out.set oy by_)
        clear RX SX ey by_ oy r0 r1 r2 r3 r4 r5 f0 f1 f2 f3 f4 f5
        have RX := RY
        clear RY
        have SX := Lib.hid (RX.out.box (ba, stObj A.what A.a A.b A.n A.m A.s A.o.k A.o.x A.o.n A.o.a A.o.l A.o.s) (by simp)).1
        refine hK.out _ _ SX.out (fun _ => ?_)
        clear hK
        try simp only [Act.put, List.getElem_toArray, List.getElem_cons_succ, List.getElem_cons_zero, List.setIfInBounds_toArray, List.set_cons_zero, List.set_cons_succ]
        have RY := Lib.hid RX.out.swap
        clear RX
        have RX := RY
        clear RY
        obtain ⟨⟨r0, r1, r2, r3, r4, r5⟩, f0, f1, f2, f3, f4, f5⟩ := cells6 (RX.out.box (w_0.heap.size, emptyOb) (by simp)).1
        refine wpAnyH_ready (rs := [15]) (by kernel_rfl) (by simp) ?_
        refine AllReadyH.cons rfl (fun K hK => ?_) AllReadyH.nil
        go_simp
        obtain ⟨w_53, ey, by_, oy⟩ := set6_box (RX.out.box (w_0.heap.size, emptyOb) (by simp)).1 (.int .i64 k2) (.bool x_2) (.int .i64 n2) (.int .i64 a2) (.int .i64 l2) (.string s2)
        rw [ey]
        have RY := Lib.hid (RX.out.set oy by_)
        clear RX SX ey by_ oy r0 r1 r2 r3 r4 r5 f0 f1 f2 f3 f4 f5
        have RX := RY
        clear RY
        have SX := Lib.hid (RX.out.box (ba, stObj A.what A.a A.b A.n A.m A.s A.o.k A.o.x A.o.n A.o.a A.o.l A.o.s) (by simp)).1
        refine hK.out _ _ SX.out (fun _ => ?_)
        clear hK
        try simp only [Act.put, List.getElem_toArray, List.getElem_cons_succ, List.getElem_cons_zero, List.setIfInBounds_toArray, List.set_cons_zero, List.set_cons_succ]
        refine wpAnyH_done (by kernel_rfl) ?_ _
        (try refine no_panic ?_)
        exact hexit.out _ _ _ _ _ _ _ _ _ _ _ _ _ _ _ RX.out
    · go_simp
      obtain ⟨w_54, ey, ry⟩ : ∃ w_54, w_44.alloc emptyOb = w_54 ∧ Rd w0 hb gb rb fb P Q P Q va X ((w_44.heap.size, emptyOb) :: (w_0.heap.size, emptyOb) :: (ba, stObj A.what A.a A.b A.n A.m A.s A.o.k A.o.x A.o.n A.o.a A.o.l A.o.s) :: bs) w_54 := ⟨_, rfl, RX.out.new _⟩
      rw [ey]
      clear RX SX ey
      have RX := Lib.hid ry
      clear ry
      have SX := Lib.hid (RX.out.box (ba, stObj A.what A.a A.b A.n A.m A.s A.o.k A.o.x A.o.n A.o.a A.o.l A.o.s) (by simp)).1
      refine hK.out _ _ SX.out (fun _ => ?_)
      clear hK
      try simp only [Act.put, List.getElem_toArray, List.getElem_cons_succ, List.getElem_cons_zero, List.setIfInBounds_toArray, List.set_cons_zero, List.set_cons_succ]
      refine wpAnyH_ready (rs := [5]) (by kernel_rfl) (by simp) ?_
      refine AllReadyH.cons rfl (fun K hK => ?_) AllReadyH.nil
      go_simp
      refine (C1.out _ RX.out.lis).mono ?_
      rintro e w_55 ⟨rfl, kk⟩
      have RY := Lib.hid (RX.out.later kk)
      clear RX SX kk
      have RX := RY
      clear RY
      have SX := Lib.hid (RX.out.box (ba, stObj A.what A.a A.b A.n A.m A.s A.o.k A.o.x A.o.n A.o.a A.o.l A.o.s) (by simp)).1
      refine hK.out _ _ SX.out (fun _ => ?_)
      clear hK
      try simp only [Act.put, List.getElem_toArray, List.getElem_cons_succ, List.getElem_cons_zero, List.setIfInBounds_toArray, List.set_cons_zero, List.set_cons_succ]
      refine wpAnyH_ready (rs := [11]) (by kernel_rfl) (by simp) ?_
      refine AllReadyH.cons rfl (fun K hK => ?_) AllReadyH.nil
      go_simp
      refine (C2.out _ RX.out.lis).mono ?_
      rintro e w_56 ⟨rfl, kk⟩
      have RY := Lib.hid (RX.out.later kk)
      clear RX SX kk
      have RX := RY
      clear RY
      have SX := Lib.hid (RX.out.box (ba, stObj A.what A.a A.b A.n A.m A.s A.o.k A.o.x A.o.n A.o.a A.o.l A.o.s) (by simp)).1
      refine hK.out _ _ SX.out (fun _ => ?_)
      clear hK
      try simp only [Act.put, List.getElem_toArray, List.getElem_cons_succ, List.getElem_cons_zero, List.setIfInBounds_toArray, List.set_cons_zero, List.set_cons_succ]
      obtain ⟨⟨r0, r1, r2, r3, r4, r5⟩, f0, f1, f2, f3, f4, f5⟩ := cells6 (RX.out.box (w_44.heap.size, emptyOb) (by simp)).1
      refine wpAnyH_ready (rs := [14]) (by kernel_rfl) (by simp) ?_
      refine AllReadyH.cons rfl (fun K hK => ?_) AllReadyH.nil
      go_simp
      obtain ⟨w_57, ey, by_, oy⟩ := set6_box (RX.out.box (w_44.heap.size, emptyOb) (by simp)).1 (.int .i64 k1) (.bool x_1) (.int .i64 n1) (.int .i64 a1) (.int .i64 l1) (.string s1)
      rw [ey]
      have RY := Lib.hid (RX.out.set oy by_)
      clear RX SX ey by_ oy r0 r1 r2 r3 r4 r5 f0 f1 f2 f3 f4 f5
      have RX := RY
      clear RY
      have SX := Lib.hid (RX.out.box (ba, stObj A.what A.a A.b A.n A.m A.s A.o.k A.o.x A.o.n A.o.a A.o.l A.o.s) (by simp)).1
      refine hK.out _ _ SX.out (fun _ => ?_)
      clear hK
      try simp only [Act.put, List.getElem_toArray, List.getElem_cons_succ, List.getElem_cons_zero, List.setIfInBounds_toArray, List.set_cons_zero, List.set_cons_succ]
      have RY := Lib.hid RX.out.swap
      clear RX
      have RX := RY
      clear RY
      obtain ⟨⟨r0, r1, r2, r3, r4, r5⟩, f0, f1, f2, f3, f4, f5⟩ := cells6 (RX.out.box (w_0.heap.size, emptyOb) (by simp)).1
      refine wpAnyH_ready (rs := [15]) (by kernel_rfl) (by simp) ?_
      refine AllReadyH.cons rfl (fun K hK => ?_) AllReadyH.nil
      go_simp
      obtain ⟨w_58, ey, by_, oy⟩ := set6_box (RX.out.box (w_0.heap.size, emptyOb) (by simp)).1 (.int .i64 k2) (.bool x_2) (.int .i64 n2) (.int .i64 a2) (.int .i64 l2) (.string s2)
      rw [ey]
      have RY := Lib.hid (RX.out.set oy by_)
      clear RX SX ey by_ oy r0 r1 r2 r3 r4 r5 f0 f1 f2 f3 f4 f5
      have RX := RY
      clear RY
      have SX := Lib.hid (RX.out.box (ba, stObj A.what A.a A.b A.n A.m A.s A.o.k A.o.x A.o.n A.o.a A.o.l A.o.s) (by simp)).1
      refine hK.out _ _ SX.out (fun _ => ?_)
      clear hK
      try simp only [Act.put, List.getElem_toArray, List.getElem_cons_succ, List.getElem_cons_zero, List.setIfInBounds_toArray, List.set_cons_zero, List.set_cons_succ]
      refine wpAnyH_done (by kernel_rfl) ?_ _
      (try refine no_panic ?_)
      exact hexit.out _ _ _ _ _ _ _ _ _ _ _ _ _ _ _ RX.out
end Go.Proofs.Ytmlkmgeddkpgiaa

/- HeapPlays: regions 31 and 40, over their frames written out. -/
namespace Go.Proofs.Ytmlkmgeddkpgiaa
open Go.RowKit
set_option linter.unusedVariables false
set_option linter.unusedSimpArgs false
set_option maxHeartbeats 20000000 in
set_option maxRecDepth 1000000 in
theorem reg31 (wb : World) (hb rb ba bo : Nat) (i z u : Int) (zl cap : Nat) (p : Option Addr) (ko : Int) (xo : Bool) (no ao lo : Int) (so : ByteArray)
    (x0 x1 x2 x3 x4 x7 x8 x9 x10 x13 x15 x16 x17 x18 x19 x20 x21 x22 x23 x24 x25 x26 x27 x28 x29 x30 x31 x32 x33 x34 x35 x36 x37 x38 x39 x40 x41 x42 x43 x44 x45 x46 x47 x48 x49 x50 x51 x52 x53 x54 x55 x56 x57 x58 x59 x60 x61 x62 x63 x64 x65 x66 x67 x68 x69 x70 x71 x72 x73 x74 x75 x76 x77 x78 x79 x80 x81 x82 x83 x84 x85 x86 x87 x88 x89 x90 x91 x92 x93 x94 x95 x96 x97 x98 x99 x100 x101 x102 x103 x104 x105 x106 x107 x108 x109 x110 x111 x112 x113 x114 x115 x116 x117 x118 x119 x120 x121 x122 x123 x124 x125 x126 x127 x128 x129 x130 x131 x132 x133 x134 x135 x136 x137 x138 x139 x140 x141 x142 x143 x144 x145 x146 x147 x148 x149 x150 x151 x152 x153 x154 x155 x156 x157 x158 x159 x160 x161 x162 x163 x164 x165 x166 x167 x168 x169 x170 x171 x172 x173 x174 x175 x176 x177 x178 x179 x180 x181 x182 x183 x184 x185 x186 x187 x188 x189 x190 x191 x192 x193 x194 x195 x196 x197 x198 x199 x200 x201 x202 x203 x204 x205 x206 x207 x208 x209 x210 x211 x212 x213 x214 : Value)
    (OA : Hid (ObAt wb bo ko xo no ao lo so)) (CN : Hid (wb.cell? ⟨ba, 3, none⟩ = some (.int .i64 i))) (CL : Hid (wb.cell? ⟨rb, 0, none⟩ = some (.slice p zl cap)))
    (CS : Hid (∀ wx, Below wb.heap.size wb wx → Calls Try.prog 22 #[ptr hb, ptr rb, obV ko xo no ao lo so, .int .i64 i] wx fun e w' => e = .returned (.bool true) ∧ Below wx.heap.size wx w'))
    (CC : Hid (∀ wx, Below wb.heap.size wb wx → Calls Try.prog 23 #[ptr hb] wx fun e w' => e = .returned (.int .i64 zl) ∧ Below wx.heap.size wx w'))
    (CU : Hid (∀ wx, Below wb.heap.size wb wx → Calls Try.prog 24 #[ptr hb] wx fun e w' => e = .returned (.int .i64 u) ∧ Below wx.heap.size wx w'))
    (CR : Hid (∀ wx, Below wb.heap.size wb wx → Calls Try.prog 25 #[ptr rb] wx fun e w' => e = .returned (.int .i64 u) ∧ Below wx.heap.size wx w'))
    (Q0 : Exit → Act → World → Prop)
    (hexit : Hid (∀ (y149 y150 y151 y152 y153 y154 y155 y156 y157 y158 y159 y160 y161 y162 y163 y164 y165 y166 y167 y168 y169 y170 y171 y172 y173 y174 y175 y176 y177 y178 y179 : Value) (wj : World), Below wb.heap.size wb wj → Q0 .normal ⟨#[x0, x1, x2, x3, x4, ptr hb, .pointer (some ⟨rb, 0, none⟩), x7, x8, x9, x10, .pointer (some ⟨ba, 0, none⟩), .pointer (some ⟨bo, 0, none⟩), x13, .bool true, x15, x16, x17, x18, x19, x20, x21, x22, x23, x24, x25, x26, x27, x28, x29, x30, x31, x32, x33, x34, x35, x36, x37, x38, x39, x40, x41, x42, x43, x44, x45, x46, x47, x48, x49, x50, x51, x52, x53, x54, x55, x56, x57, x58, x59, x60, x61, x62, x63, x64, x65, x66, x67, x68, x69, x70, x71, x72, x73, x74, x75, x76, x77, x78, x79, x80, x81, x82, x83, x84, x85, x86, x87, x88, x89, x90, x91, x92, x93, x94, x95, x96, x97, x98, x99, x100, x101, x102, x103, x104, x105, x106, x107, x108, x109, x110, x111, x112, x113, x114, x115, x116, x117, x118, x119, x120, x121, x122, x123, x124, x125, x126, x127, x128, x129, x130, x131, x132, x133, x134, x135, x136, x137, x138, x139, x140, x141, x142, x143, x144, x145, x146, x147, x148, y149, y150, y151, y152, y153, y154, y155, y156, y157, y158, y159, y160, y161, y162, y163, y164, y165, y166, y167, y168, y169, y170, y171, y172, y173, y174, y175, y176, y177, y178, y179, .bool false, x181, x182, x183, x184, x185, x186, x187, x188, x189, x190, x191, x192, x193, x194, x195, x196, x197, x198, x199, x200, x201, x202, x203, x204, x205, x206, x207, x208, x209, x210, x211, x212, x213, x214], []⟩ wj)) :
    Code.wp Try.prog (codeAt 31) Q0 ⟨#[x0, x1, x2, x3, x4, ptr hb, .pointer (some ⟨rb, 0, none⟩), x7, x8, x9, x10, .pointer (some ⟨ba, 0, none⟩), .pointer (some ⟨bo, 0, none⟩), x13, .bool true, x15, x16, x17, x18, x19, x20, x21, x22, x23, x24, x25, x26, x27, x28, x29, x30, x31, x32, x33, x34, x35, x36, x37, x38, x39, x40, x41, x42, x43, x44, x45, x46, x47, x48, x49, x50, x51, x52, x53, x54, x55, x56, x57, x58, x59, x60, x61, x62, x63, x64, x65, x66, x67, x68, x69, x70, x71, x72, x73, x74, x75, x76, x77, x78, x79, x80, x81, x82, x83, x84, x85, x86, x87, x88, x89, x90, x91, x92, x93, x94, x95, x96, x97, x98, x99, x100, x101, x102, x103, x104, x105, x106, x107, x108, x109, x110, x111, x112, x113, x114, x115, x116, x117, x118, x119, x120, x121, x122, x123, x124, x125, x126, x127, x128, x129, x130, x131, x132, x133, x134, x135, x136, x137, x138, x139, x140, x141, x142, x143, x144, x145, x146, x147, x148, x149, x150, x151, x152, x153, x154, x155, x156, x157, x158, x159, x160, x161, x162, x163, x164, x165, x166, x167, x168, x169, x170, x171, x172, x173, x174, x175, x176, x177, x178, x179, x180, x181, x182, x183, x184, x185, x186, x187, x188, x189, x190, x191, x192, x193, x194, x195, x196, x197, x198, x199, x200, x201, x202, x203, x204, x205, x206, x207, x208, x209, x210, x211, x212, x213, x214], []⟩ wb := by
  have SX : Hid (Below wb.heap.size wb wb.drew) := Lib.hid (Below.refl _ _).drew
  conv => arg 2; whnf
  (try refine wp_region_noPanic ?_)
  refine wp_region_held_drew (S := fun wx => Below wb.heap.size wb wx) (by kernel_rfl) SX.out (fun _ => ?_)
  generalize wb.drew = w_0 at SX ⊢
  refine wpAnyH_take (i := 0) (v := .bool true) rfl (by kernel_rfl) (by kernel_rfl) (by kernel_rfl) (fun _ _ _ h => h) (Or.inl ⟨by rfl, fun wx hS => ?_⟩) SX.out ?_
  · go_simp
  try simp only [Act.put, List.getElem_toArray, List.getElem_cons_succ, List.getElem_cons_zero, List.setIfInBounds_toArray, List.set_cons_zero, List.set_cons_succ]
  refine wpAnyH_take (i := 1) (v := .bool false) rfl (by kernel_rfl) (by kernel_rfl) (by kernel_rfl) (fun _ _ _ h => h) (Or.inl ⟨by rfl, fun wx hS => ?_⟩) SX.out ?_
  · go_simp
  try simp only [Act.put, List.getElem_toArray, List.getElem_cons_succ, List.getElem_cons_zero, List.setIfInBounds_toArray, List.set_cons_zero, List.set_cons_succ]
  refine wpAnyH_take (i := 2) (v := .bool false) rfl (by kernel_rfl) (by kernel_rfl) (by kernel_rfl) (fun _ _ _ h => h) (Or.inl ⟨by rfl, fun wx hS => ?_⟩) SX.out ?_
  · go_simp
  try simp only [Act.put, List.getElem_toArray, List.getElem_cons_succ, List.getElem_cons_zero, List.setIfInBounds_toArray, List.set_cons_zero, List.set_cons_succ]
  refine wpAnyH_take (i := 3) (v := ptr hb) rfl (by kernel_rfl) (by kernel_rfl) (by kernel_rfl) (fun _ _ _ h => h) (Or.inl ⟨by rfl, fun wx hS => ?_⟩) SX.out ?_
  · go_simp
  try simp only [Act.put, List.getElem_toArray, List.getElem_cons_succ, List.getElem_cons_zero, List.setIfInBounds_toArray, List.set_cons_zero, List.set_cons_succ]
  refine wpAnyH_take (i := 4) (v := .bool false) rfl (by kernel_rfl) (by kernel_rfl) (by kernel_rfl) (fun _ _ _ h => h) (Or.inl ⟨by rfl, fun wx hS => ?_⟩) SX.out ?_
  · go_simp
  try simp only [Act.put, List.getElem_toArray, List.getElem_cons_succ, List.getElem_cons_zero, List.setIfInBounds_toArray, List.set_cons_zero, List.set_cons_succ]
  refine wpAnyH_take (i := 5) (v := .bool false) rfl (by kernel_rfl) (by kernel_rfl) (by kernel_rfl) (fun _ _ _ h => h) (Or.inl ⟨by rfl, fun wx hS => ?_⟩) SX.out ?_
  · go_simp
  try simp only [Act.put, List.getElem_toArray, List.getElem_cons_succ, List.getElem_cons_zero, List.setIfInBounds_toArray, List.set_cons_zero, List.set_cons_succ]
  refine wpAnyH_take (i := 6) (v := .bool false) rfl (by kernel_rfl) (by kernel_rfl) (by kernel_rfl) (fun _ _ _ h => h) (Or.inl ⟨by rfl, fun wx hS => ?_⟩) SX.out ?_
  · go_simp
  try simp only [Act.put, List.getElem_toArray, List.getElem_cons_succ, List.getElem_cons_zero, List.setIfInBounds_toArray, List.set_cons_zero, List.set_cons_succ]
  refine wpAnyH_take (i := 7) (v := ptr hb) rfl (by kernel_rfl) (by kernel_rfl) (by kernel_rfl) (fun _ _ _ h => h) (Or.inl ⟨by rfl, fun wx hS => ?_⟩) SX.out ?_
  · go_simp
  try simp only [Act.put, List.getElem_toArray, List.getElem_cons_succ, List.getElem_cons_zero, List.setIfInBounds_toArray, List.set_cons_zero, List.set_cons_succ]
  refine wpAnyH_take (i := 8) (v := .pointer (some ⟨rb, 0, none⟩)) rfl (by kernel_rfl) (by kernel_rfl) (by kernel_rfl) (fun _ _ _ h => h) (Or.inl ⟨by rfl, fun wx hS => ?_⟩) SX.out ?_
  · go_simp
  try simp only [Act.put, List.getElem_toArray, List.getElem_cons_succ, List.getElem_cons_zero, List.setIfInBounds_toArray, List.set_cons_zero, List.set_cons_succ]
  refine wpAnyH_take (i := 9) (v := obV ko xo no ao lo so) rfl (by kernel_rfl) (by kernel_rfl) (by kernel_rfl) (fun _ _ _ h => h) (Or.inl ⟨by rfl, fun wx hS => ?_⟩) SX.out ?_
  · have ⟨o0, o1, o2, o3, o4, o5⟩ := OA.out.later hS; go_simp
  try simp only [Act.put, List.getElem_toArray, List.getElem_cons_succ, List.getElem_cons_zero, List.setIfInBounds_toArray, List.set_cons_zero, List.set_cons_succ]
  refine wpAnyH_take (i := 10) (v := .pointer (some ⟨ba, 3, none⟩)) rfl (by kernel_rfl) (by kernel_rfl) (by kernel_rfl) (fun _ _ _ h => h) (Or.inl ⟨by rfl, fun wx hS => ?_⟩) SX.out ?_
  · go_simp
  try simp only [Act.put, List.getElem_toArray, List.getElem_cons_succ, List.getElem_cons_zero, List.setIfInBounds_toArray, List.set_cons_zero, List.set_cons_succ]
  refine wpAnyH_take (i := 11) (v := .int .i64 i) rfl (by kernel_rfl) (by kernel_rfl) (by kernel_rfl) (fun _ _ _ h => h) (Or.inl ⟨by rfl, fun wx hS => ?_⟩) SX.out ?_
  · have n0 := cell_later hS CN.out; go_simp
  try simp only [Act.put, List.getElem_toArray, List.getElem_cons_succ, List.getElem_cons_zero, List.setIfInBounds_toArray, List.set_cons_zero, List.set_cons_succ]
  refine wpAnyH_ready (rs := [12]) (by kernel_rfl) (by simp) ?_
  refine AllReadyH.cons rfl (fun K hK => ?_) AllReadyH.nil
  go_simp
  refine (CS.out _ SX.out).mono ?_
  rintro e wc ⟨rfl, kk⟩
  have SY := Lib.hid (below_and SX.out kk)
  clear SX kk
  have SX := SY
  clear SY
  refine hK.out _ _ SX.out (fun _ => ?_)
  clear hK
  try simp only [Act.put, List.getElem_toArray, List.getElem_cons_succ, List.getElem_cons_zero, List.setIfInBounds_toArray, List.set_cons_zero, List.set_cons_succ]
  refine wpAnyH_take (i := 13) (v := .bool false) rfl (by kernel_rfl) (by kernel_rfl) (by kernel_rfl) (fun _ _ _ h => h) (Or.inl ⟨by rfl, fun wx hS => ?_⟩) SX.out ?_
  · go_simp
  try simp only [Act.put, List.getElem_toArray, List.getElem_cons_succ, List.getElem_cons_zero, List.setIfInBounds_toArray, List.set_cons_zero, List.set_cons_succ]
  refine wpAnyH_take (i := 14) (v := .bool false) rfl (by kernel_rfl) (by kernel_rfl) (by kernel_rfl) (fun _ _ _ h => h) (Or.inl ⟨by rfl, fun wx hS => ?_⟩) SX.out ?_
  · go_simp
  try simp only [Act.put, List.getElem_toArray, List.getElem_cons_succ, List.getElem_cons_zero, List.setIfInBounds_toArray, List.set_cons_zero, List.set_cons_succ]
  refine wpAnyH_take (i := 15) (v := .bool false) rfl (by kernel_rfl) (by kernel_rfl) (by kernel_rfl) (fun _ _ _ h => h) (Or.inl ⟨by rfl, fun wx hS => ?_⟩) SX.out ?_
  · go_simp
  try simp only [Act.put, List.getElem_toArray, List.getElem_cons_succ, List.getElem_cons_zero, List.setIfInBounds_toArray, List.set_cons_zero, List.set_cons_succ]
  refine wpAnyH_take (i := 16) (v := ptr hb) rfl (by kernel_rfl) (by kernel_rfl) (by kernel_rfl) (fun _ _ _ h => h) (Or.inl ⟨by rfl, fun wx hS => ?_⟩) SX.out ?_
  · go_simp
  try simp only [Act.put, List.getElem_toArray, List.getElem_cons_succ, List.getElem_cons_zero, List.setIfInBounds_toArray, List.set_cons_zero, List.set_cons_succ]
  refine wpAnyH_take (i := 18) (v := .pointer (some ⟨rb, 0, none⟩)) rfl (by kernel_rfl) (by kernel_rfl) (by kernel_rfl) (fun _ _ _ h => h) (Or.inl ⟨by rfl, fun wx hS => ?_⟩) SX.out ?_
  · go_simp
  try simp only [Act.put, List.getElem_toArray, List.getElem_cons_succ, List.getElem_cons_zero, List.setIfInBounds_toArray, List.set_cons_zero, List.set_cons_succ]
  refine wpAnyH_take (i := 19) (v := .pointer (some ⟨rb, 0, none⟩)) rfl (by kernel_rfl) (by kernel_rfl) (by kernel_rfl) (fun _ _ _ h => h) (Or.inl ⟨by rfl, fun wx hS => ?_⟩) SX.out ?_
  · go_simp
  try simp only [Act.put, List.getElem_toArray, List.getElem_cons_succ, List.getElem_cons_zero, List.setIfInBounds_toArray, List.set_cons_zero, List.set_cons_succ]
  refine wpAnyH_take (i := 20) (v := .pointer (some ⟨rb, 0, none⟩)) rfl (by kernel_rfl) (by kernel_rfl) (by kernel_rfl) (fun _ _ _ h => h) (Or.inl ⟨by rfl, fun wx hS => ?_⟩) SX.out ?_
  · go_simp
  try simp only [Act.put, List.getElem_toArray, List.getElem_cons_succ, List.getElem_cons_zero, List.setIfInBounds_toArray, List.set_cons_zero, List.set_cons_succ]
  refine wpAnyH_take (i := 21) (v := .slice p zl cap) rfl (by kernel_rfl) (by kernel_rfl) (by kernel_rfl) (fun _ _ _ h => h) (Or.inl ⟨by rfl, fun wx hS => ?_⟩) SX.out ?_
  · have l0 := cell_later hS CL.out; go_simp
  try simp only [Act.put, List.getElem_toArray, List.getElem_cons_succ, List.getElem_cons_zero, List.setIfInBounds_toArray, List.set_cons_zero, List.set_cons_succ]
  refine wpAnyH_take (i := 22) (v := .int .i64 zl) rfl (by kernel_rfl) (by kernel_rfl) (by kernel_rfl) (fun _ _ _ h => h) (Or.inl ⟨by rfl, fun wx hS => ?_⟩) SX.out ?_
  · go_simp
  try simp only [Act.put, List.getElem_toArray, List.getElem_cons_succ, List.getElem_cons_zero, List.setIfInBounds_toArray, List.set_cons_zero, List.set_cons_succ]
  refine wpAnyH_ready (rs := [17]) (by kernel_rfl) (by simp) ?_
  refine AllReadyH.cons rfl (fun K hK => ?_) AllReadyH.nil
  go_simp
  refine (CC.out _ SX.out).mono ?_
  rintro e wd ⟨rfl, kk⟩
  have SY := Lib.hid (below_and SX.out kk)
  clear SX kk
  have SX := SY
  clear SY
  refine hK.out _ _ SX.out (fun _ => ?_)
  clear hK
  try simp only [Act.put, List.getElem_toArray, List.getElem_cons_succ, List.getElem_cons_zero, List.setIfInBounds_toArray, List.set_cons_zero, List.set_cons_succ]
  refine wpAnyH_take (i := 23) (v := .bool false) rfl (by kernel_rfl) (by kernel_rfl) (by kernel_rfl) (fun _ _ _ h => h) (Or.inl ⟨by rfl, fun wx hS => ?_⟩) SX.out ?_
  · go_simp
  try simp only [Act.put, List.getElem_toArray, List.getElem_cons_succ, List.getElem_cons_zero, List.setIfInBounds_toArray, List.set_cons_zero, List.set_cons_succ]
  refine wpAnyH_take (i := 24) (v := .bool false) rfl (by kernel_rfl) (by kernel_rfl) (by kernel_rfl) (fun _ _ _ h => h) (Or.inl ⟨by rfl, fun wx hS => ?_⟩) SX.out ?_
  · go_simp
  try simp only [Act.put, List.getElem_toArray, List.getElem_cons_succ, List.getElem_cons_zero, List.setIfInBounds_toArray, List.set_cons_zero, List.set_cons_succ]
  refine wpAnyH_take (i := 25) (v := .bool false) rfl (by kernel_rfl) (by kernel_rfl) (by kernel_rfl) (fun _ _ _ h => h) (Or.inl ⟨by rfl, fun wx hS => ?_⟩) SX.out ?_
  · go_simp
  try simp only [Act.put, List.getElem_toArray, List.getElem_cons_succ, List.getElem_cons_zero, List.setIfInBounds_toArray, List.set_cons_zero, List.set_cons_succ]
  refine wpAnyH_take (i := 26) (v := ptr hb) rfl (by kernel_rfl) (by kernel_rfl) (by kernel_rfl) (fun _ _ _ h => h) (Or.inl ⟨by rfl, fun wx hS => ?_⟩) SX.out ?_
  · go_simp
  try simp only [Act.put, List.getElem_toArray, List.getElem_cons_succ, List.getElem_cons_zero, List.setIfInBounds_toArray, List.set_cons_zero, List.set_cons_succ]
  refine wpAnyH_take (i := 28) (v := .pointer (some ⟨rb, 0, none⟩)) rfl (by kernel_rfl) (by kernel_rfl) (by kernel_rfl) (fun _ _ _ h => h) (Or.inl ⟨by rfl, fun wx hS => ?_⟩) SX.out ?_
  · go_simp
  try simp only [Act.put, List.getElem_toArray, List.getElem_cons_succ, List.getElem_cons_zero, List.setIfInBounds_toArray, List.set_cons_zero, List.set_cons_succ]
  refine wpAnyH_ready (rs := [27]) (by kernel_rfl) (by simp) ?_
  refine AllReadyH.cons rfl (fun K hK => ?_) AllReadyH.nil
  go_simp
  refine (CU.out _ SX.out).mono ?_
  rintro e we ⟨rfl, kk⟩
  have SY := Lib.hid (below_and SX.out kk)
  clear SX kk
  have SX := SY
  clear SY
  refine hK.out _ _ SX.out (fun _ => ?_)
  clear hK
  try simp only [Act.put, List.getElem_toArray, List.getElem_cons_succ, List.getElem_cons_zero, List.setIfInBounds_toArray, List.set_cons_zero, List.set_cons_succ]
  refine wpAnyH_ready (rs := [29]) (by kernel_rfl) (by simp) ?_
  refine AllReadyH.cons rfl (fun K hK => ?_) AllReadyH.nil
  go_simp
  refine (CR.out _ SX.out).mono ?_
  rintro e wf ⟨rfl, kk⟩
  have SY := Lib.hid (below_and SX.out kk)
  clear SX kk
  have SX := SY
  clear SY
  refine hK.out _ _ SX.out (fun _ => ?_)
  clear hK
  try simp only [Act.put, List.getElem_toArray, List.getElem_cons_succ, List.getElem_cons_zero, List.setIfInBounds_toArray, List.set_cons_zero, List.set_cons_succ]
  refine wpAnyH_take (i := 30) (v := .bool false) rfl (by kernel_rfl) (by kernel_rfl) (by kernel_rfl) (fun _ _ _ h => h) (Or.inl ⟨by rfl, fun wx hS => ?_⟩) SX.out ?_
  · go_simp
  try simp only [Act.put, List.getElem_toArray, List.getElem_cons_succ, List.getElem_cons_zero, List.setIfInBounds_toArray, List.set_cons_zero, List.set_cons_succ]
  refine wpAnyH_take (i := 31) (v := .bool false) rfl (by kernel_rfl) (by kernel_rfl) (by kernel_rfl) (fun _ _ _ h => h) (Or.inl ⟨by rfl, fun wx hS => ?_⟩) SX.out ?_
  · go_simp
  try simp only [Act.put, List.getElem_toArray, List.getElem_cons_succ, List.getElem_cons_zero, List.setIfInBounds_toArray, List.set_cons_zero, List.set_cons_succ]
  refine wpAnyH_done (by kernel_rfl) ?_ _
  (try refine no_panic ?_)
  exact hexit.out _ _ _ _ _ _ _ _ _ _ _ _ _ _ _ _ _ _ _ _ _ _ _ _ _ _ _ _ _ _ _ _ SX.out
set_option maxHeartbeats 20000000 in
set_option maxRecDepth 1000000 in
theorem reg40 (wb : World) (hb rb gb fb bo : Nat) (u : Int) (zl cap : Nat) (p : Option Addr) (ko : Int) (xo : Bool) (no ao lo : Int) (so : ByteArray)
    (x0 x1 x2 x4 x9 x10 x11 x12 x13 x14 x15 x16 x17 x18 x19 x20 x21 x22 x23 x24 x25 x26 x27 x28 x29 x30 x31 x32 x33 x34 x35 x36 x37 x38 x39 x40 x41 x42 x43 x44 x45 x46 x47 x48 x49 x50 x51 x52 x53 x54 x55 x56 x57 x58 x59 x60 x61 x62 x63 x64 x65 x66 x67 x68 x69 x70 x71 x72 x73 x74 x75 x76 x77 x78 x79 x80 x81 x82 x83 x84 x85 x86 x87 x88 x89 x90 x91 x92 x93 x94 x95 x96 x97 x98 x99 x100 x101 x102 x103 x104 x105 x106 x107 x108 x109 x110 x111 x112 x113 x114 x115 x116 x117 x118 x119 x120 x121 x122 x123 x124 x125 x126 x127 x128 x129 x130 x131 x132 x133 x134 x135 x136 x137 x138 x139 x140 x141 x142 x143 x144 x145 x146 x147 x148 x149 x150 x151 x152 x153 x154 x155 x156 x157 x158 x159 x160 x161 x162 x163 x164 x165 x166 x167 x168 x169 x170 x171 x172 x173 x174 x175 x176 x177 x178 x179 x180 x181 x182 x183 x184 x185 x186 x187 x188 x189 x190 x191 x192 x193 x194 x195 x196 x197 x198 x199 x200 x201 x202 x203 x204 x205 x206 x207 x208 x209 x210 x211 x212 x213 x214 : Value)
    (OA : Hid (ObAt wb bo ko xo no ao lo so)) (CL : Hid (wb.cell? ⟨fb, 0, none⟩ = some (.slice p zl cap)))
    (CS : Hid (∀ wx, Below wb.heap.size wb wx → Calls Try.prog 22 #[ptr hb, ptr rb, obV ko xo no ao lo so, .int .i64 0] wx fun e w' => e = .returned (.bool true) ∧ Below wx.heap.size wx w'))
    (CC : Hid (∀ wx, Below wb.heap.size wb wx → Calls Try.prog 23 #[ptr gb] wx fun e w' => e = .returned (.int .i64 zl) ∧ Below wx.heap.size wx w'))
    (CU : Hid (∀ wx, Below wb.heap.size wb wx → Calls Try.prog 24 #[ptr gb] wx fun e w' => e = .returned (.int .i64 u) ∧ Below wx.heap.size wx w'))
    (CR : Hid (∀ wx, Below wb.heap.size wb wx → Calls Try.prog 25 #[ptr fb] wx fun e w' => e = .returned (.int .i64 u) ∧ Below wx.heap.size wx w'))
    (Q0 : Exit → Act → World → Prop)
    (hexit : Hid (∀ (y194 y195 y196 y197 y198 y199 y200 y201 y202 y203 y204 y205 y206 y207 y208 y209 y210 y211 y212 y213 y214 : Value) (wj : World), Below wb.heap.size wb wj → Q0 .normal ⟨#[x0, x1, x2, .pointer (some ⟨bo, 0, none⟩), .bool true, ptr hb, .pointer (some ⟨rb, 0, none⟩), ptr gb, .pointer (some ⟨fb, 0, none⟩), x9, x10, x11, x12, x13, x14, x15, x16, x17, x18, x19, x20, x21, x22, x23, x24, x25, x26, x27, x28, x29, x30, x31, x32, x33, x34, x35, x36, x37, x38, x39, x40, x41, x42, x43, x44, x45, x46, x47, x48, x49, x50, x51, x52, x53, x54, x55, x56, x57, x58, x59, x60, x61, x62, x63, x64, x65, x66, x67, x68, x69, x70, x71, x72, x73, x74, x75, x76, x77, x78, x79, x80, x81, x82, x83, x84, x85, x86, x87, x88, x89, x90, x91, x92, x93, x94, x95, x96, x97, x98, x99, x100, x101, x102, x103, x104, x105, x106, x107, x108, x109, x110, x111, x112, x113, x114, x115, x116, x117, x118, x119, x120, x121, x122, x123, x124, x125, x126, x127, x128, x129, x130, x131, x132, x133, x134, x135, x136, x137, x138, x139, x140, x141, x142, x143, x144, x145, x146, x147, x148, x149, x150, x151, x152, x153, x154, x155, x156, x157, x158, x159, x160, x161, x162, x163, x164, x165, x166, x167, x168, x169, x170, x171, x172, x173, x174, x175, x176, x177, x178, x179, x180, x181, x182, x183, x184, x185, x186, x187, x188, x189, x190, x191, x192, x193, y194, y195, y196, y197, y198, y199, y200, y201, y202, y203, y204, y205, y206, y207, y208, y209, y210, y211, y212, y213, y214], []⟩ wj)) :
    Code.wp Try.prog (codeAt 40) Q0 ⟨#[x0, x1, x2, .pointer (some ⟨bo, 0, none⟩), x4, ptr hb, .pointer (some ⟨rb, 0, none⟩), ptr gb, .pointer (some ⟨fb, 0, none⟩), x9, x10, x11, x12, x13, x14, x15, x16, x17, x18, x19, x20, x21, x22, x23, x24, x25, x26, x27, x28, x29, x30, x31, x32, x33, x34, x35, x36, x37, x38, x39, x40, x41, x42, x43, x44, x45, x46, x47, x48, x49, x50, x51, x52, x53, x54, x55, x56, x57, x58, x59, x60, x61, x62, x63, x64, x65, x66, x67, x68, x69, x70, x71, x72, x73, x74, x75, x76, x77, x78, x79, x80, x81, x82, x83, x84, x85, x86, x87, x88, x89, x90, x91, x92, x93, x94, x95, x96, x97, x98, x99, x100, x101, x102, x103, x104, x105, x106, x107, x108, x109, x110, x111, x112, x113, x114, x115, x116, x117, x118, x119, x120, x121, x122, x123, x124, x125, x126, x127, x128, x129, x130, x131, x132, x133, x134, x135, x136, x137, x138, x139, x140, x141, x142, x143, x144, x145, x146, x147, x148, x149, x150, x151, x152, x153, x154, x155, x156, x157, x158, x159, x160, x161, x162, x163, x164, x165, x166, x167, x168, x169, x170, x171, x172, x173, x174, x175, x176, x177, x178, x179, x180, x181, x182, x183, x184, x185, x186, x187, x188, x189, x190, x191, x192, x193, x194, x195, x196, x197, x198, x199, x200, x201, x202, x203, x204, x205, x206, x207, x208, x209, x210, x211, x212, x213, x214], []⟩ wb := by
  have SX : Hid (Below wb.heap.size wb wb.drew) := Lib.hid (Below.refl _ _).drew
  conv => arg 2; whnf
  (try refine wp_region_noPanic ?_)
  refine wp_region_held_drew (S := fun wx => Below wb.heap.size wb wx) (by kernel_rfl) SX.out (fun _ => ?_)
  generalize wb.drew = w_0 at SX ⊢
  refine wpAnyH_take (i := 0) (v := ptr hb) rfl (by kernel_rfl) (by kernel_rfl) (by kernel_rfl) (fun _ _ _ h => h) (Or.inl ⟨by rfl, fun wx hS => ?_⟩) SX.out ?_
  · go_simp
  try simp only [Act.put, List.getElem_toArray, List.getElem_cons_succ, List.getElem_cons_zero, List.setIfInBounds_toArray, List.set_cons_zero, List.set_cons_succ]
  refine wpAnyH_take (i := 1) (v := .pointer (some ⟨rb, 0, none⟩)) rfl (by kernel_rfl) (by kernel_rfl) (by kernel_rfl) (fun _ _ _ h => h) (Or.inl ⟨by rfl, fun wx hS => ?_⟩) SX.out ?_
  · go_simp
  try simp only [Act.put, List.getElem_toArray, List.getElem_cons_succ, List.getElem_cons_zero, List.setIfInBounds_toArray, List.set_cons_zero, List.set_cons_succ]
  refine wpAnyH_take (i := 2) (v := obV ko xo no ao lo so) rfl (by kernel_rfl) (by kernel_rfl) (by kernel_rfl) (fun _ _ _ h => h) (Or.inl ⟨by rfl, fun wx hS => ?_⟩) SX.out ?_
  · have ⟨o0, o1, o2, o3, o4, o5⟩ := OA.out.later hS; go_simp
  try simp only [Act.put, List.getElem_toArray, List.getElem_cons_succ, List.getElem_cons_zero, List.setIfInBounds_toArray, List.set_cons_zero, List.set_cons_succ]
  refine wpAnyH_ready (rs := [3]) (by kernel_rfl) (by simp) ?_
  refine AllReadyH.cons rfl (fun K hK => ?_) AllReadyH.nil
  go_simp
  refine (CS.out _ SX.out).mono ?_
  rintro e wc ⟨rfl, kk⟩
  have SY := Lib.hid (below_and SX.out kk)
  clear SX kk
  have SX := SY
  clear SY
  refine hK.out _ _ SX.out (fun _ => ?_)
  clear hK
  try simp only [Act.put, List.getElem_toArray, List.getElem_cons_succ, List.getElem_cons_zero, List.setIfInBounds_toArray, List.set_cons_zero, List.set_cons_succ]
  refine wpAnyH_take (i := 4) (v := .bool true) rfl (by kernel_rfl) (by kernel_rfl) (by kernel_rfl) (fun _ _ _ h => h) (Or.inl ⟨by rfl, fun wx hS => ?_⟩) SX.out ?_
  · go_simp
  try simp only [Act.put, List.getElem_toArray, List.getElem_cons_succ, List.getElem_cons_zero, List.setIfInBounds_toArray, List.set_cons_zero, List.set_cons_succ]
  refine wpAnyH_take (i := 5) (v := ptr gb) rfl (by kernel_rfl) (by kernel_rfl) (by kernel_rfl) (fun _ _ _ h => h) (Or.inl ⟨by rfl, fun wx hS => ?_⟩) SX.out ?_
  · go_simp
  try simp only [Act.put, List.getElem_toArray, List.getElem_cons_succ, List.getElem_cons_zero, List.setIfInBounds_toArray, List.set_cons_zero, List.set_cons_succ]
  refine wpAnyH_take (i := 7) (v := .pointer (some ⟨fb, 0, none⟩)) rfl (by kernel_rfl) (by kernel_rfl) (by kernel_rfl) (fun _ _ _ h => h) (Or.inl ⟨by rfl, fun wx hS => ?_⟩) SX.out ?_
  · go_simp
  try simp only [Act.put, List.getElem_toArray, List.getElem_cons_succ, List.getElem_cons_zero, List.setIfInBounds_toArray, List.set_cons_zero, List.set_cons_succ]
  refine wpAnyH_take (i := 8) (v := .pointer (some ⟨fb, 0, none⟩)) rfl (by kernel_rfl) (by kernel_rfl) (by kernel_rfl) (fun _ _ _ h => h) (Or.inl ⟨by rfl, fun wx hS => ?_⟩) SX.out ?_
  · go_simp
  try simp only [Act.put, List.getElem_toArray, List.getElem_cons_succ, List.getElem_cons_zero, List.setIfInBounds_toArray, List.set_cons_zero, List.set_cons_succ]
  refine wpAnyH_take (i := 9) (v := .pointer (some ⟨fb, 0, none⟩)) rfl (by kernel_rfl) (by kernel_rfl) (by kernel_rfl) (fun _ _ _ h => h) (Or.inl ⟨by rfl, fun wx hS => ?_⟩) SX.out ?_
  · go_simp
  try simp only [Act.put, List.getElem_toArray, List.getElem_cons_succ, List.getElem_cons_zero, List.setIfInBounds_toArray, List.set_cons_zero, List.set_cons_succ]
  refine wpAnyH_take (i := 10) (v := .slice p zl cap) rfl (by kernel_rfl) (by kernel_rfl) (by kernel_rfl) (fun _ _ _ h => h) (Or.inl ⟨by rfl, fun wx hS => ?_⟩) SX.out ?_
  · have l0 := cell_later hS CL.out; go_simp
  try simp only [Act.put, List.getElem_toArray, List.getElem_cons_succ, List.getElem_cons_zero, List.setIfInBounds_toArray, List.set_cons_zero, List.set_cons_succ]
  refine wpAnyH_take (i := 11) (v := .int .i64 zl) rfl (by kernel_rfl) (by kernel_rfl) (by kernel_rfl) (fun _ _ _ h => h) (Or.inl ⟨by rfl, fun wx hS => ?_⟩) SX.out ?_
  · go_simp
  try simp only [Act.put, List.getElem_toArray, List.getElem_cons_succ, List.getElem_cons_zero, List.setIfInBounds_toArray, List.set_cons_zero, List.set_cons_succ]
  refine wpAnyH_ready (rs := [6]) (by kernel_rfl) (by simp) ?_
  refine AllReadyH.cons rfl (fun K hK => ?_) AllReadyH.nil
  go_simp
  refine (CC.out _ SX.out).mono ?_
  rintro e wd ⟨rfl, kk⟩
  have SY := Lib.hid (below_and SX.out kk)
  clear SX kk
  have SX := SY
  clear SY
  refine hK.out _ _ SX.out (fun _ => ?_)
  clear hK
  try simp only [Act.put, List.getElem_toArray, List.getElem_cons_succ, List.getElem_cons_zero, List.setIfInBounds_toArray, List.set_cons_zero, List.set_cons_succ]
  refine wpAnyH_take (i := 12) (v := .bool true) rfl (by kernel_rfl) (by kernel_rfl) (by kernel_rfl) (fun _ _ _ h => h) (Or.inl ⟨by rfl, fun wx hS => ?_⟩) SX.out ?_
  · go_simp
  try simp only [Act.put, List.getElem_toArray, List.getElem_cons_succ, List.getElem_cons_zero, List.setIfInBounds_toArray, List.set_cons_zero, List.set_cons_succ]
  refine wpAnyH_take (i := 13) (v := .bool true) rfl (by kernel_rfl) (by kernel_rfl) (by kernel_rfl) (fun _ _ _ h => h) (Or.inl ⟨by rfl, fun wx hS => ?_⟩) SX.out ?_
  · go_simp
  try simp only [Act.put, List.getElem_toArray, List.getElem_cons_succ, List.getElem_cons_zero, List.setIfInBounds_toArray, List.set_cons_zero, List.set_cons_succ]
  refine wpAnyH_take (i := 14) (v := .bool true) rfl (by kernel_rfl) (by kernel_rfl) (by kernel_rfl) (fun _ _ _ h => h) (Or.inl ⟨by rfl, fun wx hS => ?_⟩) SX.out ?_
  · go_simp
  try simp only [Act.put, List.getElem_toArray, List.getElem_cons_succ, List.getElem_cons_zero, List.setIfInBounds_toArray, List.set_cons_zero, List.set_cons_succ]
  refine wpAnyH_take (i := 15) (v := ptr gb) rfl (by kernel_rfl) (by kernel_rfl) (by kernel_rfl) (fun _ _ _ h => h) (Or.inl ⟨by rfl, fun wx hS => ?_⟩) SX.out ?_
  · go_simp
  try simp only [Act.put, List.getElem_toArray, List.getElem_cons_succ, List.getElem_cons_zero, List.setIfInBounds_toArray, List.set_cons_zero, List.set_cons_succ]
  refine wpAnyH_take (i := 17) (v := .pointer (some ⟨fb, 0, none⟩)) rfl (by kernel_rfl) (by kernel_rfl) (by kernel_rfl) (fun _ _ _ h => h) (Or.inl ⟨by rfl, fun wx hS => ?_⟩) SX.out ?_
  · go_simp
  try simp only [Act.put, List.getElem_toArray, List.getElem_cons_succ, List.getElem_cons_zero, List.setIfInBounds_toArray, List.set_cons_zero, List.set_cons_succ]
  refine wpAnyH_ready (rs := [16]) (by kernel_rfl) (by simp) ?_
  refine AllReadyH.cons rfl (fun K hK => ?_) AllReadyH.nil
  go_simp
  refine (CU.out _ SX.out).mono ?_
  rintro e we ⟨rfl, kk⟩
  have SY := Lib.hid (below_and SX.out kk)
  clear SX kk
  have SX := SY
  clear SY
  refine hK.out _ _ SX.out (fun _ => ?_)
  clear hK
  try simp only [Act.put, List.getElem_toArray, List.getElem_cons_succ, List.getElem_cons_zero, List.setIfInBounds_toArray, List.set_cons_zero, List.set_cons_succ]
  refine wpAnyH_ready (rs := [18]) (by kernel_rfl) (by simp) ?_
  refine AllReadyH.cons rfl (fun K hK => ?_) AllReadyH.nil
  go_simp
  refine (CR.out _ SX.out).mono ?_
  rintro e wf ⟨rfl, kk⟩
  have SY := Lib.hid (below_and SX.out kk)
  clear SX kk
  have SX := SY
  clear SY
  refine hK.out _ _ SX.out (fun _ => ?_)
  clear hK
  try simp only [Act.put, List.getElem_toArray, List.getElem_cons_succ, List.getElem_cons_zero, List.setIfInBounds_toArray, List.set_cons_zero, List.set_cons_succ]
  refine wpAnyH_take (i := 19) (v := .bool true) rfl (by kernel_rfl) (by kernel_rfl) (by kernel_rfl) (fun _ _ _ h => h) (Or.inl ⟨by rfl, fun wx hS => ?_⟩) SX.out ?_
  · go_simp
  try simp only [Act.put, List.getElem_toArray, List.getElem_cons_succ, List.getElem_cons_zero, List.setIfInBounds_toArray, List.set_cons_zero, List.set_cons_succ]
  refine wpAnyH_take (i := 20) (v := .bool true) rfl (by kernel_rfl) (by kernel_rfl) (by kernel_rfl) (fun _ _ _ h => h) (Or.inl ⟨by rfl, fun wx hS => ?_⟩) SX.out ?_
  · go_simp
  try simp only [Act.put, List.getElem_toArray, List.getElem_cons_succ, List.getElem_cons_zero, List.setIfInBounds_toArray, List.set_cons_zero, List.set_cons_succ]
  refine wpAnyH_take (i := 21) (v := .bool true) rfl (by kernel_rfl) (by kernel_rfl) (by kernel_rfl) (fun _ _ _ h => h) (Or.inl ⟨by rfl, fun wx hS => ?_⟩) SX.out ?_
  · go_simp
  try simp only [Act.put, List.getElem_toArray, List.getElem_cons_succ, List.getElem_cons_zero, List.setIfInBounds_toArray, List.set_cons_zero, List.set_cons_succ]
  refine wpAnyH_done (by kernel_rfl) ?_ _
  (try refine no_panic ?_)
  exact hexit.out _ _ _ _ _ _ _ _ _ _ _ _ _ _ _ _ _ _ _ _ _ _ SX.out
end Go.Proofs.Ytmlkmgeddkpgiaa

/- HeapPlays: a list of steps, as it came in. -/
namespace Go.Proofs.Ytmlkmgeddkpgiaa
open Go.RowKit Go.ChangeShapes Go.WideShapes Go.Deep
set_option linter.unusedVariables false
set_option linter.unusedSimpArgs false
set_option maxRecDepth 100000

section
variable {H : Type} {enc : TypeId × Value → H} {w : World} {base : Nat} {held : Bool} {fuel : Nat} {cs : List Value} {x : DataW H × List MemPlace}
/-- An object's cells. -/
theorem cellsOb (h : DataW.trod enc Try.prog w base (fun _ => true) held fuel 24 cs = some x) : ∃ o : Ob, cs = o.cells := by
  have hC : Try.prog.cellsOf 24 = 6 := by kernel_rfl
  have z3 : Try.prog.cellsOf 3 = 1 := by kernel_rfl
  have z4 : Try.prog.cellsOf 4 = 1 := by kernel_rfl
  have z9 : Try.prog.cellsOf 9 = 1 := by kernel_rfl
  obtain ⟨xs, m, _, hx, hcl, hlen, hg⟩ := DataW.trod_struct Try.underlying24 h
  rw [hC] at hcl
  obtain ⟨c0, c1, c2, c3, c4, c5, rfl⟩ : ∃ c0 c1 c2 c3 c4 c5, cs = [c0, c1, c2, c3, c4, c5] := by
    match cs, hcl with
    | [c0, c1, c2, c3, c4, c5], _ => exact ⟨c0, c1, c2, c3, c4, c5, rfl⟩
  obtain ⟨y0, y1, y2, y3, y4, y5, rfl⟩ : ∃ y0 y1 y2 y3 y4 y5, xs = [y0, y1, y2, y3, y4, y5] := by
    match xs, hlen with
    | [y0, y1, y2, y3, y4, y5], _ => exact ⟨y0, y1, y2, y3, y4, y5, rfl⟩
  have g0 := hg 0 _ rfl
  have g1 := hg 1 _ rfl
  have g2 := hg 2 _ rfl
  have g3 := hg 3 _ rfl
  have g4 := hg 4 _ rfl
  have g5 := hg 5 _ rfl
  simp [z3, z4, z9] at g0 g1 g2 g3 g4 g5
  obtain ⟨k, e0, f0, w0⟩ := DataW.trod_int Try.underlying3 g0
  obtain ⟨b, e1, f1⟩ := DataW.trod_bool Try.underlying4 g1
  obtain ⟨n, e2, f2, w2⟩ := DataW.trod_int Try.underlying3 g2
  obtain ⟨a, e3, f3, w3⟩ := DataW.trod_int Try.underlying3 g3
  obtain ⟨l, e4, f4, w4⟩ := DataW.trod_int Try.underlying3 g4
  obtain ⟨s, e5, f5, w5⟩ := DataW.trod_string Try.underlying9 g5
  simp only [List.cons.injEq, and_true] at e0 e1 e2 e3 e4 e5
  subst e0 e1 e2 e3 e4 e5
  exact ⟨⟨k, b, n, a, l, s⟩, rfl⟩
/-- A step. -/
theorem cells_step (h : DataW.trod enc Try.prog w base (fun _ => true) held fuel 35 cs = some x) : ∃ A : StepV, cs = stepL A ∧ A.n < 9223372036854775808 ∧ A.m < 9223372036854775808 := by
  have hC : Try.prog.cellsOf 35 = 12 := by kernel_rfl
  have z3 : Try.prog.cellsOf 3 = 1 := by kernel_rfl
  have z9 : Try.prog.cellsOf 9 = 1 := by kernel_rfl
  have z24 : Try.prog.cellsOf 24 = 6 := by kernel_rfl
  obtain ⟨xs, m, _, hx, hcl, hlen, hg⟩ := DataW.trod_struct Try.underlying35 h
  rw [hC] at hcl
  obtain ⟨c0, c1, c2, c3, c4, c5, c6, c7, c8, c9, c10, c11, rfl⟩ : ∃ c0 c1 c2 c3 c4 c5 c6 c7 c8 c9 c10 c11, cs = [c0, c1, c2, c3, c4, c5, c6, c7, c8, c9, c10, c11] := by
    match cs, hcl with
    | [c0, c1, c2, c3, c4, c5, c6, c7, c8, c9, c10, c11], _ => exact ⟨c0, c1, c2, c3, c4, c5, c6, c7, c8, c9, c10, c11, rfl⟩
  obtain ⟨y0, y1, y2, y3, y4, y5, y6, rfl⟩ : ∃ y0 y1 y2 y3 y4 y5 y6, xs = [y0, y1, y2, y3, y4, y5, y6] := by
    match xs, hlen with
    | [y0, y1, y2, y3, y4, y5, y6], _ => exact ⟨y0, y1, y2, y3, y4, y5, y6, rfl⟩
  have g0 := hg 0 _ rfl
  have g1 := hg 1 _ rfl
  have g2 := hg 2 _ rfl
  have g3 := hg 3 _ rfl
  have g4 := hg 4 _ rfl
  have g5 := hg 5 _ rfl
  have g6 := hg 6 _ rfl
  simp [z3, z9, z24] at g0 g1 g2 g3 g4 g5 g6
  obtain ⟨k, e0, f0, w0⟩ := DataW.trod_int Try.underlying3 g0
  obtain ⟨a, e1, f1, w1⟩ := DataW.trod_int Try.underlying3 g1
  obtain ⟨b, e2, f2, w2⟩ := DataW.trod_int Try.underlying3 g2
  obtain ⟨n, e3, f3, w3⟩ := DataW.trod_int Try.underlying3 g3
  obtain ⟨m', e4, f4, w4⟩ := DataW.trod_int Try.underlying3 g4
  obtain ⟨s, e5, f5⟩ := DataW.trod_string Try.underlying9 g5
  obtain ⟨o, e6⟩ := cellsOb g6
  simp only [List.cons.injEq, and_true] at e0 e1 e2 e3 e4 e5
  simp only [Ob.cells, List.cons.injEq, and_true] at e6
  obtain ⟨r0, r1, r2, r3, r4, r5⟩ := e6
  subst e0 e1 e2 e3 e4 e5 r0 r1 r2 r3 r4 r5
  obtain ⟨b1, b2⟩ := bounds_i64 w3
  obtain ⟨b3, b4⟩ := bounds_i64 w4
  exact ⟨⟨k, a, b, n, m', s, o⟩, rfl, by show n < _; omega, by show m' < _; omega⟩
/-- A list of steps. -/
theorem open_steps {a : Option Addr} {len cap : Nat} {d : DataW H} {p : List MemPlace} (h : DataW.Trod enc Try.prog w base (fun _ => true) held 22 (.slice a len cap) d p) : len ≤ cap ∧ ∀ i, i < len → ∃ A, StepAt w a i A := by
  have hC : Try.prog.cellsOf 35 = 12 := by kernel_rfl
  obtain ⟨fuel, hf⟩ := h
  rcases open_slice Try.underlying22 hf with ⟨hcs, _⟩ | ⟨ad, l, c, m, n, D, Pl, hcs, hb, hl, hm, hmm, _, hx⟩
  · simp [Value.cells] at hcs
    obtain ⟨rfl, rfl, rfl⟩ := hcs
    exact ⟨Nat.le_refl _, fun i hi => by omega⟩
  · simp [Value.cells] at hcs
    obtain ⟨rfl, rfl, rfl⟩ := hcs
    simp only [if_true] at hmm
    subst hmm
    rw [hC] at hx
    refine ⟨hl, fun i hi => ?_⟩
    obtain ⟨cs', h1, h2⟩ := hx i (by omega)
    obtain ⟨A, rfl, hv0, hv1⟩ := cells_step h2
    obtain ⟨_, _, h3⟩ := World.cells?_some h1
    have hc : ∀ j u, (stepL A)[j]? = some u → w.cell? ((ad.add (i * 12)).add j) = some u := fun j u hj => by
      have hj10 : j < 12 := by have := (List.getElem?_eq_some_iff.1 hj).1; simpa using this
      rw [h3 j hj10]
      exact hj
    refine ⟨A, ⟨ad, rfl, ?_, hc⟩, hv0, hv1⟩
    have := World.block_lt_of_cell? w _ (hc 0 _ rfl)
    have e : ∀ (a : Addr) (k : Nat), (a.add k).block = a.block := fun a k => by
      unfold Addr.add
      split <;> rfl
    rwa [e, e] at this
end
end Go.Proofs.Ytmlkmgeddkpgiaa
