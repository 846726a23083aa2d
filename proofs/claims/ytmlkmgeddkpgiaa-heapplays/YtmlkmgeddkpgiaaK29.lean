/- Walks of heap: Copy; two heaps beside blocks that neither touches. -/
import Derived.Test.YtmlkmgeddkpgiaaK28
import Derived.Test.YtmlkmgeddkpgiaaK26
namespace Go.Proofs.Ytmlkmgeddkpgiaa
open Go.RowKit
set_option linter.unusedVariables false

theorem copy_walk (gb : Nat) (R : Nat → World → Prop) (w : World) (hb : Hid (Calls Try.prog 20 #[ptr w.heap.size, ptr gb] (w.alloc (.cells #[.slice none 0 0, .int .i64 0] 97)) fun e w' => e = .returned (.tuple #[]) ∧ R w.heap.size w')) :
    Calls Try.prog 10 #[ptr gb] w fun e w' => ∃ b, e = .returned (ptr b) ∧ R b w' := by
  go_enter Try.func10, Try.ntmps10
  go_wp2_with fail
  refine (new_any w).mono ?_
  rintro e w1 ⟨rfl, rfl⟩
  go_wp2_with fail
  refine hb.out.mono ?_
  rintro e w2 ⟨rfl, hR⟩
  have HR := Lib.hid hR
  clear hR
  go_wp2
  go_ret
  exact ⟨_, rfl, HR.out⟩

/-- Two heaps (colours 1 and 2) beside blocks that neither touches. -/
def Duo (own : Nat → Prop) (hb gb : Nat) (P Q : List Cel) (w : World) : Prop := ∃ role, PHeap role 1 hb P w ∧ PHeap role 2 gb Q w ∧ ∀ b, own b → b < w.heap.size ∧ (role b).1 ≠ 1 ∧ (role b).1 ≠ 2
section
variable {own : Nat → Prop} {hb gb : Nat} {P P' Q Q' : List Cel} {w w' : World}
theorem Duo.op1 {role role' : Nat → Nat × Nat} (ho : ∀ b, own b → b < w.heap.size ∧ (role b).1 ≠ 1 ∧ (role b).1 ≠ 2) (h2 : PHeap role 2 gb Q w) (h : PHeap role' 1 hb P' w') (k : Keep role 1 w role' w') : Duo own hb gb P' Q w' ∧ Kept own w w' :=
  ⟨⟨role', h, h2.keep k (by decide), fun b hb => ⟨Nat.lt_of_lt_of_le (ho b hb).1 k.size, by rw [k.same b (ho b hb).1]; exact (ho b hb).2⟩⟩, k.os, k.tape, k.output, k.size, fun b hb => k.block b (ho b hb).1 (ho b hb).2.1⟩
theorem Duo.op2 {role role' : Nat → Nat × Nat} (ho : ∀ b, own b → b < w.heap.size ∧ (role b).1 ≠ 1 ∧ (role b).1 ≠ 2) (h1 : PHeap role 1 hb P w) (h : PHeap role' 2 gb Q' w') (k : Keep role 2 w role' w') : Duo own hb gb P Q' w' ∧ Kept own w w' :=
  ⟨⟨role', h1.keep k (by decide), h, fun b hb => ⟨Nat.lt_of_lt_of_le (ho b hb).1 k.size, by rw [k.same b (ho b hb).1]; exact (ho b hb).2⟩⟩, k.os, k.tape, k.output, k.size, fun b hb => k.block b (ho b hb).1 (ho b hb).2.2⟩
theorem Duo.below (h : Duo own hb gb P Q w) (k : Below w.heap.size w w') : Duo own hb gb P Q w' ∧ Kept own w w' := by
  obtain ⟨role, h1, h2, ho⟩ := h
  exact Duo.op1 ho h2 (h1.below k) (Keep.of_below 1 k)
theorem Duo.box (h : Duo own hb gb P Q w) (o : Obj) : Duo (fun b => own b ∨ b = w.heap.size) hb gb P Q (w.alloc o) := by
  obtain ⟨role, ⟨vc, ivs, pb, rv, h1⟩, ⟨vc2, ivs2, pb2, rv2, h2⟩, ho⟩ := h
  refine ⟨paint role w.heap.size fun _ => (0, 0), ⟨vc, ivs, pb, rv, h1.paint (box_below _ _) _⟩, ⟨vc2, ivs2, pb2, rv2, h2.paint (box_below _ _) _⟩, fun b hb => ?_⟩
  rcases hb with hb | rfl
  · have := ho b hb
    rw [paint_old this.1]
    refine ⟨?_, this.2⟩
    have := this.1
    simp
    omega
  · rw [paint_new (Nat.le_refl _)]
    exact ⟨by simp, by simp, by simp⟩
theorem Duo.box_ob (h : Duo own hb gb P Q w) (k : Int) (x : Bool) (n a l : Int) (s : ByteArray) :
    ∃ w', w.alloc (.cells #[.int .i64 k, .bool x, .int .i64 n, .int .i64 a, .int .i64 l, .string s] 24) = w' ∧ Duo (fun b => own b ∨ b = w.heap.size) hb gb P Q w' ∧ Kept own w w' ∧ w'.heap[w.heap.size]? = some (obObj k x n a l s) :=
  ⟨_, rfl, h.box _, (h.below (box_below _ _)).2, heap_alloc_new _ _⟩
theorem dSet (h : Duo own hb gb P Q w) (o : Ob) (i : Int) (x : Ob) (E : Int) (P' : List Cel) (hE : setE P o i x = E) (hP : setP P o i x = P') :
    Calls Try.prog 14 #[ptr hb, o.val, .int .i64 i, x.val] w fun e w' => e = .returned (.int .i64 E) ∧ Duo own hb gb P' Q w' ∧ Kept own w w' := by
  obtain ⟨role, ⟨vc, ivs, pb, rv, h1⟩, h2, ho⟩ := h
  refine (set_is h1 o i x).mono ?_
  rintro e w' ⟨rfl, q1, q2⟩
  rw [hE]
  rw [hP] at q1
  exact ⟨rfl, Duo.op1 ho h2 ⟨vc, ivs, pb, rv, q1⟩ q2⟩
theorem dArray_ok (h : Duo own hb gb P Q w) (n : Nat) (hl : P.length < 2000) (hu : n + usedP P ≤ 40000) :
    Calls Try.prog 65 #[ptr hb, .int .i64 n] w fun e w' => e = .returned (.tuple #[obV 9 false P.length 0 n ⟨#[]⟩, .int .i64 0]) ∧ Duo own hb gb (P ++ [⟨9, false, List.replicate n Ob.null, []⟩]) Q w' ∧ Kept own w w' := by
  obtain ⟨role, ⟨vc, ivs, pb, rv, h1⟩, h2, ho⟩ := h
  refine (array_ok h1 n hl hu).mono ?_
  rintro e w' ⟨rfl, role', q1, q2⟩
  exact ⟨rfl, Duo.op1 ho h2 q1 q2⟩
theorem dBytes1 (h : Duo own hb gb P Q w) (o : Ob) (L : List UInt8) (ho : okO P o = true) (hk : o.k = 8) (hpos : 0 < (cellOf P o).bs.length) (hL : bytesL P o = L) :
    Calls Try.prog 51 #[ptr hb, o.val] w fun e w' => e = .returned (.tuple #[.string ⟨L.toArray⟩, .int .i64 0]) ∧ Duo own hb gb P Q w' ∧ Kept own w w' := by
  have h0 := h
  obtain ⟨role, ⟨vc, ivs, pb, rv, h1⟩, h2, ho'⟩ := h
  refine (bytes_is h1 o ho hk hpos).mono ?_
  rintro e w' ⟨rfl, k⟩
  rw [hL]
  exact ⟨rfl, h0.below k⟩
theorem dBytes2 (h : Duo own hb gb P Q w) (o : Ob) (L : List UInt8) (ho : okO Q o = true) (hk : o.k = 8) (hpos : 0 < (cellOf Q o).bs.length) (hL : bytesL Q o = L) :
    Calls Try.prog 51 #[ptr gb, o.val] w fun e w' => e = .returned (.tuple #[.string ⟨L.toArray⟩, .int .i64 0]) ∧ Duo own hb gb P Q w' ∧ Kept own w w' := by
  have h0 := h
  obtain ⟨role, h1, ⟨vc, ivs, pb, rv, h2⟩, ho'⟩ := h
  refine (bytes_is h2 o ho hk hpos).mono ?_
  rintro e w' ⟨rfl, k⟩
  rw [hL]
  exact ⟨rfl, h0.below k⟩
theorem dCells1 (h : Duo own hb gb P Q w) : Calls Try.prog 23 #[ptr hb] w fun e w' => e = .returned (.int .i64 P.length) ∧ w = w' := by
  obtain ⟨role, ⟨vc, ivs, pb, rv, h1⟩, h2, ho⟩ := h
  obtain ⟨p, cap, rfl, h0⟩ := h1.cells
  exact cells_any hb p P.length cap w h0
theorem dCells2 (h : Duo own hb gb P Q w) : Calls Try.prog 23 #[ptr gb] w fun e w' => e = .returned (.int .i64 Q.length) ∧ w = w' := by
  obtain ⟨role, h1, ⟨vc, ivs, pb, rv, h2⟩, ho⟩ := h
  obtain ⟨p, cap, rfl, h0⟩ := h2.cells
  exact cells_any gb p Q.length cap w h0

theorem become_new (h : Sep own hb P w) : Calls Try.prog 20 #[ptr w.heap.size, ptr hb] (w.alloc (.cells #[.slice none 0 0, .int .i64 0] 97)) fun e w' => e = .returned (.tuple #[]) ∧ Duo own hb w.heap.size P P w' ∧ Kept own w w' := by
  obtain ⟨role, ⟨vc, ivs, pb, rv, h1⟩, h2⟩ := h
  -- the old blocks of colour 2 are ours now
  have hp : PH (paint (fun b => if (role b).1 = 2 then (0, (role b).2) else role b) w.heap.size fun _ => (2, 0)) 1 hb vc ivs pb rv P (w.alloc (.cells #[.slice none 0 0, .int .i64 0] 97)) := by
    have q : PH (fun b => if (role b).1 = 2 then (0, (role b).2) else role b) 1 hb vc ivs pb rv P w := h1.same fun k hk hc => ⟨rfl, by simp [hc]⟩
    exact q.paint (box_below _ _) _
  refine (become_any hp 2 w.heap.size (by decide) _ _ (heap_alloc_new _ _) (paint_new (Nat.le_refl _))).mono ?_
  rintro e w' ⟨rfl, role', q1, q2⟩
  refine ⟨rfl, ⟨role', ?_, q1, fun b hb => ?_⟩, q2.os, q2.tape, q2.output, Nat.le_trans (by simp) q2.size, fun b hb => ?_⟩
  · exact PHeap.keep (⟨vc, ivs, pb, rv, hp⟩ : PHeap _ 1 hb P _) q2 (by decide)
  · have hl := (h2 b hb).1
    have hl' : b < (w.alloc (.cells #[.slice none 0 0, .int .i64 0] 97)).heap.size := by
      simp
      omega
    refine ⟨Nat.lt_of_lt_of_le hl' q2.size, ?_⟩
    rw [q2.same b hl', paint_old hl]
    have := (h2 b hb).2
    by_cases e2 : (role b).1 = 2
    · simp [e2]
    · simp [e2, this]
  · have hl := (h2 b hb).1
    have hl' : b < (w.alloc (.cells #[.slice none 0 0, .int .i64 0] 97)).heap.size := by
      simp
      omega
    rw [q2.block b hl' ?_, Below.heap_alloc _ _ _ hl]
    rw [paint_old hl]
    by_cases e2 : (role b).1 = 2
    · simp [e2]
    · simp [e2]
theorem sCopy (h : Sep own hb P w) : Calls Try.prog 10 #[ptr hb] w fun e w' => ∃ gb, e = .returned (ptr gb) ∧ Duo own hb gb P P w' ∧ Kept own w w' :=
  copy_walk hb (fun gb w' => Duo own hb gb P P w' ∧ Kept own w w') w (Lib.hid (become_new h))
theorem Duo.sep (h : Duo own hb gb P Q w) : Sep own hb P w := by
  obtain ⟨role, h1, h2, ho⟩ := h
  exact ⟨role, h1, fun b hb => ⟨(ho b hb).1, (ho b hb).2.1⟩⟩
end
end Go.Proofs.Ytmlkmgeddkpgiaa
