/- A heap beside blocks that it does not touch; the law's known case. -/
import Derived.Test.YtmlkmgeddkpgiaaK19
namespace Go.Proofs.Ytmlkmgeddkpgiaa
open Go.RowKit
set_option linter.unusedVariables false

/-- A heap; the blocks 'own' are none of its. -/
def Sep (own : Nat → Prop) (hb : Nat) (P : List Cel) (w : World) : Prop := ∃ role, PHeap role 1 hb P w ∧ ∀ b, own b → b < w.heap.size ∧ (role b).1 ≠ 1
structure Kept (own : Nat → Prop) (w w' : World) : Prop where
  os : w'.os = w.os
  tape : w'.tape = w.tape
  output : w'.output = w.output
  size : w.heap.size ≤ w'.heap.size
  block : ∀ b, own b → w'.heap[b]? = w.heap[b]?
theorem Kept.trans {own : Nat → Prop} {w w1 w2 : World} (h : Kept own w w1) (k : Kept own w1 w2) : Kept own w w2 := ⟨k.os.trans h.os, k.tape.trans h.tape, k.output.trans h.output, Nat.le_trans h.size k.size, fun b hb => (k.block b hb).trans (h.block b hb)⟩
theorem Kept.sub {own own' : Nat → Prop} {w w1 : World} (h : Kept own w w1) (k : ∀ b, own' b → own b) : Kept own' w w1 := ⟨h.os, h.tape, h.output, h.size, fun b hb => h.block b (k b hb)⟩
theorem Kept.below {w w' : World} {n : Nat} {own : Nat → Prop} (h : Kept own w w') (k : ∀ b, b < n → own b) : Below n w w' := ⟨h.os, h.tape, h.output, h.size, fun b hb => h.block b (k b hb)⟩
theorem Sep.sub {own own' : Nat → Prop} {hb : Nat} {P : List Cel} {w : World} (h : Sep own hb P w) (k : ∀ b, own' b → own b) : Sep own' hb P w := by
  obtain ⟨role, h1, h2⟩ := h
  exact ⟨role, h1, fun b hb => h2 b (k b hb)⟩
section
variable {own : Nat → Prop} {hb : Nat} {P P' : List Cel} {w w' : World}
theorem Sep.of_keep {role role' : Nat → Nat × Nat} (h2 : ∀ b, own b → b < w.heap.size ∧ (role b).1 ≠ 1) (h : PHeap role' 1 hb P' w') (k : Keep role 1 w role' w') : Sep own hb P' w' ∧ Kept own w w' :=
  ⟨⟨role', h, fun b hb => ⟨Nat.lt_of_lt_of_le (h2 b hb).1 k.size, by rw [k.same b (h2 b hb).1]; exact (h2 b hb).2⟩⟩, k.os, k.tape, k.output, k.size, fun b hb => k.block b (h2 b hb).1 (h2 b hb).2⟩
theorem Sep.below (h : Sep own hb P w) (k : Below w.heap.size w w') : Sep own hb P w' ∧ Kept own w w' := by
  obtain ⟨role, h1, h2⟩ := h
  exact Sep.of_keep h2 (h1.below k) (Keep.of_below 1 k)
theorem Sep.box (h : Sep own hb P w) (o : Obj) : Sep (fun b => own b ∨ b = w.heap.size) hb P (w.alloc o) := by
  obtain ⟨role, ⟨vc, ivs, pb, rv, h1⟩, h2⟩ := h
  refine ⟨paint role w.heap.size fun _ => (0, 0), ⟨vc, ivs, pb, rv, h1.paint (box_below _ _) _⟩, fun b hb => ?_⟩
  rcases hb with hb | rfl
  · have := h2 b hb
    rw [paint_old this.1]
    refine ⟨?_, this.2⟩
    have := this.1
    simp
    omega
  · rw [paint_new (Nat.le_refl _)]
    exact ⟨by simp, by simp⟩
theorem Sep.new (w : World) : Sep (fun b => b < w.heap.size) w.heap.size [] (w.alloc (.cells #[.slice none 0 0, .int .i64 0] 97)) :=
  ⟨_, newHeap (fun _ => (0, 0)) 1 w, fun b hb => ⟨by simp; omega, by rw [paint_old hb]; simp⟩⟩
/-- A new heap beside an older block of ours, or more. -/
theorem Sep.new_own (w : World) (own : Nat → Prop) (h : ∀ b, own b → b < w.heap.size) : Sep own w.heap.size [] (w.alloc (.cells #[.slice none 0 0, .int .i64 0] 97)) := (Sep.new w).sub h

theorem sArray_ok (h : Sep own hb P w) (n : Nat) (hl : P.length < 2000) (hu : n + usedP P ≤ 40000) :
    Calls Try.prog 65 #[ptr hb, .int .i64 n] w fun e w' => e = .returned (.tuple #[obV 9 false P.length 0 n ⟨#[]⟩, .int .i64 0]) ∧ Sep own hb (P ++ [⟨9, false, List.replicate n Ob.null, []⟩]) w' ∧ Kept own w w' := by
  obtain ⟨role, ⟨vc, ivs, pb, rv, h1⟩, h2⟩ := h
  refine (array_ok h1 n hl hu).mono ?_
  rintro e w' ⟨rfl, role', q1, q2⟩
  exact ⟨rfl, Sep.of_keep h2 q1 q2⟩
theorem sArray_limit (h : Sep own hb P w) (n : Int) (hn : 0 ≤ n) (hl : ¬ (P.length < 2000 ∧ n + usedP P ≤ 40000)) :
    Calls Try.prog 65 #[ptr hb, .int .i64 n] w fun e w' => e = .returned (.tuple #[zeroOb, .int .i64 5]) ∧ Sep own hb P w' ∧ Kept own w w' := by
  have h0 := h
  obtain ⟨role, ⟨vc, ivs, pb, rv, h1⟩, h2⟩ := h
  refine (array_limit h1 n hn hl).mono ?_
  rintro e w' ⟨rfl, k⟩
  exact ⟨rfl, h0.below k⟩
theorem sString_ok (h : Sep own hb P w) (s : ByteArray) (hl : P.length < 2000) (hu : s.size + usedP P ≤ 40000) :
    Calls Try.prog 49 #[ptr hb, .string s] w fun e w' => e = .returned (.tuple #[obV 8 false P.length 0 s.size ⟨#[]⟩, .int .i64 0]) ∧ Sep own hb (P ++ [⟨8, false, [], s.data.toList⟩]) w' ∧ Kept own w w' := by
  obtain ⟨role, ⟨vc, ivs, pb, rv, h1⟩, h2⟩ := h
  refine (string_ok h1 s hl hu).mono ?_
  rintro e w' ⟨rfl, role', q1, q2⟩
  exact ⟨rfl, Sep.of_keep h2 q1 q2⟩
theorem sDict_limit (h : Sep own hb P w) (n : Int) (hn : 0 ≤ n) (hn' : n ≤ 1000) (hl : ¬ (P.length < 2000 ∧ 2 * n + 1 + usedP P ≤ 40000)) :
    Calls Try.prog 69 #[ptr hb, .int .i64 n] w fun e w' => e = .returned (.tuple #[zeroOb, .int .i64 5]) ∧ Sep own hb P w' ∧ Kept own w w' := by
  have h0 := h
  obtain ⟨role, ⟨vc, ivs, pb, rv, h1⟩, h2⟩ := h
  refine (dict_limit h1 n hn hn' hl).mono ?_
  rintro e w' ⟨rfl, k⟩
  exact ⟨rfl, h0.below k⟩
theorem sPart (h : Sep own hb P w) (o : Ob) (i m : Int) (hi : i < 9223372036854775808) (k : Int) (x : Bool) (n a l : Int) (s : ByteArray) (hE : partE P o i m = 0) (hO : partO P o i m = ⟨k, x, n, a, l, s⟩) :
    Calls Try.prog 66 #[ptr hb, o.val, .int .i64 i, .int .i64 m] w fun e w' => e = .returned (.tuple #[obV k x n a l s, .int .i64 0]) ∧ Sep own hb P w' ∧ Kept own w w' := by
  have h0 := h
  obtain ⟨role, ⟨vc, ivs, pb, rv, h1⟩, h2⟩ := h
  refine (part_is h1 o i m hi).mono ?_
  rintro e w' ⟨rfl, kk⟩
  rw [hE, hO]
  exact ⟨rfl, h0.below kk⟩
theorem sSet (h : Sep own hb P w) (o : Ob) (i : Int) (x : Ob) (E : Int) (P' : List Cel) (hE : setE P o i x = E) (hP : setP P o i x = P') :
    Calls Try.prog 14 #[ptr hb, o.val, .int .i64 i, x.val] w fun e w' => e = .returned (.int .i64 E) ∧ Sep own hb P' w' ∧ Kept own w w' := by
  obtain ⟨role, ⟨vc, ivs, pb, rv, h1⟩, h2⟩ := h
  refine (set_is h1 o i x).mono ?_
  rintro e w' ⟨rfl, q1, q2⟩
  rw [hE]
  rw [hP] at q1
  exact ⟨rfl, Sep.of_keep h2 ⟨vc, ivs, pb, rv, q1⟩ q2⟩
theorem sGet (h : Sep own hb P w) (o : Ob) (i : Int) (k : Int) (x : Bool) (n a l : Int) (s : ByteArray) (E : Int) (hE : getE P o i = E) (hO : getO P o i = ⟨k, x, n, a, l, s⟩) :
    Calls Try.prog 67 #[ptr hb, o.val, .int .i64 i] w fun e w' => e = .returned (.tuple #[obV k x n a l s, .int .i64 E]) ∧ Sep own hb P w' ∧ Kept own w w' := by
  have h0 := h
  obtain ⟨role, ⟨vc, ivs, pb, rv, h1⟩, h2⟩ := h
  refine (get_is h1 o i).mono ?_
  rintro e w' ⟨rfl, kk⟩
  rw [hE, hO]
  exact ⟨rfl, h0.below kk⟩
theorem sCells (h : Sep own hb P w) : Calls Try.prog 23 #[ptr hb] w fun e w' => e = .returned (.int .i64 P.length) ∧ w = w' := by
  obtain ⟨role, ⟨vc, ivs, pb, rv, h1⟩, h2⟩ := h
  obtain ⟨p, cap, rfl, h0⟩ := h1.cells
  exact cells_any hb p P.length cap w h0
theorem sUsed (h : Sep own hb P w) : Calls Try.prog 24 #[ptr hb] w fun e w' => e = .returned (.int .i64 (usedP P)) ∧ w = w' := by
  obtain ⟨role, ⟨vc, ivs, pb, rv, h1⟩, h2⟩ := h
  exact used_any hb (usedP P) w h1.used
end

abbrev obObj (k : Int) (x : Bool) (n a l : Int) (s : ByteArray) : Obj := .cells #[.int .i64 k, .bool x, .int .i64 n, .int .i64 a, .int .i64 l, .string s] 24 (0, 0)
theorem Sep.box_ob {own : Nat → Prop} {hb : Nat} {P : List Cel} {w : World} (h : Sep own hb P w) (k : Int) (x : Bool) (n a l : Int) (s : ByteArray) :
    ∃ w', w.alloc (.cells #[.int .i64 k, .bool x, .int .i64 n, .int .i64 a, .int .i64 l, .string s] 24) = w' ∧ Sep (fun b => own b ∨ b = w.heap.size) hb P w' ∧ Kept own w w' ∧ w'.heap[w.heap.size]? = some (obObj k x n a l s) :=
  ⟨_, rfl, h.box _, (h.below (box_below _ _)).2, heap_alloc_new _ _⟩
theorem ob_cells {w : World} {A : Nat} {k : Int} {x : Bool} {n a l : Int} {s : ByteArray} (h : w.heap[A]? = some (obObj k x n a l s)) : ObAt w A k x n a l s := (cells6 h).1

/-- The heap of the known case. -/
def kP1 : List Cel := [⟨9, false, [Ob.null, Ob.null], []⟩]
def kP2 : List Cel := [⟨9, false, [Ob.null, Ob.num 7], []⟩]
def kA : Ob := ⟨9, false, 0, 0, 2, ⟨#[]⟩⟩
def kB : Ob := ⟨9, false, 0, 1, 1, ⟨#[]⟩⟩
theorem k_part : partE kP1 kA 1 1 = 0 ∧ partO kP1 kA 1 1 = kB := ⟨by kernel_rfl, by kernel_rfl⟩
theorem k_set : setE kP1 kB 0 (Ob.num 7) = 0 ∧ setP kP1 kB 0 (Ob.num 7) = kP2 := ⟨by kernel_rfl, by kernel_rfl⟩
theorem k_get : getE kP2 kA 1 = 0 ∧ getO kP2 kA 1 = Ob.num 7 := ⟨by kernel_rfl, by kernel_rfl⟩

set_option maxHeartbeats 1000000 in
theorem known_any (w : World) : Calls Try.prog 8 #[] w fun e w' => e = .returned (.bool true) ∧ Below w.heap.size w w' := by
  go_enter Try.func8, Try.ntmps8
  go_wp2_with fail
  refine (new_any w).mono ?_
  rintro e w1 ⟨rfl, rfl⟩
  obtain ⟨w1, e1, s1, b1⟩ : ∃ w1, w.alloc (.cells #[.slice none 0 0, .int .i64 0] 97) = w1 ∧ Sep (fun b => b < w.heap.size) w.heap.size [] w1 ∧ Below w.heap.size w w1 := ⟨_, rfl, Sep.new w, box_below _ _⟩
  rw [e1]
  have S1 := Lib.hid s1
  have B1 := Lib.hid b1
  clear e1 s1 b1
  go_wp2_with fail
  refine (sArray_ok S1.out 2 (by decide) (by simp [usedP])).mono ?_
  rintro e w2 ⟨rfl, s2, k2⟩
  have S2 := Lib.hid s2
  have B2 : Hid (Below w.heap.size w w2) := Lib.hid (B1.out.trans (k2.below fun _ h => h))
  clear s2 k2
  go_upto_region 5 with fail
  obtain ⟨w3, e3, s3, k3, o3⟩ := S2.out.box_ob 9 false 0 0 2 ⟨#[]⟩
  rw [e3]
  have S3 := Lib.hid s3
  have B3 : Hid (Below w.heap.size w w3) := Lib.hid (B2.out.trans (k3.below fun _ h => h))
  have O3 := Lib.hid o3
  clear e3 s3 k3 o3
  obtain ⟨c0, c1, c2, c3, c4, c5⟩ := ob_cells O3.out
  go_wp2_with fail
  refine (sPart (P := kP1) S3.out kA 1 1 (by decide) 9 false 0 1 1 ⟨#[]⟩ k_part.1 k_part.2).mono ?_
  rintro e w4 ⟨rfl, s4, k4⟩
  have S4 := Lib.hid s4
  have B4 : Hid (Below w.heap.size w w4) := Lib.hid (B3.out.trans (k4.below fun _ h => .inl h))
  have O4 : Hid (w4.heap[w2.heap.size]? = some (obObj 9 false 0 0 2 ⟨#[]⟩)) := Lib.hid ((k4.block _ (.inr rfl)).trans O3.out)
  clear s4 k4 c0 c1 c2 c3 c4 c5
  go_upto_region 6 with fail
  obtain ⟨w5, e5, s5, k5, o5⟩ := S4.out.box_ob 9 false 0 1 1 ⟨#[]⟩
  rw [e5]
  have S5 := Lib.hid s5
  have B5 : Hid (Below w.heap.size w w5) := Lib.hid (B4.out.trans (k5.below fun _ h => .inl h))
  have O5 : Hid (w5.heap[w2.heap.size]? = some (obObj 9 false 0 0 2 ⟨#[]⟩)) := Lib.hid ((k5.block _ (.inr rfl)).trans O4.out)
  have R5 := Lib.hid o5
  clear e5 s5 k5 o5
  obtain ⟨c0, c1, c2, c3, c4, c5⟩ := ob_cells R5.out
  go_wp2_with fail
  refine (sSet (P := kP1) S5.out kB 0 (Ob.num 7) 0 kP2 k_set.1 k_set.2).mono ?_
  rintro e w6 ⟨rfl, s6, k6⟩
  have S6 := Lib.hid s6
  have B6 : Hid (Below w.heap.size w w6) := Lib.hid (B5.out.trans (k6.below fun _ h => .inl (.inl h)))
  have O6 : Hid (w6.heap[w2.heap.size]? = some (obObj 9 false 0 0 2 ⟨#[]⟩)) := Lib.hid ((k6.block _ (.inl (.inr rfl))).trans O5.out)
  clear s6 k6 c0 c1 c2 c3 c4 c5
  obtain ⟨c0, c1, c2, c3, c4, c5⟩ := ob_cells O6.out
  go_wp2_with fail
  refine (sGet (P := kP2) S6.out kA 1 3 false 7 0 0 ⟨#[]⟩ 0 k_get.1 k_get.2).mono ?_
  rintro e w7 ⟨rfl, s7, k7⟩
  have S7 := Lib.hid s7
  have B7 : Hid (Below w.heap.size w w7) := Lib.hid (B6.out.trans (k7.below fun _ h => .inl (.inl h)))
  clear s7 k7 c0 c1 c2 c3 c4 c5
  go_upto_region 8 with fail
  obtain ⟨w8, e8, s8, k8, o8⟩ := S7.out.box_ob 3 false 7 0 0 ⟨#[]⟩
  rw [e8]
  have S8 := Lib.hid s8
  have B8 : Hid (Below w.heap.size w w8) := Lib.hid (B7.out.trans (k8.below fun _ h => .inl (.inl h)))
  have O8 := Lib.hid o8
  clear e8 s8 k8 o8
  obtain ⟨c0, c1, c2, c3, c4, c5⟩ := ob_cells O8.out
  go_wp2_with fail
  refine (sCells S8.out).mono ?_
  rintro e w9 ⟨rfl, rfl⟩
  go_wp2_with fail
  refine (sUsed S8.out).mono ?_
  rintro e w9 ⟨rfl, rfl⟩
  go_wp2
  go_ret
  exact ⟨ret_bool (by decide), B8.out⟩
end Go.Proofs.Ytmlkmgeddkpgiaa
