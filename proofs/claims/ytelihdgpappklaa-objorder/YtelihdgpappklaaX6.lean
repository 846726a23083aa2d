/- The walk of ObjOrder. -/
import Derived.Test.YtelihdgpappklaaX4
namespace Go.Proofs.Ytelihdgpappklaa
open Go.RowKit
set_option linter.unusedVariables false

/-- Three numbers, one behind the other. -/
def Three (w : World) (b c d : Nat) (k n k' n' k'' n'' : Int) : Prop := Two w b c k false n 0 0 ⟨#[]⟩ k' false n' 0 0 ⟨#[]⟩ ∧ ObAt w d k'' false n'' 0 0 ⟨#[]⟩
theorem Three.later {w wx : World} {b c d : Nat} {k n k' n' k'' n'' : Int} (h : Three w b c d k n k' n' k'' n'') (kc : Below w.heap.size w wx) : Three wx b c d k n k' n' k'' n'' := ⟨h.1.later kc, h.2.later kc⟩
theorem Three.flat {w : World} {b c d : Nat} {k n k' n' k'' n'' : Int} (h : Three w b c d k n k' n' k'' n'') : w.cell? ⟨b, 0, none⟩ = some (.int .i64 k) ∧ w.cell? ⟨b, 1, none⟩ = some (.bool false) ∧ w.cell? ⟨b, 2, none⟩ = some (.int .i64 n) ∧ w.cell? ⟨b, 3, none⟩ = some (.int .i64 0) ∧ w.cell? ⟨b, 4, none⟩ = some (.int .i64 0) ∧ w.cell? ⟨b, 5, none⟩ = some (.string ⟨#[]⟩) ∧ w.cell? ⟨c, 0, none⟩ = some (.int .i64 k') ∧ w.cell? ⟨c, 1, none⟩ = some (.bool false) ∧ w.cell? ⟨c, 2, none⟩ = some (.int .i64 n') ∧ w.cell? ⟨c, 3, none⟩ = some (.int .i64 0) ∧ w.cell? ⟨c, 4, none⟩ = some (.int .i64 0) ∧ w.cell? ⟨c, 5, none⟩ = some (.string ⟨#[]⟩) ∧ w.cell? ⟨d, 0, none⟩ = some (.int .i64 k'') ∧ w.cell? ⟨d, 1, none⟩ = some (.bool false) ∧ w.cell? ⟨d, 2, none⟩ = some (.int .i64 n'') ∧ w.cell? ⟨d, 3, none⟩ = some (.int .i64 0) ∧ w.cell? ⟨d, 4, none⟩ = some (.int .i64 0) ∧ w.cell? ⟨d, 5, none⟩ = some (.string ⟨#[]⟩) := by
  obtain ⟨⟨⟨a0, a1, a2, a3, a4, a5⟩, ⟨b0, b1, b2, b3, b4, b5⟩⟩, h4⟩ := h
  exact ⟨a0, a1, a2, a3, a4, a5, b0, b1, b2, b3, b4, b5, h4⟩
theorem three_box (w : World) (k n k' n' k'' n'' : Int) :
    ∃ wb, ((w.alloc (.cells #[.int .i64 k, .bool false, .int .i64 n, .int .i64 0, .int .i64 0, .string ⟨#[]⟩] 23)).alloc (.cells #[.int .i64 k', .bool false, .int .i64 n', .int .i64 0, .int .i64 0, .string ⟨#[]⟩] 23)).alloc (.cells #[.int .i64 k'', .bool false, .int .i64 n'', .int .i64 0, .int .i64 0, .string ⟨#[]⟩] 23) = wb
      ∧ Below w.heap.size w wb ∧ Three wb w.heap.size (w.heap.size + 1) (w.heap.size + 1 + 1) k n k' n' k'' n'' := by
  obtain ⟨wa, ea, ka, za, oa⟩ := ob_box w k n 0 0 false ⟨#[]⟩
  obtain ⟨wb, eb, kb, zb, ob⟩ := ob_box wa k' n' 0 0 false ⟨#[]⟩
  obtain ⟨wc, ec, kc, zc, oc⟩ := ob_box wb k'' n'' 0 0 false ⟨#[]⟩
  refine ⟨wc, by rw [ea, eb, ec], below_and (below_and ka kb) kc, ⟨(oa.later kb).later kc, ?_⟩, ?_⟩
  · rw [← za]
    exact ob.later kc
  · rw [← za, ← zb]
    exact oc

set_option maxHeartbeats 800000 in
theorem order_1 (a b c k n k' n' k'' n'' : Int) (x y z : Bool) (w : World)
    (h8 : Hid (∀ w, Calls Try.prog 8 #[] w fun e w' => e = .returned (.bool true) ∧ Below w.heap.size w w'))
    (g1 : Hid (∀ w, Calls Try.prog 19 #[.int .i64 a, .bool x] w fun e w' => e = .returned (.agg #[.int .i64 k, .bool false, .int .i64 n, .int .i64 0, .int .i64 0, .string ⟨#[]⟩]) ∧ Below w.heap.size w w'))
    (g2 : Hid (∀ w, Calls Try.prog 19 #[.int .i64 b, .bool y] w fun e w' => e = .returned (.agg #[.int .i64 k', .bool false, .int .i64 n', .int .i64 0, .int .i64 0, .string ⟨#[]⟩]) ∧ Below w.heap.size w w'))
    (g3 : Hid (∀ w, Calls Try.prog 19 #[.int .i64 c, .bool z] w fun e w' => e = .returned (.agg #[.int .i64 k'', .bool false, .int .i64 n'', .int .i64 0, .int .i64 0, .string ⟨#[]⟩]) ∧ Below w.heap.size w w'))
    (h1 : Hid (∀ w, Calls Try.prog 9 #[.agg #[.int .i64 k, .bool false, .int .i64 n, .int .i64 0, .int .i64 0, .string ⟨#[]⟩], .agg #[.int .i64 k', .bool false, .int .i64 n', .int .i64 0, .int .i64 0, .string ⟨#[]⟩]] w fun e w' => e = .returned (.tuple #[.bool true, .bool true]) ∧ Below w.heap.size w w'))
    (h2 : Hid (∀ w, Calls Try.prog 9 #[.agg #[.int .i64 k', .bool false, .int .i64 n', .int .i64 0, .int .i64 0, .string ⟨#[]⟩], .agg #[.int .i64 k, .bool false, .int .i64 n, .int .i64 0, .int .i64 0, .string ⟨#[]⟩]] w fun e w' => e = .returned (.tuple #[.bool false, .bool true]) ∧ Below w.heap.size w w'))
    (h3 : Hid (∀ w, Calls Try.prog 15 #[.agg #[.int .i64 k, .bool false, .int .i64 n, .int .i64 0, .int .i64 0, .string ⟨#[]⟩], .agg #[.int .i64 k', .bool false, .int .i64 n', .int .i64 0, .int .i64 0, .string ⟨#[]⟩]] w fun e w' => e = .returned (.bool false) ∧ Below w.heap.size w w'))
    (h4 : Hid (∀ w, Calls Try.prog 9 #[.agg #[.int .i64 k', .bool false, .int .i64 n', .int .i64 0, .int .i64 0, .string ⟨#[]⟩], .agg #[.int .i64 k'', .bool false, .int .i64 n'', .int .i64 0, .int .i64 0, .string ⟨#[]⟩]] w fun e w' => e = .returned (.tuple #[.bool true, .bool true]) ∧ Below w.heap.size w w'))
    (h5 : Hid (∀ w, Calls Try.prog 9 #[.agg #[.int .i64 k, .bool false, .int .i64 n, .int .i64 0, .int .i64 0, .string ⟨#[]⟩], .agg #[.int .i64 k'', .bool false, .int .i64 n'', .int .i64 0, .int .i64 0, .string ⟨#[]⟩]] w fun e w' => e = .returned (.tuple #[.bool true, .bool true]) ∧ Below w.heap.size w w'))
    (h6 : Hid (∀ w, Calls Try.prog 13 #[.agg #[.int .i64 k, .bool false, .int .i64 n, .int .i64 0, .int .i64 0, .string ⟨#[]⟩]] w fun e w' => e = .returned (.bool true) ∧ Below w.heap.size w w')) :
    Calls Try.prog 4 #[.int .i64 a, .int .i64 b, .int .i64 c, .bool x, .bool y, .bool z] w fun e w' => e = .returned (.bool true) ∧ Below w.heap.size w w' := by
  have i0 : ∀ w : World, (Instr.index 33 (.agg #[.bool true, .bool false, .bool false]) (.int .i64 0)).run Try.prog w = .ok (.bool true) w := fun _ => by kernel_rfl
  have i1 : ∀ w : World, (Instr.index 33 (.agg #[.bool true, .bool false, .bool false]) (.int .i64 1)).run Try.prog w = .ok (.bool false) w := fun _ => by kernel_rfl
  have i2 : ∀ w : World, (Instr.index 33 (.agg #[.bool true, .bool false, .bool false]) (.int .i64 2)).run Try.prog w = .ok (.bool false) w := fun _ => by kernel_rfl
  go_enter Try.func4, Try.ntmps4
  go_wp2_with fail
  refine (h8.out _).mono ?_
  rintro e wc ⟨rfl, kd⟩
  have gb := Lib.hid kd
  clear kd
  go_wp2_with fail
  refine (g1.out _).mono ?_
  rintro e wc ⟨rfl, kd⟩
  replace gb := Lib.hid (below_and gb.out kd)
  clear kd
  go_wp2_with fail
  refine (g2.out _).mono ?_
  rintro e wc ⟨rfl, kd⟩
  replace gb := Lib.hid (below_and gb.out kd)
  clear kd
  go_wp2_with fail
  refine (g3.out _).mono ?_
  rintro e wg ⟨rfl, kd⟩
  replace gb := Lib.hid (below_and gb.out kd)
  clear kd
  go_wp2_with fail
  obtain ⟨we, ee, ke, oe⟩ := three_box wg k n k' n' k'' n''
  rw [ee]
  have go := Lib.hid oe
  replace gb := Lib.hid (below_and gb.out ke)
  clear ee ke oe
  refine (h1.out _).mono ?_
  rintro e wc ⟨rfl, kd⟩
  replace gb := Lib.hid (below_and gb.out kd)
  replace go := Lib.hid (go.out.later kd)
  clear kd
  obtain ⟨a0, a1, a2, a3, a4, a5, b0, b1, b2, b3, b4, b5, c0, c1, c2, c3, c4, c5⟩ := go.out.flat
  go_wp2_with fail
  refine (h2.out _).mono ?_
  rintro e wc ⟨rfl, kd⟩
  replace gb := Lib.hid (below_and gb.out kd)
  replace go := Lib.hid (go.out.later kd)
  clear kd a0 a1 a2 a3 a4 a5 b0 b1 b2 b3 b4 b5 c0 c1 c2 c3 c4 c5
  obtain ⟨a0, a1, a2, a3, a4, a5, b0, b1, b2, b3, b4, b5, c0, c1, c2, c3, c4, c5⟩ := go.out.flat
  go_wp2_with fail
  refine (h3.out _).mono ?_
  rintro e wc ⟨rfl, kd⟩
  replace gb := Lib.hid (below_and gb.out kd)
  replace go := Lib.hid (go.out.later kd)
  clear kd a0 a1 a2 a3 a4 a5 b0 b1 b2 b3 b4 b5 c0 c1 c2 c3 c4 c5
  obtain ⟨a0, a1, a2, a3, a4, a5, b0, b1, b2, b3, b4, b5, c0, c1, c2, c3, c4, c5⟩ := go.out.flat
  go_wp2
  refine wp_loop_rounds 4 ?_
  rw [rounds_succ]
  go_wp2
  rw [rounds_succ]
  go_wp2
  rw [rounds_succ]
  go_wp2
  rw [rounds_succ]
  go_wp2_with fail
  refine (h4.out _).mono ?_
  rintro e wc ⟨rfl, kd⟩
  replace gb := Lib.hid (below_and gb.out kd)
  replace go := Lib.hid (go.out.later kd)
  clear kd a0 a1 a2 a3 a4 a5 b0 b1 b2 b3 b4 b5 c0 c1 c2 c3 c4 c5
  obtain ⟨a0, a1, a2, a3, a4, a5, b0, b1, b2, b3, b4, b5, c0, c1, c2, c3, c4, c5⟩ := go.out.flat
  go_wp2_with fail
  refine (h5.out _).mono ?_
  rintro e wc ⟨rfl, kd⟩
  replace gb := Lib.hid (below_and gb.out kd)
  replace go := Lib.hid (go.out.later kd)
  clear kd a0 a1 a2 a3 a4 a5 b0 b1 b2 b3 b4 b5 c0 c1 c2 c3 c4 c5
  obtain ⟨a0, a1, a2, a3, a4, a5, b0, b1, b2, b3, b4, b5, c0, c1, c2, c3, c4, c5⟩ := go.out.flat
  go_wp2_with fail
  refine (h6.out _).mono ?_
  rintro e wc ⟨rfl, kd⟩
  replace gb := Lib.hid (below_and gb.out kd)
  go_wp2
  go_ret
  exact ⟨rfl, gb.out⟩

set_option maxHeartbeats 800000 in
theorem order_2 (a b c k n k' n' k'' n'' : Int) (x y z l4 : Bool) (w : World)
    (h8 : Hid (∀ w, Calls Try.prog 8 #[] w fun e w' => e = .returned (.bool true) ∧ Below w.heap.size w w'))
    (g1 : Hid (∀ w, Calls Try.prog 19 #[.int .i64 a, .bool x] w fun e w' => e = .returned (.agg #[.int .i64 k, .bool false, .int .i64 n, .int .i64 0, .int .i64 0, .string ⟨#[]⟩]) ∧ Below w.heap.size w w'))
    (g2 : Hid (∀ w, Calls Try.prog 19 #[.int .i64 b, .bool y] w fun e w' => e = .returned (.agg #[.int .i64 k', .bool false, .int .i64 n', .int .i64 0, .int .i64 0, .string ⟨#[]⟩]) ∧ Below w.heap.size w w'))
    (g3 : Hid (∀ w, Calls Try.prog 19 #[.int .i64 c, .bool z] w fun e w' => e = .returned (.agg #[.int .i64 k'', .bool false, .int .i64 n'', .int .i64 0, .int .i64 0, .string ⟨#[]⟩]) ∧ Below w.heap.size w w'))
    (h1 : Hid (∀ w, Calls Try.prog 9 #[.agg #[.int .i64 k, .bool false, .int .i64 n, .int .i64 0, .int .i64 0, .string ⟨#[]⟩], .agg #[.int .i64 k', .bool false, .int .i64 n', .int .i64 0, .int .i64 0, .string ⟨#[]⟩]] w fun e w' => e = .returned (.tuple #[.bool true, .bool true]) ∧ Below w.heap.size w w'))
    (h2 : Hid (∀ w, Calls Try.prog 9 #[.agg #[.int .i64 k', .bool false, .int .i64 n', .int .i64 0, .int .i64 0, .string ⟨#[]⟩], .agg #[.int .i64 k, .bool false, .int .i64 n, .int .i64 0, .int .i64 0, .string ⟨#[]⟩]] w fun e w' => e = .returned (.tuple #[.bool false, .bool true]) ∧ Below w.heap.size w w'))
    (h3 : Hid (∀ w, Calls Try.prog 15 #[.agg #[.int .i64 k, .bool false, .int .i64 n, .int .i64 0, .int .i64 0, .string ⟨#[]⟩], .agg #[.int .i64 k', .bool false, .int .i64 n', .int .i64 0, .int .i64 0, .string ⟨#[]⟩]] w fun e w' => e = .returned (.bool false) ∧ Below w.heap.size w w'))
    (h4 : Hid (∀ w, Calls Try.prog 9 #[.agg #[.int .i64 k', .bool false, .int .i64 n', .int .i64 0, .int .i64 0, .string ⟨#[]⟩], .agg #[.int .i64 k'', .bool false, .int .i64 n'', .int .i64 0, .int .i64 0, .string ⟨#[]⟩]] w fun e w' => e = .returned (.tuple #[.bool false, .bool true]) ∧ Below w.heap.size w w'))
    (h5 : Hid (∀ w, Calls Try.prog 9 #[.agg #[.int .i64 k, .bool false, .int .i64 n, .int .i64 0, .int .i64 0, .string ⟨#[]⟩], .agg #[.int .i64 k'', .bool false, .int .i64 n'', .int .i64 0, .int .i64 0, .string ⟨#[]⟩]] w fun e w' => e = .returned (.tuple #[.bool l4, .bool true]) ∧ Below w.heap.size w w'))
    (h6 : Hid (∀ w, Calls Try.prog 13 #[.agg #[.int .i64 k, .bool false, .int .i64 n, .int .i64 0, .int .i64 0, .string ⟨#[]⟩]] w fun e w' => e = .returned (.bool true) ∧ Below w.heap.size w w')) :
    Calls Try.prog 4 #[.int .i64 a, .int .i64 b, .int .i64 c, .bool x, .bool y, .bool z] w fun e w' => e = .returned (.bool true) ∧ Below w.heap.size w w' := by
  have i0 : ∀ w : World, (Instr.index 33 (.agg #[.bool true, .bool false, .bool false]) (.int .i64 0)).run Try.prog w = .ok (.bool true) w := fun _ => by kernel_rfl
  have i1 : ∀ w : World, (Instr.index 33 (.agg #[.bool true, .bool false, .bool false]) (.int .i64 1)).run Try.prog w = .ok (.bool false) w := fun _ => by kernel_rfl
  have i2 : ∀ w : World, (Instr.index 33 (.agg #[.bool true, .bool false, .bool false]) (.int .i64 2)).run Try.prog w = .ok (.bool false) w := fun _ => by kernel_rfl
  go_enter Try.func4, Try.ntmps4
  go_wp2_with fail
  refine (h8.out _).mono ?_
  rintro e wc ⟨rfl, kd⟩
  have gb := Lib.hid kd
  clear kd
  go_wp2_with fail
  refine (g1.out _).mono ?_
  rintro e wc ⟨rfl, kd⟩
  replace gb := Lib.hid (below_and gb.out kd)
  clear kd
  go_wp2_with fail
  refine (g2.out _).mono ?_
  rintro e wc ⟨rfl, kd⟩
  replace gb := Lib.hid (below_and gb.out kd)
  clear kd
  go_wp2_with fail
  refine (g3.out _).mono ?_
  rintro e wg ⟨rfl, kd⟩
  replace gb := Lib.hid (below_and gb.out kd)
  clear kd
  go_wp2_with fail
  obtain ⟨we, ee, ke, oe⟩ := three_box wg k n k' n' k'' n''
  rw [ee]
  have go := Lib.hid oe
  replace gb := Lib.hid (below_and gb.out ke)
  clear ee ke oe
  refine (h1.out _).mono ?_
  rintro e wc ⟨rfl, kd⟩
  replace gb := Lib.hid (below_and gb.out kd)
  replace go := Lib.hid (go.out.later kd)
  clear kd
  obtain ⟨a0, a1, a2, a3, a4, a5, b0, b1, b2, b3, b4, b5, c0, c1, c2, c3, c4, c5⟩ := go.out.flat
  go_wp2_with fail
  refine (h2.out _).mono ?_
  rintro e wc ⟨rfl, kd⟩
  replace gb := Lib.hid (below_and gb.out kd)
  replace go := Lib.hid (go.out.later kd)
  clear kd a0 a1 a2 a3 a4 a5 b0 b1 b2 b3 b4 b5 c0 c1 c2 c3 c4 c5
  obtain ⟨a0, a1, a2, a3, a4, a5, b0, b1, b2, b3, b4, b5, c0, c1, c2, c3, c4, c5⟩ := go.out.flat
  go_wp2_with fail
  refine (h3.out _).mono ?_
  rintro e wc ⟨rfl, kd⟩
  replace gb := Lib.hid (below_and gb.out kd)
  replace go := Lib.hid (go.out.later kd)
  clear kd a0 a1 a2 a3 a4 a5 b0 b1 b2 b3 b4 b5 c0 c1 c2 c3 c4 c5
  obtain ⟨a0, a1, a2, a3, a4, a5, b0, b1, b2, b3, b4, b5, c0, c1, c2, c3, c4, c5⟩ := go.out.flat
  go_wp2
  refine wp_loop_rounds 4 ?_
  rw [rounds_succ]
  go_wp2
  rw [rounds_succ]
  go_wp2
  rw [rounds_succ]
  go_wp2
  rw [rounds_succ]
  go_wp2_with fail
  refine (h4.out _).mono ?_
  rintro e wc ⟨rfl, kd⟩
  replace gb := Lib.hid (below_and gb.out kd)
  replace go := Lib.hid (go.out.later kd)
  clear kd a0 a1 a2 a3 a4 a5 b0 b1 b2 b3 b4 b5 c0 c1 c2 c3 c4 c5
  obtain ⟨a0, a1, a2, a3, a4, a5, b0, b1, b2, b3, b4, b5, c0, c1, c2, c3, c4, c5⟩ := go.out.flat
  go_wp2_with fail
  refine (h5.out _).mono ?_
  rintro e wc ⟨rfl, kd⟩
  replace gb := Lib.hid (below_and gb.out kd)
  replace go := Lib.hid (go.out.later kd)
  clear kd a0 a1 a2 a3 a4 a5 b0 b1 b2 b3 b4 b5 c0 c1 c2 c3 c4 c5
  obtain ⟨a0, a1, a2, a3, a4, a5, b0, b1, b2, b3, b4, b5, c0, c1, c2, c3, c4, c5⟩ := go.out.flat
  go_wp2_with fail
  refine (h6.out _).mono ?_
  rintro e wc ⟨rfl, kd⟩
  replace gb := Lib.hid (below_and gb.out kd)
  go_wp2
  go_ret
  exact ⟨rfl, gb.out⟩

set_option maxHeartbeats 800000 in
theorem order_3 (a b c k n k' n' k'' n'' : Int) (x y z l3 l4 : Bool) (w : World)
    (h8 : Hid (∀ w, Calls Try.prog 8 #[] w fun e w' => e = .returned (.bool true) ∧ Below w.heap.size w w'))
    (g1 : Hid (∀ w, Calls Try.prog 19 #[.int .i64 a, .bool x] w fun e w' => e = .returned (.agg #[.int .i64 k, .bool false, .int .i64 n, .int .i64 0, .int .i64 0, .string ⟨#[]⟩]) ∧ Below w.heap.size w w'))
    (g2 : Hid (∀ w, Calls Try.prog 19 #[.int .i64 b, .bool y] w fun e w' => e = .returned (.agg #[.int .i64 k', .bool false, .int .i64 n', .int .i64 0, .int .i64 0, .string ⟨#[]⟩]) ∧ Below w.heap.size w w'))
    (g3 : Hid (∀ w, Calls Try.prog 19 #[.int .i64 c, .bool z] w fun e w' => e = .returned (.agg #[.int .i64 k'', .bool false, .int .i64 n'', .int .i64 0, .int .i64 0, .string ⟨#[]⟩]) ∧ Below w.heap.size w w'))
    (h1 : Hid (∀ w, Calls Try.prog 9 #[.agg #[.int .i64 k, .bool false, .int .i64 n, .int .i64 0, .int .i64 0, .string ⟨#[]⟩], .agg #[.int .i64 k', .bool false, .int .i64 n', .int .i64 0, .int .i64 0, .string ⟨#[]⟩]] w fun e w' => e = .returned (.tuple #[.bool false, .bool true]) ∧ Below w.heap.size w w'))
    (h2 : Hid (∀ w, Calls Try.prog 9 #[.agg #[.int .i64 k', .bool false, .int .i64 n', .int .i64 0, .int .i64 0, .string ⟨#[]⟩], .agg #[.int .i64 k, .bool false, .int .i64 n, .int .i64 0, .int .i64 0, .string ⟨#[]⟩]] w fun e w' => e = .returned (.tuple #[.bool true, .bool true]) ∧ Below w.heap.size w w'))
    (h3 : Hid (∀ w, Calls Try.prog 15 #[.agg #[.int .i64 k, .bool false, .int .i64 n, .int .i64 0, .int .i64 0, .string ⟨#[]⟩], .agg #[.int .i64 k', .bool false, .int .i64 n', .int .i64 0, .int .i64 0, .string ⟨#[]⟩]] w fun e w' => e = .returned (.bool false) ∧ Below w.heap.size w w'))
    (h4 : Hid (∀ w, Calls Try.prog 9 #[.agg #[.int .i64 k', .bool false, .int .i64 n', .int .i64 0, .int .i64 0, .string ⟨#[]⟩], .agg #[.int .i64 k'', .bool false, .int .i64 n'', .int .i64 0, .int .i64 0, .string ⟨#[]⟩]] w fun e w' => e = .returned (.tuple #[.bool l3, .bool true]) ∧ Below w.heap.size w w'))
    (h5 : Hid (∀ w, Calls Try.prog 9 #[.agg #[.int .i64 k, .bool false, .int .i64 n, .int .i64 0, .int .i64 0, .string ⟨#[]⟩], .agg #[.int .i64 k'', .bool false, .int .i64 n'', .int .i64 0, .int .i64 0, .string ⟨#[]⟩]] w fun e w' => e = .returned (.tuple #[.bool l4, .bool true]) ∧ Below w.heap.size w w'))
    (h6 : Hid (∀ w, Calls Try.prog 13 #[.agg #[.int .i64 k, .bool false, .int .i64 n, .int .i64 0, .int .i64 0, .string ⟨#[]⟩]] w fun e w' => e = .returned (.bool true) ∧ Below w.heap.size w w')) :
    Calls Try.prog 4 #[.int .i64 a, .int .i64 b, .int .i64 c, .bool x, .bool y, .bool z] w fun e w' => e = .returned (.bool true) ∧ Below w.heap.size w w' := by
  have i0 : ∀ w : World, (Instr.index 33 (.agg #[.bool false, .bool true, .bool false]) (.int .i64 0)).run Try.prog w = .ok (.bool false) w := fun _ => by kernel_rfl
  have i1 : ∀ w : World, (Instr.index 33 (.agg #[.bool false, .bool true, .bool false]) (.int .i64 1)).run Try.prog w = .ok (.bool true) w := fun _ => by kernel_rfl
  have i2 : ∀ w : World, (Instr.index 33 (.agg #[.bool false, .bool true, .bool false]) (.int .i64 2)).run Try.prog w = .ok (.bool false) w := fun _ => by kernel_rfl
  go_enter Try.func4, Try.ntmps4
  go_wp2_with fail
  refine (h8.out _).mono ?_
  rintro e wc ⟨rfl, kd⟩
  have gb := Lib.hid kd
  clear kd
  go_wp2_with fail
  refine (g1.out _).mono ?_
  rintro e wc ⟨rfl, kd⟩
  replace gb := Lib.hid (below_and gb.out kd)
  clear kd
  go_wp2_with fail
  refine (g2.out _).mono ?_
  rintro e wc ⟨rfl, kd⟩
  replace gb := Lib.hid (below_and gb.out kd)
  clear kd
  go_wp2_with fail
  refine (g3.out _).mono ?_
  rintro e wg ⟨rfl, kd⟩
  replace gb := Lib.hid (below_and gb.out kd)
  clear kd
  go_wp2_with fail
  obtain ⟨we, ee, ke, oe⟩ := three_box wg k n k' n' k'' n''
  rw [ee]
  have go := Lib.hid oe
  replace gb := Lib.hid (below_and gb.out ke)
  clear ee ke oe
  refine (h1.out _).mono ?_
  rintro e wc ⟨rfl, kd⟩
  replace gb := Lib.hid (below_and gb.out kd)
  replace go := Lib.hid (go.out.later kd)
  clear kd
  obtain ⟨a0, a1, a2, a3, a4, a5, b0, b1, b2, b3, b4, b5, c0, c1, c2, c3, c4, c5⟩ := go.out.flat
  go_wp2_with fail
  refine (h2.out _).mono ?_
  rintro e wc ⟨rfl, kd⟩
  replace gb := Lib.hid (below_and gb.out kd)
  replace go := Lib.hid (go.out.later kd)
  clear kd a0 a1 a2 a3 a4 a5 b0 b1 b2 b3 b4 b5 c0 c1 c2 c3 c4 c5
  obtain ⟨a0, a1, a2, a3, a4, a5, b0, b1, b2, b3, b4, b5, c0, c1, c2, c3, c4, c5⟩ := go.out.flat
  go_wp2_with fail
  refine (h3.out _).mono ?_
  rintro e wc ⟨rfl, kd⟩
  replace gb := Lib.hid (below_and gb.out kd)
  replace go := Lib.hid (go.out.later kd)
  clear kd a0 a1 a2 a3 a4 a5 b0 b1 b2 b3 b4 b5 c0 c1 c2 c3 c4 c5
  obtain ⟨a0, a1, a2, a3, a4, a5, b0, b1, b2, b3, b4, b5, c0, c1, c2, c3, c4, c5⟩ := go.out.flat
  go_wp2
  refine wp_loop_rounds 4 ?_
  rw [rounds_succ]
  go_wp2
  rw [rounds_succ]
  go_wp2
  rw [rounds_succ]
  go_wp2
  rw [rounds_succ]
  go_wp2_with fail
  refine (h4.out _).mono ?_
  rintro e wc ⟨rfl, kd⟩
  replace gb := Lib.hid (below_and gb.out kd)
  replace go := Lib.hid (go.out.later kd)
  clear kd a0 a1 a2 a3 a4 a5 b0 b1 b2 b3 b4 b5 c0 c1 c2 c3 c4 c5
  obtain ⟨a0, a1, a2, a3, a4, a5, b0, b1, b2, b3, b4, b5, c0, c1, c2, c3, c4, c5⟩ := go.out.flat
  go_wp2_with fail
  refine (h5.out _).mono ?_
  rintro e wc ⟨rfl, kd⟩
  replace gb := Lib.hid (below_and gb.out kd)
  replace go := Lib.hid (go.out.later kd)
  clear kd a0 a1 a2 a3 a4 a5 b0 b1 b2 b3 b4 b5 c0 c1 c2 c3 c4 c5
  obtain ⟨a0, a1, a2, a3, a4, a5, b0, b1, b2, b3, b4, b5, c0, c1, c2, c3, c4, c5⟩ := go.out.flat
  go_wp2_with fail
  refine (h6.out _).mono ?_
  rintro e wc ⟨rfl, kd⟩
  replace gb := Lib.hid (below_and gb.out kd)
  go_wp2
  go_ret
  exact ⟨rfl, gb.out⟩

set_option maxHeartbeats 800000 in
theorem order_4 (a b c k n k' n' k'' n'' : Int) (x y z l3 l4 : Bool) (w : World)
    (h8 : Hid (∀ w, Calls Try.prog 8 #[] w fun e w' => e = .returned (.bool true) ∧ Below w.heap.size w w'))
    (g1 : Hid (∀ w, Calls Try.prog 19 #[.int .i64 a, .bool x] w fun e w' => e = .returned (.agg #[.int .i64 k, .bool false, .int .i64 n, .int .i64 0, .int .i64 0, .string ⟨#[]⟩]) ∧ Below w.heap.size w w'))
    (g2 : Hid (∀ w, Calls Try.prog 19 #[.int .i64 b, .bool y] w fun e w' => e = .returned (.agg #[.int .i64 k', .bool false, .int .i64 n', .int .i64 0, .int .i64 0, .string ⟨#[]⟩]) ∧ Below w.heap.size w w'))
    (g3 : Hid (∀ w, Calls Try.prog 19 #[.int .i64 c, .bool z] w fun e w' => e = .returned (.agg #[.int .i64 k'', .bool false, .int .i64 n'', .int .i64 0, .int .i64 0, .string ⟨#[]⟩]) ∧ Below w.heap.size w w'))
    (h1 : Hid (∀ w, Calls Try.prog 9 #[.agg #[.int .i64 k, .bool false, .int .i64 n, .int .i64 0, .int .i64 0, .string ⟨#[]⟩], .agg #[.int .i64 k', .bool false, .int .i64 n', .int .i64 0, .int .i64 0, .string ⟨#[]⟩]] w fun e w' => e = .returned (.tuple #[.bool false, .bool true]) ∧ Below w.heap.size w w'))
    (h2 : Hid (∀ w, Calls Try.prog 9 #[.agg #[.int .i64 k', .bool false, .int .i64 n', .int .i64 0, .int .i64 0, .string ⟨#[]⟩], .agg #[.int .i64 k, .bool false, .int .i64 n, .int .i64 0, .int .i64 0, .string ⟨#[]⟩]] w fun e w' => e = .returned (.tuple #[.bool false, .bool true]) ∧ Below w.heap.size w w'))
    (h3 : Hid (∀ w, Calls Try.prog 15 #[.agg #[.int .i64 k, .bool false, .int .i64 n, .int .i64 0, .int .i64 0, .string ⟨#[]⟩], .agg #[.int .i64 k', .bool false, .int .i64 n', .int .i64 0, .int .i64 0, .string ⟨#[]⟩]] w fun e w' => e = .returned (.bool true) ∧ Below w.heap.size w w'))
    (h4 : Hid (∀ w, Calls Try.prog 9 #[.agg #[.int .i64 k', .bool false, .int .i64 n', .int .i64 0, .int .i64 0, .string ⟨#[]⟩], .agg #[.int .i64 k'', .bool false, .int .i64 n'', .int .i64 0, .int .i64 0, .string ⟨#[]⟩]] w fun e w' => e = .returned (.tuple #[.bool l3, .bool true]) ∧ Below w.heap.size w w'))
    (h5 : Hid (∀ w, Calls Try.prog 9 #[.agg #[.int .i64 k, .bool false, .int .i64 n, .int .i64 0, .int .i64 0, .string ⟨#[]⟩], .agg #[.int .i64 k'', .bool false, .int .i64 n'', .int .i64 0, .int .i64 0, .string ⟨#[]⟩]] w fun e w' => e = .returned (.tuple #[.bool l4, .bool true]) ∧ Below w.heap.size w w'))
    (h6 : Hid (∀ w, Calls Try.prog 13 #[.agg #[.int .i64 k, .bool false, .int .i64 n, .int .i64 0, .int .i64 0, .string ⟨#[]⟩]] w fun e w' => e = .returned (.bool true) ∧ Below w.heap.size w w')) :
    Calls Try.prog 4 #[.int .i64 a, .int .i64 b, .int .i64 c, .bool x, .bool y, .bool z] w fun e w' => e = .returned (.bool true) ∧ Below w.heap.size w w' := by
  have i0 : ∀ w : World, (Instr.index 33 (.agg #[.bool false, .bool false, .bool true]) (.int .i64 0)).run Try.prog w = .ok (.bool false) w := fun _ => by kernel_rfl
  have i1 : ∀ w : World, (Instr.index 33 (.agg #[.bool false, .bool false, .bool true]) (.int .i64 1)).run Try.prog w = .ok (.bool false) w := fun _ => by kernel_rfl
  have i2 : ∀ w : World, (Instr.index 33 (.agg #[.bool false, .bool false, .bool true]) (.int .i64 2)).run Try.prog w = .ok (.bool true) w := fun _ => by kernel_rfl
  go_enter Try.func4, Try.ntmps4
  go_wp2_with fail
  refine (h8.out _).mono ?_
  rintro e wc ⟨rfl, kd⟩
  have gb := Lib.hid kd
  clear kd
  go_wp2_with fail
  refine (g1.out _).mono ?_
  rintro e wc ⟨rfl, kd⟩
  replace gb := Lib.hid (below_and gb.out kd)
  clear kd
  go_wp2_with fail
  refine (g2.out _).mono ?_
  rintro e wc ⟨rfl, kd⟩
  replace gb := Lib.hid (below_and gb.out kd)
  clear kd
  go_wp2_with fail
  refine (g3.out _).mono ?_
  rintro e wg ⟨rfl, kd⟩
  replace gb := Lib.hid (below_and gb.out kd)
  clear kd
  go_wp2_with fail
  obtain ⟨we, ee, ke, oe⟩ := three_box wg k n k' n' k'' n''
  rw [ee]
  have go := Lib.hid oe
  replace gb := Lib.hid (below_and gb.out ke)
  clear ee ke oe
  refine (h1.out _).mono ?_
  rintro e wc ⟨rfl, kd⟩
  replace gb := Lib.hid (below_and gb.out kd)
  replace go := Lib.hid (go.out.later kd)
  clear kd
  obtain ⟨a0, a1, a2, a3, a4, a5, b0, b1, b2, b3, b4, b5, c0, c1, c2, c3, c4, c5⟩ := go.out.flat
  go_wp2_with fail
  refine (h2.out _).mono ?_
  rintro e wc ⟨rfl, kd⟩
  replace gb := Lib.hid (below_and gb.out kd)
  replace go := Lib.hid (go.out.later kd)
  clear kd a0 a1 a2 a3 a4 a5 b0 b1 b2 b3 b4 b5 c0 c1 c2 c3 c4 c5
  obtain ⟨a0, a1, a2, a3, a4, a5, b0, b1, b2, b3, b4, b5, c0, c1, c2, c3, c4, c5⟩ := go.out.flat
  go_wp2_with fail
  refine (h3.out _).mono ?_
  rintro e wc ⟨rfl, kd⟩
  replace gb := Lib.hid (below_and gb.out kd)
  replace go := Lib.hid (go.out.later kd)
  clear kd a0 a1 a2 a3 a4 a5 b0 b1 b2 b3 b4 b5 c0 c1 c2 c3 c4 c5
  obtain ⟨a0, a1, a2, a3, a4, a5, b0, b1, b2, b3, b4, b5, c0, c1, c2, c3, c4, c5⟩ := go.out.flat
  go_wp2
  refine wp_loop_rounds 4 ?_
  rw [rounds_succ]
  go_wp2
  rw [rounds_succ]
  go_wp2
  rw [rounds_succ]
  go_wp2
  rw [rounds_succ]
  go_wp2_with fail
  refine (h4.out _).mono ?_
  rintro e wc ⟨rfl, kd⟩
  replace gb := Lib.hid (below_and gb.out kd)
  replace go := Lib.hid (go.out.later kd)
  clear kd a0 a1 a2 a3 a4 a5 b0 b1 b2 b3 b4 b5 c0 c1 c2 c3 c4 c5
  obtain ⟨a0, a1, a2, a3, a4, a5, b0, b1, b2, b3, b4, b5, c0, c1, c2, c3, c4, c5⟩ := go.out.flat
  go_wp2_with fail
  refine (h5.out _).mono ?_
  rintro e wc ⟨rfl, kd⟩
  replace gb := Lib.hid (below_and gb.out kd)
  replace go := Lib.hid (go.out.later kd)
  clear kd a0 a1 a2 a3 a4 a5 b0 b1 b2 b3 b4 b5 c0 c1 c2 c3 c4 c5
  obtain ⟨a0, a1, a2, a3, a4, a5, b0, b1, b2, b3, b4, b5, c0, c1, c2, c3, c4, c5⟩ := go.out.flat
  go_wp2_with fail
  refine (h6.out _).mono ?_
  rintro e wc ⟨rfl, kd⟩
  replace gb := Lib.hid (below_and gb.out kd)
  go_wp2
  go_ret
  exact ⟨rfl, gb.out⟩

theorem less_num {k n k' n' : Int} (h : numO k n 0 0 ⟨#[]⟩ = true) (h' : numO k' n' 0 0 ⟨#[]⟩ = true) (w : World) :
    Calls Try.prog 9 #[.agg #[.int .i64 k, .bool false, .int .i64 n, .int .i64 0, .int .i64 0, .string ⟨#[]⟩], .agg #[.int .i64 k', .bool false, .int .i64 n', .int .i64 0, .int .i64 0, .string ⟨#[]⟩]] w fun e w' => e = .returned (.tuple #[.bool (decide (sizeO k n < sizeO k' n')), .bool true]) ∧ Below w.heap.size w w' := by
  have := less_any k n 0 0 k' n' 0 0 false false ⟨#[]⟩ ⟨#[]⟩ w
  simpa [lessO, lessOk, h, h'] using this
theorem same_num {k n k' n' : Int} (h : numO k n 0 0 ⟨#[]⟩ = true) (h' : numO k' n' 0 0 ⟨#[]⟩ = true) (w : World) :
    Calls Try.prog 15 #[.agg #[.int .i64 k, .bool false, .int .i64 n, .int .i64 0, .int .i64 0, .string ⟨#[]⟩], .agg #[.int .i64 k', .bool false, .int .i64 n', .int .i64 0, .int .i64 0, .string ⟨#[]⟩]] w fun e w' => e = .returned (.bool (decide (sizeO k n = sizeO k' n'))) ∧ Below w.heap.size w w' := by
  have := same_any k n 0 0 k' n' 0 0 false false ⟨#[]⟩ ⟨#[]⟩ w
  simpa [sameO, h, h'] using this
theorem may_num {k n : Int} (h : numO k n 0 0 ⟨#[]⟩ = true) (w : World) :
    Calls Try.prog 13 #[.agg #[.int .i64 k, .bool false, .int .i64 n, .int .i64 0, .int .i64 0, .string ⟨#[]⟩]] w fun e w' => e = .returned (.bool true) ∧ Below w.heap.size w w' := by
  have := may_any k n 0 0 false ⟨#[]⟩ w
  have hm : mayO k n 0 0 ⟨#[]⟩ = true := by
    unfold numO at h
    simp at h
    exact h.2
  rwa [hm] at this

theorem order_walk (a b c : Int) (x y z : Bool) (w : World) :
    Calls Try.prog 4 #[.int .i64 a, .int .i64 b, .int .i64 c, .bool x, .bool y, .bool z] w fun e w' => e = .returned (.bool true) ∧ Below w.heap.size w w' := by
  have h8 := Lib.hid (fun w => known10_any w)
  have g1 := Lib.hid (fun w => number_any a x w)
  have g2 := Lib.hid (fun w => number_any b y w)
  have g3 := Lib.hid (fun w => number_any c z w)
  have n1 := numO_yes a x
  have n2 := numO_yes b y
  have n3 := numO_yes c z
  generalize numK x = k at *
  generalize numN a x = n at *
  generalize numK y = k' at *
  generalize numN b y = n' at *
  generalize numK z = k'' at *
  generalize numN c z = n'' at *
  have h1 := fun w => less_num n1 n2 w
  have h2 := fun w => less_num n2 n1 w
  have h3 := fun w => same_num n1 n2 w
  have h4 := fun w => less_num n2 n3 w
  have h5 := fun w => less_num n1 n3 w
  have h6 := Lib.hid (fun w => may_num n1 w)
  clear n1 n2 n3
  generalize sizeO k n = u at *
  generalize sizeO k' n' = v at *
  generalize sizeO k'' n'' = t at *
  rcases Int.lt_trichotomy u v with h | h | h
  · rw [show decide (u < v) = true from decide_eq_true h] at h1
    rw [show decide (v < u) = false from decide_eq_false (by omega)] at h2
    rw [show decide (u = v) = false from decide_eq_false (by omega)] at h3
    by_cases h' : v < t
    · rw [show decide (v < t) = true from decide_eq_true h'] at h4
      rw [show decide (u < t) = true from decide_eq_true (by omega)] at h5
      exact order_1 a b c k n k' n' k'' n'' x y z w h8 g1 g2 g3 (Lib.hid h1) (Lib.hid h2) (Lib.hid h3) (Lib.hid h4) (Lib.hid h5) h6
    · rw [show decide (v < t) = false from decide_eq_false h'] at h4
      exact order_2 a b c k n k' n' k'' n'' x y z _ w h8 g1 g2 g3 (Lib.hid h1) (Lib.hid h2) (Lib.hid h3) (Lib.hid h4) (Lib.hid h5) h6
  · rw [show decide (u < v) = false from decide_eq_false (by omega)] at h1
    rw [show decide (v < u) = false from decide_eq_false (by omega)] at h2
    rw [show decide (u = v) = true from decide_eq_true h] at h3
    exact order_4 a b c k n k' n' k'' n'' x y z _ _ w h8 g1 g2 g3 (Lib.hid h1) (Lib.hid h2) (Lib.hid h3) (Lib.hid h4) (Lib.hid h5) h6
  · rw [show decide (u < v) = false from decide_eq_false (by omega)] at h1
    rw [show decide (v < u) = true from decide_eq_true h] at h2
    rw [show decide (u = v) = false from decide_eq_false (by omega)] at h3
    exact order_3 a b c k n k' n' k'' n'' x y z _ _ w h8 g1 g2 g3 (Lib.hid h1) (Lib.hid h2) (Lib.hid h3) (Lib.hid h4) (Lib.hid h5) h6
end Go.Proofs.Ytelihdgpappklaa
