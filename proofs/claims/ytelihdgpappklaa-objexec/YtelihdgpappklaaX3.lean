/- The walk of ObjExec. -/
import Derived.Test.YtelihdgpappklaaO8
import Derived.Deep.Cut
namespace Go.Proofs.Ytelihdgpappklaa
open Go.RowKit
set_option linter.unusedVariables false

theorem same_self (k n a l : Int) (s : ByteArray) : sameO k n a l s k n a l s = true := by
  unfold sameO
  split <;> simp
theorem same_symm (k n a l : Int) (s : ByteArray) (k' n' a' l' : Int) (s' : ByteArray) : sameO k' n' a' l' s' k n a l s = sameO k n a l s k' n' a' l' s' := by
  unfold sameO
  by_cases h : numO k n a l s = true ∧ numO k' n' a' l' s' = true
  · rw [if_pos h, if_pos ⟨h.2, h.1⟩]
    exact decide_eq_decide.2 eq_comm
  · rw [if_neg h, if_neg (fun g => h ⟨g.2, g.1⟩)]
    exact decide_eq_decide.2 ⟨fun ⟨a, b, c, d, e⟩ => ⟨a.symm, b.symm, c.symm, d.symm, e.symm⟩, fun ⟨a, b, c, d, e⟩ => ⟨a.symm, b.symm, c.symm, d.symm, e.symm⟩⟩

/-- The two objects and their copies with another Exec. -/
def Four (w : World) (b c d e : Nat) (k : Int) (x y : Bool) (n a l : Int) (s : ByteArray) (k' : Int) (x' y' : Bool) (n' a' l' : Int) (s' : ByteArray) : Prop := Two w b c k x n a l s k' x' n' a' l' s' ∧ Two w d e k y n a l s k' y' n' a' l' s'
theorem Four.later {w wx : World} {b c d e : Nat} {k n a l k' n' a' l' : Int} {x x' y y' : Bool} {s s' : ByteArray} (h : Four w b c d e k x y n a l s k' x' y' n' a' l' s') (kc : Below w.heap.size w wx) : Four wx b c d e k x y n a l s k' x' y' n' a' l' s' := ⟨h.1.later kc, h.2.later kc⟩
theorem Four.drew {w : World} {b c d e : Nat} {k n a l k' n' a' l' : Int} {x x' y y' : Bool} {s s' : ByteArray} (h : Four w b c d e k x y n a l s k' x' y' n' a' l' s') : Four w.drew b c d e k x y n a l s k' x' y' n' a' l' s' := h
theorem Four.flat {w : World} {b c d e : Nat} {k n a l k' n' a' l' : Int} {x x' y y' : Bool} {s s' : ByteArray} (h : Four w b c d e k x y n a l s k' x' y' n' a' l' s') : w.cell? ⟨b, 0, none⟩ = some (.int .i64 k) ∧ w.cell? ⟨b, 1, none⟩ = some (.bool x) ∧ w.cell? ⟨b, 2, none⟩ = some (.int .i64 n) ∧ w.cell? ⟨b, 3, none⟩ = some (.int .i64 a) ∧ w.cell? ⟨b, 4, none⟩ = some (.int .i64 l) ∧ w.cell? ⟨b, 5, none⟩ = some (.string s) ∧ w.cell? ⟨c, 0, none⟩ = some (.int .i64 k') ∧ w.cell? ⟨c, 1, none⟩ = some (.bool x') ∧ w.cell? ⟨c, 2, none⟩ = some (.int .i64 n') ∧ w.cell? ⟨c, 3, none⟩ = some (.int .i64 a') ∧ w.cell? ⟨c, 4, none⟩ = some (.int .i64 l') ∧ w.cell? ⟨c, 5, none⟩ = some (.string s') ∧ w.cell? ⟨d, 0, none⟩ = some (.int .i64 k) ∧ w.cell? ⟨d, 1, none⟩ = some (.bool y) ∧ w.cell? ⟨d, 2, none⟩ = some (.int .i64 n) ∧ w.cell? ⟨d, 3, none⟩ = some (.int .i64 a) ∧ w.cell? ⟨d, 4, none⟩ = some (.int .i64 l) ∧ w.cell? ⟨d, 5, none⟩ = some (.string s) ∧ w.cell? ⟨e, 0, none⟩ = some (.int .i64 k') ∧ w.cell? ⟨e, 1, none⟩ = some (.bool y') ∧ w.cell? ⟨e, 2, none⟩ = some (.int .i64 n') ∧ w.cell? ⟨e, 3, none⟩ = some (.int .i64 a') ∧ w.cell? ⟨e, 4, none⟩ = some (.int .i64 l') ∧ w.cell? ⟨e, 5, none⟩ = some (.string s') := by
  obtain ⟨⟨⟨a0, a1, a2, a3, a4, a5⟩, ⟨b0, b1, b2, b3, b4, b5⟩⟩, ⟨⟨c0, c1, c2, c3, c4, c5⟩, h4⟩⟩ := h
  exact ⟨a0, a1, a2, a3, a4, a5, b0, b1, b2, b3, b4, b5, c0, c1, c2, c3, c4, c5, h4⟩

set_option maxHeartbeats 3200000 in
theorem exec_core (k n a l k' n' a' l' v : Int) (x x' y y' ls lk vk m sm : Bool) (s s' t : ByteArray) (w : World)
    (h8 : Hid (∀ w, Calls Try.prog 8 #[] w fun e w' => e = .returned (.bool true) ∧ Below w.heap.size w w'))
    (h9 : Hid (∀ x x' w, Calls Try.prog 9 #[.agg #[.int .i64 k, .bool x, .int .i64 n, .int .i64 a, .int .i64 l, .string s], .agg #[.int .i64 k', .bool x', .int .i64 n', .int .i64 a', .int .i64 l', .string s']] w fun e w' => e = .returned (.tuple #[.bool ls, .bool lk]) ∧ Below w.heap.size w w'))
    (h11 : Hid (∀ x w, Calls Try.prog 11 #[.agg #[.int .i64 k, .bool x, .int .i64 n, .int .i64 a, .int .i64 l, .string s]] w fun e w' => e = .returned (.tuple #[.int .i64 v, .bool vk]) ∧ Below w.heap.size w w'))
    (h13 : Hid (∀ x w, Calls Try.prog 13 #[.agg #[.int .i64 k, .bool x, .int .i64 n, .int .i64 a, .int .i64 l, .string s]] w fun e w' => e = .returned (.bool m) ∧ Below w.heap.size w w'))
    (h15 : Hid (∀ k n a l k' n' a' l' x x' s s' w, Calls Try.prog 15 #[.agg #[.int .i64 k, .bool x, .int .i64 n, .int .i64 a, .int .i64 l, .string s], .agg #[.int .i64 k', .bool x', .int .i64 n', .int .i64 a', .int .i64 l', .string s']] w fun e w' => e = .returned (.bool (sameO k n a l s k' n' a' l' s')) ∧ Below w.heap.size w w'))
    (h17 : Hid (∀ x w, Calls Try.prog 17 #[.agg #[.int .i64 k, .bool x, .int .i64 n, .int .i64 a, .int .i64 l, .string s]] w fun e w' => e = .returned (.string t) ∧ Below w.heap.size w w'))
    (q1 : sameO k n a l s k' n' a' l' s' = sm) (q2 : sameO k' n' a' l' s' k n a l s = sm) (q3 : sameO k n a l s k n a l s = true) :
    Calls Try.prog 6 #[.agg #[.int .i64 k, .bool x, .int .i64 n, .int .i64 a, .int .i64 l, .string s], .agg #[.int .i64 k', .bool x', .int .i64 n', .int .i64 a', .int .i64 l', .string s'], .bool y, .bool y'] w fun e w' => e = .returned (.bool true) ∧ Below w.heap.size w w' := by
  go_enter Try.func6, Try.ntmps6
  go_wp2_with fail
  obtain ⟨wb, eb, kb, ob⟩ := two_box w k n a l k' n' a' l' x x' s s'
  rw [eb]
  clear eb
  refine (h8.out _).mono ?_
  rintro e wc ⟨rfl, kd⟩
  have gb := Lib.hid (below_and kb kd)
  have go := Lib.hid (ob.later kd)
  clear kb ob kd
  obtain ⟨c0, c1, c2, c3, c4, c5, d0, d1, d2, d3, d4, d5⟩ := go.out.flat
  go_wp2_with fail
  have ne0 := World.new_ne wc ⟨w.heap.size, 0, none⟩ c0
  have ne1 := World.new_ne wc ⟨w.heap.size + 1, 0, none⟩ d0
  dsimp only at ne0 ne1
  have gt := World.block_lt_of_cell? wc _ d0
  dsimp only at gt
  have ne2 : w.heap.size ≠ wc.heap.size + 1 := by omega
  have ne3 : w.heap.size ≠ wc.heap.size := by omega
  have ne4 : w.heap.size + 1 ≠ wc.heap.size + 1 := by omega
  have ne5 : w.heap.size + 1 ≠ wc.heap.size := by omega
  go_region_held3 (fun wx => wx.cell? ⟨w.heap.size, 0, none⟩ = some (.int .i64 k) ∧ wx.cell? ⟨w.heap.size, 1, none⟩ = some (.bool x) ∧ wx.cell? ⟨w.heap.size, 2, none⟩ = some (.int .i64 n) ∧ wx.cell? ⟨w.heap.size, 3, none⟩ = some (.int .i64 a) ∧ wx.cell? ⟨w.heap.size, 4, none⟩ = some (.int .i64 l) ∧ wx.cell? ⟨w.heap.size, 5, none⟩ = some (.string s) ∧ wx.cell? ⟨w.heap.size + 1, 0, none⟩ = some (.int .i64 k') ∧ wx.cell? ⟨w.heap.size + 1, 1, none⟩ = some (.bool x') ∧ wx.cell? ⟨w.heap.size + 1, 2, none⟩ = some (.int .i64 n') ∧ wx.cell? ⟨w.heap.size + 1, 3, none⟩ = some (.int .i64 a') ∧ wx.cell? ⟨w.heap.size + 1, 4, none⟩ = some (.int .i64 l') ∧ wx.cell? ⟨w.heap.size + 1, 5, none⟩ = some (.string s'))
    (go_keep)
    (first | (go_at_call 8; fail))
  all_goals clear ne0 ne1 gt ne2 ne3 ne4 ne5 c0 c1 c2 c3 c4 c5 d0 d1 d2 d3 d4 d5
  · go_upto_region 5 with fail
    obtain ⟨we, ee, ke, oe⟩ := two_box wc k n a l k' n' a' l' y y' s s'
    rw [ee]
    have go4 : Hid (Four we.drew w.heap.size (w.heap.size + 1) wc.heap.size (wc.heap.size + 1) k x y n a l s k' x' y' n' a' l' s') := Lib.hid ⟨(go.out.later ke).drew, Two.drew oe⟩
    replace gb := Lib.hid (below_and gb.out ke).drew
    clear ee ke oe go
    generalize we.drew = wf at *
    obtain ⟨a0, a1, a2, a3, a4, a5, b0, b1, b2, b3, b4, b5, c0, c1, c2, c3, c4, c5, d0, d1, d2, d3, d4, d5⟩ := go4.out.flat
    go_wp2_with fail
    refine (h9.out _ _ _).mono ?_
    rintro e wg ⟨rfl, kd⟩
    replace gb := Lib.hid (below_and gb.out kd)
    replace go4 := Lib.hid (go4.out.later kd)
    clear kd a0 a1 a2 a3 a4 a5 b0 b1 b2 b3 b4 b5 c0 c1 c2 c3 c4 c5 d0 d1 d2 d3 d4 d5
    obtain ⟨a0, a1, a2, a3, a4, a5, b0, b1, b2, b3, b4, b5, c0, c1, c2, c3, c4, c5, d0, d1, d2, d3, d4, d5⟩ := go4.out.flat
    go_wp2_with fail
    refine (h9.out _ _ _).mono ?_
    rintro e wg ⟨rfl, kd⟩
    replace gb := Lib.hid (below_and gb.out kd)
    replace go4 := Lib.hid (go4.out.later kd)
    clear kd a0 a1 a2 a3 a4 a5 b0 b1 b2 b3 b4 b5 c0 c1 c2 c3 c4 c5 d0 d1 d2 d3 d4 d5
    obtain ⟨a0, a1, a2, a3, a4, a5, b0, b1, b2, b3, b4, b5, c0, c1, c2, c3, c4, c5, d0, d1, d2, d3, d4, d5⟩ := go4.out.flat
    go_wp2_with fail
    refine (h11.out _ _).mono ?_
    rintro e wg ⟨rfl, kd⟩
    replace gb := Lib.hid (below_and gb.out kd)
    replace go4 := Lib.hid (go4.out.later kd)
    clear kd a0 a1 a2 a3 a4 a5 b0 b1 b2 b3 b4 b5 c0 c1 c2 c3 c4 c5 d0 d1 d2 d3 d4 d5
    obtain ⟨a0, a1, a2, a3, a4, a5, b0, b1, b2, b3, b4, b5, c0, c1, c2, c3, c4, c5, d0, d1, d2, d3, d4, d5⟩ := go4.out.flat
    go_wp2_with fail
    refine (h11.out _ _).mono ?_
    rintro e wg ⟨rfl, kd⟩
    replace gb := Lib.hid (below_and gb.out kd).drew
    replace go4 := Lib.hid (go4.out.later kd).drew
    clear kd a0 a1 a2 a3 a4 a5 b0 b1 b2 b3 b4 b5 c0 c1 c2 c3 c4 c5 d0 d1 d2 d3 d4 d5
    go_wp2_with fail
    go_region_held3 (fun wx => wx.cell? ⟨w.heap.size, 0, none⟩ = some (.int .i64 k) ∧ wx.cell? ⟨w.heap.size, 1, none⟩ = some (.bool x) ∧ wx.cell? ⟨w.heap.size, 2, none⟩ = some (.int .i64 n) ∧ wx.cell? ⟨w.heap.size, 3, none⟩ = some (.int .i64 a) ∧ wx.cell? ⟨w.heap.size, 4, none⟩ = some (.int .i64 l) ∧ wx.cell? ⟨w.heap.size, 5, none⟩ = some (.string s) ∧ wx.cell? ⟨w.heap.size + 1, 0, none⟩ = some (.int .i64 k') ∧ wx.cell? ⟨w.heap.size + 1, 1, none⟩ = some (.bool x') ∧ wx.cell? ⟨w.heap.size + 1, 2, none⟩ = some (.int .i64 n') ∧ wx.cell? ⟨w.heap.size + 1, 3, none⟩ = some (.int .i64 a') ∧ wx.cell? ⟨w.heap.size + 1, 4, none⟩ = some (.int .i64 l') ∧ wx.cell? ⟨w.heap.size + 1, 5, none⟩ = some (.string s') ∧ wx.cell? ⟨wc.heap.size, 0, none⟩ = some (.int .i64 k) ∧ wx.cell? ⟨wc.heap.size, 1, none⟩ = some (.bool y) ∧ wx.cell? ⟨wc.heap.size, 2, none⟩ = some (.int .i64 n) ∧ wx.cell? ⟨wc.heap.size, 3, none⟩ = some (.int .i64 a) ∧ wx.cell? ⟨wc.heap.size, 4, none⟩ = some (.int .i64 l) ∧ wx.cell? ⟨wc.heap.size, 5, none⟩ = some (.string s) ∧ wx.cell? ⟨wc.heap.size + 1, 0, none⟩ = some (.int .i64 k') ∧ wx.cell? ⟨wc.heap.size + 1, 1, none⟩ = some (.bool y') ∧ wx.cell? ⟨wc.heap.size + 1, 2, none⟩ = some (.int .i64 n') ∧ wx.cell? ⟨wc.heap.size + 1, 3, none⟩ = some (.int .i64 a') ∧ wx.cell? ⟨wc.heap.size + 1, 4, none⟩ = some (.int .i64 l') ∧ wx.cell? ⟨wc.heap.size + 1, 5, none⟩ = some (.string s'))
      (first | exact go4.out.flat | go_keep)
      (first | (go_at_call 13; refine (h13.out _ _).mono ?_; rintro e wg ⟨rfl, kc⟩; replace gb := Lib.hid (below_and gb.out kc); replace go4 := Lib.hid (go4.out.later kc); clear kc) | (go_at_call 15; refine (h15.out _ _ _ _ _ _ _ _ _ _ _ _ _).mono ?_; rintro e wg ⟨rfl, kc⟩; replace gb := Lib.hid (below_and gb.out kc); replace go4 := Lib.hid (go4.out.later kc); clear kc) | (go_at_call 17; refine (h17.out _ _).mono ?_; rintro e wg ⟨rfl, kc⟩; replace gb := Lib.hid (below_and gb.out kc); replace go4 := Lib.hid (go4.out.later kc); clear kc))
    go_wp2
    go_ret
    exact ⟨ret_bool (by simp), gb.out⟩
  · go_upto_region 5 with fail
    obtain ⟨we, ee, ke, oe⟩ := two_box wc k' n' a' l' k n a l y' y s' s
    rw [ee]
    have go4 : Hid (Four we.drew w.heap.size (w.heap.size + 1) (wc.heap.size + 1) wc.heap.size k x y n a l s k' x' y' n' a' l' s') := Lib.hid ⟨(go.out.later ke).drew, Two.drew ⟨oe.2, oe.1⟩⟩
    replace gb := Lib.hid (below_and gb.out ke).drew
    clear ee ke oe go
    generalize we.drew = wf at *
    obtain ⟨a0, a1, a2, a3, a4, a5, b0, b1, b2, b3, b4, b5, c0, c1, c2, c3, c4, c5, d0, d1, d2, d3, d4, d5⟩ := go4.out.flat
    go_wp2_with fail
    refine (h9.out _ _ _).mono ?_
    rintro e wg ⟨rfl, kd⟩
    replace gb := Lib.hid (below_and gb.out kd)
    replace go4 := Lib.hid (go4.out.later kd)
    clear kd a0 a1 a2 a3 a4 a5 b0 b1 b2 b3 b4 b5 c0 c1 c2 c3 c4 c5 d0 d1 d2 d3 d4 d5
    obtain ⟨a0, a1, a2, a3, a4, a5, b0, b1, b2, b3, b4, b5, c0, c1, c2, c3, c4, c5, d0, d1, d2, d3, d4, d5⟩ := go4.out.flat
    go_wp2_with fail
    refine (h9.out _ _ _).mono ?_
    rintro e wg ⟨rfl, kd⟩
    replace gb := Lib.hid (below_and gb.out kd)
    replace go4 := Lib.hid (go4.out.later kd)
    clear kd a0 a1 a2 a3 a4 a5 b0 b1 b2 b3 b4 b5 c0 c1 c2 c3 c4 c5 d0 d1 d2 d3 d4 d5
    obtain ⟨a0, a1, a2, a3, a4, a5, b0, b1, b2, b3, b4, b5, c0, c1, c2, c3, c4, c5, d0, d1, d2, d3, d4, d5⟩ := go4.out.flat
    go_wp2_with fail
    refine (h11.out _ _).mono ?_
    rintro e wg ⟨rfl, kd⟩
    replace gb := Lib.hid (below_and gb.out kd)
    replace go4 := Lib.hid (go4.out.later kd)
    clear kd a0 a1 a2 a3 a4 a5 b0 b1 b2 b3 b4 b5 c0 c1 c2 c3 c4 c5 d0 d1 d2 d3 d4 d5
    obtain ⟨a0, a1, a2, a3, a4, a5, b0, b1, b2, b3, b4, b5, c0, c1, c2, c3, c4, c5, d0, d1, d2, d3, d4, d5⟩ := go4.out.flat
    go_wp2_with fail
    refine (h11.out _ _).mono ?_
    rintro e wg ⟨rfl, kd⟩
    replace gb := Lib.hid (below_and gb.out kd).drew
    replace go4 := Lib.hid (go4.out.later kd).drew
    clear kd a0 a1 a2 a3 a4 a5 b0 b1 b2 b3 b4 b5 c0 c1 c2 c3 c4 c5 d0 d1 d2 d3 d4 d5
    go_wp2_with fail
    go_region_held3 (fun wx => wx.cell? ⟨w.heap.size, 0, none⟩ = some (.int .i64 k) ∧ wx.cell? ⟨w.heap.size, 1, none⟩ = some (.bool x) ∧ wx.cell? ⟨w.heap.size, 2, none⟩ = some (.int .i64 n) ∧ wx.cell? ⟨w.heap.size, 3, none⟩ = some (.int .i64 a) ∧ wx.cell? ⟨w.heap.size, 4, none⟩ = some (.int .i64 l) ∧ wx.cell? ⟨w.heap.size, 5, none⟩ = some (.string s) ∧ wx.cell? ⟨w.heap.size + 1, 0, none⟩ = some (.int .i64 k') ∧ wx.cell? ⟨w.heap.size + 1, 1, none⟩ = some (.bool x') ∧ wx.cell? ⟨w.heap.size + 1, 2, none⟩ = some (.int .i64 n') ∧ wx.cell? ⟨w.heap.size + 1, 3, none⟩ = some (.int .i64 a') ∧ wx.cell? ⟨w.heap.size + 1, 4, none⟩ = some (.int .i64 l') ∧ wx.cell? ⟨w.heap.size + 1, 5, none⟩ = some (.string s') ∧ wx.cell? ⟨wc.heap.size + 1, 0, none⟩ = some (.int .i64 k) ∧ wx.cell? ⟨wc.heap.size + 1, 1, none⟩ = some (.bool y) ∧ wx.cell? ⟨wc.heap.size + 1, 2, none⟩ = some (.int .i64 n) ∧ wx.cell? ⟨wc.heap.size + 1, 3, none⟩ = some (.int .i64 a) ∧ wx.cell? ⟨wc.heap.size + 1, 4, none⟩ = some (.int .i64 l) ∧ wx.cell? ⟨wc.heap.size + 1, 5, none⟩ = some (.string s) ∧ wx.cell? ⟨wc.heap.size, 0, none⟩ = some (.int .i64 k') ∧ wx.cell? ⟨wc.heap.size, 1, none⟩ = some (.bool y') ∧ wx.cell? ⟨wc.heap.size, 2, none⟩ = some (.int .i64 n') ∧ wx.cell? ⟨wc.heap.size, 3, none⟩ = some (.int .i64 a') ∧ wx.cell? ⟨wc.heap.size, 4, none⟩ = some (.int .i64 l') ∧ wx.cell? ⟨wc.heap.size, 5, none⟩ = some (.string s'))
      (first | exact go4.out.flat | go_keep)
      (first | (go_at_call 13; refine (h13.out _ _).mono ?_; rintro e wg ⟨rfl, kc⟩; replace gb := Lib.hid (below_and gb.out kc); replace go4 := Lib.hid (go4.out.later kc); clear kc) | (go_at_call 15; refine (h15.out _ _ _ _ _ _ _ _ _ _ _ _ _).mono ?_; rintro e wg ⟨rfl, kc⟩; replace gb := Lib.hid (below_and gb.out kc); replace go4 := Lib.hid (go4.out.later kc); clear kc) | (go_at_call 17; refine (h17.out _ _).mono ?_; rintro e wg ⟨rfl, kc⟩; replace gb := Lib.hid (below_and gb.out kc); replace go4 := Lib.hid (go4.out.later kc); clear kc))
    go_wp2
    go_ret
    exact ⟨ret_bool (by simp), gb.out⟩

theorem exec_walk (k n a l k' n' a' l' : Int) (x x' y y' : Bool) (s s' : ByteArray) (w : World) :
    Calls Try.prog 6 #[.agg #[.int .i64 k, .bool x, .int .i64 n, .int .i64 a, .int .i64 l, .string s], .agg #[.int .i64 k', .bool x', .int .i64 n', .int .i64 a', .int .i64 l', .string s'], .bool y, .bool y'] w fun e w' => e = .returned (.bool true) ∧ Below w.heap.size w w' :=
  exec_core k n a l k' n' a' l' _ x x' y y' _ _ _ _ _ s s' _ w (Lib.hid fun w => known10_any w) (Lib.hid fun x x' w => less_any k n a l k' n' a' l' x x' s s' w) (Lib.hid fun x w => numO_any k n a l x s w)
    (Lib.hid fun x w => may_any k n a l x s w) (Lib.hid fun k n a l k' n' a' l' x x' s s' w => same_any k n a l k' n' a' l' x x' s s' w) (Lib.hid fun x w => type_any k n a l x s w)
    rfl (same_symm k n a l s k' n' a' l' s') (same_self k n a l s)
end Go.Proofs.Ytelihdgpappklaa
