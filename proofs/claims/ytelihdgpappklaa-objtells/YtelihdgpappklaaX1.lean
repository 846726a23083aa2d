/- The walk of ObjTells. -/
import Derived.Test.YtelihdgpappklaaO8
namespace Go.Proofs.Ytelihdgpappklaa
open Go.RowKit
set_option linter.unusedVariables false

set_option maxHeartbeats 1600000 in
theorem tells_core (k n a l k' n' a' l' v : Int) (x x' ls lk vk m sm : Bool) (s s' t : ByteArray) (w : World) (hs : (s.size : Int) ≤ 300) (hs' : (s'.size : Int) ≤ 300)
    (h8 : Hid (∀ w, Calls Try.prog 8 #[] w fun e w' => e = .returned (.bool true) ∧ Below w.heap.size w w'))
    (h9 : Hid (∀ w, Calls Try.prog 9 #[.agg #[.int .i64 k, .bool x, .int .i64 n, .int .i64 a, .int .i64 l, .string s], .agg #[.int .i64 k', .bool x', .int .i64 n', .int .i64 a', .int .i64 l', .string s']] w fun e w' => e = .returned (.tuple #[.bool ls, .bool lk]) ∧ Below w.heap.size w w'))
    (h10 : Hid (∀ w, Calls Try.prog 10 #[.agg #[.int .i64 k, .bool x, .int .i64 n, .int .i64 a, .int .i64 l, .string s], .agg #[.int .i64 k', .bool x', .int .i64 n', .int .i64 a', .int .i64 l', .string s']] w fun e w' => e = .returned (.tuple #[.bool ls, .bool lk]) ∧ Below w.heap.size w w'))
    (h11 : Hid (∀ w, Calls Try.prog 11 #[.agg #[.int .i64 k, .bool x, .int .i64 n, .int .i64 a, .int .i64 l, .string s]] w fun e w' => e = .returned (.tuple #[.int .i64 v, .bool vk]) ∧ Below w.heap.size w w'))
    (h12 : Hid (∀ w, Calls Try.prog 12 #[.agg #[.int .i64 k, .bool x, .int .i64 n, .int .i64 a, .int .i64 l, .string s]] w fun e w' => e = .returned (.tuple #[.int .i64 v, .bool vk]) ∧ Below w.heap.size w w'))
    (h13 : Hid (∀ w, Calls Try.prog 13 #[.agg #[.int .i64 k, .bool x, .int .i64 n, .int .i64 a, .int .i64 l, .string s]] w fun e w' => e = .returned (.bool m) ∧ Below w.heap.size w w'))
    (h14 : Hid (∀ w, Calls Try.prog 14 #[.agg #[.int .i64 k, .bool x, .int .i64 n, .int .i64 a, .int .i64 l, .string s]] w fun e w' => e = .returned (.bool m) ∧ Below w.heap.size w w'))
    (h15 : Hid (∀ w, Calls Try.prog 15 #[.agg #[.int .i64 k, .bool x, .int .i64 n, .int .i64 a, .int .i64 l, .string s], .agg #[.int .i64 k', .bool x', .int .i64 n', .int .i64 a', .int .i64 l', .string s']] w fun e w' => e = .returned (.bool sm) ∧ Below w.heap.size w w'))
    (h16 : Hid (∀ w, Calls Try.prog 16 #[.agg #[.int .i64 k, .bool x, .int .i64 n, .int .i64 a, .int .i64 l, .string s], .agg #[.int .i64 k', .bool x', .int .i64 n', .int .i64 a', .int .i64 l', .string s']] w fun e w' => e = .returned (.bool sm) ∧ Below w.heap.size w w'))
    (h17 : Hid (∀ w, Calls Try.prog 17 #[.agg #[.int .i64 k, .bool x, .int .i64 n, .int .i64 a, .int .i64 l, .string s]] w fun e w' => e = .returned (.string t) ∧ Below w.heap.size w w'))
    (h18 : Hid (∀ w, Calls Try.prog 18 #[.agg #[.int .i64 k, .bool x, .int .i64 n, .int .i64 a, .int .i64 l, .string s]] w fun e w' => e = .returned (.string t) ∧ Below w.heap.size w w')) :
    Calls Try.prog 3 #[.agg #[.int .i64 k, .bool x, .int .i64 n, .int .i64 a, .int .i64 l, .string s], .agg #[.int .i64 k', .bool x', .int .i64 n', .int .i64 a', .int .i64 l', .string s']] w fun e w' => e = .returned (.bool true) ∧ Below w.heap.size w w' := by
  go_enter Try.func3, Try.ntmps3
  go_wp2_with fail
  obtain ⟨wb, eb, kb, ob⟩ := two_box w k n a l k' n' a' l' x x' s s'
  rw [eb]
  clear eb
  refine (h8.out _).mono ?_
  rintro e wc ⟨rfl, kd⟩
  have gb := Lib.hid (below_and kb kd)
  have go := Lib.hid (ob.later kd)
  clear kb ob kd
  obtain ⟨c0, c1, c2, c3, c4, c5, d0, d1, d2, d3, d4, d5⟩ := go.out.flat
  go_wp2_with fail
  refine (h9.out _).mono ?_
  rintro e wc ⟨rfl, kd⟩
  replace gb := Lib.hid (below_and gb.out kd)
  replace go := Lib.hid (go.out.later kd)
  clear kd c0 c1 c2 c3 c4 c5 d0 d1 d2 d3 d4 d5
  obtain ⟨c0, c1, c2, c3, c4, c5, d0, d1, d2, d3, d4, d5⟩ := go.out.flat
  go_wp2_with fail
  refine (h10.out _).mono ?_
  rintro e wc ⟨rfl, kd⟩
  replace gb := Lib.hid (below_and gb.out kd)
  replace go := Lib.hid (go.out.later kd)
  clear kd c0 c1 c2 c3 c4 c5 d0 d1 d2 d3 d4 d5
  obtain ⟨c0, c1, c2, c3, c4, c5, d0, d1, d2, d3, d4, d5⟩ := go.out.flat
  go_wp2_with fail
  refine (h11.out _).mono ?_
  rintro e wc ⟨rfl, kd⟩
  replace gb := Lib.hid (below_and gb.out kd)
  replace go := Lib.hid (go.out.later kd)
  clear kd c0 c1 c2 c3 c4 c5 d0 d1 d2 d3 d4 d5
  obtain ⟨c0, c1, c2, c3, c4, c5, d0, d1, d2, d3, d4, d5⟩ := go.out.flat
  go_wp2_with fail
  refine (h12.out _).mono ?_
  rintro e wc ⟨rfl, kd⟩
  replace gb := Lib.hid (below_and gb.out kd).drew
  replace go := Lib.hid (go.out.later kd).drew
  clear kd c0 c1 c2 c3 c4 c5 d0 d1 d2 d3 d4 d5
  go_wp2_with fail
  go_region_held3 (fun wx => wx.cell? ⟨w.heap.size, 0, none⟩ = some (.int .i64 k) ∧ wx.cell? ⟨w.heap.size, 1, none⟩ = some (.bool x) ∧ wx.cell? ⟨w.heap.size, 2, none⟩ = some (.int .i64 n) ∧ wx.cell? ⟨w.heap.size, 3, none⟩ = some (.int .i64 a) ∧ wx.cell? ⟨w.heap.size, 4, none⟩ = some (.int .i64 l) ∧ wx.cell? ⟨w.heap.size, 5, none⟩ = some (.string s) ∧ wx.cell? ⟨w.heap.size + 1, 0, none⟩ = some (.int .i64 k') ∧ wx.cell? ⟨w.heap.size + 1, 1, none⟩ = some (.bool x') ∧ wx.cell? ⟨w.heap.size + 1, 2, none⟩ = some (.int .i64 n') ∧ wx.cell? ⟨w.heap.size + 1, 3, none⟩ = some (.int .i64 a') ∧ wx.cell? ⟨w.heap.size + 1, 4, none⟩ = some (.int .i64 l') ∧ wx.cell? ⟨w.heap.size + 1, 5, none⟩ = some (.string s'))
    (first | exact go.out.flat | go_keep)
    (first | (go_at_call 13; refine (h13.out _).mono ?_; rintro e wc ⟨rfl, kc⟩; replace gb := Lib.hid (below_and gb.out kc); replace go := Lib.hid (go.out.later kc); clear kc) | (go_at_call 14; refine (h14.out _).mono ?_; rintro e wc ⟨rfl, kc⟩; replace gb := Lib.hid (below_and gb.out kc); replace go := Lib.hid (go.out.later kc); clear kc) | (go_at_call 15; refine (h15.out _).mono ?_; rintro e wc ⟨rfl, kc⟩; replace gb := Lib.hid (below_and gb.out kc); replace go := Lib.hid (go.out.later kc); clear kc) | (go_at_call 16; refine (h16.out _).mono ?_; rintro e wc ⟨rfl, kc⟩; replace gb := Lib.hid (below_and gb.out kc); replace go := Lib.hid (go.out.later kc); clear kc) | (go_at_call 17; refine (h17.out _).mono ?_; rintro e wc ⟨rfl, kc⟩; replace gb := Lib.hid (below_and gb.out kc); replace go := Lib.hid (go.out.later kc); clear kc) | (go_at_call 18; refine (h18.out _).mono ?_; rintro e wc ⟨rfl, kc⟩; replace gb := Lib.hid (below_and gb.out kc); replace go := Lib.hid (go.out.later kc); clear kc))
  go_wp2
  go_ret
  exact ⟨ret_bool (by simp), gb.out⟩

theorem tells_long (k n a l k' n' a' l' : Int) (x x' : Bool) (s s' : ByteArray) (w : World) (hs : 300 < (s.size : Int) ∨ (s.size : Int) ≤ 300 ∧ 300 < (s'.size : Int)) :
    Calls Try.prog 3 #[.agg #[.int .i64 k, .bool x, .int .i64 n, .int .i64 a, .int .i64 l, .string s], .agg #[.int .i64 k', .bool x', .int .i64 n', .int .i64 a', .int .i64 l', .string s']] w fun e w' => e = .returned (.bool true) ∧ Below w.heap.size w w' := by
  have h8 := Lib.hid (fun w => known10_any w)
  rcases hs with hs | ⟨hs, hs'⟩
  all_goals
    go_enter Try.func3, Try.ntmps3
    go_wp2_with fail
    obtain ⟨wb, eb, kb, ob⟩ := two_box w k n a l k' n' a' l' x x' s s'
    rw [eb]
    clear eb
    refine (h8.out _).mono ?_
    rintro e wc ⟨rfl, kd⟩
    have gb := Lib.hid (below_and kb kd)
    have go := Lib.hid (ob.later kd)
    clear kb ob kd
    obtain ⟨c0, c1, c2, c3, c4, c5, d0, d1, d2, d3, d4, d5⟩ := go.out.flat
    go_wp2
    go_ret
    exact ⟨rfl, gb.out⟩

theorem tells_walk (k n a l k' n' a' l' : Int) (x x' : Bool) (s s' : ByteArray) (w : World) :
    Calls Try.prog 3 #[.agg #[.int .i64 k, .bool x, .int .i64 n, .int .i64 a, .int .i64 l, .string s], .agg #[.int .i64 k', .bool x', .int .i64 n', .int .i64 a', .int .i64 l', .string s']] w fun e w' => e = .returned (.bool true) ∧ Below w.heap.size w w' := by
  by_cases h : 300 < (s.size : Int)
  · exact tells_long k n a l k' n' a' l' x x' s s' w (.inl h)
  · by_cases h' : 300 < (s'.size : Int)
    · exact tells_long k n a l k' n' a' l' x x' s s' w (.inr ⟨by omega, h'⟩)
    · exact tells_core k n a l k' n' a' l' _ x x' _ _ _ _ _ s s' _ w (by omega) (by omega) (Lib.hid fun w => known10_any w)
        (Lib.hid fun w => less_any k n a l k' n' a' l' x x' s s' w) (Lib.hid fun w => rless_any k n a l k' n' a' l' x x' s s' w) (Lib.hid fun w => numO_any k n a l x s w) (Lib.hid fun w => rnumO_any k n a l x s w)
        (Lib.hid fun w => may_any k n a l x s w) (Lib.hid fun w => rmayO_any k n a l x s w) (Lib.hid fun w => same_any k n a l k' n' a' l' x x' s s' w) (Lib.hid fun w => rsame_any k n a l k' n' a' l' x x' s s' w)
        (Lib.hid fun w => type_any k n a l x s w) (Lib.hid fun w => rtype_any k n a l x s w)
end Go.Proofs.Ytelihdgpappklaa
