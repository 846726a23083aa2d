/- Walks of obj: Same, Less. -/
import Derived.Test.YtmlkmgeddkpgiaaO2
namespace Go.Proofs.Ytmlkmgeddkpgiaa
open Go.RowKit
set_option linter.unusedVariables false

/-- Two objects, boxed one behind the other. -/
def Two (w : World) (b c : Nat) (k : Int) (x : Bool) (n a l : Int) (s : ByteArray) (k' : Int) (x' : Bool) (n' a' l' : Int) (s' : ByteArray) : Prop := ObAt w b k x n a l s ∧ ObAt w c k' x' n' a' l' s'
theorem Two.later {w wx : World} {b c : Nat} {k n a l k' n' a' l' : Int} {x x' : Bool} {s s' : ByteArray} (h : Two w b c k x n a l s k' x' n' a' l' s') (kc : Below w.heap.size w wx) : Two wx b c k x n a l s k' x' n' a' l' s' := ⟨h.1.later kc, h.2.later kc⟩
theorem Two.drew {w : World} {b c : Nat} {k n a l k' n' a' l' : Int} {x x' : Bool} {s s' : ByteArray} (h : Two w b c k x n a l s k' x' n' a' l' s') : Two w.drew b c k x n a l s k' x' n' a' l' s' := h
theorem Two.flat {w : World} {b c : Nat} {k n a l k' n' a' l' : Int} {x x' : Bool} {s s' : ByteArray} (h : Two w b c k x n a l s k' x' n' a' l' s') : w.cell? ⟨b, 0, none⟩ = some (.int .i64 k) ∧ w.cell? ⟨b, 1, none⟩ = some (.bool x) ∧ w.cell? ⟨b, 2, none⟩ = some (.int .i64 n) ∧ w.cell? ⟨b, 3, none⟩ = some (.int .i64 a) ∧ w.cell? ⟨b, 4, none⟩ = some (.int .i64 l) ∧ w.cell? ⟨b, 5, none⟩ = some (.string s) ∧ w.cell? ⟨c, 0, none⟩ = some (.int .i64 k') ∧ w.cell? ⟨c, 1, none⟩ = some (.bool x') ∧ w.cell? ⟨c, 2, none⟩ = some (.int .i64 n') ∧ w.cell? ⟨c, 3, none⟩ = some (.int .i64 a') ∧ w.cell? ⟨c, 4, none⟩ = some (.int .i64 l') ∧ w.cell? ⟨c, 5, none⟩ = some (.string s') := by
  obtain ⟨⟨c0, c1, c2, c3, c4, c5⟩, h2⟩ := h
  exact ⟨c0, c1, c2, c3, c4, c5, h2⟩
theorem two_box (w : World) (k n a l k' n' a' l' : Int) (x x' : Bool) (s s' : ByteArray) :
    ∃ wb, (w.alloc (.cells #[.int .i64 k, .bool x, .int .i64 n, .int .i64 a, .int .i64 l, .string s] 24)).alloc (.cells #[.int .i64 k', .bool x', .int .i64 n', .int .i64 a', .int .i64 l', .string s'] 24) = wb ∧ Below w.heap.size w wb ∧ Two wb w.heap.size (w.heap.size + 1) k x n a l s k' x' n' a' l' s' := by
  obtain ⟨wa, ea, ka, za, oa⟩ := ob_box w k n a l x s
  obtain ⟨wb, eb, kb, zb, ob⟩ := ob_box wa k' n' a' l' x' s'
  refine ⟨wb, by rw [ea, eb], below_and ka kb, oa.later kb, ?_⟩
  rw [← za]
  exact ob

theorem same_part (k n a l k' n' a' l' u v : Int) (x x' p q z r : Bool) (s s' : ByteArray) (w : World) (hz : Hid (decide (k = k' ∧ n = n' ∧ a = a' ∧ l = l' ∧ s = s') = z)) (hr : Hid (r = if p = true ∧ q = true then decide (u = v) else z))
    (h1 : Hid (∀ w, Calls Try.prog 127 #[.agg #[.int .i64 k, .bool x, .int .i64 n, .int .i64 a, .int .i64 l, .string s]] w fun e w' => e = .returned (.bool p) ∧ Below w.heap.size w w'))
    (h2 : Hid (∀ w, Calls Try.prog 127 #[.agg #[.int .i64 k', .bool x', .int .i64 n', .int .i64 a', .int .i64 l', .string s']] w fun e w' => e = .returned (.bool q) ∧ Below w.heap.size w w'))
    (hu : Hid (sizeW k n = u)) (hv : Hid (sizeW k' n' = v)) :
    Calls Try.prog 118 #[.agg #[.int .i64 k, .bool x, .int .i64 n, .int .i64 a, .int .i64 l, .string s], .agg #[.int .i64 k', .bool x', .int .i64 n', .int .i64 a', .int .i64 l', .string s']] w fun e w' => e = .returned (.bool r) ∧ Below w.heap.size w w' := by
  have h3 := Lib.hid (fun k n a l x s w => scaled_any k n a l x s w)
  have h4 := Lib.hid (fun k n a l x s w => passive_any k n a l x s w)
  have qq : ∀ w, (binOp .eql 24 (.agg #[.int .i64 k, .bool false, .int .i64 n, .int .i64 a, .int .i64 l, .string s]) (.agg #[.int .i64 k', .bool false, .int .i64 n', .int .i64 a', .int .i64 l', .string s'])).run Try.prog w = .ok (.bool z) w := fun w => by
    rw [eqO, ← hz.out]
    simp
  cases p
  · go_enter Try.func118, Try.ntmps118
    go_wp2_with fail
    obtain ⟨wb, eb, kb, ob⟩ := two_box w k n a l k' n' a' l' x x' s s'
    rw [eb]
    clear eb
    refine (h1.out _).mono ?_
    rintro e wc ⟨rfl, kc⟩
    have gb := Lib.hid (below_and kb kc).drew
    have go := Lib.hid (ob.later kc).drew
    clear kc kb ob
    go_wp2_with fail
    go_region_held3 (fun wx => wx.cell? ⟨w.heap.size, 0, none⟩ = some (.int .i64 k) ∧ wx.cell? ⟨w.heap.size, 1, none⟩ = some (.bool x) ∧ wx.cell? ⟨w.heap.size, 2, none⟩ = some (.int .i64 n) ∧ wx.cell? ⟨w.heap.size, 3, none⟩ = some (.int .i64 a) ∧ wx.cell? ⟨w.heap.size, 4, none⟩ = some (.int .i64 l) ∧ wx.cell? ⟨w.heap.size, 5, none⟩ = some (.string s) ∧ wx.cell? ⟨w.heap.size + 1, 0, none⟩ = some (.int .i64 k') ∧ wx.cell? ⟨w.heap.size + 1, 1, none⟩ = some (.bool x') ∧ wx.cell? ⟨w.heap.size + 1, 2, none⟩ = some (.int .i64 n') ∧ wx.cell? ⟨w.heap.size + 1, 3, none⟩ = some (.int .i64 a') ∧ wx.cell? ⟨w.heap.size + 1, 4, none⟩ = some (.int .i64 l') ∧ wx.cell? ⟨w.heap.size + 1, 5, none⟩ = some (.string s'))
      (first | exact go.out.flat | go_keep)
      (first | (go_at_call 121; refine (h4.out _ _ _ _ _ _ _).mono ?_; rintro e wc ⟨rfl, kc⟩; replace gb := Lib.hid (below_and gb.out kc); replace go := Lib.hid (go.out.later kc)))
    go_wp2
    go_ret
    exact ⟨ret_bool (by rw [hr.out]; simp), gb.out⟩
  · cases q
    · go_enter Try.func118, Try.ntmps118
      go_wp2_with fail
      obtain ⟨wb, eb, kb, ob⟩ := two_box w k n a l k' n' a' l' x x' s s'
      rw [eb]
      clear eb
      refine (h1.out _).mono ?_
      rintro e wc ⟨rfl, kc⟩
      have gb := Lib.hid (below_and kb kc)
      have go := Lib.hid (ob.later kc)
      obtain ⟨c0, c1, c2, c3, c4, c5, d0, d1, d2, d3, d4, d5⟩ := go.out.flat
      clear kc kb ob
      go_wp2_with fail
      refine (h2.out _).mono ?_
      rintro e wd ⟨rfl, kd⟩
      replace gb := Lib.hid (below_and gb.out kd).drew
      replace go := Lib.hid (go.out.later kd).drew
      clear kd c0 c1 c2 c3 c4 c5 d0 d1 d2 d3 d4 d5
      go_wp2_with fail
      go_region_held3 (fun wx => wx.cell? ⟨w.heap.size, 0, none⟩ = some (.int .i64 k) ∧ wx.cell? ⟨w.heap.size, 1, none⟩ = some (.bool x) ∧ wx.cell? ⟨w.heap.size, 2, none⟩ = some (.int .i64 n) ∧ wx.cell? ⟨w.heap.size, 3, none⟩ = some (.int .i64 a) ∧ wx.cell? ⟨w.heap.size, 4, none⟩ = some (.int .i64 l) ∧ wx.cell? ⟨w.heap.size, 5, none⟩ = some (.string s) ∧ wx.cell? ⟨w.heap.size + 1, 0, none⟩ = some (.int .i64 k') ∧ wx.cell? ⟨w.heap.size + 1, 1, none⟩ = some (.bool x') ∧ wx.cell? ⟨w.heap.size + 1, 2, none⟩ = some (.int .i64 n') ∧ wx.cell? ⟨w.heap.size + 1, 3, none⟩ = some (.int .i64 a') ∧ wx.cell? ⟨w.heap.size + 1, 4, none⟩ = some (.int .i64 l') ∧ wx.cell? ⟨w.heap.size + 1, 5, none⟩ = some (.string s'))
        (first | exact go.out.flat | go_keep)
        (first | (go_at_call 121; refine (h4.out _ _ _ _ _ _ _).mono ?_; rintro e wc ⟨rfl, kc⟩; replace gb := Lib.hid (below_and gb.out kc); replace go := Lib.hid (go.out.later kc)))
      go_wp2
      go_ret
      exact ⟨ret_bool (by rw [hr.out]; simp), gb.out⟩
    · go_enter Try.func118, Try.ntmps118
      go_wp2_with fail
      obtain ⟨wb, eb, kb, ob⟩ := two_box w k n a l k' n' a' l' x x' s s'
      rw [eb]
      clear eb
      refine (h1.out _).mono ?_
      rintro e wc ⟨rfl, kc⟩
      have gb := Lib.hid (below_and kb kc)
      have go := Lib.hid (ob.later kc)
      obtain ⟨c0, c1, c2, c3, c4, c5, d0, d1, d2, d3, d4, d5⟩ := go.out.flat
      clear kc kb ob
      go_wp2_with fail
      refine (h2.out _).mono ?_
      rintro e wd ⟨rfl, kd⟩
      replace gb := Lib.hid (below_and gb.out kd).drew
      replace go := Lib.hid (go.out.later kd).drew
      clear kd c0 c1 c2 c3 c4 c5 d0 d1 d2 d3 d4 d5
      go_wp2_with fail
      go_region_held3 (fun wx => wx.cell? ⟨w.heap.size, 0, none⟩ = some (.int .i64 k) ∧ wx.cell? ⟨w.heap.size, 1, none⟩ = some (.bool x) ∧ wx.cell? ⟨w.heap.size, 2, none⟩ = some (.int .i64 n) ∧ wx.cell? ⟨w.heap.size, 3, none⟩ = some (.int .i64 a) ∧ wx.cell? ⟨w.heap.size, 4, none⟩ = some (.int .i64 l) ∧ wx.cell? ⟨w.heap.size, 5, none⟩ = some (.string s) ∧ wx.cell? ⟨w.heap.size + 1, 0, none⟩ = some (.int .i64 k') ∧ wx.cell? ⟨w.heap.size + 1, 1, none⟩ = some (.bool x') ∧ wx.cell? ⟨w.heap.size + 1, 2, none⟩ = some (.int .i64 n') ∧ wx.cell? ⟨w.heap.size + 1, 3, none⟩ = some (.int .i64 a') ∧ wx.cell? ⟨w.heap.size + 1, 4, none⟩ = some (.int .i64 l') ∧ wx.cell? ⟨w.heap.size + 1, 5, none⟩ = some (.string s'))
        (first | exact go.out.flat | go_keep)
        (first | (go_at_call 128; refine (h3.out _ _ _ _ _ _ _).mono ?_; rintro e wc ⟨rfl, kc⟩; replace gb := Lib.hid (below_and gb.out kc); replace go := Lib.hid (go.out.later kc)))
      go_wp2
      go_ret
      exact ⟨ret_bool (by rw [hr.out, hu.out, hv.out]; simp; exact Bool.beq_eq_decide_eq _ _), gb.out⟩

theorem same_any (k n a l k' n' a' l' : Int) (x x' : Bool) (s s' : ByteArray) (w : World) :
    Calls Try.prog 118 #[.agg #[.int .i64 k, .bool x, .int .i64 n, .int .i64 a, .int .i64 l, .string s], .agg #[.int .i64 k', .bool x', .int .i64 n', .int .i64 a', .int .i64 l', .string s']] w fun e w' => e = .returned (.bool (sameO k n a l s k' n' a' l' s')) ∧ Below w.heap.size w w' := by
  refine (same_part k n a l k' n' a' l' _ _ x x' _ _ _ _ s s' w (Lib.hid rfl) (Lib.hid rfl) (Lib.hid (fun w => isnum_any k n a l x s w)) (Lib.hid (fun w => isnum_any k' n' a' l' x' s' w)) (Lib.hid rfl) (Lib.hid rfl)).mono ?_
  rintro e w' ⟨rfl, h⟩
  refine ⟨ret_bool ?_, h⟩
  unfold sameO
  by_cases h1 : numO k n a l s = true ∧ numO k' n' a' l' s' = true
  · rw [if_pos h1, if_pos h1, sizeW_in h1.1, sizeW_in h1.2]
  · rw [if_neg h1, if_neg h1]
end Go.Proofs.Ytmlkmgeddkpgiaa
