/- Walks of the document's own answer for layer 10 (tympanref10): Same. -/
import Derived.Test.YtmlkmgeddkpgiaaO6
namespace Go.Proofs.Ytmlkmgeddkpgiaa
open Go.RowKit
set_option linter.unusedVariables false

/-- The two boxes of one call may be written. -/
theorem two_free (w : World) (o o' : Obj) (ho : ∃ cs, o = .cells cs 24) (ho' : ∃ cs, o' = .cells cs 24) :
    ((w.alloc o).alloc o').frozen? ⟨w.heap.size, 1, none⟩ = false ∧ ((w.alloc o).alloc o').frozen? ⟨w.heap.size + 1, 1, none⟩ = false := by
  obtain ⟨cs, rfl⟩ := ho
  obtain ⟨cs', rfl⟩ := ho'
  constructor <;> simp
theorem free_later {w wx : World} {a : Addr} {v : Value} (hb : Below w.heap.size w wx) (h : w.cell? a = some v) (f : w.frozen? a = false) : wx.frozen? a = false := (hb.frozen (World.block_lt_of_cell? _ _ h)).trans f

theorem rsame_part (k n a l k' n' a' l' u v : Int) (x x' p q z r : Bool) (s s' : ByteArray) (w : World) (hz : Hid (decide (k = k' ∧ n = n' ∧ a = a' ∧ l = l' ∧ s = s') = z)) (hr : Hid (r = if p = true ∧ q = true then decide (u = v) else z))
    (h1 : Hid (∀ w, Calls Try.prog 125 #[.agg #[.int .i64 k, .bool x, .int .i64 n, .int .i64 a, .int .i64 l, .string s]] w fun e w' => e = .returned (.bool p) ∧ Below w.heap.size w w'))
    (h2 : Hid (∀ w, Calls Try.prog 125 #[.agg #[.int .i64 k', .bool x', .int .i64 n', .int .i64 a', .int .i64 l', .string s']] w fun e w' => e = .returned (.bool q) ∧ Below w.heap.size w w'))
    (hu : Hid (sizeW k n = u)) (hv : Hid (sizeW k' n' = v)) :
    Calls Try.prog 117 #[.agg #[.int .i64 k, .bool x, .int .i64 n, .int .i64 a, .int .i64 l, .string s], .agg #[.int .i64 k', .bool x', .int .i64 n', .int .i64 a', .int .i64 l', .string s']] w fun e w' => e = .returned (.bool r) ∧ Below w.heap.size w w' := by
  have h3 := Lib.hid (fun k n a l x s w => rsize_any k n a l x s w)
  have qq : ∀ w, (binOp .eql 24 (.agg #[.int .i64 k, .bool false, .int .i64 n, .int .i64 a, .int .i64 l, .string s]) (.agg #[.int .i64 k', .bool false, .int .i64 n', .int .i64 a', .int .i64 l', .string s'])).run Try.prog w = .ok (.bool z) w := fun w => by
    rw [eqO, ← hz.out]
    simp
  cases p
  · go_enter Try.func117, Try.ntmps117
    go_wp2_with fail
    obtain ⟨wb, eb, kb, ob⟩ := two_box w k n a l k' n' a' l' x x' s s'
    obtain ⟨f1, f2⟩ := two_free w (.cells #[.int .i64 k, .bool x, .int .i64 n, .int .i64 a, .int .i64 l, .string s] 24) (.cells #[.int .i64 k', .bool x', .int .i64 n', .int .i64 a', .int .i64 l', .string s'] 24) ⟨_, rfl⟩ ⟨_, rfl⟩
    rw [eb] at f1 f2
    rw [eb]
    clear eb
    refine (h1.out _).mono ?_
    rintro e wc ⟨rfl, kc⟩
    have gb := Lib.hid (below_and kb kc)
    have go := Lib.hid (ob.later kc)
    have g1 := free_later kc ob.1.2.1 f1
    have g2 := free_later kc ob.2.2.1 f2
    obtain ⟨c0, c1, c2, c3, c4, c5, d0, d1, d2, d3, d4, d5⟩ := go.out.flat
    clear kc kb ob f1 f2
    go_wp2
    go_ret
    exact ⟨ret_bool (by rw [hr.out]; simp), (gb.out.setCell (Nat.le_refl _) _).setCell (Nat.le_succ _) _⟩
  · cases q
    · go_enter Try.func117, Try.ntmps117
      go_wp2_with fail
      obtain ⟨wb, eb, kb, ob⟩ := two_box w k n a l k' n' a' l' x x' s s'
      obtain ⟨f1, f2⟩ := two_free w (.cells #[.int .i64 k, .bool x, .int .i64 n, .int .i64 a, .int .i64 l, .string s] 24) (.cells #[.int .i64 k', .bool x', .int .i64 n', .int .i64 a', .int .i64 l', .string s'] 24) ⟨_, rfl⟩ ⟨_, rfl⟩
      rw [eb] at f1 f2
      rw [eb]
      clear eb
      refine (h1.out _).mono ?_
      rintro e wc ⟨rfl, kc⟩
      have gb := Lib.hid (below_and kb kc)
      have go := Lib.hid (ob.later kc)
      have g1 := free_later kc ob.1.2.1 f1
      have g2 := free_later kc ob.2.2.1 f2
      obtain ⟨c0, c1, c2, c3, c4, c5, d0, d1, d2, d3, d4, d5⟩ := go.out.flat
      clear kc kb ob f1 f2
      go_wp2_with fail
      refine (h2.out _).mono ?_
      rintro e wd ⟨rfl, kd⟩
      have i1 := free_later kd c1 g1
      have i2 := free_later kd d1 g2
      clear c0 c1 c2 c3 c4 c5 d0 d1 d2 d3 d4 d5 g1 g2
      replace gb := Lib.hid (below_and gb.out kd)
      replace go := Lib.hid (go.out.later kd)
      obtain ⟨c0, c1, c2, c3, c4, c5, d0, d1, d2, d3, d4, d5⟩ := go.out.flat
      clear kd
      go_wp2
      go_ret
      exact ⟨ret_bool (by rw [hr.out]; simp), (gb.out.setCell (Nat.le_refl _) _).setCell (Nat.le_succ _) _⟩
    · go_enter Try.func117, Try.ntmps117
      go_wp2_with fail
      obtain ⟨wb, eb, kb, ob⟩ := two_box w k n a l k' n' a' l' x x' s s'
      obtain ⟨f1, f2⟩ := two_free w (.cells #[.int .i64 k, .bool x, .int .i64 n, .int .i64 a, .int .i64 l, .string s] 24) (.cells #[.int .i64 k', .bool x', .int .i64 n', .int .i64 a', .int .i64 l', .string s'] 24) ⟨_, rfl⟩ ⟨_, rfl⟩
      rw [eb] at f1 f2
      rw [eb]
      clear eb
      refine (h1.out _).mono ?_
      rintro e wc ⟨rfl, kc⟩
      have gb := Lib.hid (below_and kb kc)
      have go := Lib.hid (ob.later kc)
      have g1 := free_later kc ob.1.2.1 f1
      have g2 := free_later kc ob.2.2.1 f2
      obtain ⟨c0, c1, c2, c3, c4, c5, d0, d1, d2, d3, d4, d5⟩ := go.out.flat
      clear kc kb ob f1 f2
      go_wp2_with fail
      refine (h2.out _).mono ?_
      rintro e wd ⟨rfl, kd⟩
      have i1 := free_later kd c1 g1
      have i2 := free_later kd d1 g2
      clear c0 c1 c2 c3 c4 c5 d0 d1 d2 d3 d4 d5 g1 g2
      replace gb := Lib.hid (below_and gb.out kd).drew
      replace go := Lib.hid (go.out.later kd).drew
      clear kd i1 i2
      go_wp2_with fail
      go_region_held3 (fun wx => wx.cell? ⟨w.heap.size, 0, none⟩ = some (.int .i64 k) ∧ wx.cell? ⟨w.heap.size, 1, none⟩ = some (.bool x) ∧ wx.cell? ⟨w.heap.size, 2, none⟩ = some (.int .i64 n) ∧ wx.cell? ⟨w.heap.size, 3, none⟩ = some (.int .i64 a) ∧ wx.cell? ⟨w.heap.size, 4, none⟩ = some (.int .i64 l) ∧ wx.cell? ⟨w.heap.size, 5, none⟩ = some (.string s) ∧ wx.cell? ⟨w.heap.size + 1, 0, none⟩ = some (.int .i64 k') ∧ wx.cell? ⟨w.heap.size + 1, 1, none⟩ = some (.bool x') ∧ wx.cell? ⟨w.heap.size + 1, 2, none⟩ = some (.int .i64 n') ∧ wx.cell? ⟨w.heap.size + 1, 3, none⟩ = some (.int .i64 a') ∧ wx.cell? ⟨w.heap.size + 1, 4, none⟩ = some (.int .i64 l') ∧ wx.cell? ⟨w.heap.size + 1, 5, none⟩ = some (.string s'))
        (first | exact go.out.flat | go_keep)
        (first | (go_at_call 126; refine (h3.out _ _ _ _ _ _ _).mono ?_; rintro e wc ⟨rfl, kc⟩; replace gb := Lib.hid (below_and gb.out kc); replace go := Lib.hid (go.out.later kc)))
      go_wp2
      go_ret
      exact ⟨ret_bool (by rw [hr.out, hu.out, hv.out]; simp; exact Bool.beq_eq_decide_eq _ _), gb.out⟩

theorem rsame_any (k n a l k' n' a' l' : Int) (x x' : Bool) (s s' : ByteArray) (w : World) :
    Calls Try.prog 117 #[.agg #[.int .i64 k, .bool x, .int .i64 n, .int .i64 a, .int .i64 l, .string s], .agg #[.int .i64 k', .bool x', .int .i64 n', .int .i64 a', .int .i64 l', .string s']] w fun e w' => e = .returned (.bool (sameO k n a l s k' n' a' l' s')) ∧ Below w.heap.size w w' := by
  refine (rsame_part k n a l k' n' a' l' _ _ x x' _ _ _ _ s s' w (Lib.hid rfl) (Lib.hid rfl) (Lib.hid (fun w => rnumber_any k n a l x s w)) (Lib.hid (fun w => rnumber_any k' n' a' l' x' s' w)) (Lib.hid rfl) (Lib.hid rfl)).mono ?_
  rintro e w' ⟨rfl, h⟩
  refine ⟨ret_bool ?_, h⟩
  unfold sameO
  by_cases h1 : numO k n a l s = true ∧ numO k' n' a' l' s' = true
  · rw [if_pos h1, if_pos h1, sizeW_in h1.1, sizeW_in h1.2]
  · rw [if_neg h1, if_neg h1]
end Go.Proofs.Ytmlkmgeddkpgiaa
