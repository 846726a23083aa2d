/- Y04: O5, O6, O7, K1. -/
import Derived.Test.YtlkbnldpecolbaaY03
import Derived.Test.YtlkbnldpecolbaaY02
import Derived.Deep.AppendLies
/- Walks of the document's own answer for layer 10 (tympanref10): May at names and pieces, and whole. -/
namespace Go.Proofs.Ytlkbnldpecolbaa
open Go.RowKit
set_option linter.unusedVariables false

theorem rmay_5 (n a l : Int) (x : Bool) (s : ByteArray) (w : World) :
    Calls Try.prog 92 #[.agg #[.int .i64 5, .bool x, .int .i64 n, .int .i64 a, .int .i64 l, .string s]] w fun e w' => e = .returned (.bool (mayO 5 n a l s)) ∧ Below w.heap.size w w' := by
  obtain ⟨z, hz⟩ : ∃ z, mayO 5 n a l s = z := ⟨_, rfl⟩
  have M : mayO 5 n a l s = decide (s.size ≤ 100 ∧ n = 0 ∧ a = 0 ∧ l = 0) := rfl
  rw [hz] at M
  rw [hz]
  clear hz
  by_cases h : (s.size : Int) ≤ 100
  · have q : ∀ w, (binOp .eql 30 (.agg #[.int .i64 5, .bool x, .int .i64 n, .int .i64 a, .int .i64 l, .string s]) (.agg #[.int .i64 5, .bool x, .int .i64 0, .int .i64 0, .int .i64 0, .string s])).run Try.prog w = .ok (.bool z) w := fun w => by
      rw [eqO, M]
      have : s.size ≤ 100 := by omega
      simp [this]
    clear M
    go_enter Try.func92, Try.ntmps92
    go_wp2
    go_ret
    exact ⟨rfl, box2_below _ _ _⟩
  · have h' : 100 < (s.size : Int) := by omega
    have q : ∀ w, (binOp .eql 30 (.agg #[.int .i64 5, .bool x, .int .i64 n, .int .i64 a, .int .i64 l, .string s]) (.agg #[.int .i64 5, .bool x, .int .i64 0, .int .i64 0, .int .i64 0, .string (s.extract 0 100)])).run Try.prog w = .ok (.bool z) w := fun w => by
      rw [eqO, M]
      have e1 : ¬ s.size ≤ 100 := by omega
      have e2 : s ≠ s.extract 0 100 := fun e => by
        have := congrArg ByteArray.size e
        rw [ByteArray.size_extract] at this
        omega
      simp [e1, e2]
    clear M h
    go_enter Try.func92, Try.ntmps92
    go_wp2
    go_ret
    exact ⟨rfl, box2_below _ _ _⟩

set_option maxHeartbeats 400000 in
theorem rpiece_8 (n a l : Int) (x z p q r : Bool) (s : ByteArray) (w : World)
    (hz : ∀ w, (binOp .eql 30 (.agg #[.int .i64 8, .bool x, .int .i64 n, .int .i64 a, .int .i64 l, .string s]) (.agg #[.int .i64 8, .bool x, .int .i64 n, .int .i64 a, .int .i64 l, .string ⟨#[]⟩])).run Try.prog w = .ok (.bool z) w)
    (h1 : Hid (∀ w, Calls Try.prog 101 #[.int .i64 n, .int .i64 0, .int .i64 40000] w fun e w' => e = .returned (.bool p) ∧ w = w'))
    (h2 : Hid (∀ w, Calls Try.prog 101 #[.int .i64 a, .int .i64 0, .int .i64 40000] w fun e w' => e = .returned (.bool q) ∧ w = w')) (h3 : Hid (∀ w, Calls Try.prog 101 #[.int .i64 l, .int .i64 0, .int .i64 40000] w fun e w' => e = .returned (.bool r) ∧ w = w')) :
    Calls Try.prog 92 #[.agg #[.int .i64 8, .bool x, .int .i64 n, .int .i64 a, .int .i64 l, .string s]] w fun e w' => e = .returned (.bool (z && (p && (q && r)))) ∧ Below w.heap.size w w' := by
  cases z
  · go_enter Try.func92, Try.ntmps92
    go_wp2_with fail
    go_region
    go_wp2_with fail
    go_ret
    exact ⟨rfl, by repeat' (first | exact Below.refl _ _ | refine Below.drew ?_ | refine Below.alloc ?_ (by simp <;> omega) _)⟩
  · cases p
    · go_enter Try.func92, Try.ntmps92
      go_wp2_with fail
      go_region
      go_wp2_with fail
      refine (h1.out _).mono ?_
      rintro e wc ⟨rfl, rfl⟩
      go_wp2_with fail
      go_ret
      exact ⟨rfl, by repeat' (first | exact Below.refl _ _ | refine Below.drew ?_ | refine Below.alloc ?_ (by simp <;> omega) _)⟩
    · cases q
      · go_enter Try.func92, Try.ntmps92
        go_wp2_with fail
        go_region
        go_wp2_with fail
        refine (h1.out _).mono ?_
        rintro e wc ⟨rfl, rfl⟩
        go_wp2_with fail
        refine (h2.out _).mono ?_
        rintro e wc ⟨rfl, rfl⟩
        go_wp2_with fail
        go_ret
        exact ⟨rfl, by repeat' (first | exact Below.refl _ _ | refine Below.drew ?_ | refine Below.alloc ?_ (by simp <;> omega) _)⟩
      · go_enter Try.func92, Try.ntmps92
        go_wp2_with fail
        go_region
        go_wp2_with fail
        refine (h1.out _).mono ?_
        rintro e wc ⟨rfl, rfl⟩
        go_wp2_with fail
        refine (h2.out _).mono ?_
        rintro e wc ⟨rfl, rfl⟩
        go_wp2_with fail
        refine (h3.out _).mono ?_
        rintro e wc ⟨rfl, rfl⟩
        go_wp2_with fail
        go_ret
        exact ⟨rfl, by repeat' (first | exact Below.refl _ _ | refine Below.drew ?_ | refine Below.alloc ?_ (by simp <;> omega) _)⟩

set_option maxHeartbeats 400000 in
theorem rpiece_9 (n a l : Int) (x z p q r : Bool) (s : ByteArray) (w : World)
    (hz : ∀ w, (binOp .eql 30 (.agg #[.int .i64 9, .bool x, .int .i64 n, .int .i64 a, .int .i64 l, .string s]) (.agg #[.int .i64 9, .bool x, .int .i64 n, .int .i64 a, .int .i64 l, .string ⟨#[]⟩])).run Try.prog w = .ok (.bool z) w)
    (h1 : Hid (∀ w, Calls Try.prog 101 #[.int .i64 n, .int .i64 0, .int .i64 40000] w fun e w' => e = .returned (.bool p) ∧ w = w'))
    (h2 : Hid (∀ w, Calls Try.prog 101 #[.int .i64 a, .int .i64 0, .int .i64 40000] w fun e w' => e = .returned (.bool q) ∧ w = w')) (h3 : Hid (∀ w, Calls Try.prog 101 #[.int .i64 l, .int .i64 0, .int .i64 40000] w fun e w' => e = .returned (.bool r) ∧ w = w')) :
    Calls Try.prog 92 #[.agg #[.int .i64 9, .bool x, .int .i64 n, .int .i64 a, .int .i64 l, .string s]] w fun e w' => e = .returned (.bool (z && (p && (q && r)))) ∧ Below w.heap.size w w' := by
  cases z
  · go_enter Try.func92, Try.ntmps92
    go_wp2_with fail
    go_region
    go_wp2_with fail
    go_ret
    exact ⟨rfl, by repeat' (first | exact Below.refl _ _ | refine Below.drew ?_ | refine Below.alloc ?_ (by simp <;> omega) _)⟩
  · cases p
    · go_enter Try.func92, Try.ntmps92
      go_wp2_with fail
      go_region
      go_wp2_with fail
      refine (h1.out _).mono ?_
      rintro e wc ⟨rfl, rfl⟩
      go_wp2_with fail
      go_ret
      exact ⟨rfl, by repeat' (first | exact Below.refl _ _ | refine Below.drew ?_ | refine Below.alloc ?_ (by simp <;> omega) _)⟩
    · cases q
      · go_enter Try.func92, Try.ntmps92
        go_wp2_with fail
        go_region
        go_wp2_with fail
        refine (h1.out _).mono ?_
        rintro e wc ⟨rfl, rfl⟩
        go_wp2_with fail
        refine (h2.out _).mono ?_
        rintro e wc ⟨rfl, rfl⟩
        go_wp2_with fail
        go_ret
        exact ⟨rfl, by repeat' (first | exact Below.refl _ _ | refine Below.drew ?_ | refine Below.alloc ?_ (by simp <;> omega) _)⟩
      · go_enter Try.func92, Try.ntmps92
        go_wp2_with fail
        go_region
        go_wp2_with fail
        refine (h1.out _).mono ?_
        rintro e wc ⟨rfl, rfl⟩
        go_wp2_with fail
        refine (h2.out _).mono ?_
        rintro e wc ⟨rfl, rfl⟩
        go_wp2_with fail
        refine (h3.out _).mono ?_
        rintro e wc ⟨rfl, rfl⟩
        go_wp2_with fail
        go_ret
        exact ⟨rfl, by repeat' (first | exact Below.refl _ _ | refine Below.drew ?_ | refine Below.alloc ?_ (by simp <;> omega) _)⟩

end Go.Proofs.Ytlkbnldpecolbaa

/- Walks of the document's own answer for layer 10 (tympanref10): May, Number, size, Num, Less, Same, Type. -/
namespace Go.Proofs.Ytlkbnldpecolbaa
open Go.RowKit
set_option linter.unusedVariables false

theorem rmay_8 (n a l : Int) (x : Bool) (s : ByteArray) (w : World) :
    Calls Try.prog 92 #[.agg #[.int .i64 8, .bool x, .int .i64 n, .int .i64 a, .int .i64 l, .string s]] w fun e w' => e = .returned (.bool (mayO 8 n a l s)) ∧ Below w.heap.size w w' := by
  refine (rpiece_8 n a l x _ _ _ _ s w (fun w => eqO 8 n a l 8 n a l x x s ⟨#[]⟩ w) (Lib.hid (fun w => rin_any n 0 40000 w)) (Lib.hid (fun w => rin_any a 0 40000 w)) (Lib.hid (fun w => rin_any l 0 40000 w))).mono ?_
  rintro e w' ⟨rfl, h⟩
  refine ⟨ret_bool ?_, h⟩
  simp only [← Bool.decide_and]
  refine Eq.trans ?_ (rfl : pieceP n a l s = mayO 8 n a l s)
  unfold pieceP
  apply decide_eq_decide.2
  constructor
  · rintro ⟨⟨_, _, _, _, _, h1⟩, ⟨h2, h3⟩, ⟨h4, h5⟩, h6, h7⟩
    exact ⟨h2, h3, h4, h5, h6, h7, h1⟩
  · rintro ⟨h2, h3, h4, h5, h6, h7, h1⟩
    exact ⟨⟨trivial, trivial, trivial, trivial, trivial, h1⟩, ⟨h2, h3⟩, ⟨h4, h5⟩, h6, h7⟩

theorem rmay_9 (n a l : Int) (x : Bool) (s : ByteArray) (w : World) :
    Calls Try.prog 92 #[.agg #[.int .i64 9, .bool x, .int .i64 n, .int .i64 a, .int .i64 l, .string s]] w fun e w' => e = .returned (.bool (mayO 9 n a l s)) ∧ Below w.heap.size w w' := by
  refine (rpiece_9 n a l x _ _ _ _ s w (fun w => eqO 9 n a l 9 n a l x x s ⟨#[]⟩ w) (Lib.hid (fun w => rin_any n 0 40000 w)) (Lib.hid (fun w => rin_any a 0 40000 w)) (Lib.hid (fun w => rin_any l 0 40000 w))).mono ?_
  rintro e w' ⟨rfl, h⟩
  refine ⟨ret_bool ?_, h⟩
  simp only [← Bool.decide_and]
  refine Eq.trans ?_ (rfl : pieceP n a l s = mayO 9 n a l s)
  unfold pieceP
  apply decide_eq_decide.2
  constructor
  · rintro ⟨⟨_, _, _, _, _, h1⟩, ⟨h2, h3⟩, ⟨h4, h5⟩, h6, h7⟩
    exact ⟨h2, h3, h4, h5, h6, h7, h1⟩
  · rintro ⟨h2, h3, h4, h5, h6, h7, h1⟩
    exact ⟨⟨trivial, trivial, trivial, trivial, trivial, h1⟩, ⟨h2, h3⟩, ⟨h4, h5⟩, h6, h7⟩

theorem rmay_no (k n a l : Int) (x : Bool) (s : ByteArray) (w : World) (h1 : k ≠ 1) (h2 : k ≠ 2) (h3 : k ≠ 3) (h4 : k ≠ 4) (h5 : k ≠ 5) (h6 : k ≠ 6) (h7 : k ≠ 7) (h8 : k ≠ 8) (h9 : k ≠ 9) (h10 : k ≠ 10) (h11 : k ≠ 11) :
    Calls Try.prog 92 #[.agg #[.int .i64 k, .bool x, .int .i64 n, .int .i64 a, .int .i64 l, .string s]] w fun e w' => e = .returned (.bool (mayO k n a l s)) ∧ Below w.heap.size w w' := by
  have M : Hid (mayO k n a l s = false) := Lib.hid (by simp [mayO, *])
  go_enter Try.func92, Try.ntmps92
  go_wp2
  go_ret
  exact ⟨ret_bool M.out.symm, box2_below _ _ _⟩

theorem rmayO_any (k n a l : Int) (x : Bool) (s : ByteArray) (w : World) :
    Calls Try.prog 92 #[.agg #[.int .i64 k, .bool x, .int .i64 n, .int .i64 a, .int .i64 l, .string s]] w fun e w' => e = .returned (.bool (mayO k n a l s)) ∧ Below w.heap.size w w' := by
  by_cases h1 : k = 1
  · subst h1; exact rmay_1 n a l x s w
  by_cases h2 : k = 2
  · subst h2; exact rmay_2 n a l x s w
  by_cases h3 : k = 3
  · subst h3; exact rmay_3 n a l x s w
  by_cases h4 : k = 4
  · subst h4; exact rmay_4 n a l x s w
  by_cases h5 : k = 5
  · subst h5; exact rmay_5 n a l x s w
  by_cases h6 : k = 6
  · subst h6; exact rmay_6 n a l x s w
  by_cases h7 : k = 7
  · subst h7; exact rmay_7 n a l x s w
  by_cases h8 : k = 8
  · subst h8; exact rmay_8 n a l x s w
  by_cases h9 : k = 9
  · subst h9; exact rmay_9 n a l x s w
  by_cases h10 : k = 10
  · subst h10; exact rmay_10 n a l x s w
  by_cases h11 : k = 11
  · subst h11; exact rmay_11 n a l x s w
  exact rmay_no k n a l x s w h1 h2 h3 h4 h5 h6 h7 h8 h9 h10 h11

theorem rnumber_any (k n a l : Int) (x : Bool) (s : ByteArray) (w : World) :
    Calls Try.prog 102 #[.agg #[.int .i64 k, .bool x, .int .i64 n, .int .i64 a, .int .i64 l, .string s]] w fun e w' => e = .returned (.bool (numO k n a l s)) ∧ Below w.heap.size w w' := by
  by_cases h3 : k = 3
  · subst h3
    have h := Lib.hid (fun w => rmayO_any 3 n a l x s w)
    go_enter Try.func102, Try.ntmps102
    go_wp2_with fail
    refine (h.out _).mono ?_
    rintro e wc ⟨rfl, kc⟩
    go_wp2
    go_ret
    exact ⟨ret_bool (by simp [numO]), below_and (box_below _ _) kc⟩
  · by_cases h4 : k = 4
    · subst h4
      have h := Lib.hid (fun w => rmayO_any 4 n a l x s w)
      go_enter Try.func102, Try.ntmps102
      go_wp2_with fail
      refine (h.out _).mono ?_
      rintro e wc ⟨rfl, kc⟩
      go_wp2
      go_ret
      exact ⟨ret_bool (by simp [numO]), below_and (box_below _ _) kc⟩
    · have M : Hid (numO k n a l s = false) := Lib.hid (by simp [numO, *])
      go_enter Try.func102, Try.ntmps102
      go_wp2
      go_ret
      exact ⟨ret_bool M.out.symm, box_below _ _⟩

theorem rsize_any (k n a l : Int) (x : Bool) (s : ByteArray) (w : World) :
    Calls Try.prog 103 #[.agg #[.int .i64 k, .bool x, .int .i64 n, .int .i64 a, .int .i64 l, .string s]] w fun e w' => e = .returned (.int .i64 (sizeW k n)) ∧ Below w.heap.size w w' := by
  by_cases h3 : k = 3
  · subst h3
    go_enter Try.func103, Try.ntmps103
    go_wp2
    go_ret
    exact ⟨ret_int (by simp [sizeW, IntWalk.i64_left]), box_below _ _⟩
  · have M : Hid (sizeW k n = n) := Lib.hid (by simp [sizeW, *])
    go_enter Try.func103, Try.ntmps103
    go_wp2
    go_ret
    exact ⟨ret_int M.out.symm, box_below _ _⟩

end Go.Proofs.Ytlkbnldpecolbaa

/- Walks of the document's own answer for layer 10 (tympanref10): Same. -/
namespace Go.Proofs.Ytlkbnldpecolbaa
open Go.RowKit
set_option linter.unusedVariables false

/-- The two boxes of one call may be written. -/
theorem two_free (w : World) (o o' : Obj) (ho : ∃ cs, o = .cells cs 30) (ho' : ∃ cs, o' = .cells cs 30) :
    ((w.alloc o).alloc o').frozen? ⟨w.heap.size, 1, none⟩ = false ∧ ((w.alloc o).alloc o').frozen? ⟨w.heap.size + 1, 1, none⟩ = false := by
  obtain ⟨cs, rfl⟩ := ho
  obtain ⟨cs', rfl⟩ := ho'
  constructor <;> simp
theorem free_later {w wx : World} {a : Addr} {v : Value} (hb : Below w.heap.size w wx) (h : w.cell? a = some v) (f : w.frozen? a = false) : wx.frozen? a = false := (hb.frozen (World.block_lt_of_cell? _ _ h)).trans f

theorem rsame_part (k n a l k' n' a' l' u v : Int) (x x' p q z r : Bool) (s s' : ByteArray) (w : World) (hz : Hid (decide (k = k' ∧ n = n' ∧ a = a' ∧ l = l' ∧ s = s') = z)) (hr : Hid (r = if p = true ∧ q = true then decide (u = v) else z))
    (h1 : Hid (∀ w, Calls Try.prog 102 #[.agg #[.int .i64 k, .bool x, .int .i64 n, .int .i64 a, .int .i64 l, .string s]] w fun e w' => e = .returned (.bool p) ∧ Below w.heap.size w w'))
    (h2 : Hid (∀ w, Calls Try.prog 102 #[.agg #[.int .i64 k', .bool x', .int .i64 n', .int .i64 a', .int .i64 l', .string s']] w fun e w' => e = .returned (.bool q) ∧ Below w.heap.size w w'))
    (hu : Hid (sizeW k n = u)) (hv : Hid (sizeW k' n' = v)) :
    Calls Try.prog 95 #[.agg #[.int .i64 k, .bool x, .int .i64 n, .int .i64 a, .int .i64 l, .string s], .agg #[.int .i64 k', .bool x', .int .i64 n', .int .i64 a', .int .i64 l', .string s']] w fun e w' => e = .returned (.bool r) ∧ Below w.heap.size w w' := by
  have h3 := Lib.hid (fun k n a l x s w => rsize_any k n a l x s w)
  have qq : ∀ w, (binOp .eql 30 (.agg #[.int .i64 k, .bool false, .int .i64 n, .int .i64 a, .int .i64 l, .string s]) (.agg #[.int .i64 k', .bool false, .int .i64 n', .int .i64 a', .int .i64 l', .string s'])).run Try.prog w = .ok (.bool z) w := fun w => by
    rw [eqO, ← hz.out]
    simp
  cases p
  · go_enter Try.func95, Try.ntmps95
    go_wp2_with fail
    obtain ⟨wb, eb, kb, ob⟩ := two_box w k n a l k' n' a' l' x x' s s'
    obtain ⟨f1, f2⟩ := two_free w (.cells #[.int .i64 k, .bool x, .int .i64 n, .int .i64 a, .int .i64 l, .string s] 30) (.cells #[.int .i64 k', .bool x', .int .i64 n', .int .i64 a', .int .i64 l', .string s'] 30) ⟨_, rfl⟩ ⟨_, rfl⟩
    rw [eb] at f1 f2
    rw [eb]
    clear eb
    refine (h1.out _).mono ?_
    rintro e wc ⟨rfl, kc⟩
    have gb := Lib.hid (below_and kb kc)
    have go := Lib.hid (ob.later kc)
    have g1 := free_later kc ob.1.2.1 f1
    have g2 := free_later kc ob.2.2.1 f2
    obtain ⟨c0, c1, c2, c3, c4, c5, d0, d1, d2, d3, d4, d5⟩ := go.out.flat
    clear kc kb ob f1 f2
    go_wp2
    go_ret
    exact ⟨ret_bool (by rw [hr.out]; simp), (gb.out.setCell (Nat.le_refl _) _).setCell (Nat.le_succ _) _⟩
  · cases q
    · go_enter Try.func95, Try.ntmps95
      go_wp2_with fail
      obtain ⟨wb, eb, kb, ob⟩ := two_box w k n a l k' n' a' l' x x' s s'
      obtain ⟨f1, f2⟩ := two_free w (.cells #[.int .i64 k, .bool x, .int .i64 n, .int .i64 a, .int .i64 l, .string s] 30) (.cells #[.int .i64 k', .bool x', .int .i64 n', .int .i64 a', .int .i64 l', .string s'] 30) ⟨_, rfl⟩ ⟨_, rfl⟩
      rw [eb] at f1 f2
      rw [eb]
      clear eb
      refine (h1.out _).mono ?_
      rintro e wc ⟨rfl, kc⟩
      have gb := Lib.hid (below_and kb kc)
      have go := Lib.hid (ob.later kc)
      have g1 := free_later kc ob.1.2.1 f1
      have g2 := free_later kc ob.2.2.1 f2
      obtain ⟨c0, c1, c2, c3, c4, c5, d0, d1, d2, d3, d4, d5⟩ := go.out.flat
      clear kc kb ob f1 f2
      go_wp2_with fail
      refine (h2.out _).mono ?_
      rintro e wd ⟨rfl, kd⟩
      have i1 := free_later kd c1 g1
      have i2 := free_later kd d1 g2
      clear c0 c1 c2 c3 c4 c5 d0 d1 d2 d3 d4 d5 g1 g2
      replace gb := Lib.hid (below_and gb.out kd)
      replace go := Lib.hid (go.out.later kd)
      obtain ⟨c0, c1, c2, c3, c4, c5, d0, d1, d2, d3, d4, d5⟩ := go.out.flat
      clear kd
      go_wp2
      go_ret
      exact ⟨ret_bool (by rw [hr.out]; simp), (gb.out.setCell (Nat.le_refl _) _).setCell (Nat.le_succ _) _⟩
    · go_enter Try.func95, Try.ntmps95
      go_wp2_with fail
      obtain ⟨wb, eb, kb, ob⟩ := two_box w k n a l k' n' a' l' x x' s s'
      obtain ⟨f1, f2⟩ := two_free w (.cells #[.int .i64 k, .bool x, .int .i64 n, .int .i64 a, .int .i64 l, .string s] 30) (.cells #[.int .i64 k', .bool x', .int .i64 n', .int .i64 a', .int .i64 l', .string s'] 30) ⟨_, rfl⟩ ⟨_, rfl⟩
      rw [eb] at f1 f2
      rw [eb]
      clear eb
      refine (h1.out _).mono ?_
      rintro e wc ⟨rfl, kc⟩
      have gb := Lib.hid (below_and kb kc)
      have go := Lib.hid (ob.later kc)
      have g1 := free_later kc ob.1.2.1 f1
      have g2 := free_later kc ob.2.2.1 f2
      obtain ⟨c0, c1, c2, c3, c4, c5, d0, d1, d2, d3, d4, d5⟩ := go.out.flat
      clear kc kb ob f1 f2
      go_wp2_with fail
      refine (h2.out _).mono ?_
      rintro e wd ⟨rfl, kd⟩
      have i1 := free_later kd c1 g1
      have i2 := free_later kd d1 g2
      clear c0 c1 c2 c3 c4 c5 d0 d1 d2 d3 d4 d5 g1 g2
      replace gb := Lib.hid (below_and gb.out kd).drew
      replace go := Lib.hid (go.out.later kd).drew
      clear kd i1 i2
      go_wp2_with fail
      go_region_held3 (fun wx => wx.cell? ⟨w.heap.size, 0, none⟩ = some (.int .i64 k) ∧ wx.cell? ⟨w.heap.size, 1, none⟩ = some (.bool x) ∧ wx.cell? ⟨w.heap.size, 2, none⟩ = some (.int .i64 n) ∧ wx.cell? ⟨w.heap.size, 3, none⟩ = some (.int .i64 a) ∧ wx.cell? ⟨w.heap.size, 4, none⟩ = some (.int .i64 l) ∧ wx.cell? ⟨w.heap.size, 5, none⟩ = some (.string s) ∧ wx.cell? ⟨w.heap.size + 1, 0, none⟩ = some (.int .i64 k') ∧ wx.cell? ⟨w.heap.size + 1, 1, none⟩ = some (.bool x') ∧ wx.cell? ⟨w.heap.size + 1, 2, none⟩ = some (.int .i64 n') ∧ wx.cell? ⟨w.heap.size + 1, 3, none⟩ = some (.int .i64 a') ∧ wx.cell? ⟨w.heap.size + 1, 4, none⟩ = some (.int .i64 l') ∧ wx.cell? ⟨w.heap.size + 1, 5, none⟩ = some (.string s'))
        (first | exact go.out.flat | go_keep)
        (first | (go_at_call 103; refine (h3.out _ _ _ _ _ _ _).mono ?_; rintro e wc ⟨rfl, kc⟩; replace gb := Lib.hid (below_and gb.out kc); replace go := Lib.hid (go.out.later kc)))
      go_wp2
      go_ret
      exact ⟨ret_bool (by rw [hr.out, hu.out, hv.out]; simp; exact Bool.beq_eq_decide_eq _ _), gb.out⟩

theorem rsame_any (k n a l k' n' a' l' : Int) (x x' : Bool) (s s' : ByteArray) (w : World) :
    Calls Try.prog 95 #[.agg #[.int .i64 k, .bool x, .int .i64 n, .int .i64 a, .int .i64 l, .string s], .agg #[.int .i64 k', .bool x', .int .i64 n', .int .i64 a', .int .i64 l', .string s']] w fun e w' => e = .returned (.bool (sameO k n a l s k' n' a' l' s')) ∧ Below w.heap.size w w' := by
  refine (rsame_part k n a l k' n' a' l' _ _ x x' _ _ _ _ s s' w (Lib.hid rfl) (Lib.hid rfl) (Lib.hid (fun w => rnumber_any k n a l x s w)) (Lib.hid (fun w => rnumber_any k' n' a' l' x' s' w)) (Lib.hid rfl) (Lib.hid rfl)).mono ?_
  rintro e w' ⟨rfl, h⟩
  refine ⟨ret_bool ?_, h⟩
  unfold sameO
  by_cases h1 : numO k n a l s = true ∧ numO k' n' a' l' s' = true
  · rw [if_pos h1, if_pos h1, sizeW_in h1.1, sizeW_in h1.2]
  · rw [if_neg h1, if_neg h1]
end Go.Proofs.Ytlkbnldpecolbaa

/- How a heap of layer 11 lies in memory: its cells' blocks, told apart by a role that each block has. -/
namespace Go.Proofs.Ytlkbnldpecolbaa
open Go.RowKit
set_option linter.unusedVariables false

def Ob.cells (o : Ob) : List Value := [.int .i64 o.k, .bool o.x, .int .i64 o.n, .int .i64 o.a, .int .i64 o.l, .string o.s]
abbrev obV (k : Int) (x : Bool) (n a l : Int) (s : ByteArray) : Value := .agg #[.int .i64 k, .bool x, .int .i64 n, .int .i64 a, .int .i64 l, .string s]
def Ob.val (o : Ob) : Value := obV o.k o.x o.n o.a o.l o.s
def obCells (l : List Ob) : List Value := l.flatMap Ob.cells
def byCells (l : List UInt8) : List Value := l.map fun c => .int .u8 c.toNat
abbrev ptr (b : Nat) : Value := .pointer (some ⟨b, 0, none⟩)

theorem obCells_length (l : List Ob) : (obCells l).length = l.length * 6 := by
  induction l with
  | nil => rfl
  | cons o l ih =>
    show (Ob.cells o ++ obCells l).length = _
    rw [List.length_append, ih]
    simp [Ob.cells]
    omega
theorem obCells_append (l m : List Ob) : obCells (l ++ m) = obCells l ++ obCells m := by simp [obCells]
theorem byCells_length (l : List UInt8) : (byCells l).length = l.length := by simp [byCells]
theorem byCells_append (l m : List UInt8) : byCells (l ++ m) = byCells l ++ byCells m := by simp [byCells]
theorem obCells_get {l : List Ob} {i j : Nat} {o : Ob} (h : l[i]? = some o) (hj : j < 6) : (obCells l)[i * 6 + j]? = o.cells[j]? := by
  induction l generalizing i with
  | nil => simp at h
  | cons p l ih =>
    show (Ob.cells p ++ obCells l)[_]? = _
    have h6 : (Ob.cells p).length = 6 := rfl
    cases i with
    | zero =>
      simp at h
      subst h
      rw [List.getElem?_append_left (by omega)]
      simp
    | succ i =>
      simp at h
      rw [List.getElem?_append_right (by omega), h6, show (i + 1) * 6 + j - 6 = i * 6 + j from by omega]
      exact ih h
theorem obCells_one (l : List Ob) : ∀ u ∈ obCells l, u.oneCell' = true := by
  intro u hu
  obtain ⟨o, _, ho⟩ := List.mem_flatMap.1 hu
  simp [Ob.cells] at ho
  rcases ho with rfl | rfl | rfl | rfl | rfl | rfl <;> rfl
theorem byCells_one (l : List UInt8) : ∀ u ∈ byCells l, u.oneCell' = true := by
  intro u hu
  obtain ⟨c, _, rfl⟩ := List.mem_map.1 hu
  rfl

/-- The blocks of colour c may have changed, the others have not; no old block has another role. -/
structure Keep (role : Nat → Nat × Nat) (c : Nat) (w : World) (role' : Nat → Nat × Nat) (w' : World) : Prop where
  os : w'.os = w.os
  tape : w'.tape = w.tape
  output : w'.output = w.output
  size : w.heap.size ≤ w'.heap.size
  block : ∀ k, k < w.heap.size → (role k).1 ≠ c → w'.heap[k]? = w.heap[k]?
  same : ∀ k, k < w.heap.size → role' k = role k
theorem Keep.refl (role : Nat → Nat × Nat) (c : Nat) (w : World) : Keep role c w role w := ⟨rfl, rfl, rfl, Nat.le_refl _, fun _ _ _ => rfl, fun _ _ => rfl⟩
theorem Keep.trans {r0 r1 r2 : Nat → Nat × Nat} {c : Nat} {w0 w1 w2 : World} (h : Keep r0 c w0 r1 w1) (k : Keep r1 c w1 r2 w2) : Keep r0 c w0 r2 w2 :=
  ⟨k.os.trans h.os, k.tape.trans h.tape, k.output.trans h.output, Nat.le_trans h.size k.size,
   fun i hi hc => (k.block i (Nat.lt_of_lt_of_le hi h.size) (by rw [h.same i hi]; exact hc)).trans (h.block i hi hc),
   fun i hi => (k.same i (Nat.lt_of_lt_of_le hi h.size)).trans (h.same i hi)⟩
theorem Keep.of_below {role : Nat → Nat × Nat} (c : Nat) {w w' : World} (h : Below w.heap.size w w') : Keep role c w role w' := ⟨h.os, h.tape, h.output, h.size, fun k hk _ => h.block k hk, fun _ _ => rfl⟩

/-- New roles from block n on. -/
def paint (role : Nat → Nat × Nat) (n : Nat) (f : Nat → Nat × Nat) : Nat → Nat × Nat := fun k => if k < n then role k else f k
theorem paint_old {role : Nat → Nat × Nat} {n : Nat} {f : Nat → Nat × Nat} {k : Nat} (h : k < n) : paint role n f k = role k := by simp [paint, h]
theorem paint_new {role : Nat → Nat × Nat} {n : Nat} {f : Nat → Nat × Nat} {k : Nat} (h : n ≤ k) : paint role n f k = f k := by simp [paint, Nat.not_lt.2 h]

/-- A cell of items. -/
structure ICell (w : World) (pb : Nat) (row : Value) (c : Cel) : Prop where
  kind : c.k = 9 ∨ c.k = 10
  bs : c.bs = []
  blk : w.heap[pb]? = some (.cells #[.int .i64 c.k, .bool c.lk, row] 118 (0, 0))
  row : w.ownsRow 0 30 6 row c.it.length (obCells c.it)
/-- A row of bytes (the row that a string's conversion makes bears a mark behind its end). -/
def rowB (w : World) (v : Value) (xs : List UInt8) : Prop :=
  (v = .slice none 0 0 ∧ xs = []) ∨ ∃ g cap cur fr, v = .slice (some ⟨g, 0, none⟩) xs.length cap ∧ w.heap[g]? = some (.cells cur 5 fr) ∧ (fr = (0, 0) ∨ fr = (cur.size, cur.size + 1)) ∧ xs.length ≤ cap ∧ cur.size = cap ∧ cur.toList.take xs.length = byCells xs
/-- A cell of bytes. -/
structure BCell (w : World) (pb : Nat) (row : Value) (c : Cel) : Prop where
  kind : c.k = 8
  it : c.it = []
  blk : w.heap[pb]? = some (.cells #[.int .i64 c.k, .bool c.lk, row] 144 (0, 0))
  row : rowB w row c.bs
def PCell (w : World) (iv : Value) (pb : Nat) (row : Value) (c : Cel) : Prop := (iv = .iface 113 (ptr pb) ∧ ICell w pb row c) ∨ (iv = .iface 134 (ptr pb) ∧ BCell w pb row c)

/-- A heap: its block, the row of its cells, each cell's block and row. -/
structure PH (role : Nat → Nat × Nat) (c : Nat) (hb : Nat) (vc : Value) (ivs : List Value) (pb : Nat → Nat) (rv : Nat → Value) (P : List Cel) (w : World) : Prop where
  wf : WfP P
  hrole : role hb = (c, 0)
  hblk : w.heap[hb]? = some (.cells #[vc, .int .i64 (usedP P)] 72 (0, 0))
  crow : w.ownsRow 0 110 1 vc P.length ivs
  crole : ∀ g, vc.ownBlock = some g → role g = (c, 1)
  cell : ∀ i cl, P[i]? = some cl → ∃ iv, ivs[i]? = some iv ∧ PCell w iv (pb i) (rv i) cl ∧ role (pb i) = (c, 2 * i + 2) ∧ ∀ g, (rv i).ownBlock = some g → role g = (c, 2 * i + 3)
def PHeap (role : Nat → Nat × Nat) (c : Nat) (hb : Nat) (P : List Cel) (w : World) : Prop := ∃ vc ivs pb rv, PH role c hb vc ivs pb rv P w

theorem blk_lt {w : World} {b : Nat} {o : Obj} (h : w.heap[b]? = some o) : b < w.heap.size := (Array.getElem?_eq_some_iff.1 h).1
theorem owns_same {w w' : World} {e : TypeId} {size : Nat} {v : Value} {n : Nat} {xs : List Value} (h : w.ownsRow 0 e size v n xs) (k : ∀ g, v.ownBlock = some g → g < w.heap.size → w'.heap[g]? = w.heap[g]?) : w'.ownsRow 0 e size v n xs := by
  refine ⟨h.1, ?_⟩
  rcases h.2 with hn | ⟨g, cap, cur, rfl, hb, hg, rest⟩
  · exact .inl hn
  · exact .inr ⟨g, cap, cur, rfl, hb, (k g rfl (blk_lt hg)).trans hg, rest⟩
theorem rowB_same {w w' : World} {v : Value} {xs : List UInt8} (h : rowB w v xs) (k : ∀ g, v.ownBlock = some g → g < w.heap.size → w'.heap[g]? = w.heap[g]?) : rowB w' v xs := by
  rcases h with hn | ⟨g, cap, cur, fr, rfl, hg, rest⟩
  · exact .inl hn
  · exact .inr ⟨g, cap, cur, fr, rfl, (k g rfl (blk_lt hg)).trans hg, rest⟩
theorem rowB_lt {w : World} {v : Value} {xs : List UInt8} (h : rowB w v xs) {g : Nat} (e : v.ownBlock = some g) : g < w.heap.size := by
  rcases h with ⟨rfl, _⟩ | ⟨g', cap, cur, fr, rfl, hg, rest⟩
  · cases e
  · have : g' = g := by simpa [Value.ownBlock] using e
    subst this
    exact blk_lt hg
theorem rowB_form {w : World} {v : Value} {xs : List UInt8} (h : rowB w v xs) : ∃ p cap, v = .slice p xs.length cap := by
  rcases h with ⟨rfl, rfl⟩ | ⟨g, cap, cur, fr, rfl, _⟩
  · exact ⟨_, _, rfl⟩
  · exact ⟨_, _, rfl⟩
theorem PCell.same {w w' : World} {iv : Value} {pb : Nat} {row : Value} {c : Cel} (h : PCell w iv pb row c) (h1 : w'.heap[pb]? = w.heap[pb]?) (h2 : ∀ g, row.ownBlock = some g → g < w.heap.size → w'.heap[g]? = w.heap[g]?) : PCell w' iv pb row c := by
  rcases h with ⟨e, h⟩ | ⟨e, h⟩
  · exact .inl ⟨e, h.kind, h.bs, h1.trans h.blk, owns_same h.row h2⟩
  · exact .inr ⟨e, h.kind, h.it, h1.trans h.blk, rowB_same h.row h2⟩
theorem PCell.lt {w : World} {iv : Value} {pb : Nat} {row : Value} {c : Cel} (h : PCell w iv pb row c) : pb < w.heap.size := by
  rcases h with ⟨e, h⟩ | ⟨e, h⟩
  · exact blk_lt h.blk
  · exact blk_lt h.blk
theorem PCell.row_lt {w : World} {iv : Value} {pb : Nat} {row : Value} {c : Cel} (h : PCell w iv pb row c) {g : Nat} (e : row.ownBlock = some g) : g < w.heap.size := by
  rcases h with ⟨_, h⟩ | ⟨_, h⟩
  · exact (h.row.lt g e).2
  · exact rowB_lt h.row e
theorem PH.same {role role' : Nat → Nat × Nat} {c hb : Nat} {vc : Value} {ivs : List Value} {pb : Nat → Nat} {rv : Nat → Value} {P : List Cel} {w w' : World} (h : PH role c hb vc ivs pb rv P w)
    (hk : ∀ k, k < w.heap.size → (role k).1 = c → w'.heap[k]? = w.heap[k]? ∧ role' k = role k) : PH role' c hb vc ivs pb rv P w' := by
  have l0 := blk_lt h.hblk
  have e0 := hk hb l0 (by rw [h.hrole])
  refine ⟨h.wf, e0.2.trans h.hrole, e0.1.trans h.hblk, owns_same h.crow fun g e l => (hk g l (by rw [h.crole g e])).1, fun g e => ?_, fun i cl hi => ?_⟩
  · exact (hk g (h.crow.lt g e).2 (by rw [h.crole g e])).2.trans (h.crole g e)
  · obtain ⟨iv, h1, h2, h3, h4⟩ := h.cell i cl hi
    have e2 := hk (pb i) h2.lt (by rw [h3])
    exact ⟨iv, h1, h2.same e2.1 fun g e l => (hk g l (by rw [h4 g e])).1, e2.2.trans h3, fun g e => (hk g (h2.row_lt e) (by rw [h4 g e])).2.trans (h4 g e)⟩
theorem PH.keep {role role' : Nat → Nat × Nat} {c d hb : Nat} {vc : Value} {ivs : List Value} {pb : Nat → Nat} {rv : Nat → Value} {P : List Cel} {w w' : World} (h : PH role c hb vc ivs pb rv P w) (k : Keep role d w role' w') (hd : c ≠ d) : PH role' c hb vc ivs pb rv P w' :=
  h.same fun i hi hc => ⟨k.block i hi (by rw [hc]; exact hd), k.same i hi⟩
theorem PH.below {role : Nat → Nat × Nat} {c hb : Nat} {vc : Value} {ivs : List Value} {pb : Nat → Nat} {rv : Nat → Value} {P : List Cel} {w w' : World} (h : PH role c hb vc ivs pb rv P w) (k : Below w.heap.size w w') : PH role c hb vc ivs pb rv P w' :=
  h.same fun i hi _ => ⟨k.block i hi, rfl⟩
theorem PHeap.keep {role role' : Nat → Nat × Nat} {c d hb : Nat} {P : List Cel} {w w' : World} (h : PHeap role c hb P w) (k : Keep role d w role' w') (hd : c ≠ d) : PHeap role' c hb P w' := by
  obtain ⟨vc, ivs, pb, rv, h⟩ := h
  exact ⟨vc, ivs, pb, rv, h.keep k hd⟩
theorem PHeap.below {role : Nat → Nat × Nat} {c hb : Nat} {P : List Cel} {w w' : World} (h : PHeap role c hb P w) (k : Below w.heap.size w w') : PHeap role c hb P w' := by
  obtain ⟨vc, ivs, pb, rv, h⟩ := h
  exact ⟨vc, ivs, pb, rv, h.below k⟩
theorem PHeap.wf {role : Nat → Nat × Nat} {c hb : Nat} {P : List Cel} {w : World} (h : PHeap role c hb P w) : WfP P := by
  obtain ⟨vc, ivs, pb, rv, h⟩ := h
  exact h.wf
theorem cellAt {w : World} {b : Nat} {cur : Array Value} {t : TypeId} {f : Nat × Nat} (h : w.heap[b]? = some (.cells cur t f)) (i : Nat) : w.cell? ⟨b, i, none⟩ = cur[i]? := by simp [World.cell?, h]
theorem freeAt {w : World} {b : Nat} {cur : Array Value} {t : TypeId} (h : w.heap[b]? = some (.cells cur t (0, 0))) (i : Nat) : w.frozen? ⟨b, i, none⟩ = false := by simp [World.frozen?, h]
end Go.Proofs.Ytlkbnldpecolbaa
