/- Walks of the document's own answer for layer 10 (tympanref10): May, Number, size, Num, Less, Same, Type. -/
import Derived.Test.YtmlkmgeddkpgiaaO5
namespace Go.Proofs.Ytmlkmgeddkpgiaa
open Go.RowKit
set_option linter.unusedVariables false

theorem rmay_8 (n a l : Int) (x : Bool) (s : ByteArray) (w : World) :
    Calls Try.prog 110 #[.agg #[.int .i64 8, .bool x, .int .i64 n, .int .i64 a, .int .i64 l, .string s]] w fun e w' => e = .returned (.bool (mayO 8 n a l s)) ∧ Below w.heap.size w w' := by
  refine (rpiece_8 n a l x _ _ _ _ s w (fun w => eqO 8 n a l 8 n a l x x s ⟨#[]⟩ w) (Lib.hid (fun w => rin_any n 0 40000 w)) (Lib.hid (fun w => rin_any a 0 40000 w)) (Lib.hid (fun w => rin_any l 0 40000 w))).mono ?_
  rintro e w' ⟨rfl, h⟩
  refine ⟨ret_bool ?_, h⟩
  simp only [← Bool.decide_and]
  refine Eq.trans ?_ (rfl : pieceP n a l s = mayO 8 n a l s)
  unfold pieceP
  apply decide_eq_decide.2
  constructor
  · rintro ⟨⟨_, _, _, _, _, h1⟩, ⟨h2, h3⟩, ⟨h4, h5⟩, h6, h7⟩
    exact ⟨h2, h3, h4, h5, h6, h7, h1⟩
  · rintro ⟨h2, h3, h4, h5, h6, h7, h1⟩
    exact ⟨⟨trivial, trivial, trivial, trivial, trivial, h1⟩, ⟨h2, h3⟩, ⟨h4, h5⟩, h6, h7⟩

theorem rmay_9 (n a l : Int) (x : Bool) (s : ByteArray) (w : World) :
    Calls Try.prog 110 #[.agg #[.int .i64 9, .bool x, .int .i64 n, .int .i64 a, .int .i64 l, .string s]] w fun e w' => e = .returned (.bool (mayO 9 n a l s)) ∧ Below w.heap.size w w' := by
  refine (rpiece_9 n a l x _ _ _ _ s w (fun w => eqO 9 n a l 9 n a l x x s ⟨#[]⟩ w) (Lib.hid (fun w => rin_any n 0 40000 w)) (Lib.hid (fun w => rin_any a 0 40000 w)) (Lib.hid (fun w => rin_any l 0 40000 w))).mono ?_
  rintro e w' ⟨rfl, h⟩
  refine ⟨ret_bool ?_, h⟩
  simp only [← Bool.decide_and]
  refine Eq.trans ?_ (rfl : pieceP n a l s = mayO 9 n a l s)
  unfold pieceP
  apply decide_eq_decide.2
  constructor
  · rintro ⟨⟨_, _, _, _, _, h1⟩, ⟨h2, h3⟩, ⟨h4, h5⟩, h6, h7⟩
    exact ⟨h2, h3, h4, h5, h6, h7, h1⟩
  · rintro ⟨h2, h3, h4, h5, h6, h7, h1⟩
    exact ⟨⟨trivial, trivial, trivial, trivial, trivial, h1⟩, ⟨h2, h3⟩, ⟨h4, h5⟩, h6, h7⟩

theorem rmay_no (k n a l : Int) (x : Bool) (s : ByteArray) (w : World) (h1 : k ≠ 1) (h2 : k ≠ 2) (h3 : k ≠ 3) (h4 : k ≠ 4) (h5 : k ≠ 5) (h6 : k ≠ 6) (h7 : k ≠ 7) (h8 : k ≠ 8) (h9 : k ≠ 9) (h10 : k ≠ 10) (h11 : k ≠ 11) :
    Calls Try.prog 110 #[.agg #[.int .i64 k, .bool x, .int .i64 n, .int .i64 a, .int .i64 l, .string s]] w fun e w' => e = .returned (.bool (mayO k n a l s)) ∧ Below w.heap.size w w' := by
  have M : Hid (mayO k n a l s = false) := Lib.hid (by simp [mayO, *])
  go_enter Try.func110, Try.ntmps110
  go_wp2
  go_ret
  exact ⟨ret_bool M.out.symm, box2_below _ _ _⟩

theorem rmayO_any (k n a l : Int) (x : Bool) (s : ByteArray) (w : World) :
    Calls Try.prog 110 #[.agg #[.int .i64 k, .bool x, .int .i64 n, .int .i64 a, .int .i64 l, .string s]] w fun e w' => e = .returned (.bool (mayO k n a l s)) ∧ Below w.heap.size w w' := by
  by_cases h1 : k = 1
  · subst h1; exact rmay_1 n a l x s w
  by_cases h2 : k = 2
  · subst h2; exact rmay_2 n a l x s w
  by_cases h3 : k = 3
  · subst h3; exact rmay_3 n a l x s w
  by_cases h4 : k = 4
  · subst h4; exact rmay_4 n a l x s w
  by_cases h5 : k = 5
  · subst h5; exact rmay_5 n a l x s w
  by_cases h6 : k = 6
  · subst h6; exact rmay_6 n a l x s w
  by_cases h7 : k = 7
  · subst h7; exact rmay_7 n a l x s w
  by_cases h8 : k = 8
  · subst h8; exact rmay_8 n a l x s w
  by_cases h9 : k = 9
  · subst h9; exact rmay_9 n a l x s w
  by_cases h10 : k = 10
  · subst h10; exact rmay_10 n a l x s w
  by_cases h11 : k = 11
  · subst h11; exact rmay_11 n a l x s w
  exact rmay_no k n a l x s w h1 h2 h3 h4 h5 h6 h7 h8 h9 h10 h11

theorem rnumber_any (k n a l : Int) (x : Bool) (s : ByteArray) (w : World) :
    Calls Try.prog 125 #[.agg #[.int .i64 k, .bool x, .int .i64 n, .int .i64 a, .int .i64 l, .string s]] w fun e w' => e = .returned (.bool (numO k n a l s)) ∧ Below w.heap.size w w' := by
  by_cases h3 : k = 3
  · subst h3
    have h := Lib.hid (fun w => rmayO_any 3 n a l x s w)
    go_enter Try.func125, Try.ntmps125
    go_wp2_with fail
    refine (h.out _).mono ?_
    rintro e wc ⟨rfl, kc⟩
    go_wp2
    go_ret
    exact ⟨ret_bool (by simp [numO]), below_and (box_below _ _) kc⟩
  · by_cases h4 : k = 4
    · subst h4
      have h := Lib.hid (fun w => rmayO_any 4 n a l x s w)
      go_enter Try.func125, Try.ntmps125
      go_wp2_with fail
      refine (h.out _).mono ?_
      rintro e wc ⟨rfl, kc⟩
      go_wp2
      go_ret
      exact ⟨ret_bool (by simp [numO]), below_and (box_below _ _) kc⟩
    · have M : Hid (numO k n a l s = false) := Lib.hid (by simp [numO, *])
      go_enter Try.func125, Try.ntmps125
      go_wp2
      go_ret
      exact ⟨ret_bool M.out.symm, box_below _ _⟩

theorem rsize_any (k n a l : Int) (x : Bool) (s : ByteArray) (w : World) :
    Calls Try.prog 126 #[.agg #[.int .i64 k, .bool x, .int .i64 n, .int .i64 a, .int .i64 l, .string s]] w fun e w' => e = .returned (.int .i64 (sizeW k n)) ∧ Below w.heap.size w w' := by
  by_cases h3 : k = 3
  · subst h3
    go_enter Try.func126, Try.ntmps126
    go_wp2
    go_ret
    exact ⟨ret_int (by simp [sizeW, IntWalk.i64_left]), box_below _ _⟩
  · have M : Hid (sizeW k n = n) := Lib.hid (by simp [sizeW, *])
    go_enter Try.func126, Try.ntmps126
    go_wp2
    go_ret
    exact ⟨ret_int M.out.symm, box_below _ _⟩

end Go.Proofs.Ytmlkmgeddkpgiaa
