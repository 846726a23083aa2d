/- Walks of the document's own answer for layer 10 (tympanref10): May, Number, size, Num, Less, Same, Type. -/
import Derived.Test.YtelihdgpappklaaO5
namespace Go.Proofs.Ytelihdgpappklaa
open Go.RowKit
set_option linter.unusedVariables false

theorem rmay_8 (n a l : Int) (x : Bool) (s : ByteArray) (w : World) :
    Calls Try.prog 14 #[.agg #[.int .i64 8, .bool x, .int .i64 n, .int .i64 a, .int .i64 l, .string s]] w fun e w' => e = .returned (.bool (mayO 8 n a l s)) ∧ Below w.heap.size w w' := by
  refine (rpiece_8 n a l x _ _ _ _ s w (fun w => eqO 8 n a l 8 n a l x x s ⟨#[]⟩ w) (Lib.hid (fun w => rin_any n 0 40000 w)) (Lib.hid (fun w => rin_any a 0 40000 w)) (Lib.hid (fun w => rin_any l 0 40000 w))).mono ?_
  rintro e w' ⟨rfl, h⟩
  refine ⟨ret_bool ?_, h⟩
  simp only [← Bool.decide_and]
  refine Eq.trans ?_ (rfl : pieceP n a l s = mayO 8 n a l s)
  unfold pieceP
  apply decide_eq_decide.2
  constructor
  · rintro ⟨⟨_, _, _, _, _, h1⟩, ⟨h2, h3⟩, ⟨h4, h5⟩, h6, h7⟩
    exact ⟨h2, h3, h4, h5, h6, h7, h1⟩
  · rintro ⟨h2, h3, h4, h5, h6, h7, h1⟩
    exact ⟨⟨trivial, trivial, trivial, trivial, trivial, h1⟩, ⟨h2, h3⟩, ⟨h4, h5⟩, h6, h7⟩

theorem rmay_9 (n a l : Int) (x : Bool) (s : ByteArray) (w : World) :
    Calls Try.prog 14 #[.agg #[.int .i64 9, .bool x, .int .i64 n, .int .i64 a, .int .i64 l, .string s]] w fun e w' => e = .returned (.bool (mayO 9 n a l s)) ∧ Below w.heap.size w w' := by
  refine (rpiece_9 n a l x _ _ _ _ s w (fun w => eqO 9 n a l 9 n a l x x s ⟨#[]⟩ w) (Lib.hid (fun w => rin_any n 0 40000 w)) (Lib.hid (fun w => rin_any a 0 40000 w)) (Lib.hid (fun w => rin_any l 0 40000 w))).mono ?_
  rintro e w' ⟨rfl, h⟩
  refine ⟨ret_bool ?_, h⟩
  simp only [← Bool.decide_and]
  refine Eq.trans ?_ (rfl : pieceP n a l s = mayO 9 n a l s)
  unfold pieceP
  apply decide_eq_decide.2
  constructor
  · rintro ⟨⟨_, _, _, _, _, h1⟩, ⟨h2, h3⟩, ⟨h4, h5⟩, h6, h7⟩
    exact ⟨h2, h3, h4, h5, h6, h7, h1⟩
  · rintro ⟨h2, h3, h4, h5, h6, h7, h1⟩
    exact ⟨⟨trivial, trivial, trivial, trivial, trivial, h1⟩, ⟨h2, h3⟩, ⟨h4, h5⟩, h6, h7⟩

theorem rmay_no (k n a l : Int) (x : Bool) (s : ByteArray) (w : World) (h1 : k ≠ 1) (h2 : k ≠ 2) (h3 : k ≠ 3) (h4 : k ≠ 4) (h5 : k ≠ 5) (h6 : k ≠ 6) (h7 : k ≠ 7) (h8 : k ≠ 8) (h9 : k ≠ 9) (h10 : k ≠ 10) (h11 : k ≠ 11) :
    Calls Try.prog 14 #[.agg #[.int .i64 k, .bool x, .int .i64 n, .int .i64 a, .int .i64 l, .string s]] w fun e w' => e = .returned (.bool (mayO k n a l s)) ∧ Below w.heap.size w w' := by
  have M : Hid (mayO k n a l s = false) := Lib.hid (by simp [mayO, *])
  go_enter Try.func14, Try.ntmps14
  go_wp2
  go_ret
  exact ⟨ret_bool M.out.symm, box2_below _ _ _⟩

theorem rmayO_any (k n a l : Int) (x : Bool) (s : ByteArray) (w : World) :
    Calls Try.prog 14 #[.agg #[.int .i64 k, .bool x, .int .i64 n, .int .i64 a, .int .i64 l, .string s]] w fun e w' => e = .returned (.bool (mayO k n a l s)) ∧ Below w.heap.size w w' := by
  by_cases h1 : k = 1
  · subst h1; exact rmay_1 n a l x s w
  by_cases h2 : k = 2
  · subst h2; exact rmay_2 n a l x s w
  by_cases h3 : k = 3
  · subst h3; exact rmay_3 n a l x s w
  by_cases h4 : k = 4
  · subst h4; exact rmay_4 n a l x s w
  by_cases h5 : k = 5
  · subst h5; exact rmay_5 n a l x s w
  by_cases h6 : k = 6
  · subst h6; exact rmay_6 n a l x s w
  by_cases h7 : k = 7
  · subst h7; exact rmay_7 n a l x s w
  by_cases h8 : k = 8
  · subst h8; exact rmay_8 n a l x s w
  by_cases h9 : k = 9
  · subst h9; exact rmay_9 n a l x s w
  by_cases h10 : k = 10
  · subst h10; exact rmay_10 n a l x s w
  by_cases h11 : k = 11
  · subst h11; exact rmay_11 n a l x s w
  exact rmay_no k n a l x s w h1 h2 h3 h4 h5 h6 h7 h8 h9 h10 h11

theorem rnumber_any (k n a l : Int) (x : Bool) (s : ByteArray) (w : World) :
    Calls Try.prog 22 #[.agg #[.int .i64 k, .bool x, .int .i64 n, .int .i64 a, .int .i64 l, .string s]] w fun e w' => e = .returned (.bool (numO k n a l s)) ∧ Below w.heap.size w w' := by
  by_cases h3 : k = 3
  · subst h3
    have h := Lib.hid (fun w => rmayO_any 3 n a l x s w)
    go_enter Try.func22, Try.ntmps22
    go_wp2_with fail
    refine (h.out _).mono ?_
    rintro e wc ⟨rfl, kc⟩
    go_wp2
    go_ret
    exact ⟨ret_bool (by simp [numO]), below_and (box_below _ _) kc⟩
  · by_cases h4 : k = 4
    · subst h4
      have h := Lib.hid (fun w => rmayO_any 4 n a l x s w)
      go_enter Try.func22, Try.ntmps22
      go_wp2_with fail
      refine (h.out _).mono ?_
      rintro e wc ⟨rfl, kc⟩
      go_wp2
      go_ret
      exact ⟨ret_bool (by simp [numO]), below_and (box_below _ _) kc⟩
    · have M : Hid (numO k n a l s = false) := Lib.hid (by simp [numO, *])
      go_enter Try.func22, Try.ntmps22
      go_wp2
      go_ret
      exact ⟨ret_bool M.out.symm, box_below _ _⟩

theorem rsize_any (k n a l : Int) (x : Bool) (s : ByteArray) (w : World) :
    Calls Try.prog 23 #[.agg #[.int .i64 k, .bool x, .int .i64 n, .int .i64 a, .int .i64 l, .string s]] w fun e w' => e = .returned (.int .i64 (sizeW k n)) ∧ Below w.heap.size w w' := by
  by_cases h3 : k = 3
  · subst h3
    go_enter Try.func23, Try.ntmps23
    go_wp2
    go_ret
    exact ⟨ret_int (by simp [sizeW, IntWalk.i64_left]), box_below _ _⟩
  · have M : Hid (sizeW k n = n) := Lib.hid (by simp [sizeW, *])
    go_enter Try.func23, Try.ntmps23
    go_wp2
    go_ret
    exact ⟨ret_int M.out.symm, box_below _ _⟩

theorem rtype_no (k n a l : Int) (x : Bool) (s : ByteArray) (w : World) (h1 : k ≠ 1) (h2 : k ≠ 2) (h3 : k ≠ 3) (h4 : k ≠ 4) (h5 : k ≠ 5) (h6 : k ≠ 6) (h7 : k ≠ 7) (h8 : k ≠ 8) (h9 : k ≠ 9) (h10 : k ≠ 10) (h11 : k ≠ 11) :
    Calls Try.prog 18 #[.agg #[.int .i64 k, .bool x, .int .i64 n, .int .i64 a, .int .i64 l, .string s]] w fun e w' => e = .returned (.string (typeO k)) ∧ Below w.heap.size w w' := by
  have M : Hid (typeO k = ⟨#[]⟩) := Lib.hid (by simp [typeO, *])
  go_enter Try.func18, Try.ntmps18
  go_wp2
  go_ret
  exact ⟨by rw [M.out]; rfl, box_below _ _⟩

theorem rtype_any (k n a l : Int) (x : Bool) (s : ByteArray) (w : World) :
    Calls Try.prog 18 #[.agg #[.int .i64 k, .bool x, .int .i64 n, .int .i64 a, .int .i64 l, .string s]] w fun e w' => e = .returned (.string (typeO k)) ∧ Below w.heap.size w w' := by
  by_cases h1 : k = 1
  · subst h1
    go_enter Try.func18, Try.ntmps18
    go_wp2
    go_ret
    exact ⟨by rfl, box_below _ _⟩
  by_cases h2 : k = 2
  · subst h2
    go_enter Try.func18, Try.ntmps18
    go_wp2
    go_ret
    exact ⟨by rfl, box_below _ _⟩
  by_cases h3 : k = 3
  · subst h3
    go_enter Try.func18, Try.ntmps18
    go_wp2
    go_ret
    exact ⟨by rfl, box_below _ _⟩
  by_cases h4 : k = 4
  · subst h4
    go_enter Try.func18, Try.ntmps18
    go_wp2
    go_ret
    exact ⟨by rfl, box_below _ _⟩
  by_cases h5 : k = 5
  · subst h5
    go_enter Try.func18, Try.ntmps18
    go_wp2
    go_ret
    exact ⟨by rfl, box_below _ _⟩
  by_cases h6 : k = 6
  · subst h6
    go_enter Try.func18, Try.ntmps18
    go_wp2
    go_ret
    exact ⟨by rfl, box_below _ _⟩
  by_cases h7 : k = 7
  · subst h7
    go_enter Try.func18, Try.ntmps18
    go_wp2
    go_ret
    exact ⟨by rfl, box_below _ _⟩
  by_cases h8 : k = 8
  · subst h8
    go_enter Try.func18, Try.ntmps18
    go_wp2
    go_ret
    exact ⟨by rfl, box_below _ _⟩
  by_cases h9 : k = 9
  · subst h9
    go_enter Try.func18, Try.ntmps18
    go_wp2
    go_ret
    exact ⟨by rfl, box_below _ _⟩
  by_cases h10 : k = 10
  · subst h10
    go_enter Try.func18, Try.ntmps18
    go_wp2
    go_ret
    exact ⟨by rfl, box_below _ _⟩
  by_cases h11 : k = 11
  · subst h11
    go_enter Try.func18, Try.ntmps18
    go_wp2
    go_ret
    exact ⟨by rfl, box_below _ _⟩
  exact rtype_no k n a l x s w h1 h2 h3 h4 h5 h6 h7 h8 h9 h10 h11

theorem rnumO_any (k n a l : Int) (x : Bool) (s : ByteArray) (w : World) :
    Calls Try.prog 12 #[.agg #[.int .i64 k, .bool x, .int .i64 n, .int .i64 a, .int .i64 l, .string s]] w fun e w' => e = .returned (.tuple #[.int .i64 (numV k n), .bool (numOk k n)]) ∧ Below w.heap.size w w' := by
  by_cases h4 : k = 4
  · subst h4
    have h := Lib.hid (fun w => rmay_any n w)
    have V : Hid (numV 4 n = gate (mayF n) n) := Lib.hid rfl
    have O : Hid (numOk 4 n = mayF n) := Lib.hid rfl
    generalize mayF n = p at *
    cases p
    · go_enter Try.func12, Try.ntmps12
      go_wp2_with fail
      refine (h.out _).mono ?_
      rintro e wc ⟨rfl, rfl⟩
      go_wp2
      go_ret2
      exact ⟨ret_ok (by rw [V.out]; rfl) O.out.symm, box_below _ _⟩
    · go_enter Try.func12, Try.ntmps12
      go_wp2_with fail
      refine (h.out _).mono ?_
      rintro e wc ⟨rfl, rfl⟩
      go_wp2
      go_ret2
      exact ⟨ret_ok (by rw [V.out]; rfl) O.out.symm, box_below _ _⟩
  · by_cases h3 : k = 3
    · subst h3
      have h := Lib.hid (fun w => rfrom_any n w)
      go_enter Try.func12, Try.ntmps12
      go_wp2_with fail
      refine (h.out _).mono ?_
      rintro e wc ⟨rfl, rfl⟩
      go_wp2
      go_ret2
      exact ⟨ret_ok rfl rfl, box_below _ _⟩
    · have M : Hid (numOk k n = false) := Lib.hid (by simp [numOk, *])
      go_enter Try.func12, Try.ntmps12
      go_wp2
      go_ret2
      exact ⟨ret_ok (by simp [numV, M.out, gate]) M.out.symm, box_below _ _⟩

theorem rless_part (k n a l k' n' a' l' u v : Int) (x x' p q : Bool) (s s' : ByteArray) (w : World)
    (h1 : Hid (∀ w, Calls Try.prog 22 #[.agg #[.int .i64 k, .bool x, .int .i64 n, .int .i64 a, .int .i64 l, .string s]] w fun e w' => e = .returned (.bool p) ∧ Below w.heap.size w w'))
    (h2 : Hid (∀ w, Calls Try.prog 22 #[.agg #[.int .i64 k', .bool x', .int .i64 n', .int .i64 a', .int .i64 l', .string s']] w fun e w' => e = .returned (.bool q) ∧ Below w.heap.size w w'))
    (hu : Hid (sizeW k n = u)) (hv : Hid (sizeW k' n' = v)) :
    Calls Try.prog 10 #[.agg #[.int .i64 k, .bool x, .int .i64 n, .int .i64 a, .int .i64 l, .string s], .agg #[.int .i64 k', .bool x', .int .i64 n', .int .i64 a', .int .i64 l', .string s']] w fun e w' => e = .returned (.tuple #[.bool (p && (q && decide (u < v))), .bool (p && q)]) ∧ Below w.heap.size w w' := by
  have h3 := Lib.hid (fun k n a l x s w => rsize_any k n a l x s w)
  cases p
  · go_enter Try.func10, Try.ntmps10
    go_wp2_with fail
    refine (h1.out _).mono ?_
    rintro e wc ⟨rfl, kc⟩
    go_wp2
    go_ret2
    exact ⟨rfl, below_and (below_and (box_below _ _) (box_below _ _)) kc⟩
  · cases q
    · go_enter Try.func10, Try.ntmps10
      go_wp2_with fail
      obtain ⟨wb, eb, kb, ob⟩ := two_box w k n a l k' n' a' l' x x' s s'
      rw [eb]
      clear eb
      refine (h1.out _).mono ?_
      rintro e wc ⟨rfl, kc⟩
      have gb := Lib.hid (below_and kb kc)
      obtain ⟨c0, c1, c2, c3, c4, c5, d0, d1, d2, d3, d4, d5⟩ := (ob.later kc).flat
      clear kc kb ob
      go_wp2_with fail
      refine (h2.out _).mono ?_
      rintro e wd ⟨rfl, kd⟩
      go_wp2
      go_ret2
      exact ⟨rfl, below_and gb.out kd⟩
    · go_enter Try.func10, Try.ntmps10
      go_wp2_with fail
      obtain ⟨wb, eb, kb, ob⟩ := two_box w k n a l k' n' a' l' x x' s s'
      rw [eb]
      clear eb
      refine (h1.out _).mono ?_
      rintro e wc ⟨rfl, kc⟩
      have gb := Lib.hid (below_and kb kc)
      have go := Lib.hid (ob.later kc)
      obtain ⟨c0, c1, c2, c3, c4, c5, d0, d1, d2, d3, d4, d5⟩ := go.out.flat
      clear kc kb ob
      go_wp2_with fail
      refine (h2.out _).mono ?_
      rintro e wd ⟨rfl, kd⟩
      replace gb := Lib.hid (below_and gb.out kd).drew
      replace go := Lib.hid (go.out.later kd).drew
      clear kd c0 c1 c2 c3 c4 c5 d0 d1 d2 d3 d4 d5
      go_wp2_with fail
      go_region_held3 (fun wx => wx.cell? ⟨w.heap.size, 0, none⟩ = some (.int .i64 k) ∧ wx.cell? ⟨w.heap.size, 1, none⟩ = some (.bool x) ∧ wx.cell? ⟨w.heap.size, 2, none⟩ = some (.int .i64 n) ∧ wx.cell? ⟨w.heap.size, 3, none⟩ = some (.int .i64 a) ∧ wx.cell? ⟨w.heap.size, 4, none⟩ = some (.int .i64 l) ∧ wx.cell? ⟨w.heap.size, 5, none⟩ = some (.string s) ∧ wx.cell? ⟨w.heap.size + 1, 0, none⟩ = some (.int .i64 k') ∧ wx.cell? ⟨w.heap.size + 1, 1, none⟩ = some (.bool x') ∧ wx.cell? ⟨w.heap.size + 1, 2, none⟩ = some (.int .i64 n') ∧ wx.cell? ⟨w.heap.size + 1, 3, none⟩ = some (.int .i64 a') ∧ wx.cell? ⟨w.heap.size + 1, 4, none⟩ = some (.int .i64 l') ∧ wx.cell? ⟨w.heap.size + 1, 5, none⟩ = some (.string s'))
        (first | exact go.out.flat | go_keep)
        (first | (go_at_call 23; refine (h3.out _ _ _ _ _ _ _).mono ?_; rintro e wc ⟨rfl, kc⟩; replace gb := Lib.hid (below_and gb.out kc); replace go := Lib.hid (go.out.later kc)))
      go_wp2
      go_ret2
      refine ⟨?_, gb.out⟩
      rw [hu.out, hv.out]
      simp

theorem rless_any (k n a l k' n' a' l' : Int) (x x' : Bool) (s s' : ByteArray) (w : World) :
    Calls Try.prog 10 #[.agg #[.int .i64 k, .bool x, .int .i64 n, .int .i64 a, .int .i64 l, .string s], .agg #[.int .i64 k', .bool x', .int .i64 n', .int .i64 a', .int .i64 l', .string s']] w fun e w' => e = .returned (.tuple #[.bool (lessO k n a l s k' n' a' l' s'), .bool (lessOk k n a l s k' n' a' l' s')]) ∧ Below w.heap.size w w' := by
  refine (rless_part k n a l k' n' a' l' _ _ x x' _ _ s s' w (Lib.hid (fun w => rnumber_any k n a l x s w)) (Lib.hid (fun w => rnumber_any k' n' a' l' x' s' w)) (Lib.hid rfl) (Lib.hid rfl)).mono ?_
  rintro e w' ⟨rfl, h⟩
  refine ⟨?_, h⟩
  unfold lessO lessOk
  by_cases h1 : numO k n a l s = true
  · by_cases h2 : numO k' n' a' l' s' = true
    · rw [sizeW_in h1, sizeW_in h2]
      simp [h1, h2]
    · simp [h2]
  · simp [h1]

end Go.Proofs.Ytelihdgpappklaa
