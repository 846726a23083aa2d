/- Y03: O2, O3, F3, O4. -/
import Derived.Test.YtlkbnldpecolbaaY02
import Derived.Test.YtlkbnldpecolbaaY01
/- Walks of obj: May, isNumber, scaled, Num, Type. -/
namespace Go.Proofs.Ytlkbnldpecolbaa
open Go.RowKit
set_option linter.unusedVariables false

theorem may_1 (n a l : Int) (x : Bool) (s : ByteArray) (w : World) :
    Calls Try.prog 80 #[.agg #[.int .i64 1, .bool x, .int .i64 n, .int .i64 a, .int .i64 l, .string s]] w fun e w' => e = .returned (.bool (mayO 1 n a l s)) ∧ Below w.heap.size w w' := by
  have h := Lib.hid (fun w => only_any 1 n a l 0 0 x s w)
  go_enter Try.func80, Try.ntmps80
  go_wp2_with fail
  refine (h.out _).mono ?_
  rintro e wc ⟨rfl, kc⟩
  go_wp2
  go_ret
  exact ⟨ret_bool rfl, below_and (box_below _ _) kc⟩

theorem may_2 (n a l : Int) (x : Bool) (s : ByteArray) (w : World) :
    Calls Try.prog 80 #[.agg #[.int .i64 2, .bool x, .int .i64 n, .int .i64 a, .int .i64 l, .string s]] w fun e w' => e = .returned (.bool (mayO 2 n a l s)) ∧ Below w.heap.size w w' := by
  have h := Lib.hid (fun w => only_any 2 n a l 0 1 x s w)
  go_enter Try.func80, Try.ntmps80
  go_wp2_with fail
  refine (h.out _).mono ?_
  rintro e wc ⟨rfl, kc⟩
  go_wp2
  go_ret
  exact ⟨ret_bool rfl, below_and (box_below _ _) kc⟩

theorem may_3 (n a l : Int) (x : Bool) (s : ByteArray) (w : World) :
    Calls Try.prog 80 #[.agg #[.int .i64 3, .bool x, .int .i64 n, .int .i64 a, .int .i64 l, .string s]] w fun e w' => e = .returned (.bool (mayO 3 n a l s)) ∧ Below w.heap.size w w' := by
  have h := Lib.hid (fun w => only_any 3 n a l (-2147483647) 2147483647 x s w)
  go_enter Try.func80, Try.ntmps80
  go_wp2_with fail
  refine (h.out _).mono ?_
  rintro e wc ⟨rfl, kc⟩
  go_wp2
  go_ret
  exact ⟨ret_bool rfl, below_and (box_below _ _) kc⟩

theorem may_4 (n a l : Int) (x : Bool) (s : ByteArray) (w : World) :
    Calls Try.prog 80 #[.agg #[.int .i64 4, .bool x, .int .i64 n, .int .i64 a, .int .i64 l, .string s]] w fun e w' => e = .returned (.bool (mayO 4 n a l s)) ∧ Below w.heap.size w w' := by
  have h := Lib.hid (fun w => only_any 4 n a l (-1073741823) 1073741823 x s w)
  go_enter Try.func80, Try.ntmps80
  go_wp2_with fail
  refine (h.out _).mono ?_
  rintro e wc ⟨rfl, kc⟩
  go_wp2
  go_ret
  exact ⟨ret_bool rfl, below_and (box_below _ _) kc⟩

theorem may_6 (n a l : Int) (x : Bool) (s : ByteArray) (w : World) :
    Calls Try.prog 80 #[.agg #[.int .i64 6, .bool x, .int .i64 n, .int .i64 a, .int .i64 l, .string s]] w fun e w' => e = .returned (.bool (mayO 6 n a l s)) ∧ Below w.heap.size w w' := by
  have h := Lib.hid (fun w => only_any 6 n a l 0 0 x s w)
  go_enter Try.func80, Try.ntmps80
  go_wp2_with fail
  refine (h.out _).mono ?_
  rintro e wc ⟨rfl, kc⟩
  go_wp2
  go_ret
  exact ⟨ret_bool rfl, below_and (box_below _ _) kc⟩

theorem may_7 (n a l : Int) (x : Bool) (s : ByteArray) (w : World) :
    Calls Try.prog 80 #[.agg #[.int .i64 7, .bool x, .int .i64 n, .int .i64 a, .int .i64 l, .string s]] w fun e w' => e = .returned (.bool (mayO 7 n a l s)) ∧ Below w.heap.size w w' := by
  have h := Lib.hid (fun w => only_any 7 n a l 1 200 x s w)
  go_enter Try.func80, Try.ntmps80
  go_wp2_with fail
  refine (h.out _).mono ?_
  rintro e wc ⟨rfl, kc⟩
  go_wp2
  go_ret
  exact ⟨ret_bool rfl, below_and (box_below _ _) kc⟩

theorem may_10 (n a l : Int) (x : Bool) (s : ByteArray) (w : World) :
    Calls Try.prog 80 #[.agg #[.int .i64 10, .bool x, .int .i64 n, .int .i64 a, .int .i64 l, .string s]] w fun e w' => e = .returned (.bool (mayO 10 n a l s)) ∧ Below w.heap.size w w' := by
  have h := Lib.hid (fun w => only_any 10 n a l 0 40000 x s w)
  go_enter Try.func80, Try.ntmps80
  go_wp2_with fail
  refine (h.out _).mono ?_
  rintro e wc ⟨rfl, kc⟩
  go_wp2
  go_ret
  exact ⟨ret_bool rfl, below_and (box_below _ _) kc⟩

theorem may_11 (n a l : Int) (x : Bool) (s : ByteArray) (w : World) :
    Calls Try.prog 80 #[.agg #[.int .i64 11, .bool x, .int .i64 n, .int .i64 a, .int .i64 l, .string s]] w fun e w' => e = .returned (.bool (mayO 11 n a l s)) ∧ Below w.heap.size w w' := by
  have h := Lib.hid (fun w => only_any 11 n a l 1 2147483647 x s w)
  go_enter Try.func80, Try.ntmps80
  go_wp2_with fail
  refine (h.out _).mono ?_
  rintro e wc ⟨rfl, kc⟩
  go_wp2
  go_ret
  exact ⟨ret_bool rfl, below_and (box_below _ _) kc⟩

theorem may_8 (n a l : Int) (x : Bool) (s : ByteArray) (w : World) :
    Calls Try.prog 80 #[.agg #[.int .i64 8, .bool x, .int .i64 n, .int .i64 a, .int .i64 l, .string s]] w fun e w' => e = .returned (.bool (mayO 8 n a l s)) ∧ Below w.heap.size w w' := by
  have h := Lib.hid (fun w => piece_any 8 n a l x s w)
  go_enter Try.func80, Try.ntmps80
  go_wp2_with fail
  refine (h.out _).mono ?_
  rintro e wc ⟨rfl, kc⟩
  go_wp2
  go_ret
  exact ⟨ret_bool rfl, below_and (box_below _ _) kc⟩

theorem may_9 (n a l : Int) (x : Bool) (s : ByteArray) (w : World) :
    Calls Try.prog 80 #[.agg #[.int .i64 9, .bool x, .int .i64 n, .int .i64 a, .int .i64 l, .string s]] w fun e w' => e = .returned (.bool (mayO 9 n a l s)) ∧ Below w.heap.size w w' := by
  have h := Lib.hid (fun w => piece_any 9 n a l x s w)
  go_enter Try.func80, Try.ntmps80
  go_wp2_with fail
  refine (h.out _).mono ?_
  rintro e wc ⟨rfl, kc⟩
  go_wp2
  go_ret
  exact ⟨ret_bool rfl, below_and (box_below _ _) kc⟩

theorem may_5 (n a l : Int) (x : Bool) (s : ByteArray) (w : World) :
    Calls Try.prog 80 #[.agg #[.int .i64 5, .bool x, .int .i64 n, .int .i64 a, .int .i64 l, .string s]] w fun e w' => e = .returned (.bool (mayO 5 n a l s)) ∧ Below w.heap.size w w' := by
  have h2 := Lib.hid (fun w => passive_any 5 n a l x s w)
  have q := eqO 5 n a l 5 0 0 0 false false s s
  have M : Hid (mayO 5 n a l s = (decide (s.size ≤ 100) && (decide (n = 0) && (decide (a = 0) && decide (l = 0))))) := Lib.hid (by simp [mayO, nameP])
  by_cases hs : s.size ≤ 100
  · have H := Lib.hid hs
    have hi : (s.size : Int) ≤ 100 := by omega
    clear hs
    go_enter Try.func80, Try.ntmps80
    go_wp2_with fail
    obtain ⟨wb, eb, kb, zb, ob⟩ := ob_box w 5 n a l x s
    have gb := Lib.hid kb.drew
    have go := Lib.hid ob.drew
    obtain ⟨d0, d1, d2, d3, d4, d5⟩ := ob
    rw [eb]
    clear eb kb zb
    go_region_held3 (fun wx => wx.cell? ⟨w.heap.size, 0, none⟩ = some (.int .i64 5) ∧ wx.cell? ⟨w.heap.size, 1, none⟩ = some (.bool x) ∧ wx.cell? ⟨w.heap.size, 2, none⟩ = some (.int .i64 n) ∧ wx.cell? ⟨w.heap.size, 3, none⟩ = some (.int .i64 a) ∧ wx.cell? ⟨w.heap.size, 4, none⟩ = some (.int .i64 l) ∧ wx.cell? ⟨w.heap.size, 5, none⟩ = some (.string s))
      (first | exact go.out | go_keep)
      (first | (go_at_call 98; refine (h2.out _).mono ?_; rintro e wc ⟨rfl, kc⟩; replace gb := Lib.hid (below_and gb.out kc); replace go := Lib.hid (go.out.later kc)))
    go_wp2
    go_ret
    exact ⟨ret_bool (by rw [M.out]; simp [H.out]), gb.out⟩
  · have H := Lib.hid hs
    have hd : decide ((s.size : Int) ≤ 100) = false := by simp; omega
    clear hs
    go_enter Try.func80, Try.ntmps80
    go_wp2_with fail
    obtain ⟨wb, eb, kb, zb, ob⟩ := ob_box w 5 n a l x s
    have gb := Lib.hid kb
    obtain ⟨d0, d1, d2, d3, d4, d5⟩ := ob
    rw [eb]
    clear eb kb zb
    go_quiet (fail)
    go_wp2
    go_ret
    exact ⟨ret_bool (by rw [M.out]; simp [H.out]), below_and gb.out (below_drewN _ _)⟩

theorem may_no (k n a l : Int) (x : Bool) (s : ByteArray) (w : World) (h1 : k ≠ 1) (h2 : k ≠ 2) (h3 : k ≠ 3) (h4 : k ≠ 4) (h5 : k ≠ 5) (h6 : k ≠ 6) (h7 : k ≠ 7) (h8 : k ≠ 8) (h9 : k ≠ 9) (h10 : k ≠ 10) (h11 : k ≠ 11) :
    Calls Try.prog 80 #[.agg #[.int .i64 k, .bool x, .int .i64 n, .int .i64 a, .int .i64 l, .string s]] w fun e w' => e = .returned (.bool (mayO k n a l s)) ∧ Below w.heap.size w w' := by
  have M : Hid (mayO k n a l s = false) := Lib.hid (by simp [mayO, *])
  go_enter Try.func80, Try.ntmps80
  go_wp2
  go_ret
  exact ⟨ret_bool M.out.symm, box_below _ _⟩

theorem may_any (k n a l : Int) (x : Bool) (s : ByteArray) (w : World) :
    Calls Try.prog 80 #[.agg #[.int .i64 k, .bool x, .int .i64 n, .int .i64 a, .int .i64 l, .string s]] w fun e w' => e = .returned (.bool (mayO k n a l s)) ∧ Below w.heap.size w w' := by
  by_cases h1 : k = 1
  · subst h1; exact may_1 n a l x s w
  by_cases h2 : k = 2
  · subst h2; exact may_2 n a l x s w
  by_cases h3 : k = 3
  · subst h3; exact may_3 n a l x s w
  by_cases h4 : k = 4
  · subst h4; exact may_4 n a l x s w
  by_cases h5 : k = 5
  · subst h5; exact may_5 n a l x s w
  by_cases h6 : k = 6
  · subst h6; exact may_6 n a l x s w
  by_cases h7 : k = 7
  · subst h7; exact may_7 n a l x s w
  by_cases h8 : k = 8
  · subst h8; exact may_8 n a l x s w
  by_cases h9 : k = 9
  · subst h9; exact may_9 n a l x s w
  by_cases h10 : k = 10
  · subst h10; exact may_10 n a l x s w
  by_cases h11 : k = 11
  · subst h11; exact may_11 n a l x s w
  exact may_no k n a l x s w h1 h2 h3 h4 h5 h6 h7 h8 h9 h10 h11

/-- What scaled reckons, whatever N. -/
def sizeW (k n : Int) : Int := if k = 3 then IntKind.i64.wrap (n * 65536) else n
theorem sizeW_in {k n a l : Int} {s : ByteArray} (h : numO k n a l s = true) : sizeW k n = sizeO k n := by
  have := num_bd h
  unfold sizeW sizeO
  split
  · exact IntWalk.i64_in _ (by omega)
  · rfl

theorem numO_any (k n a l : Int) (x : Bool) (s : ByteArray) (w : World) :
    Calls Try.prog 100 #[.agg #[.int .i64 k, .bool x, .int .i64 n, .int .i64 a, .int .i64 l, .string s]] w fun e w' => e = .returned (.tuple #[.int .i64 (numV k n), .bool (numOk k n)]) ∧ Below w.heap.size w w' := by
  by_cases h3 : k = 3
  · subst h3
    have h := Lib.hid (fun w => from_any n w)
    go_enter Try.func100, Try.ntmps100
    go_wp2_with fail
    refine (h.out _).mono ?_
    rintro e wc ⟨rfl, rfl⟩
    go_wp2
    go_ret2
    exact ⟨ret_ok rfl rfl, box_below _ _⟩
  · by_cases h4 : k = 4
    · subst h4
      have h := Lib.hid (fun w => add_any n 0 w)
      go_enter Try.func100, Try.ntmps100
      go_wp2_with fail
      refine (h.out _).mono ?_
      rintro e wc ⟨rfl, rfl⟩
      go_wp2
      go_ret2
      exact ⟨ret_ok (by simp [numV, numOk, sizeO, okAdd, mayF]) (by simp [numOk, okAdd, mayF]), box_below _ _⟩
    · have M : Hid (numOk k n = false) := Lib.hid (by simp [numOk, *])
      go_enter Try.func100, Try.ntmps100
      go_wp2
      go_ret2
      exact ⟨ret_ok (by simp [numV, M.out, gate]) M.out.symm, box_below _ _⟩

end Go.Proofs.Ytlkbnldpecolbaa

/- Walks of obj: Same, Less. -/
namespace Go.Proofs.Ytlkbnldpecolbaa
open Go.RowKit
set_option linter.unusedVariables false

/-- Two objects, boxed one behind the other. -/
def Two (w : World) (b c : Nat) (k : Int) (x : Bool) (n a l : Int) (s : ByteArray) (k' : Int) (x' : Bool) (n' a' l' : Int) (s' : ByteArray) : Prop := ObAt w b k x n a l s ∧ ObAt w c k' x' n' a' l' s'
theorem Two.later {w wx : World} {b c : Nat} {k n a l k' n' a' l' : Int} {x x' : Bool} {s s' : ByteArray} (h : Two w b c k x n a l s k' x' n' a' l' s') (kc : Below w.heap.size w wx) : Two wx b c k x n a l s k' x' n' a' l' s' := ⟨h.1.later kc, h.2.later kc⟩
theorem Two.drew {w : World} {b c : Nat} {k n a l k' n' a' l' : Int} {x x' : Bool} {s s' : ByteArray} (h : Two w b c k x n a l s k' x' n' a' l' s') : Two w.drew b c k x n a l s k' x' n' a' l' s' := h
theorem Two.flat {w : World} {b c : Nat} {k n a l k' n' a' l' : Int} {x x' : Bool} {s s' : ByteArray} (h : Two w b c k x n a l s k' x' n' a' l' s') : w.cell? ⟨b, 0, none⟩ = some (.int .i64 k) ∧ w.cell? ⟨b, 1, none⟩ = some (.bool x) ∧ w.cell? ⟨b, 2, none⟩ = some (.int .i64 n) ∧ w.cell? ⟨b, 3, none⟩ = some (.int .i64 a) ∧ w.cell? ⟨b, 4, none⟩ = some (.int .i64 l) ∧ w.cell? ⟨b, 5, none⟩ = some (.string s) ∧ w.cell? ⟨c, 0, none⟩ = some (.int .i64 k') ∧ w.cell? ⟨c, 1, none⟩ = some (.bool x') ∧ w.cell? ⟨c, 2, none⟩ = some (.int .i64 n') ∧ w.cell? ⟨c, 3, none⟩ = some (.int .i64 a') ∧ w.cell? ⟨c, 4, none⟩ = some (.int .i64 l') ∧ w.cell? ⟨c, 5, none⟩ = some (.string s') := by
  obtain ⟨⟨c0, c1, c2, c3, c4, c5⟩, h2⟩ := h
  exact ⟨c0, c1, c2, c3, c4, c5, h2⟩
theorem two_box (w : World) (k n a l k' n' a' l' : Int) (x x' : Bool) (s s' : ByteArray) :
    ∃ wb, (w.alloc (.cells #[.int .i64 k, .bool x, .int .i64 n, .int .i64 a, .int .i64 l, .string s] 30)).alloc (.cells #[.int .i64 k', .bool x', .int .i64 n', .int .i64 a', .int .i64 l', .string s'] 30) = wb ∧ Below w.heap.size w wb ∧ Two wb w.heap.size (w.heap.size + 1) k x n a l s k' x' n' a' l' s' := by
  obtain ⟨wa, ea, ka, za, oa⟩ := ob_box w k n a l x s
  obtain ⟨wb, eb, kb, zb, ob⟩ := ob_box wa k' n' a' l' x' s'
  refine ⟨wb, by rw [ea, eb], below_and ka kb, oa.later kb, ?_⟩
  rw [← za]
  exact ob

end Go.Proofs.Ytlkbnldpecolbaa

/- Walks of the document's own answer for layer 3 (tympanref3). -/
namespace Go.Proofs.Ytlkbnldpecolbaa
open Go.RowKit
set_option linter.unusedVariables false

end Go.Proofs.Ytlkbnldpecolbaa

/- Walks of the document's own answer for layer 10 (tympanref10): in, May. -/
namespace Go.Proofs.Ytlkbnldpecolbaa
open Go.RowKit
set_option linter.unusedVariables false

theorem rin_any (v lo hi : Int) (w : World) : Calls Try.prog 101 #[.int .i64 v, .int .i64 lo, .int .i64 hi] w fun e w' => e = .returned (.bool (decide (lo ≤ v ∧ v ≤ hi))) ∧ w = w' := by
  by_cases h1 : lo ≤ v <;> by_cases h2 : v ≤ hi
  all_goals
    go_enter Try.func101, Try.ntmps101
    go_wp2
    go_ret
    exact ⟨ret_bool (by simp [h1, h2]), rfl⟩

theorem clamp_iff (n lo hi : Int) (h : lo ≤ hi) : n = min (max n lo) hi ↔ lo ≤ n ∧ n ≤ hi := by omega

theorem only_eq (k n a l lo hi m : Int) (x : Bool) (s : ByteArray) (h : n = m ↔ lo ≤ n ∧ n ≤ hi) : decide (k = k ∧ x = x ∧ n = m ∧ a = 0 ∧ l = 0 ∧ s = ⟨#[]⟩) = onlyP n a l s lo hi := by
  unfold onlyP
  apply decide_eq_decide.2
  constructor
  · rintro ⟨_, _, h1, h2, h3, h4⟩
    exact ⟨(h.1 h1).1, (h.1 h1).2, h2, h3, h4⟩
  · rintro ⟨h5, h6, h2, h3, h4⟩
    exact ⟨rfl, rfl, h.2 ⟨h5, h6⟩, h2, h3, h4⟩

/-- Two boxes. -/
theorem box2_below (w : World) (o o' : Obj) : Below w.heap.size w ((w.alloc o).alloc o') := below_and (box_below _ _) (box_below _ _)

theorem rmay_1 (n a l : Int) (x : Bool) (s : ByteArray) (w : World) :
    Calls Try.prog 92 #[.agg #[.int .i64 1, .bool x, .int .i64 n, .int .i64 a, .int .i64 l, .string s]] w fun e w' => e = .returned (.bool (mayO 1 n a l s)) ∧ Below w.heap.size w w' := by
  obtain ⟨z, hz⟩ : ∃ z, mayO 1 n a l s = z := ⟨_, rfl⟩
  have q : ∀ w, (binOp .eql 30 (.agg #[.int .i64 1, .bool x, .int .i64 n, .int .i64 a, .int .i64 l, .string s]) (.agg #[.int .i64 1, .bool x, .int .i64 0, .int .i64 0, .int .i64 0, .string ⟨#[]⟩])).run Try.prog w = .ok (.bool z) w := fun w => by
    rw [eqO, ← hz, only_eq 1 n a l 0 0 0 x s (by omega)]
    rfl
  rw [hz]
  clear hz
  go_enter Try.func92, Try.ntmps92
  go_wp2
  go_ret
  exact ⟨rfl, box2_below _ _ _⟩

theorem rmay_2 (n a l : Int) (x : Bool) (s : ByteArray) (w : World) :
    Calls Try.prog 92 #[.agg #[.int .i64 2, .bool x, .int .i64 n, .int .i64 a, .int .i64 l, .string s]] w fun e w' => e = .returned (.bool (mayO 2 n a l s)) ∧ Below w.heap.size w w' := by
  obtain ⟨z, hz⟩ : ∃ z, mayO 2 n a l s = z := ⟨_, rfl⟩
  have q : ∀ m, (n = m ↔ 0 ≤ n ∧ n ≤ 1) → ∀ w, (binOp .eql 30 (.agg #[.int .i64 2, .bool x, .int .i64 n, .int .i64 a, .int .i64 l, .string s]) (.agg #[.int .i64 2, .bool x, .int .i64 m, .int .i64 0, .int .i64 0, .string ⟨#[]⟩])).run Try.prog w = .ok (.bool z) w := fun m h w => by
    rw [eqO, ← hz, only_eq 2 n a l 0 1 m x s h]
    rfl
  rw [hz]
  clear hz
  have hc : n < 0 ∨ (0 ≤ n ∧ n ≤ 1) ∨ 1 < n := by omega
  rcases hc with h | ⟨h, h'⟩ | h
  · replace q := q 0 (by omega)
    go_enter Try.func92, Try.ntmps92
    go_wp2
    go_ret
    exact ⟨rfl, box2_below _ _ _⟩
  · replace q := q n (by omega)
    go_enter Try.func92, Try.ntmps92
    go_wp2
    go_ret
    exact ⟨rfl, box2_below _ _ _⟩
  · replace q := q 1 (by omega)
    go_enter Try.func92, Try.ntmps92
    go_wp2
    go_ret
    exact ⟨rfl, box2_below _ _ _⟩

theorem rmay_3 (n a l : Int) (x : Bool) (s : ByteArray) (w : World) :
    Calls Try.prog 92 #[.agg #[.int .i64 3, .bool x, .int .i64 n, .int .i64 a, .int .i64 l, .string s]] w fun e w' => e = .returned (.bool (mayO 3 n a l s)) ∧ Below w.heap.size w w' := by
  obtain ⟨z, hz⟩ : ∃ z, mayO 3 n a l s = z := ⟨_, rfl⟩
  have q : ∀ m, (n = m ↔ (-2147483647) ≤ n ∧ n ≤ 2147483647) → ∀ w, (binOp .eql 30 (.agg #[.int .i64 3, .bool x, .int .i64 n, .int .i64 a, .int .i64 l, .string s]) (.agg #[.int .i64 3, .bool x, .int .i64 m, .int .i64 0, .int .i64 0, .string ⟨#[]⟩])).run Try.prog w = .ok (.bool z) w := fun m h w => by
    rw [eqO, ← hz, only_eq 3 n a l (-2147483647) 2147483647 m x s h]
    rfl
  rw [hz]
  clear hz
  have hc : n < (-2147483647) ∨ ((-2147483647) ≤ n ∧ n ≤ 2147483647) ∨ 2147483647 < n := by omega
  rcases hc with h | ⟨h, h'⟩ | h
  · replace q := q (-2147483647) (by omega)
    go_enter Try.func92, Try.ntmps92
    go_wp2
    go_ret
    exact ⟨rfl, box2_below _ _ _⟩
  · replace q := q n (by omega)
    go_enter Try.func92, Try.ntmps92
    go_wp2
    go_ret
    exact ⟨rfl, box2_below _ _ _⟩
  · replace q := q 2147483647 (by omega)
    go_enter Try.func92, Try.ntmps92
    go_wp2
    go_ret
    exact ⟨rfl, box2_below _ _ _⟩

theorem rmay_4 (n a l : Int) (x : Bool) (s : ByteArray) (w : World) :
    Calls Try.prog 92 #[.agg #[.int .i64 4, .bool x, .int .i64 n, .int .i64 a, .int .i64 l, .string s]] w fun e w' => e = .returned (.bool (mayO 4 n a l s)) ∧ Below w.heap.size w w' := by
  obtain ⟨z, hz⟩ : ∃ z, mayO 4 n a l s = z := ⟨_, rfl⟩
  have q : ∀ m, (n = m ↔ (-1073741823) ≤ n ∧ n ≤ 1073741823) → ∀ w, (binOp .eql 30 (.agg #[.int .i64 4, .bool x, .int .i64 n, .int .i64 a, .int .i64 l, .string s]) (.agg #[.int .i64 4, .bool x, .int .i64 m, .int .i64 0, .int .i64 0, .string ⟨#[]⟩])).run Try.prog w = .ok (.bool z) w := fun m h w => by
    rw [eqO, ← hz, only_eq 4 n a l (-1073741823) 1073741823 m x s h]
    rfl
  rw [hz]
  clear hz
  have hc : n < (-1073741823) ∨ ((-1073741823) ≤ n ∧ n ≤ 1073741823) ∨ 1073741823 < n := by omega
  rcases hc with h | ⟨h, h'⟩ | h
  · replace q := q (-1073741823) (by omega)
    go_enter Try.func92, Try.ntmps92
    go_wp2
    go_ret
    exact ⟨rfl, box2_below _ _ _⟩
  · replace q := q n (by omega)
    go_enter Try.func92, Try.ntmps92
    go_wp2
    go_ret
    exact ⟨rfl, box2_below _ _ _⟩
  · replace q := q 1073741823 (by omega)
    go_enter Try.func92, Try.ntmps92
    go_wp2
    go_ret
    exact ⟨rfl, box2_below _ _ _⟩

theorem rmay_6 (n a l : Int) (x : Bool) (s : ByteArray) (w : World) :
    Calls Try.prog 92 #[.agg #[.int .i64 6, .bool x, .int .i64 n, .int .i64 a, .int .i64 l, .string s]] w fun e w' => e = .returned (.bool (mayO 6 n a l s)) ∧ Below w.heap.size w w' := by
  obtain ⟨z, hz⟩ : ∃ z, mayO 6 n a l s = z := ⟨_, rfl⟩
  have q : ∀ w, (binOp .eql 30 (.agg #[.int .i64 6, .bool x, .int .i64 n, .int .i64 a, .int .i64 l, .string s]) (.agg #[.int .i64 6, .bool x, .int .i64 0, .int .i64 0, .int .i64 0, .string ⟨#[]⟩])).run Try.prog w = .ok (.bool z) w := fun w => by
    rw [eqO, ← hz, only_eq 6 n a l 0 0 0 x s (by omega)]
    rfl
  rw [hz]
  clear hz
  go_enter Try.func92, Try.ntmps92
  go_wp2
  go_ret
  exact ⟨rfl, box2_below _ _ _⟩

theorem rmay_7 (n a l : Int) (x : Bool) (s : ByteArray) (w : World) :
    Calls Try.prog 92 #[.agg #[.int .i64 7, .bool x, .int .i64 n, .int .i64 a, .int .i64 l, .string s]] w fun e w' => e = .returned (.bool (mayO 7 n a l s)) ∧ Below w.heap.size w w' := by
  obtain ⟨z, hz⟩ : ∃ z, mayO 7 n a l s = z := ⟨_, rfl⟩
  have q : ∀ m, (n = m ↔ 1 ≤ n ∧ n ≤ 200) → ∀ w, (binOp .eql 30 (.agg #[.int .i64 7, .bool x, .int .i64 n, .int .i64 a, .int .i64 l, .string s]) (.agg #[.int .i64 7, .bool x, .int .i64 m, .int .i64 0, .int .i64 0, .string ⟨#[]⟩])).run Try.prog w = .ok (.bool z) w := fun m h w => by
    rw [eqO, ← hz, only_eq 7 n a l 1 200 m x s h]
    rfl
  rw [hz]
  clear hz
  have hc : n < 1 ∨ (1 ≤ n ∧ n ≤ 200) ∨ 200 < n := by omega
  rcases hc with h | ⟨h, h'⟩ | h
  · replace q := q 1 (by omega)
    go_enter Try.func92, Try.ntmps92
    go_wp2
    go_ret
    exact ⟨rfl, box2_below _ _ _⟩
  · replace q := q n (by omega)
    go_enter Try.func92, Try.ntmps92
    go_wp2
    go_ret
    exact ⟨rfl, box2_below _ _ _⟩
  · replace q := q 200 (by omega)
    go_enter Try.func92, Try.ntmps92
    go_wp2
    go_ret
    exact ⟨rfl, box2_below _ _ _⟩

theorem rmay_10 (n a l : Int) (x : Bool) (s : ByteArray) (w : World) :
    Calls Try.prog 92 #[.agg #[.int .i64 10, .bool x, .int .i64 n, .int .i64 a, .int .i64 l, .string s]] w fun e w' => e = .returned (.bool (mayO 10 n a l s)) ∧ Below w.heap.size w w' := by
  obtain ⟨z, hz⟩ : ∃ z, mayO 10 n a l s = z := ⟨_, rfl⟩
  have q : ∀ m, (n = m ↔ 0 ≤ n ∧ n ≤ 40000) → ∀ w, (binOp .eql 30 (.agg #[.int .i64 10, .bool x, .int .i64 n, .int .i64 a, .int .i64 l, .string s]) (.agg #[.int .i64 10, .bool x, .int .i64 m, .int .i64 0, .int .i64 0, .string ⟨#[]⟩])).run Try.prog w = .ok (.bool z) w := fun m h w => by
    rw [eqO, ← hz, only_eq 10 n a l 0 40000 m x s h]
    rfl
  rw [hz]
  clear hz
  have hc : n < 0 ∨ (0 ≤ n ∧ n ≤ 40000) ∨ 40000 < n := by omega
  rcases hc with h | ⟨h, h'⟩ | h
  · replace q := q 0 (by omega)
    go_enter Try.func92, Try.ntmps92
    go_wp2
    go_ret
    exact ⟨rfl, box2_below _ _ _⟩
  · replace q := q n (by omega)
    go_enter Try.func92, Try.ntmps92
    go_wp2
    go_ret
    exact ⟨rfl, box2_below _ _ _⟩
  · replace q := q 40000 (by omega)
    go_enter Try.func92, Try.ntmps92
    go_wp2
    go_ret
    exact ⟨rfl, box2_below _ _ _⟩

theorem rmay_11 (n a l : Int) (x : Bool) (s : ByteArray) (w : World) :
    Calls Try.prog 92 #[.agg #[.int .i64 11, .bool x, .int .i64 n, .int .i64 a, .int .i64 l, .string s]] w fun e w' => e = .returned (.bool (mayO 11 n a l s)) ∧ Below w.heap.size w w' := by
  obtain ⟨z, hz⟩ : ∃ z, mayO 11 n a l s = z := ⟨_, rfl⟩
  have q : ∀ m, (n = m ↔ 1 ≤ n ∧ n ≤ 2147483647) → ∀ w, (binOp .eql 30 (.agg #[.int .i64 11, .bool x, .int .i64 n, .int .i64 a, .int .i64 l, .string s]) (.agg #[.int .i64 11, .bool x, .int .i64 m, .int .i64 0, .int .i64 0, .string ⟨#[]⟩])).run Try.prog w = .ok (.bool z) w := fun m h w => by
    rw [eqO, ← hz, only_eq 11 n a l 1 2147483647 m x s h]
    rfl
  rw [hz]
  clear hz
  have hc : n < 1 ∨ (1 ≤ n ∧ n ≤ 2147483647) ∨ 2147483647 < n := by omega
  rcases hc with h | ⟨h, h'⟩ | h
  · replace q := q 1 (by omega)
    go_enter Try.func92, Try.ntmps92
    go_wp2
    go_ret
    exact ⟨rfl, box2_below _ _ _⟩
  · replace q := q n (by omega)
    go_enter Try.func92, Try.ntmps92
    go_wp2
    go_ret
    exact ⟨rfl, box2_below _ _ _⟩
  · replace q := q 2147483647 (by omega)
    go_enter Try.func92, Try.ntmps92
    go_wp2
    go_ret
    exact ⟨rfl, box2_below _ _ _⟩

end Go.Proofs.Ytlkbnldpecolbaa
