/- Walks of obj: May, isNumber, scaled, Num, Type. -/
import Derived.Test.YtmlkmgeddkpgiaaO1
import Derived.Test.YtmlkmgeddkpgiaaF1
namespace Go.Proofs.Ytmlkmgeddkpgiaa
open Go.RowKit
set_option linter.unusedVariables false

theorem may_1 (n a l : Int) (x : Bool) (s : ByteArray) (w : World) :
    Calls Try.prog 109 #[.agg #[.int .i64 1, .bool x, .int .i64 n, .int .i64 a, .int .i64 l, .string s]] w fun e w' => e = .returned (.bool (mayO 1 n a l s)) ∧ Below w.heap.size w w' := by
  have h := Lib.hid (fun w => only_any 1 n a l 0 0 x s w)
  go_enter Try.func109, Try.ntmps109
  go_wp2_with fail
  refine (h.out _).mono ?_
  rintro e wc ⟨rfl, kc⟩
  go_wp2
  go_ret
  exact ⟨ret_bool rfl, below_and (box_below _ _) kc⟩

theorem may_2 (n a l : Int) (x : Bool) (s : ByteArray) (w : World) :
    Calls Try.prog 109 #[.agg #[.int .i64 2, .bool x, .int .i64 n, .int .i64 a, .int .i64 l, .string s]] w fun e w' => e = .returned (.bool (mayO 2 n a l s)) ∧ Below w.heap.size w w' := by
  have h := Lib.hid (fun w => only_any 2 n a l 0 1 x s w)
  go_enter Try.func109, Try.ntmps109
  go_wp2_with fail
  refine (h.out _).mono ?_
  rintro e wc ⟨rfl, kc⟩
  go_wp2
  go_ret
  exact ⟨ret_bool rfl, below_and (box_below _ _) kc⟩

theorem may_3 (n a l : Int) (x : Bool) (s : ByteArray) (w : World) :
    Calls Try.prog 109 #[.agg #[.int .i64 3, .bool x, .int .i64 n, .int .i64 a, .int .i64 l, .string s]] w fun e w' => e = .returned (.bool (mayO 3 n a l s)) ∧ Below w.heap.size w w' := by
  have h := Lib.hid (fun w => only_any 3 n a l (-2147483647) 2147483647 x s w)
  go_enter Try.func109, Try.ntmps109
  go_wp2_with fail
  refine (h.out _).mono ?_
  rintro e wc ⟨rfl, kc⟩
  go_wp2
  go_ret
  exact ⟨ret_bool rfl, below_and (box_below _ _) kc⟩

theorem may_4 (n a l : Int) (x : Bool) (s : ByteArray) (w : World) :
    Calls Try.prog 109 #[.agg #[.int .i64 4, .bool x, .int .i64 n, .int .i64 a, .int .i64 l, .string s]] w fun e w' => e = .returned (.bool (mayO 4 n a l s)) ∧ Below w.heap.size w w' := by
  have h := Lib.hid (fun w => only_any 4 n a l (-1073741823) 1073741823 x s w)
  go_enter Try.func109, Try.ntmps109
  go_wp2_with fail
  refine (h.out _).mono ?_
  rintro e wc ⟨rfl, kc⟩
  go_wp2
  go_ret
  exact ⟨ret_bool rfl, below_and (box_below _ _) kc⟩

theorem may_6 (n a l : Int) (x : Bool) (s : ByteArray) (w : World) :
    Calls Try.prog 109 #[.agg #[.int .i64 6, .bool x, .int .i64 n, .int .i64 a, .int .i64 l, .string s]] w fun e w' => e = .returned (.bool (mayO 6 n a l s)) ∧ Below w.heap.size w w' := by
  have h := Lib.hid (fun w => only_any 6 n a l 0 0 x s w)
  go_enter Try.func109, Try.ntmps109
  go_wp2_with fail
  refine (h.out _).mono ?_
  rintro e wc ⟨rfl, kc⟩
  go_wp2
  go_ret
  exact ⟨ret_bool rfl, below_and (box_below _ _) kc⟩

theorem may_7 (n a l : Int) (x : Bool) (s : ByteArray) (w : World) :
    Calls Try.prog 109 #[.agg #[.int .i64 7, .bool x, .int .i64 n, .int .i64 a, .int .i64 l, .string s]] w fun e w' => e = .returned (.bool (mayO 7 n a l s)) ∧ Below w.heap.size w w' := by
  have h := Lib.hid (fun w => only_any 7 n a l 1 200 x s w)
  go_enter Try.func109, Try.ntmps109
  go_wp2_with fail
  refine (h.out _).mono ?_
  rintro e wc ⟨rfl, kc⟩
  go_wp2
  go_ret
  exact ⟨ret_bool rfl, below_and (box_below _ _) kc⟩

theorem may_10 (n a l : Int) (x : Bool) (s : ByteArray) (w : World) :
    Calls Try.prog 109 #[.agg #[.int .i64 10, .bool x, .int .i64 n, .int .i64 a, .int .i64 l, .string s]] w fun e w' => e = .returned (.bool (mayO 10 n a l s)) ∧ Below w.heap.size w w' := by
  have h := Lib.hid (fun w => only_any 10 n a l 0 40000 x s w)
  go_enter Try.func109, Try.ntmps109
  go_wp2_with fail
  refine (h.out _).mono ?_
  rintro e wc ⟨rfl, kc⟩
  go_wp2
  go_ret
  exact ⟨ret_bool rfl, below_and (box_below _ _) kc⟩

theorem may_11 (n a l : Int) (x : Bool) (s : ByteArray) (w : World) :
    Calls Try.prog 109 #[.agg #[.int .i64 11, .bool x, .int .i64 n, .int .i64 a, .int .i64 l, .string s]] w fun e w' => e = .returned (.bool (mayO 11 n a l s)) ∧ Below w.heap.size w w' := by
  have h := Lib.hid (fun w => only_any 11 n a l 1 2147483647 x s w)
  go_enter Try.func109, Try.ntmps109
  go_wp2_with fail
  refine (h.out _).mono ?_
  rintro e wc ⟨rfl, kc⟩
  go_wp2
  go_ret
  exact ⟨ret_bool rfl, below_and (box_below _ _) kc⟩

theorem may_8 (n a l : Int) (x : Bool) (s : ByteArray) (w : World) :
    Calls Try.prog 109 #[.agg #[.int .i64 8, .bool x, .int .i64 n, .int .i64 a, .int .i64 l, .string s]] w fun e w' => e = .returned (.bool (mayO 8 n a l s)) ∧ Below w.heap.size w w' := by
  have h := Lib.hid (fun w => piece_any 8 n a l x s w)
  go_enter Try.func109, Try.ntmps109
  go_wp2_with fail
  refine (h.out _).mono ?_
  rintro e wc ⟨rfl, kc⟩
  go_wp2
  go_ret
  exact ⟨ret_bool rfl, below_and (box_below _ _) kc⟩

theorem may_9 (n a l : Int) (x : Bool) (s : ByteArray) (w : World) :
    Calls Try.prog 109 #[.agg #[.int .i64 9, .bool x, .int .i64 n, .int .i64 a, .int .i64 l, .string s]] w fun e w' => e = .returned (.bool (mayO 9 n a l s)) ∧ Below w.heap.size w w' := by
  have h := Lib.hid (fun w => piece_any 9 n a l x s w)
  go_enter Try.func109, Try.ntmps109
  go_wp2_with fail
  refine (h.out _).mono ?_
  rintro e wc ⟨rfl, kc⟩
  go_wp2
  go_ret
  exact ⟨ret_bool rfl, below_and (box_below _ _) kc⟩

theorem may_5 (n a l : Int) (x : Bool) (s : ByteArray) (w : World) :
    Calls Try.prog 109 #[.agg #[.int .i64 5, .bool x, .int .i64 n, .int .i64 a, .int .i64 l, .string s]] w fun e w' => e = .returned (.bool (mayO 5 n a l s)) ∧ Below w.heap.size w w' := by
  have h2 := Lib.hid (fun w => passive_any 5 n a l x s w)
  have q := eqO 5 n a l 5 0 0 0 false false s s
  have M : Hid (mayO 5 n a l s = (decide (s.size ≤ 100) && (decide (n = 0) && (decide (a = 0) && decide (l = 0))))) := Lib.hid (by simp [mayO, nameP])
  by_cases hs : s.size ≤ 100
  · have H := Lib.hid hs
    have hi : (s.size : Int) ≤ 100 := by omega
    clear hs
    go_enter Try.func109, Try.ntmps109
    go_wp2_with fail
    obtain ⟨wb, eb, kb, zb, ob⟩ := ob_box w 5 n a l x s
    have gb := Lib.hid kb.drew
    have go := Lib.hid ob.drew
    obtain ⟨d0, d1, d2, d3, d4, d5⟩ := ob
    rw [eb]
    clear eb kb zb
    go_region_held3 (fun wx => wx.cell? ⟨w.heap.size, 0, none⟩ = some (.int .i64 5) ∧ wx.cell? ⟨w.heap.size, 1, none⟩ = some (.bool x) ∧ wx.cell? ⟨w.heap.size, 2, none⟩ = some (.int .i64 n) ∧ wx.cell? ⟨w.heap.size, 3, none⟩ = some (.int .i64 a) ∧ wx.cell? ⟨w.heap.size, 4, none⟩ = some (.int .i64 l) ∧ wx.cell? ⟨w.heap.size, 5, none⟩ = some (.string s))
      (first | exact go.out | go_keep)
      (first | (go_at_call 121; refine (h2.out _).mono ?_; rintro e wc ⟨rfl, kc⟩; replace gb := Lib.hid (below_and gb.out kc); replace go := Lib.hid (go.out.later kc)))
    go_wp2
    go_ret
    exact ⟨ret_bool (by rw [M.out]; simp [H.out]), gb.out⟩
  · have H := Lib.hid hs
    have hd : decide ((s.size : Int) ≤ 100) = false := by simp; omega
    clear hs
    go_enter Try.func109, Try.ntmps109
    go_wp2_with fail
    obtain ⟨wb, eb, kb, zb, ob⟩ := ob_box w 5 n a l x s
    have gb := Lib.hid kb
    obtain ⟨d0, d1, d2, d3, d4, d5⟩ := ob
    rw [eb]
    clear eb kb zb
    go_quiet (fail)
    go_wp2
    go_ret
    exact ⟨ret_bool (by rw [M.out]; simp [H.out]), below_and gb.out (below_drewN _ _)⟩

theorem may_no (k n a l : Int) (x : Bool) (s : ByteArray) (w : World) (h1 : k ≠ 1) (h2 : k ≠ 2) (h3 : k ≠ 3) (h4 : k ≠ 4) (h5 : k ≠ 5) (h6 : k ≠ 6) (h7 : k ≠ 7) (h8 : k ≠ 8) (h9 : k ≠ 9) (h10 : k ≠ 10) (h11 : k ≠ 11) :
    Calls Try.prog 109 #[.agg #[.int .i64 k, .bool x, .int .i64 n, .int .i64 a, .int .i64 l, .string s]] w fun e w' => e = .returned (.bool (mayO k n a l s)) ∧ Below w.heap.size w w' := by
  have M : Hid (mayO k n a l s = false) := Lib.hid (by simp [mayO, *])
  go_enter Try.func109, Try.ntmps109
  go_wp2
  go_ret
  exact ⟨ret_bool M.out.symm, box_below _ _⟩

theorem may_any (k n a l : Int) (x : Bool) (s : ByteArray) (w : World) :
    Calls Try.prog 109 #[.agg #[.int .i64 k, .bool x, .int .i64 n, .int .i64 a, .int .i64 l, .string s]] w fun e w' => e = .returned (.bool (mayO k n a l s)) ∧ Below w.heap.size w w' := by
  by_cases h1 : k = 1
  · subst h1; exact may_1 n a l x s w
  by_cases h2 : k = 2
  · subst h2; exact may_2 n a l x s w
  by_cases h3 : k = 3
  · subst h3; exact may_3 n a l x s w
  by_cases h4 : k = 4
  · subst h4; exact may_4 n a l x s w
  by_cases h5 : k = 5
  · subst h5; exact may_5 n a l x s w
  by_cases h6 : k = 6
  · subst h6; exact may_6 n a l x s w
  by_cases h7 : k = 7
  · subst h7; exact may_7 n a l x s w
  by_cases h8 : k = 8
  · subst h8; exact may_8 n a l x s w
  by_cases h9 : k = 9
  · subst h9; exact may_9 n a l x s w
  by_cases h10 : k = 10
  · subst h10; exact may_10 n a l x s w
  by_cases h11 : k = 11
  · subst h11; exact may_11 n a l x s w
  exact may_no k n a l x s w h1 h2 h3 h4 h5 h6 h7 h8 h9 h10 h11

theorem isnum_any (k n a l : Int) (x : Bool) (s : ByteArray) (w : World) :
    Calls Try.prog 127 #[.agg #[.int .i64 k, .bool x, .int .i64 n, .int .i64 a, .int .i64 l, .string s]] w fun e w' => e = .returned (.bool (numO k n a l s)) ∧ Below w.heap.size w w' := by
  by_cases h3 : k = 3
  · subst h3
    have h := Lib.hid (fun w => may_any 3 n a l x s w)
    go_enter Try.func127, Try.ntmps127
    go_wp2_with fail
    refine (h.out _).mono ?_
    rintro e wc ⟨rfl, kc⟩
    go_wp2
    go_ret
    exact ⟨ret_bool (by simp [numO]), below_and (box_below _ _) kc⟩
  · by_cases h4 : k = 4
    · subst h4
      have h := Lib.hid (fun w => may_any 4 n a l x s w)
      go_enter Try.func127, Try.ntmps127
      go_wp2_with fail
      refine (h.out _).mono ?_
      rintro e wc ⟨rfl, kc⟩
      go_wp2
      go_ret
      exact ⟨ret_bool (by simp [numO]), below_and (box_below _ _) kc⟩
    · have M : Hid (numO k n a l s = false) := Lib.hid (by simp [numO, *])
      go_enter Try.func127, Try.ntmps127
      go_wp2
      go_ret
      exact ⟨ret_bool M.out.symm, box_below _ _⟩

/-- What scaled reckons, whatever N. -/
def sizeW (k n : Int) : Int := if k = 3 then IntKind.i64.wrap (n * 65536) else n
theorem sizeW_in {k n a l : Int} {s : ByteArray} (h : numO k n a l s = true) : sizeW k n = sizeO k n := by
  have := num_bd h
  unfold sizeW sizeO
  split
  · exact IntWalk.i64_in _ (by omega)
  · rfl

theorem scaled_any (k n a l : Int) (x : Bool) (s : ByteArray) (w : World) :
    Calls Try.prog 128 #[.agg #[.int .i64 k, .bool x, .int .i64 n, .int .i64 a, .int .i64 l, .string s]] w fun e w' => e = .returned (.int .i64 (sizeW k n)) ∧ Below w.heap.size w w' := by
  by_cases h3 : k = 3
  · subst h3
    go_enter Try.func128, Try.ntmps128
    go_wp2
    go_ret
    exact ⟨ret_int (by simp [sizeW, IntWalk.i64_left]), box_below _ _⟩
  · have M : Hid (sizeW k n = n) := Lib.hid (by simp [sizeW, *])
    go_enter Try.func128, Try.ntmps128
    go_wp2
    go_ret
    exact ⟨ret_int M.out.symm, box_below _ _⟩

theorem numO_any (k n a l : Int) (x : Bool) (s : ByteArray) (w : World) :
    Calls Try.prog 124 #[.agg #[.int .i64 k, .bool x, .int .i64 n, .int .i64 a, .int .i64 l, .string s]] w fun e w' => e = .returned (.tuple #[.int .i64 (numV k n), .bool (numOk k n)]) ∧ Below w.heap.size w w' := by
  by_cases h3 : k = 3
  · subst h3
    have h := Lib.hid (fun w => from_any n w)
    go_enter Try.func124, Try.ntmps124
    go_wp2_with fail
    refine (h.out _).mono ?_
    rintro e wc ⟨rfl, rfl⟩
    go_wp2
    go_ret2
    exact ⟨ret_ok rfl rfl, box_below _ _⟩
  · by_cases h4 : k = 4
    · subst h4
      have h := Lib.hid (fun w => add_any n 0 w)
      go_enter Try.func124, Try.ntmps124
      go_wp2_with fail
      refine (h.out _).mono ?_
      rintro e wc ⟨rfl, rfl⟩
      go_wp2
      go_ret2
      exact ⟨ret_ok (by simp [numV, numOk, sizeO, okAdd, mayF]) (by simp [numOk, okAdd, mayF]), box_below _ _⟩
    · have M : Hid (numOk k n = false) := Lib.hid (by simp [numOk, *])
      go_enter Try.func124, Try.ntmps124
      go_wp2
      go_ret2
      exact ⟨ret_ok (by simp [numV, M.out, gate]) M.out.symm, box_below _ _⟩

end Go.Proofs.Ytmlkmgeddkpgiaa
