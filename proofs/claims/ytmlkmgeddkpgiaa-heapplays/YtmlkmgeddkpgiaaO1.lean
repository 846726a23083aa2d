/- Walks of obj: passive, within, onlyN, isPiece. -/
import Derived.Test.YtmlkmgeddkpgiaaM12
import Derived.Test.YtmlkmgeddkpgiaaB0
import Derived.Laws.StructEq
import Derived.Laws.Rows
namespace Go.Proofs.Ytmlkmgeddkpgiaa
open Go.RowKit
set_option linter.unusedVariables false

theorem toL_iff (s t : ByteArray) : s.toList = t.toList ↔ s = t := by
  rw [ByteArray.toList_eq, ByteArray.toList_eq]
  constructor
  · intro h
    exact ByteArray.ext (Array.toList_inj.1 h)
  · intro h
    rw [h]

theorem empty_iff (s : ByteArray) : s.toList.isEmpty = decide (s = ⟨#[]⟩) := by
  have h := toL_iff s ⟨#[]⟩
  have e : (⟨#[]⟩ : ByteArray).toList = [] := by rw [ByteArray.toList_eq]
  rw [e] at h
  cases hs : s.toList with
  | nil => simp [← h, hs]
  | cons c cs => simp [← h, hs]

theorem eqO (k n a l k' n' a' l' : Int) (x x' : Bool) (s s' : ByteArray) (w : World) :
    (binOp .eql 24 (.agg #[.int .i64 k, .bool x, .int .i64 n, .int .i64 a, .int .i64 l, .string s]) (.agg #[.int .i64 k', .bool x', .int .i64 n', .int .i64 a', .int .i64 l', .string s'])).run Try.prog w = .ok (.bool (decide (k = k' ∧ x = x' ∧ n = n' ∧ a = a' ∧ l = l' ∧ s = s'))) w := by
  have u3 := Try.underlying3
  have u4 := Try.underlying4
  have u9 := Try.underlying9
  have a3 := Try.isAgg3
  have z3 := Try.sizeOf3
  have a4 := Try.isAgg4
  have z4 := Try.sizeOf4
  have a9 := Try.isAgg9
  have z9 := Try.sizeOf9
  have hS : Try.prog.underlying 24 = some (.struct (Try.prog.fieldsOf 24)) := by kernel_rfl
  have hp : Try.prog.stoodInHeld 24 = false := by kernel_rfl
  rw [run_eql_struct, show (10000 : Nat) = 9999 + 1 from rfl, run_equalIn_agg w 9999 24 _ _ hS hp]
  simp only [Program.fieldsOf, Try.underlying24]
  go_simp
  by_cases h1 : k = k' <;> by_cases h2 : x = x' <;> by_cases h3 : n = n' <;> by_cases h4 : a = a' <;> by_cases h5 : l = l' <;> by_cases h6 : s = s' <;> simp [h1, h2, h3, h4, h5, h6, toL_iff]

theorem passive_any (k n a l : Int) (x : Bool) (s : ByteArray) (w : World) :
    Calls Try.prog 121 #[.agg #[.int .i64 k, .bool x, .int .i64 n, .int .i64 a, .int .i64 l, .string s]] w fun e w' => e = .returned (.agg #[.int .i64 k, .bool false, .int .i64 n, .int .i64 a, .int .i64 l, .string s]) ∧ Below w.heap.size w w' := by
  go_enter Try.func121, Try.ntmps121
  go_wp2
  (try simp only [Exit.inBlock, Exit.then])
  refine bodyPost_ret (results_cell_row rfl _ _ _ _ _ _ _ rfl (heap_alloc2_new _ _ _) Try.underlying24 rfl (by kernel_rfl)) rfl ⟨rfl, ?_⟩
  repeat' (first | exact Below.refl _ _ | refine Below.drew ?_ | refine Below.alloc ?_ (by simp <;> omega) _)

theorem within_any (v lo hi : Int) (w : World) : Calls Try.prog 129 #[.int .i64 v, .int .i64 lo, .int .i64 hi] w fun e w' => e = .returned (.bool (decide (lo ≤ v ∧ v ≤ hi))) ∧ w = w' := by
  by_cases h1 : lo ≤ v <;> by_cases h2 : v ≤ hi
  all_goals
    have H := Lib.hid (rfl : decide (lo ≤ v ∧ v ≤ hi) = decide (lo ≤ v ∧ v ≤ hi))
    go_enter Try.func129, Try.ntmps129
    go_wp2
    go_ret
    exact ⟨ret_bool (by simp [h1, h2]), rfl⟩

/-- The object lies in block b. -/
def ObAt (w : World) (b : Nat) (k : Int) (x : Bool) (n a l : Int) (s : ByteArray) : Prop :=
  w.cell? ⟨b, 0, none⟩ = some (.int .i64 k) ∧ w.cell? ⟨b, 1, none⟩ = some (.bool x) ∧ w.cell? ⟨b, 2, none⟩ = some (.int .i64 n) ∧ w.cell? ⟨b, 3, none⟩ = some (.int .i64 a) ∧ w.cell? ⟨b, 4, none⟩ = some (.int .i64 l) ∧ w.cell? ⟨b, 5, none⟩ = some (.string s)
theorem ObAt.later {w wx : World} {b : Nat} {k n a l : Int} {x : Bool} {s : ByteArray} (h : ObAt w b k x n a l s) (kc : Below w.heap.size w wx) : ObAt wx b k x n a l s := by
  obtain ⟨c0, c1, c2, c3, c4, c5⟩ := h
  exact ⟨cell_later kc c0, cell_later kc c1, cell_later kc c2, cell_later kc c3, cell_later kc c4, cell_later kc c5⟩
theorem ObAt.drew {w : World} {b : Nat} {k n a l : Int} {x : Bool} {s : ByteArray} (h : ObAt w b k x n a l s) : ObAt w.drew b k x n a l s := h
/-- Boxed. -/
theorem ob_box (w : World) (k n a l : Int) (x : Bool) (s : ByteArray) : ∃ wb, w.alloc (.cells #[.int .i64 k, .bool x, .int .i64 n, .int .i64 a, .int .i64 l, .string s] 24) = wb ∧ Below w.heap.size w wb ∧ wb.heap.size = w.heap.size + 1 ∧ ObAt wb w.heap.size k x n a l s :=
  ⟨_, rfl, (Below.refl _ w).alloc (Nat.le_refl _) _, by simp, by simp [ObAt]⟩
theorem box_below (w : World) (o : Obj) : Below w.heap.size w (w.alloc o) := (Below.refl _ w).alloc (Nat.le_refl _) _
/-- Two steps in a row. -/
theorem below_and {w w1 w2 : World} (h : Below w.heap.size w w1) (k : Below w1.heap.size w1 w2) : Below w.heap.size w w2 := h.trans (k.mono h.size)

theorem only_part (k n a l lo hi : Int) (x p : Bool) (s : ByteArray) (w : World) (h1 : Hid (∀ w, Calls Try.prog 129 #[.int .i64 n, .int .i64 lo, .int .i64 hi] w fun e w' => e = .returned (.bool p) ∧ w = w')) :
    Calls Try.prog 120 #[.agg #[.int .i64 k, .bool x, .int .i64 n, .int .i64 a, .int .i64 l, .string s], .int .i64 lo, .int .i64 hi] w fun e w' => e = .returned (.bool (p && decide (a = 0 ∧ l = 0 ∧ s = ⟨#[]⟩))) ∧ Below w.heap.size w w' := by
  have h2 := Lib.hid (fun w => passive_any k n a l x s w)
  have q := eqO k n a l k n 0 0 false false s ⟨#[]⟩
  cases p
  · go_enter Try.func120, Try.ntmps120
    go_wp2_with fail
    obtain ⟨wb, eb, kb, zb, ob⟩ := ob_box w k n a l x s
    have go' := Lib.hid kb
    have go := Lib.hid ob.drew
    obtain ⟨d0, d1, d2, d3, d4, d5⟩ := ob
    rw [eb]
    clear eb kb zb
    go_quiet (first | (go_at_call 129; exact Calls.quiet_of_same ((h1.out _).mono fun _ _ h => ⟨h.1, h.2.symm⟩)))
    go_wp2
    go_ret
    exact ⟨ret_bool (by simp), below_and (go'.out) (below_drewN _ _)⟩
  · go_enter Try.func120, Try.ntmps120
    go_wp2_with fail
    obtain ⟨wb, eb, kb, zb, ob⟩ := ob_box w k n a l x s
    have gb := Lib.hid kb.drew
    have go := Lib.hid ob.drew
    obtain ⟨d0, d1, d2, d3, d4, d5⟩ := ob
    rw [eb]
    clear eb kb zb
    go_region_held3 (fun wx => wx.cell? ⟨w.heap.size, 0, none⟩ = some (.int .i64 k) ∧ wx.cell? ⟨w.heap.size, 1, none⟩ = some (.bool x) ∧ wx.cell? ⟨w.heap.size, 2, none⟩ = some (.int .i64 n) ∧ wx.cell? ⟨w.heap.size, 3, none⟩ = some (.int .i64 a) ∧ wx.cell? ⟨w.heap.size, 4, none⟩ = some (.int .i64 l) ∧ wx.cell? ⟨w.heap.size, 5, none⟩ = some (.string s))
      (first | exact go.out | go_keep)
      (first | (go_at_call 129; refine (h1.out _).mono ?_; rintro e wc ⟨rfl, rfl⟩) | (go_at_call 121; refine (h2.out _).mono ?_; rintro e wc ⟨rfl, kc⟩; replace gb := Lib.hid (below_and gb.out kc); replace go := Lib.hid (go.out.later kc)))
    go_wp2
    go_ret
    exact ⟨ret_bool (by simp), gb.out⟩

theorem only_any (k n a l lo hi : Int) (x : Bool) (s : ByteArray) (w : World) :
    Calls Try.prog 120 #[.agg #[.int .i64 k, .bool x, .int .i64 n, .int .i64 a, .int .i64 l, .string s], .int .i64 lo, .int .i64 hi] w fun e w' => e = .returned (.bool (onlyP n a l s lo hi)) ∧ Below w.heap.size w w' := by
  refine (only_part k n a l lo hi x _ s w (Lib.hid (fun w => within_any n lo hi w))).mono ?_
  rintro e w' ⟨rfl, h⟩
  refine ⟨ret_bool ?_, h⟩
  simp [onlyP, Bool.and_assoc]

theorem piece_part (k n a l : Int) (x p q r : Bool) (s : ByteArray) (w : World) (h1 : Hid (∀ w, Calls Try.prog 129 #[.int .i64 n, .int .i64 0, .int .i64 40000] w fun e w' => e = .returned (.bool p) ∧ w = w'))
    (h2 : Hid (∀ w, Calls Try.prog 129 #[.int .i64 a, .int .i64 0, .int .i64 40000] w fun e w' => e = .returned (.bool q) ∧ w = w')) (h3 : Hid (∀ w, Calls Try.prog 129 #[.int .i64 l, .int .i64 0, .int .i64 40000] w fun e w' => e = .returned (.bool r) ∧ w = w')) :
    Calls Try.prog 122 #[.agg #[.int .i64 k, .bool x, .int .i64 n, .int .i64 a, .int .i64 l, .string s]] w fun e w' => e = .returned (.bool (p && (q && (r && decide (s = ⟨#[]⟩))))) ∧ Below w.heap.size w w' := by
  have i0 : ∀ w : World, (Instr.index 173 (.agg #[.int .i64 n, .int .i64 a, .int .i64 l]) (.int .i64 0)).run Try.prog w = .ok (.int .i64 n) w := fun _ => by kernel_rfl
  have i1 : ∀ w : World, (Instr.index 173 (.agg #[.int .i64 n, .int .i64 a, .int .i64 l]) (.int .i64 1)).run Try.prog w = .ok (.int .i64 a) w := fun _ => by kernel_rfl
  have i2 : ∀ w : World, (Instr.index 173 (.agg #[.int .i64 n, .int .i64 a, .int .i64 l]) (.int .i64 2)).run Try.prog w = .ok (.int .i64 l) w := fun _ => by kernel_rfl
  cases p
  · go_enter Try.func122, Try.ntmps122
    go_wp2
    refine wp_loop_rounds 4 ?_
    rw [rounds_succ]
    go_wp2_with fail
    refine (h1.out _).mono ?_
    rintro e wc ⟨rfl, rfl⟩
    go_wp2
    go_ret
    exact ⟨ret_bool rfl, box_below _ _⟩
  · cases q
    · go_enter Try.func122, Try.ntmps122
      go_wp2
      refine wp_loop_rounds 4 ?_
      rw [rounds_succ]
      go_wp2_with fail
      refine (h1.out _).mono ?_
      rintro e wc ⟨rfl, rfl⟩
      go_wp2
      rw [rounds_succ]
      go_wp2_with fail
      refine (h2.out _).mono ?_
      rintro e wc ⟨rfl, rfl⟩
      go_wp2
      go_ret
      exact ⟨ret_bool rfl, box_below _ _⟩
    · cases r
      · go_enter Try.func122, Try.ntmps122
        go_wp2
        refine wp_loop_rounds 4 ?_
        rw [rounds_succ]
        go_wp2_with fail
        refine (h1.out _).mono ?_
        rintro e wc ⟨rfl, rfl⟩
        go_wp2
        rw [rounds_succ]
        go_wp2_with fail
        refine (h2.out _).mono ?_
        rintro e wc ⟨rfl, rfl⟩
        go_wp2
        rw [rounds_succ]
        go_wp2_with fail
        refine (h3.out _).mono ?_
        rintro e wc ⟨rfl, rfl⟩
        go_wp2
        go_ret
        exact ⟨ret_bool rfl, box_below _ _⟩
      · go_enter Try.func122, Try.ntmps122
        go_wp2
        refine wp_loop_rounds 4 ?_
        rw [rounds_succ]
        go_wp2_with fail
        refine (h1.out _).mono ?_
        rintro e wc ⟨rfl, rfl⟩
        go_wp2
        rw [rounds_succ]
        go_wp2_with fail
        refine (h2.out _).mono ?_
        rintro e wc ⟨rfl, rfl⟩
        go_wp2
        rw [rounds_succ]
        go_wp2_with fail
        refine (h3.out _).mono ?_
        rintro e wc ⟨rfl, rfl⟩
        go_wp2
        rw [rounds_succ]
        go_wp2
        go_ret
        exact ⟨ret_bool (empty_iff s), box_below _ _⟩

theorem piece_any (k n a l : Int) (x : Bool) (s : ByteArray) (w : World) :
    Calls Try.prog 122 #[.agg #[.int .i64 k, .bool x, .int .i64 n, .int .i64 a, .int .i64 l, .string s]] w fun e w' => e = .returned (.bool (pieceP n a l s)) ∧ Below w.heap.size w w' := by
  refine (piece_part k n a l x _ _ _ s w (Lib.hid (fun w => within_any n 0 40000 w)) (Lib.hid (fun w => within_any a 0 40000 w)) (Lib.hid (fun w => within_any l 0 40000 w))).mono ?_
  rintro e w' ⟨rfl, h⟩
  refine ⟨ret_bool ?_, h⟩
  simp [pieceP, Bool.and_assoc]
end Go.Proofs.Ytmlkmgeddkpgiaa
