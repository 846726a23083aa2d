/- Y02: B0, O1, K0, F1. -/
import Derived.Test.YtlkbnldpecolbaaProg
import Derived.Test.YtlkbnldpecolbaaY01
import Derived.WalkKit
import Derived.WalkSpells
import Derived.StillTactics
import Derived.Laws.Pointers
import Derived.Deep.RegionHeld3
import Derived.RowKit3
import Derived.Below
import Derived.BigQuiet
import Derived.Lib.Hide
import Derived.Handy
import Derived.Laws.StructEq
import Derived.Laws.Rows
import Derived.Laws.EntriesVeiled
/- What the walks of a seat without wide/ and root/ share (a seat with them takes these from W1, W4, R2, T1). -/
namespace Go.Proofs.Ytlkbnldpecolbaa
open Go.RowKit
set_option linter.unusedVariables false

theorem ret_int {k : IntKind} {a b : Int} (h : a = b) : Ending.returned (.int k a) = .returned (.int k b) := by rw [h]
theorem ret_two {k l : IntKind} {a b c d : Int} (h : a = b) (h' : c = d) : Ending.returned (.tuple #[.int k a, .int l c]) = .returned (.tuple #[.int k b, .int l d]) := by rw [h, h']
theorem ret_ok {k : IntKind} {a b : Int} {c d : Bool} (h : a = b) (h' : c = d) : Ending.returned (.tuple #[.int k a, .bool c]) = .returned (.tuple #[.int k b, .bool d]) := by rw [h, h']
theorem ret_bool {a b : Bool} (h : a = b) : Ending.returned (.bool a) = .returned (.bool b) := by rw [h]
theorem below_drew {w w' : World} (h : Below w.drew.heap.size w.drew w') : Below w.heap.size w w' := ⟨h.os, h.tape, h.output, h.size, h.block⟩
theorem below_drewN (w : World) (n : Nat) : Below w.heap.size w (w.drewN n) := ⟨rfl, rfl, rfl, Nat.le_refl _, fun _ _ => rfl⟩
end Go.Proofs.Ytlkbnldpecolbaa

/- Walks of obj: passive, within, onlyN, isPiece. -/
namespace Go.Proofs.Ytlkbnldpecolbaa
open Go.RowKit
set_option linter.unusedVariables false

theorem toL_iff (s t : ByteArray) : s.toList = t.toList ↔ s = t := by
  rw [ByteArray.toList_eq, ByteArray.toList_eq]
  constructor
  · intro h
    exact ByteArray.ext (Array.toList_inj.1 h)
  · intro h
    rw [h]

theorem empty_iff (s : ByteArray) : s.toList.isEmpty = decide (s = ⟨#[]⟩) := by
  have h := toL_iff s ⟨#[]⟩
  have e : (⟨#[]⟩ : ByteArray).toList = [] := by rw [ByteArray.toList_eq]
  rw [e] at h
  cases hs : s.toList with
  | nil => simp [← h, hs]
  | cons c cs => simp [← h, hs]

theorem eqO (k n a l k' n' a' l' : Int) (x x' : Bool) (s s' : ByteArray) (w : World) :
    (binOp .eql 30 (.agg #[.int .i64 k, .bool x, .int .i64 n, .int .i64 a, .int .i64 l, .string s]) (.agg #[.int .i64 k', .bool x', .int .i64 n', .int .i64 a', .int .i64 l', .string s'])).run Try.prog w = .ok (.bool (decide (k = k' ∧ x = x' ∧ n = n' ∧ a = a' ∧ l = l' ∧ s = s'))) w := by
  have u3 := Try.underlying3
  have u4 := Try.underlying4
  have u9 := Try.underlying9
  have a3 := Try.isAgg3
  have z3 := Try.sizeOf3
  have a4 := Try.isAgg4
  have z4 := Try.sizeOf4
  have a9 := Try.isAgg9
  have z9 := Try.sizeOf9
  have hS : Try.prog.underlying 30 = some (.struct (Try.prog.fieldsOf 30)) := by kernel_rfl
  have hp : Try.prog.stoodInHeld 30 = false := by kernel_rfl
  rw [run_eql_struct, show (10000 : Nat) = 9999 + 1 from rfl, run_equalIn_agg w 9999 30 _ _ hS hp]
  simp only [Program.fieldsOf, Try.underlying30]
  go_simp
  by_cases h1 : k = k' <;> by_cases h2 : x = x' <;> by_cases h3 : n = n' <;> by_cases h4 : a = a' <;> by_cases h5 : l = l' <;> by_cases h6 : s = s' <;> simp [h1, h2, h3, h4, h5, h6, toL_iff]

theorem passive_any (k n a l : Int) (x : Bool) (s : ByteArray) (w : World) :
    Calls Try.prog 98 #[.agg #[.int .i64 k, .bool x, .int .i64 n, .int .i64 a, .int .i64 l, .string s]] w fun e w' => e = .returned (.agg #[.int .i64 k, .bool false, .int .i64 n, .int .i64 a, .int .i64 l, .string s]) ∧ Below w.heap.size w w' := by
  go_enter Try.func98, Try.ntmps98
  go_wp2
  (try simp only [Exit.inBlock, Exit.then])
  refine bodyPost_ret (results_cell_row rfl _ _ _ _ _ _ _ rfl (heap_alloc2_new _ _ _) Try.underlying30 rfl (by kernel_rfl)) rfl ⟨rfl, ?_⟩
  repeat' (first | exact Below.refl _ _ | refine Below.drew ?_ | refine Below.alloc ?_ (by simp <;> omega) _)

theorem within_any (v lo hi : Int) (w : World) : Calls Try.prog 104 #[.int .i64 v, .int .i64 lo, .int .i64 hi] w fun e w' => e = .returned (.bool (decide (lo ≤ v ∧ v ≤ hi))) ∧ w = w' := by
  by_cases h1 : lo ≤ v <;> by_cases h2 : v ≤ hi
  all_goals
    have H := Lib.hid (rfl : decide (lo ≤ v ∧ v ≤ hi) = decide (lo ≤ v ∧ v ≤ hi))
    go_enter Try.func104, Try.ntmps104
    go_wp2
    go_ret
    exact ⟨ret_bool (by simp [h1, h2]), rfl⟩

/-- The object lies in block b. -/
def ObAt (w : World) (b : Nat) (k : Int) (x : Bool) (n a l : Int) (s : ByteArray) : Prop :=
  w.cell? ⟨b, 0, none⟩ = some (.int .i64 k) ∧ w.cell? ⟨b, 1, none⟩ = some (.bool x) ∧ w.cell? ⟨b, 2, none⟩ = some (.int .i64 n) ∧ w.cell? ⟨b, 3, none⟩ = some (.int .i64 a) ∧ w.cell? ⟨b, 4, none⟩ = some (.int .i64 l) ∧ w.cell? ⟨b, 5, none⟩ = some (.string s)
theorem ObAt.later {w wx : World} {b : Nat} {k n a l : Int} {x : Bool} {s : ByteArray} (h : ObAt w b k x n a l s) (kc : Below w.heap.size w wx) : ObAt wx b k x n a l s := by
  obtain ⟨c0, c1, c2, c3, c4, c5⟩ := h
  exact ⟨cell_later kc c0, cell_later kc c1, cell_later kc c2, cell_later kc c3, cell_later kc c4, cell_later kc c5⟩
theorem ObAt.drew {w : World} {b : Nat} {k n a l : Int} {x : Bool} {s : ByteArray} (h : ObAt w b k x n a l s) : ObAt w.drew b k x n a l s := h
/-- Boxed. -/
theorem ob_box (w : World) (k n a l : Int) (x : Bool) (s : ByteArray) : ∃ wb, w.alloc (.cells #[.int .i64 k, .bool x, .int .i64 n, .int .i64 a, .int .i64 l, .string s] 30) = wb ∧ Below w.heap.size w wb ∧ wb.heap.size = w.heap.size + 1 ∧ ObAt wb w.heap.size k x n a l s :=
  ⟨_, rfl, (Below.refl _ w).alloc (Nat.le_refl _) _, by simp, by simp [ObAt]⟩
theorem box_below (w : World) (o : Obj) : Below w.heap.size w (w.alloc o) := (Below.refl _ w).alloc (Nat.le_refl _) _
/-- Two steps in a row. -/
theorem below_and {w w1 w2 : World} (h : Below w.heap.size w w1) (k : Below w1.heap.size w1 w2) : Below w.heap.size w w2 := h.trans (k.mono h.size)

theorem only_part (k n a l lo hi : Int) (x p : Bool) (s : ByteArray) (w : World) (h1 : Hid (∀ w, Calls Try.prog 104 #[.int .i64 n, .int .i64 lo, .int .i64 hi] w fun e w' => e = .returned (.bool p) ∧ w = w')) :
    Calls Try.prog 97 #[.agg #[.int .i64 k, .bool x, .int .i64 n, .int .i64 a, .int .i64 l, .string s], .int .i64 lo, .int .i64 hi] w fun e w' => e = .returned (.bool (p && decide (a = 0 ∧ l = 0 ∧ s = ⟨#[]⟩))) ∧ Below w.heap.size w w' := by
  have h2 := Lib.hid (fun w => passive_any k n a l x s w)
  have q := eqO k n a l k n 0 0 false false s ⟨#[]⟩
  cases p
  · go_enter Try.func97, Try.ntmps97
    go_wp2_with fail
    obtain ⟨wb, eb, kb, zb, ob⟩ := ob_box w k n a l x s
    have go' := Lib.hid kb
    have go := Lib.hid ob.drew
    obtain ⟨d0, d1, d2, d3, d4, d5⟩ := ob
    rw [eb]
    clear eb kb zb
    go_quiet (first | (go_at_call 104; exact Calls.quiet_of_same ((h1.out _).mono fun _ _ h => ⟨h.1, h.2.symm⟩)))
    go_wp2
    go_ret
    exact ⟨ret_bool (by simp), below_and (go'.out) (below_drewN _ _)⟩
  · go_enter Try.func97, Try.ntmps97
    go_wp2_with fail
    obtain ⟨wb, eb, kb, zb, ob⟩ := ob_box w k n a l x s
    have gb := Lib.hid kb.drew
    have go := Lib.hid ob.drew
    obtain ⟨d0, d1, d2, d3, d4, d5⟩ := ob
    rw [eb]
    clear eb kb zb
    go_region_held3 (fun wx => wx.cell? ⟨w.heap.size, 0, none⟩ = some (.int .i64 k) ∧ wx.cell? ⟨w.heap.size, 1, none⟩ = some (.bool x) ∧ wx.cell? ⟨w.heap.size, 2, none⟩ = some (.int .i64 n) ∧ wx.cell? ⟨w.heap.size, 3, none⟩ = some (.int .i64 a) ∧ wx.cell? ⟨w.heap.size, 4, none⟩ = some (.int .i64 l) ∧ wx.cell? ⟨w.heap.size, 5, none⟩ = some (.string s))
      (first | exact go.out | go_keep)
      (first | (go_at_call 104; refine (h1.out _).mono ?_; rintro e wc ⟨rfl, rfl⟩) | (go_at_call 98; refine (h2.out _).mono ?_; rintro e wc ⟨rfl, kc⟩; replace gb := Lib.hid (below_and gb.out kc); replace go := Lib.hid (go.out.later kc)))
    go_wp2
    go_ret
    exact ⟨ret_bool (by simp), gb.out⟩

theorem only_any (k n a l lo hi : Int) (x : Bool) (s : ByteArray) (w : World) :
    Calls Try.prog 97 #[.agg #[.int .i64 k, .bool x, .int .i64 n, .int .i64 a, .int .i64 l, .string s], .int .i64 lo, .int .i64 hi] w fun e w' => e = .returned (.bool (onlyP n a l s lo hi)) ∧ Below w.heap.size w w' := by
  refine (only_part k n a l lo hi x _ s w (Lib.hid (fun w => within_any n lo hi w))).mono ?_
  rintro e w' ⟨rfl, h⟩
  refine ⟨ret_bool ?_, h⟩
  simp [onlyP, Bool.and_assoc]

theorem piece_part (k n a l : Int) (x p q r : Bool) (s : ByteArray) (w : World) (h1 : Hid (∀ w, Calls Try.prog 104 #[.int .i64 n, .int .i64 0, .int .i64 40000] w fun e w' => e = .returned (.bool p) ∧ w = w'))
    (h2 : Hid (∀ w, Calls Try.prog 104 #[.int .i64 a, .int .i64 0, .int .i64 40000] w fun e w' => e = .returned (.bool q) ∧ w = w')) (h3 : Hid (∀ w, Calls Try.prog 104 #[.int .i64 l, .int .i64 0, .int .i64 40000] w fun e w' => e = .returned (.bool r) ∧ w = w')) :
    Calls Try.prog 99 #[.agg #[.int .i64 k, .bool x, .int .i64 n, .int .i64 a, .int .i64 l, .string s]] w fun e w' => e = .returned (.bool (p && (q && (r && decide (s = ⟨#[]⟩))))) ∧ Below w.heap.size w w' := by
  have i0 : ∀ w : World, (Instr.index 148 (.agg #[.int .i64 n, .int .i64 a, .int .i64 l]) (.int .i64 0)).run Try.prog w = .ok (.int .i64 n) w := fun _ => by kernel_rfl
  have i1 : ∀ w : World, (Instr.index 148 (.agg #[.int .i64 n, .int .i64 a, .int .i64 l]) (.int .i64 1)).run Try.prog w = .ok (.int .i64 a) w := fun _ => by kernel_rfl
  have i2 : ∀ w : World, (Instr.index 148 (.agg #[.int .i64 n, .int .i64 a, .int .i64 l]) (.int .i64 2)).run Try.prog w = .ok (.int .i64 l) w := fun _ => by kernel_rfl
  cases p
  · go_enter Try.func99, Try.ntmps99
    go_wp2
    refine wp_loop_rounds 4 ?_
    rw [rounds_succ]
    go_wp2_with fail
    refine (h1.out _).mono ?_
    rintro e wc ⟨rfl, rfl⟩
    go_wp2
    go_ret
    exact ⟨ret_bool rfl, box_below _ _⟩
  · cases q
    · go_enter Try.func99, Try.ntmps99
      go_wp2
      refine wp_loop_rounds 4 ?_
      rw [rounds_succ]
      go_wp2_with fail
      refine (h1.out _).mono ?_
      rintro e wc ⟨rfl, rfl⟩
      go_wp2
      rw [rounds_succ]
      go_wp2_with fail
      refine (h2.out _).mono ?_
      rintro e wc ⟨rfl, rfl⟩
      go_wp2
      go_ret
      exact ⟨ret_bool rfl, box_below _ _⟩
    · cases r
      · go_enter Try.func99, Try.ntmps99
        go_wp2
        refine wp_loop_rounds 4 ?_
        rw [rounds_succ]
        go_wp2_with fail
        refine (h1.out _).mono ?_
        rintro e wc ⟨rfl, rfl⟩
        go_wp2
        rw [rounds_succ]
        go_wp2_with fail
        refine (h2.out _).mono ?_
        rintro e wc ⟨rfl, rfl⟩
        go_wp2
        rw [rounds_succ]
        go_wp2_with fail
        refine (h3.out _).mono ?_
        rintro e wc ⟨rfl, rfl⟩
        go_wp2
        go_ret
        exact ⟨ret_bool rfl, box_below _ _⟩
      · go_enter Try.func99, Try.ntmps99
        go_wp2
        refine wp_loop_rounds 4 ?_
        rw [rounds_succ]
        go_wp2_with fail
        refine (h1.out _).mono ?_
        rintro e wc ⟨rfl, rfl⟩
        go_wp2
        rw [rounds_succ]
        go_wp2_with fail
        refine (h2.out _).mono ?_
        rintro e wc ⟨rfl, rfl⟩
        go_wp2
        rw [rounds_succ]
        go_wp2_with fail
        refine (h3.out _).mono ?_
        rintro e wc ⟨rfl, rfl⟩
        go_wp2
        rw [rounds_succ]
        go_wp2
        go_ret
        exact ⟨ret_bool (empty_iff s), box_below _ _⟩

theorem piece_any (k n a l : Int) (x : Bool) (s : ByteArray) (w : World) :
    Calls Try.prog 99 #[.agg #[.int .i64 k, .bool x, .int .i64 n, .int .i64 a, .int .i64 l, .string s]] w fun e w' => e = .returned (.bool (pieceP n a l s)) ∧ Below w.heap.size w w' := by
  refine (piece_part k n a l x _ _ _ s w (Lib.hid (fun w => within_any n 0 40000 w)) (Lib.hid (fun w => within_any a 0 40000 w)) (Lib.hid (fun w => within_any l 0 40000 w))).mono ?_
  rintro e w' ⟨rfl, h⟩
  refine ⟨ret_bool ?_, h⟩
  simp [pieceP, Bool.and_assoc]
end Go.Proofs.Ytlkbnldpecolbaa

/- Plain answers of layer 11 (heap): cells of items and bytes, what objects refer to, what each call returns. -/
namespace Go.Proofs.Ytlkbnldpecolbaa
set_option linter.unusedVariables false
/-- An object. -/
structure Ob where
  k : Int
  x : Bool
  n : Int
  a : Int
  l : Int
  s : ByteArray
deriving DecidableEq
def Ob.zero : Ob := ⟨0, false, 0, 0, 0, ⟨#[]⟩⟩
def Ob.null : Ob := ⟨1, false, 0, 0, 0, ⟨#[]⟩⟩
def Ob.num (v : Int) : Ob := ⟨3, false, v, 0, 0, ⟨#[]⟩⟩
def Ob.may (o : Ob) : Bool := mayO o.k o.n o.a o.l o.s
/-- A cell: its kind, its lock, its items, its bytes. -/
structure Cel where
  k : Int
  lk : Bool
  it : List Ob
  bs : List UInt8
def Cel.none : Cel := ⟨0, false, [], []⟩
def Cel.size (c : Cel) : Nat := c.it.length + c.bs.length
def comp (k : Int) : Bool := decide (k = 9 ∨ k = 8 ∨ k = 10)
def cellOf (P : List Cel) (o : Ob) : Cel := P.getD o.n.toNat Cel.none
def inCell (P : List Cel) (o : Ob) : Bool := decide (o.n < P.length ∧ (cellOf P o).k = o.k ∧ o.a + o.l ≤ (cellOf P o).size)
def mayH (P : List Cel) (o : Ob) : Bool := o.may && (!comp o.k || inCell P o)
def okO (P : List Cel) (o : Ob) : Bool := comp o.k && (o.may && inCell P o)
def errO (P : List Cel) (o : Ob) : Int := if comp o.k then (if okO P o then 0 else 1) else 6
def atO (P : List Cel) (o : Ob) : Int := if okO P o then o.a else 0
def lenO (P : List Cel) (o : Ob) : Int := if okO P o then (if o.k = 10 then (cellOf P o).size else o.l) else 0
def usedP (P : List Cel) : Nat := (P.map Cel.size).sum
structure WfP (P : List Cel) : Prop where
  len : P.length ≤ 2000
  used : usedP P ≤ 40000
  kind : ∀ c ∈ P, (c.k = 8 ∧ c.it = []) ∨ ((c.k = 9 ∨ c.k = 10) ∧ c.bs = [])
theorem okO_iff {P : List Cel} {o : Ob} : okO P o = true ↔ comp o.k = true ∧ o.may = true ∧ inCell P o = true := by simp [okO]
theorem errO_ok {P : List Cel} {o : Ob} (h : okO P o = true) : errO P o = 0 := by
  have := (okO_iff.1 h).1
  simp [errO, h, this]
theorem errO_no {P : List Cel} {o : Ob} (h : okO P o = false) : errO P o ≠ 0 := by
  unfold errO
  rw [h]
  by_cases hc : comp o.k <;> simp [hc]
theorem ok_iff_err {P : List Cel} {o : Ob} : okO P o = true ↔ errO P o = 0 := by
  constructor
  · exact errO_ok
  · intro h
    cases hk : okO P o
    · exact absurd h (errO_no hk)
    · rfl
theorem comp_iff {k : Int} : comp k = true ↔ k = 9 ∨ k = 8 ∨ k = 10 := by simp [comp]
theorem ok_bd {P : List Cel} {o : Ob} (h : okO P o = true) : 0 ≤ o.n ∧ o.n < P.length ∧ 0 ≤ o.a ∧ o.a ≤ 40000 ∧ 0 ≤ o.l ∧ o.l ≤ 40000 ∧ (cellOf P o).k = o.k ∧ o.a + o.l ≤ (cellOf P o).size ∧ (o.k = 10 → o.a = 0 ∧ o.l = 0) := by
  obtain ⟨h1, h2, h3⟩ := okO_iff.1 h
  have hc := comp_iff.1 h1
  simp [inCell] at h3
  unfold Ob.may mayO at h2
  rcases hc with hc | hc | hc <;> simp [hc, pieceP, onlyP] at h2 ⊢ <;> omega
theorem cellOf_get {P : List Cel} {o : Ob} (h0 : 0 ≤ o.n) (h : o.n < P.length) : P[o.n.toNat]? = some (cellOf P o) := by
  unfold cellOf
  rw [List.getD_eq_getElem?_getD, List.getElem?_eq_getElem (by omega)]
  rfl
theorem sum_le_used {P : List Cel} {c : Cel} (h : c ∈ P) : c.size ≤ usedP P := by
  unfold usedP
  induction P with
  | nil => cases h
  | cons d P ih =>
    rcases List.mem_cons.1 h with rfl | h
    · simp
    · have := ih h
      simp only [List.map_cons, List.sum_cons]
      omega
theorem cell_mem {P : List Cel} {i : Nat} {c : Cel} (h : P[i]? = some c) : c ∈ P := List.mem_of_getElem? h
theorem WfP.size {P : List Cel} (h : WfP P) {i : Nat} {c : Cel} (hc : P[i]? = some c) : c.size ≤ 40000 := Nat.le_trans (sum_le_used (cell_mem hc)) h.used
end Go.Proofs.Ytlkbnldpecolbaa

/- Walks of fix: valid, checked, clamp, From, Add, Sub, rounded, Mul, Div. -/
namespace Go.Proofs.Ytlkbnldpecolbaa
open Go.RowKit
set_option linter.unusedVariables false

set_option maxHeartbeats 400000 in
theorem validF_any (a : Int) (w : World) : Calls Try.prog 107 #[.int .i64 a] w fun e w' => e = .returned (.bool (mayF a)) ∧ w = w' := by
  by_cases h1 : -1073741823 ≤ a
  · by_cases h2 : a ≤ 1073741823
    · have H := Lib.hid ((may_iff a).2 ⟨h1, h2⟩)
      go_enter Try.func107, Try.ntmps107
      go_wp2
      go_ret
      exact ⟨ret_bool H.out.symm, rfl⟩
    · have H := Lib.hid ((may_not a).2 (by omega))
      go_enter Try.func107, Try.ntmps107
      go_wp2
      go_ret
      exact ⟨ret_bool H.out.symm, rfl⟩
  · have H := Lib.hid ((may_not a).2 (by omega))
    go_enter Try.func107, Try.ntmps107
    go_wp2
    go_ret
    exact ⟨ret_bool H.out.symm, rfl⟩

set_option maxHeartbeats 400000 in
theorem checked_any (c : Int) (w : World) : Calls Try.prog 108 #[.int .i64 c] w fun e w' => e = .returned (.tuple #[.int .i64 (gate (mayF c) c), .bool (mayF c)]) ∧ w = w' := by
  have h1 := Lib.hid (fun w => validF_any c w)
  generalize mayF c = x at *
  cases x
  · go_enter Try.func108, Try.ntmps108
    go_wp2_with fail
    refine (h1.out _).mono ?_
    rintro e w' ⟨rfl, rfl⟩
    go_wp2
    go_ret2
    exact ⟨ret_ok rfl rfl, rfl⟩
  · go_enter Try.func108, Try.ntmps108
    go_wp2_with fail
    refine (h1.out _).mono ?_
    rintro e w' ⟨rfl, rfl⟩
    go_wp2
    go_ret2
    exact ⟨ret_ok rfl rfl, rfl⟩

theorem from_may (v : Int) : (-16383 ≤ v ∧ v ≤ 16383) ↔ mayF (v * 65536) = true := by rw [may_iff]; omega

set_option maxHeartbeats 400000 in
theorem from_any (v : Int) (w : World) : Calls Try.prog 105 #[.int .i64 v] w fun e w' => e = .returned (.tuple #[.int .i64 (gate (mayF (v * 65536)) (v * 65536)), .bool (mayF (v * 65536))]) ∧ w = w' := by
  have H := Lib.hid (from_may v)
  by_cases h1 : -16383 ≤ v
  · by_cases h2 : v ≤ 16383
    · have E := Lib.hid (H.out.1 ⟨h1, h2⟩)
      go_enter Try.func105, Try.ntmps105
      go_wp2
      go_ret2
      exact ⟨ret_ok (by unfold gate; rw [if_pos E.out]) E.out.symm, rfl⟩
    · have E := Lib.hid ((may_not (v * 65536)).2 (by omega))
      go_enter Try.func105, Try.ntmps105
      go_wp2
      go_ret2
      exact ⟨ret_ok (by unfold gate; rw [E.out]; rfl) E.out.symm, rfl⟩
  · have E := Lib.hid ((may_not (v * 65536)).2 (by omega))
    go_enter Try.func105, Try.ntmps105
    go_wp2
    go_ret2
    exact ⟨ret_ok (by unfold gate; rw [E.out]; rfl) E.out.symm, rfl⟩

set_option maxHeartbeats 400000 in
theorem add_any (a b : Int) (w : World) : Calls Try.prog 106 #[.int .i64 a, .int .i64 b] w fun e w' => e = .returned (.tuple #[.int .i64 (gate (okAdd a b) (a + b)), .bool (okAdd a b)]) ∧ w = w' := by
  have h1 := Lib.hid (fun w => validF_any a w)
  have h2 := Lib.hid (fun w => validF_any b w)
  have h3 := Lib.hid (fun w => checked_any (a + b) w)
  have hm := may_iff a
  have hn := may_iff b
  unfold okAdd
  generalize mayF (a + b) = z at *
  generalize mayF a = x at *
  generalize mayF b = y at *
  cases x
  · clear hm hn
    go_enter Try.func106, Try.ntmps106
    go_wp2_with fail
    refine (h1.out _).mono ?_
    rintro e w' ⟨rfl, rfl⟩
    go_wp2
    go_ret2
    exact ⟨ret_ok rfl rfl, rfl⟩
  · cases y
    · clear hm hn
      go_enter Try.func106, Try.ntmps106
      go_wp2_with fail
      refine (h1.out _).mono ?_
      rintro e w' ⟨rfl, rfl⟩
      go_wp2_with fail
      refine (h2.out _).mono ?_
      rintro e w' ⟨rfl, rfl⟩
      go_wp2
      go_ret2
      exact ⟨ret_ok rfl rfl, rfl⟩
    · obtain ⟨a0, a1⟩ := hm.1 rfl
      obtain ⟨b0, b1⟩ := hn.1 rfl
      clear hm hn
      go_enter Try.func106, Try.ntmps106
      go_wp2_with fail
      refine (h1.out _).mono ?_
      rintro e w' ⟨rfl, rfl⟩
      go_wp2_with fail
      refine (h2.out _).mono ?_
      rintro e w' ⟨rfl, rfl⟩
      go_wp2_with fail
      refine (h3.out _).mono ?_
      rintro e w' ⟨rfl, rfl⟩
      go_wp2
      go_ret2
      exact ⟨ret_ok rfl rfl, rfl⟩

/-- The world behind the two boxed arguments. -/
abbrev W2b (a b : Int) (w : World) : World := (w.alloc (.cells #[.int .i64 a] 3)).alloc (.cells #[.int .i64 b] 3)
theorem w2b_facts (a b : Int) (w : World) :
    (W2b a b w).cell? ⟨w.heap.size, 0, none⟩ = some (.int .i64 a) ∧ (W2b a b w).cell? ⟨w.heap.size + 1, 0, none⟩ = some (.int .i64 b) ∧
    (W2b a b w).heap.size = w.heap.size + 2 ∧ Below w.heap.size w (W2b a b w) := by
  refine ⟨by simp [W2b, go_sem], by simp [W2b, go_sem], by simp, ?_⟩
  exact ((Below.refl _ _).alloc (Nat.le_refl _) _).alloc (by simp) _

end Go.Proofs.Ytlkbnldpecolbaa
