/- Walks of dict: the cell of a dictionary as a value; end, plain, set, count. -/
import Derived.Test.YtigboibcgpfphaaK30
import Derived.Test.YtigboibcgpfphaaO2
namespace Go.Proofs.Ytigboibcgpfphaa
open Go.RowKit
set_option linter.unusedVariables false

/-- A dict.cell as a value, and in a block. -/
abbrev dcV (hb : Nat) (k : Int) (x : Bool) (n a l : Int) (s : ByteArray) (p r : Int) : Value := .agg #[ptr hb, .int .i64 k, .bool x, .int .i64 n, .int .i64 a, .int .i64 l, .string s, .int .i64 p, .int .i64 r]
abbrev dcObj (hb : Nat) (k : Int) (x : Bool) (n a l : Int) (s : ByteArray) (p r : Int) : Obj := .cells #[ptr hb, .int .i64 k, .bool x, .int .i64 n, .int .i64 a, .int .i64 l, .string s, .int .i64 p, .int .i64 r] 118 (0, 0)
def DcAt (w : World) (b hb : Nat) (k : Int) (x : Bool) (n a l : Int) (s : ByteArray) (p r : Int) : Prop :=
  w.cell? ⟨b, 0, none⟩ = some (ptr hb) ∧ w.cell? ⟨b, 1, none⟩ = some (.int .i64 k) ∧ w.cell? ⟨b, 2, none⟩ = some (.bool x) ∧ w.cell? ⟨b, 3, none⟩ = some (.int .i64 n) ∧ w.cell? ⟨b, 4, none⟩ = some (.int .i64 a) ∧ w.cell? ⟨b, 5, none⟩ = some (.int .i64 l) ∧ w.cell? ⟨b, 6, none⟩ = some (.string s) ∧ w.cell? ⟨b, 7, none⟩ = some (.int .i64 p) ∧ w.cell? ⟨b, 8, none⟩ = some (.int .i64 r)
theorem DcAt.later {w wx : World} {b hb : Nat} {k : Int} {x : Bool} {n a l : Int} {s : ByteArray} {p r : Int} (h : DcAt w b hb k x n a l s p r) (kc : Below w.heap.size w wx) : DcAt wx b hb k x n a l s p r := by
  obtain ⟨c0, c1, c2, c3, c4, c5, c6, c7, c8⟩ := h
  exact ⟨cell_later kc c0, cell_later kc c1, cell_later kc c2, cell_later kc c3, cell_later kc c4, cell_later kc c5, cell_later kc c6, cell_later kc c7, cell_later kc c8⟩
theorem dc_cells {w : World} {b hb : Nat} {k : Int} {x : Bool} {n a l : Int} {s : ByteArray} {p r : Int} (h : w.heap[b]? = some (dcObj hb k x n a l s p r)) : DcAt w b hb k x n a l s p r :=
  ⟨cellAt h 0, cellAt h 1, cellAt h 2, cellAt h 3, cellAt h 4, cellAt h 5, cellAt h 6, cellAt h 7, cellAt h 8⟩
theorem dc_box (w : World) (hb : Nat) (k : Int) (x : Bool) (n a l : Int) (s : ByteArray) (p r : Int) : ∃ wb, w.alloc (.cells #[ptr hb, .int .i64 k, .bool x, .int .i64 n, .int .i64 a, .int .i64 l, .string s, .int .i64 p, .int .i64 r] 118) = wb ∧ Below w.heap.size w wb ∧ wb.heap.size = w.heap.size + 1 ∧ wb.heap[w.heap.size]? = some (dcObj hb k x n a l s p r) :=
  ⟨_, rfl, box_below _ _, by simp, heap_alloc_new _ _⟩

/-- A boxed object, and a zero object behind it. -/
theorem ob_zero (w : World) (k n a l : Int) (x : Bool) (s : ByteArray) : ∃ wb, (w.alloc (.cells #[.int .i64 k, .bool x, .int .i64 n, .int .i64 a, .int .i64 l, .string s] 26)).alloc (.cells #[.int .i64 0, .bool false, .int .i64 0, .int .i64 0, .int .i64 0, .string ⟨#[]⟩] 26) = wb ∧ Below w.heap.size w wb ∧ wb.heap.size = w.heap.size + 2 ∧ wb.heap[w.heap.size]? = some (obObj k x n a l s) ∧ wb.heap[w.heap.size + 1]? = some emptyOb := by
  refine ⟨_, rfl, below_and (box_below _ _) (box_below _ _), by simp, ?_, ?_⟩
  · rw [Below.heap_alloc _ _ _ (by simp)]
    exact heap_alloc_new _ _
  · have := heap_alloc_new (w.alloc (.cells #[.int .i64 k, .bool x, .int .i64 n, .int .i64 a, .int .i64 l, .string s] 26)) emptyOb
    simpa using this
theorem end_any (hb : Nat) (k n a l r : Int) (x : Bool) (s : ByteArray) (p : Nat) (hp : p ≤ 1000) (w : World) : Calls Try.prog 83 #[dcV hb k x n a l s p r] w fun e w' => e = .returned (.int .i64 ((2 * p + 1 : Nat) : Int)) ∧ Below w.heap.size w w' := by
  obtain ⟨q, hq⟩ : ∃ q, q = 2 * p := ⟨_, rfl⟩
  have e1 : IntKind.i64.wrap (2 * (p : Int)) = q := by rw [wrapi_in _ (by omega) (by omega)]; omega
  have e2 : IntKind.i64.wrap (1 + (q : Int)) = ((q + 1 : Nat) : Int) := by rw [wrapi_in _ (by omega) (by omega)]; omega
  rw [← hq]
  clear hq hp
  go_enter Try.func83, Try.ntmps83
  go_wp2_with fail
  go_ret
  exact ⟨rfl, box_below _ _⟩

/-- A key as the map of the other kinds holds it. -/
def plainO (o : Ob) : Ob := if numOk o.k o.n then ⟨4, false, numV o.k o.n, 0, 0, ⟨#[]⟩⟩ else o
theorem plain_any (o : Ob) (w : World) : Calls Try.prog 94 #[o.val] w fun e w' => e = .returned (plainO o).val ∧ Below w.heap.size w w' := by
  obtain ⟨k, x, n, a, l, s⟩ := o
  have hn := Lib.hid fun w => numO_any k n a l x s w
  cases hq : numOk k n
  · have hp : Hid (plainO ⟨k, x, n, a, l, s⟩ = ⟨k, x, n, a, l, s⟩) := Lib.hid (by simp [plainO, hq])
    rw [hp.out]
    rw [hq] at hn
    clear hq
    show Calls Try.prog 94 #[obV k x n a l s] w _
    go_enter Try.func94, Try.ntmps94
    go_wp2_with fail
    obtain ⟨wb, eb, kb, zb, oa, ob⟩ := ob_zero w k n a l x s
    rw [eb]
    obtain ⟨a0, a1, a2, a3, a4, a5⟩ := ob_cells oa
    refine (hn.out wb).mono ?_
    rintro e wc ⟨rfl, kc⟩
    have KC := Lib.hid (below_and kb kc)
    have OC : Hid (wc.heap[w.heap.size + 1]? = some emptyOb) := Lib.hid ((kc.block _ (blk_lt ob)).trans ob)
    obtain ⟨o0, o1, o2, o3, o4, o5⟩ := ob_cells ((kc.block _ (blk_lt oa)).trans oa)
    obtain ⟨⟨c0, c1, c2, c3, c4, c5⟩, f0, f1, f2, f3, f4, f5⟩ := cells6 OC.out
    clear eb kb zb oa ob kc a0 a1 a2 a3 a4 a5
    go_wp2
    (try simp only [Exit.inBlock, Exit.then])
    refine bodyPost_ret (results_cell_row rfl _ _ _ _ _ _ _ rfl (set6 OC.out _ _ _ _ _ _) Try.underlying26 rfl (by kernel_rfl)) rfl ⟨rfl, set6_below KC.out (Nat.le_succ _) _ _ _ _ _ _⟩
  · have hp : Hid (plainO ⟨k, x, n, a, l, s⟩ = ⟨4, false, numV k n, 0, 0, ⟨#[]⟩⟩) := Lib.hid (by simp [plainO, hq])
    rw [hp.out]
    rw [hq] at hn
    obtain ⟨v, hv⟩ : ∃ v, v = numV k n := ⟨_, rfl⟩
    rw [← hv] at hn ⊢
    clear hq hp hv
    show Calls Try.prog 94 #[obV k x n a l s] w _
    go_enter Try.func94, Try.ntmps94
    go_wp2_with fail
    obtain ⟨wb, eb, kb, zb, oa, ob⟩ := ob_zero w k n a l x s
    rw [eb]
    obtain ⟨a0, a1, a2, a3, a4, a5⟩ := ob_cells oa
    refine (hn.out wb).mono ?_
    rintro e wc ⟨rfl, kc⟩
    have KC := Lib.hid (below_and kb kc)
    have OC : Hid (wc.heap[w.heap.size + 1]? = some emptyOb) := Lib.hid ((kc.block _ (blk_lt ob)).trans ob)
    obtain ⟨o0, o1, o2, o3, o4, o5⟩ := ob_cells ((kc.block _ (blk_lt oa)).trans oa)
    obtain ⟨⟨c0, c1, c2, c3, c4, c5⟩, f0, f1, f2, f3, f4, f5⟩ := cells6 OC.out
    clear eb kb zb oa ob kc a0 a1 a2 a3 a4 a5
    go_wp2
    (try simp only [Exit.inBlock, Exit.then])
    refine bodyPost_ret (results_cell_row rfl _ _ _ _ _ _ _ rfl (set6 OC.out _ _ _ _ _ _) Try.underlying26 rfl (by kernel_rfl)) rfl ⟨rfl, set6_below KC.out (Nat.le_succ _) _ _ _ _ _ _⟩

/-- set: what Set of the heap does, with no result. -/
theorem dset_any (hb : Nat) (k n a l p r i : Int) (x : Bool) (s : ByteArray) (k' n' a' l' : Int) (x' : Bool) (s' : ByteArray) (w : World) (E : Int) (R : World → World → Prop)
    (hs : Hid (∀ wx, Below w.heap.size w wx → Calls Try.prog 19 #[ptr hb, obV k x n a l s, .int .i64 i, obV k' x' n' a' l' s'] wx fun e w' => e = .returned (.int .i64 E) ∧ R wx w')) :
    Calls Try.prog 95 #[dcV hb k x n a l s p r, .int .i64 i, obV k' x' n' a' l' s'] w fun e w' => e = .returned (.tuple #[]) ∧ ∃ wx, Below w.heap.size w wx ∧ R wx w' := by
  go_enter Try.func95, Try.ntmps95
  go_wp2_with fail
  obtain ⟨wa, ea, ka, za, oa⟩ := dc_box w hb k x n a l s p r
  rw [ea]
  obtain ⟨wb, eb, kb, zb, ob⟩ := ob_box wa k' n' a' l' x' s'
  rw [eb]
  refine (hs.out wb (below_and ka kb)).mono ?_
  rintro e wc ⟨rfl, hR⟩
  have HR := Lib.hid hR
  have HB := Lib.hid (below_and ka kb)
  clear hR ea eb ka kb za zb oa ob
  go_wp2
  go_end0
  exact ⟨rfl, wb, HB.out, HR.out⟩
end Go.Proofs.Ytigboibcgpfphaa
