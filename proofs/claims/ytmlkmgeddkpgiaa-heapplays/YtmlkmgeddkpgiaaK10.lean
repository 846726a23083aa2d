/- Walks of heap: newItems. -/
import Derived.Test.YtmlkmgeddkpgiaaK9
import Derived.Deep.Onto
namespace Go.Proofs.Ytmlkmgeddkpgiaa
open Go.RowKit
set_option linter.unusedVariables false

theorem info24 : (Try.prog.info? 24).map (fun i => (i.zero, i.size, i.bytes)) = some (some (obV 0 false 0 0 0 ⟨#[]⟩), 6, 56) := by kernel_rfl

/-- The first k objects are Null, the others zero. -/
def nullsTo (n k : Nat) : List Ob := List.replicate k Ob.null ++ List.replicate (n - k) Ob.zero
theorem nullsTo_length {n k : Nat} (h : k ≤ n) : (nullsTo n k).length = n := by
  simp [nullsTo]
  omega
theorem nullsTo_set {n k : Nat} (h : k < n) : (obCells (nullsTo n k)).set (k * 6) (.int .i64 1) = obCells (nullsTo n (k + 1)) := by
  have e1 : nullsTo n k = List.replicate k Ob.null ++ (Ob.zero :: List.replicate (n - (k + 1)) Ob.zero) := by
    rw [nullsTo, ← List.replicate_succ, show n - k = n - (k + 1) + 1 from by omega]
  have e2 : nullsTo n (k + 1) = List.replicate k Ob.null ++ (Ob.null :: List.replicate (n - (k + 1)) Ob.zero) := by
    rw [nullsTo, List.replicate_succ', List.append_assoc]
    rfl
  rw [e1, e2, obCells_append, obCells_append, List.set_append_right _ _ (by rw [obCells_length]; simp), obCells_length]
  simp [obCells, Ob.cells, Ob.zero, Ob.null]
theorem nullsTo_get {n k : Nat} (h : k < n) : (nullsTo n k)[k]? = some Ob.zero := by
  rw [nullsTo, List.getElem?_append_right (by simp), List.length_replicate, Nat.sub_self, List.getElem?_replicate, if_pos (by omega)]
theorem nullsTo_all (n : Nat) : nullsTo n n = List.replicate n Ob.null := by simp [nullsTo]
theorem made_zero (n : Nat) : (madeCells #[.int .i64 0, .bool false, .int .i64 0, .int .i64 0, .int .i64 0, .string ⟨#[]⟩] (n * 6)).toList = obCells (nullsTo n 0) := by
  apply List.ext_getElem?
  intro j
  have hl : (obCells (nullsTo n 0)).length = n * 6 := by rw [obCells_length, nullsTo_length (Nat.zero_le _)]
  by_cases hj : j < n * 6
  · have e : j = j / 6 * 6 + j % 6 := by omega
    have hg : (nullsTo n 0)[j / 6]? = some Ob.zero := by
      rw [nullsTo, List.replicate_zero, List.nil_append, Nat.sub_zero, List.getElem?_replicate, if_pos (by omega)]
    have := obCells_get hg (j := j % 6) (by omega)
    rw [← e] at this
    rw [this]
    simp [madeCells, hj]
    have hr : j % 6 < 6 := by omega
    generalize j % 6 = r at hr
    match r, hr with
    | 0, _ => rfl
    | 1, _ => rfl
    | 2, _ => rfl
    | 3, _ => rfl
    | 4, _ => rfl
    | 5, _ => rfl
  · rw [List.getElem?_eq_none (by simp [madeCells]; omega), List.getElem?_eq_none (by omega)]

set_option maxRecDepth 100000 in
theorem newItems_any (kk : Int) (n : Nat) (hn : n ≤ 40000) (w : World) :
    Calls Try.prog 108 #[.int .i64 kk, .int .i64 n] w fun e w' => ∃ b row, e = .returned (ptr b) ∧ w.heap.size < b ∧ w'.heap[b]? = some (.cells #[.int .i64 kk, .bool false, row] 160 (0, 0)) ∧ w'.ownsRow 0 24 6 row n (obCells (List.replicate n Ob.null)) ∧ row.ownBlock = some w.heap.size ∧ Below w.heap.size w w' := by
  obtain ⟨i0, hi, hz0, hz1, hz2⟩ := info_parts info24
  go_enter Try.func108, Try.ntmps108
  go_wp2_with (first
    | (refine wpList_make_full w rfl _ _ 33 rfl w.heap.size 24 i0 (obV 0 false 0 0 0 ⟨#[]⟩) 6 Try.underlying33 hi hz0 hz1 .i64 .i64 _ _ n rfl rfl rfl rfl (by rw [hz2]; omega) (by unfold maxLen; omega) (Nat.le_refl _) ?_))
  intro w1 hown hgrow
  rw [made_zero] at hown
  have HO := Lib.hid hown
  have HB : Hid (Below w.heap.size w w1) := Lib.hid ((Below.refl _ w).grown hgrow (Nat.le_refl _) (fun k e => by cases e))
  have HL : Hid (w.heap.size < w1.heap.size) := Lib.hid (hown.lt _ rfl).2
  clear hown hgrow
  go_wp2
  go_loopw [11] (fun i wr => ∃ k : Nat, k ≤ n ∧ i = .int .i64 k ∧ wr.ownsRow w.heap.size 24 6 (.slice (some ⟨w.heap.size, 0, none⟩) n n) n (obCells (nullsTo n k)) ∧ Below w.heap.size w wr ∧ w.heap.size < wr.heap.size) (fun i _ => n - (intOf i).toNat)
  case atStart => exact ⟨0, Nat.zero_le _, rfl, HO.out, HB.out, HL.out⟩
  case round =>
    obtain ⟨k, hk, rfl, hown, hbel, hsz⟩ := hrel
    have R1 := Lib.hid hown
    have R2 := Lib.hid hbel
    have R3 := Lib.hid hsz
    have hc : k < n → wr.cell? ⟨w.heap.size, k * 6, none⟩ = some (.int .i64 0) := fun h => by
      have := obCells_get (nullsTo_get h) (j := 0) (by omega)
      rw [hown.cellAt (k * 6) (by omega)]
      simpa [Ob.cells, Ob.zero] using this
    have hf : wr.frozen? ⟨w.heap.size, k * 6, none⟩ = false := hown.frozenAt _
    clear hown hbel hsz
    go_wp2
    · have hlt : k < n := by assumption
      go_roundw
      case rel =>
        have S := R1.out.stored (k * 6) (.int .i64 1)
        rw [nullsTo_set hlt] at S
        exact ⟨k + 1, by omega, by go_num, S.1, R2.out.setCell (p := ⟨w.heap.size, k * 6, none⟩) (Nat.le_refl _) _, by have := R3.out; simpa [World.setCell] using this⟩
      case measure => simp [intOf]; omega
    · have e : k = n := by omega
      subst e
      go_ret
      have h1 := R1.out
      rw [nullsTo_all] at h1
      have h3 := R3.out
      exact ⟨wr.heap.size, _, rfl, h3, heap_alloc_new _ _, (h1.mono (Nat.zero_le _)).alloc _, rfl, R2.out.alloc (by omega) _⟩
end Go.Proofs.Ytmlkmgeddkpgiaa
