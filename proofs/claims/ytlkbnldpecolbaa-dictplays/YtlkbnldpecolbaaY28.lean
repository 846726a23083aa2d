/- Y28: G2, G3, H1, G4. -/
import Derived.Test.YtlkbnldpecolbaaY27
import Derived.Test.YtlkbnldpecolbaaY02
/- Walks of stack: New, Len, Clear, Peek. -/
namespace Go.Proofs.Ytlkbnldpecolbaa
open Go.RowKit
set_option linter.unusedVariables false
set_option linter.unusedSimpArgs false
set_option maxHeartbeats 1000000
set_option maxRecDepth 100000

section
variable {sb : Nat} {v : Value} {X : List Ob} {w : World}
end
end Go.Proofs.Ytlkbnldpecolbaa

/- Walks of stack: Push. -/
namespace Go.Proofs.Ytlkbnldpecolbaa
open Go.RowKit
set_option linter.unusedVariables false
set_option linter.unusedSimpArgs false
set_option maxHeartbeats 1000000
set_option maxRecDepth 100000

/-- An object boxed, as the cells that an append reads. -/
theorem seg_box (w : World) (k n a l : Int) (x : Bool) (s : ByteArray) : ∃ wb, w.alloc (.cells #[.int .i64 k, .bool x, .int .i64 n, .int .i64 a, .int .i64 l, .string s] 30) = wb ∧ Below w.heap.size w wb ∧ Seg wb (.slice (some ⟨w.heap.size, 0, none⟩) 1 1) [⟨k, x, n, a, l, s⟩] :=
  ⟨_, rfl, box_below _ _, .inr ⟨_, 1, rfl, fun j u h => by rw [Addr.add_mid, Nat.zero_add, cellAt (heap_alloc_new _ _)]; simpa [obCells, Ob.cells] using h⟩⟩
section
variable {sb : Nat} {v : Value} {X : List Ob} {w : World}
end
end Go.Proofs.Ytlkbnldpecolbaa

/- Walks of the statements' helpers (tympanhelp): Place. -/
namespace Go.Proofs.Ytlkbnldpecolbaa
open Go.RowKit
set_option linter.unusedVariables false

theorem tmod_cases (v n : Int) (hn : 0 < n) : (v.tmod n < 0 ∧ v.tmod n + n = v % n) ∨ (0 ≤ v.tmod n ∧ v.tmod n = v % n) := by
  have h0 := Int.emod_nonneg v (by omega : n ≠ 0)
  have h1 := Int.emod_lt_of_pos v hn
  rcases Int.lt_or_le v 0 with h | h
  · have e : v.tmod n = -((-v) % n) := by
      rw [← Int.tmod_eq_emod_of_nonneg (by omega : 0 ≤ -v), Int.neg_tmod]; omega
    have h2 := Int.emod_nonneg (-v) (by omega : n ≠ 0)
    rcases Int.lt_or_le 0 ((-v) % n) with hp | hp
    · have := (div_neg_rest (-v) n hn hp).2
      rw [Int.neg_neg] at this
      left; omega
    · have := (div_neg_exact (-v) n hn (by omega)).2
      rw [Int.neg_neg] at this
      right; omega
  · right
    rw [Int.tmod_eq_emod_of_nonneg h]; omega

end Go.Proofs.Ytlkbnldpecolbaa

/- Walks of stack: top, Dup, Roll. -/
namespace Go.Proofs.Ytlkbnldpecolbaa
open Go.RowKit
set_option linter.unusedVariables false
set_option linter.unusedSimpArgs false
set_option maxHeartbeats 1000000
set_option maxRecDepth 100000

/-- copy of objects into a row. -/
theorem run_copy_obs (w : World) (ty : TypeId) (g o dLen dCap : Nat) (a : Addr) (sLen sCap : Nat) (cur : Array Value) (t : TypeId) (Y : List Ob) (hg : w.heap[g]? = some (.cells cur t (0, 0))) (hn : Y.length = Nat.min sLen dLen)
    (hsrc : ∀ j v, (obCells Y)[j]? = some v → w.cell? (a.add j) = some v) (hfit : o + (obCells Y).length ≤ cur.size) :
    ∃ r, (Builtin.copy_ #[46, 46] ty #[.slice (some ⟨g, o, none⟩) dLen dCap, .slice (some a) sLen sCap]).run Try.prog w = .ok r (w.setRow g (cur.toList.take o ++ obCells Y ++ cur.toList.drop (o + (obCells Y).length)).toArray) := by
  have hl := run_loadCells_list (P := Try.prog) w a (obCells Y) hsrc
  have hst := run_storeCells_at Try.prog g o t (obCells Y) 0 cur w hg (by simpa using hfit) (obCells_one Y)
  have hu := Try.underlying46
  have hq : (sizeOf 30).run Try.prog w = .ok 6 w := by kernel_rfl
  have h6 : (obCells Y).length = Nat.min sLen dLen * 6 := by rw [obCells_length, hn]
  rw [Nat.add_zero] at hst
  refine ⟨goInt (Nat.min sLen dLen), ?_⟩
  simp [Builtin.copy_, run_underlying hu, Builtin.lenOf, Builtin.firstCells, hq, ← h6, hl, hst]
/-- append of a part onto a part that has no room: a new row. -/
theorem run_append_full (w : World) (ty : TypeId) (U L : List Ob) (au : Addr) (vl : Value) (hu : ∀ j v, (obCells U)[j]? = some v → w.cell? (au.add j) = some v) (hl : Seg w vl L) (hL : 0 < L.length) (hm : U.length + L.length ≤ 1000) :
    ∃ cap w', (Builtin.append_ #[46, 46] ty #[.slice (some au) U.length U.length, vl]).run Try.prog w = .ok (.slice (some ⟨w.heap.size, 0, none⟩) (U.length + L.length) cap) w' ∧ Below w.heap.size w w' ∧ ∀ j v, (obCells (U ++ L))[j]? = some v → w'.cell? (Addr.add ⟨w.heap.size, 0, none⟩ j) = some v := by
  obtain ⟨i0, hi, hz0, hz1, hz2⟩ := info_parts info24
  rcases hl with ⟨_, rfl⟩ | ⟨ad, c, rfl, hc⟩
  · simp at hL
  · have hr := run_append_grow (P := Try.prog) w 46 ty 30 i0 _ Try.underlying46 hi hz0 au U.length U.length (obCells U) (by rw [hz1]; exact obCells_length U) hu ad L.length c (obCells L) (by rw [hz1]; exact obCells_length L) hc (by omega) (by omega) (by rw [hz2]; exact growslice_fits (by omega) (by omega))
    refine ⟨_, _, hr, (Below.refl _ w).drew.alloc (Nat.le_refl _) _, fun j v hj => ?_⟩
    rw [Addr.add_mid, Nat.zero_add]
    have hn := heap_alloc_new w.drew (.cells ((obCells U).toArray ++ (obCells L).toArray ++ Builtin.zeroCells (obV 0 false 0 0 0 ⟨#[]⟩).cells (grownCap w (U.length + L.length) U.length 30 - (U.length + L.length))) 30)
    rw [show w.heap.size = w.drew.heap.size from rfl, cellAt hn]
    rw [obCells_append] at hj
    have hj' := (List.getElem?_eq_some_iff.1 hj).1
    rw [← Array.getElem?_toList]
    simp only [Array.toList_append]
    rw [List.getElem?_append_left hj']
    exact hj
theorem size24 (w : World) : (sizeOf (Try.prog.elem 46)).run Try.prog w = .ok 6 w := by kernel_rfl
theorem under33 : Try.prog.underlying 46 = some (.slice (Try.prog.elem 46)) := by kernel_rfl
theorem slice33_l (p : Option Addr) (z cap lo : Nat) (h1 : lo ≤ z) (w : World) : (Instr.slice 46 (.slice p z cap) (some (.int .i64 lo)) none none).run Try.prog w = .ok (sliced p lo z cap 6) w := by
  rw [run_slice_l w 46 p z cap under33 .i64 lo (by omega) (by omega), size24]
  simp
theorem slice33_h (p : Option Addr) (z cap hi : Nat) (h1 : hi ≤ cap) (w : World) : (Instr.slice 46 (.slice p z cap) none (some (.int .i64 hi)) none).run Try.prog w = .ok (sliced p 0 hi cap 6) w := by
  rw [run_slice_h w 46 p z cap under33 .i64 hi (by omega) (by omega), size24]
  simp
theorem slice33_lh (p : Option Addr) (z cap lo hi : Nat) (h1 : lo ≤ hi) (h2 : hi ≤ cap) (w : World) : (Instr.slice 46 (.slice p z cap) (some (.int .i64 lo)) (some (.int .i64 hi)) none).run Try.prog w = .ok (sliced p lo hi cap 6) w := by
  rw [run_slice_lh w 46 p z cap under33 .i64 .i64 lo hi (by omega) (by omega) (by omega), size24]
  simp
theorem slice33_hm (p : Option Addr) (z cap hi m : Nat) (h1 : hi ≤ m) (h2 : m ≤ cap) (w : World) : (Instr.slice 46 (.slice p z cap) none (some (.int .i64 hi)) (some (.int .i64 m))).run Try.prog w = .ok (sliced p 0 hi m 6) w := by
  rw [run_slice_hm w 46 p z cap under33 .i64 .i64 hi m (by omega) (by omega) (by omega), size24]
  simp
theorem slice33_lhm (p : Option Addr) (z cap lo hi m : Nat) (h0 : lo ≤ hi) (h1 : hi ≤ m) (h2 : m ≤ cap) (w : World) : (Instr.slice 46 (.slice p z cap) (some (.int .i64 lo)) (some (.int .i64 hi)) (some (.int .i64 m))).run Try.prog w = .ok (sliced p lo hi m 6) w := by
  rw [run_slice_lhm w 46 p z cap under33 .i64 .i64 .i64 lo hi m (by omega) (by omega) (by omega) (by omega), size24]
  simp
section
variable {sb : Nat} {v : Value} {X : List Ob} {w : World}
end
/-- append, then copy. -/
def Moves (V V1 V2 : Value) (R : World → Prop) (w : World) : Prop := ∀ wx ty ty2, Below w.heap.size w wx → ∃ v' w', (Builtin.append_ #[46, 46] ty #[V2, V1]).run Try.prog wx = .ok v' w' ∧ ∃ r w'', (Builtin.copy_ #[46, 46] ty2 #[V, v']).run Try.prog w' = .ok r w'' ∧ R w''
end Go.Proofs.Ytlkbnldpecolbaa
