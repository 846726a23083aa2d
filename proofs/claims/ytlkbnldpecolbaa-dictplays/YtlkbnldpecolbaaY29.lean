/- Y29: G5, G6, G7, G8. -/
import Derived.Test.YtlkbnldpecolbaaY28
/- Walks of stack: Roll. -/
namespace Go.Proofs.Ytlkbnldpecolbaa
open Go.RowKit
set_option linter.unusedVariables false
set_option linter.unusedSimpArgs false
set_option maxHeartbeats 1000000
set_option maxRecDepth 100000

/-- Rotated by u. -/
def rollL (B : List Ob) (u : Nat) : List Ob := B.drop (B.length - u) ++ B.take (B.length - u)
def rollP (X : List Ob) (n : Nat) (j : Int) : List Ob := X.take (X.length - n) ++ rollL (X.drop (X.length - n)) (j % n).toNat
theorem rollL_length (B : List Ob) (u : Nat) : (rollL B u).length = B.length := by simp [rollL]
theorem rollP_length (X : List Ob) (n : Nat) (j : Int) : (rollP X n j).length = X.length := by
  unfold rollP
  rw [List.length_append, rollL_length]
  simp
theorem take_obCells (X : List Ob) (m : Nat) : (obCells X).take (m * 6) = obCells (X.take m) := by
  by_cases h : m ≤ X.length
  · have e : obCells X = obCells (X.take m) ++ obCells (X.drop m) := by rw [← obCells_append, List.take_append_drop]
    have hl : (obCells (X.take m)).length = m * 6 := by rw [obCells_length, List.length_take]; omega
    rw [e, ← hl, List.take_left]
  · rw [List.take_of_length_le (by rw [obCells_length]; omega), List.take_of_length_le (by omega)]
section
variable {T : TypeId} {sb : Nat} {v : Value} {X : List Ob} {w w' : World}
/-- A copy within the operands' row. -/
theorem Stk.put {g m : Nat} {cap : Nat} {cur : Array Value} (h : Stk T sb (.slice (some ⟨g, 0, none⟩) X.length cap) X w) (hg : w'.heap[g]? = some (.cells cur 30 (0, 0))) (hs : w'.heap[sb]? = some (.cells #[.slice (some ⟨g, 0, none⟩) X.length cap] T (0, 0))) (hc : X.length ≤ cap) (hM : cap ≤ maxLen) (hcs : cur.size = cap * 6) (ht : cur.toList.take (X.length * 6) = obCells X) (Y : List Ob) (hY : X.length = m + Y.length) :
    Stk T sb (.slice (some ⟨g, 0, none⟩) X.length cap) (X.take m ++ Y) (w'.setRow g (cur.toList.take (m * 6) ++ obCells Y ++ cur.toList.drop (m * 6 + (obCells Y).length)).toArray) := by
  have hlen : (X.take m ++ Y).length = X.length := by simp; omega
  have hgs : g ≠ sb := fun e => h.ne (by simp [Value.ownBlock, e])
  have hl6 : (obCells Y).length = Y.length * 6 := obCells_length Y
  refine ⟨(setRow_other w' g sb _ hgs.symm).trans hs, ?_, h.ne, by rw [hlen]; exact h.len⟩
  refine ⟨by rw [obCells_length], .inr ⟨g, cap, _, by rw [hlen], Nat.zero_le _, setRow_heap w' g cur _ 30 _ hg, by rw [hlen]; exact hc, hM, ?_, ?_⟩⟩
  · simp only [List.size_toArray, List.length_append, List.length_take, List.length_drop, Array.length_toList, hl6, hcs]
    omega
  · rw [hlen, obCells_append, ← take_obCells, ← ht, List.take_take, Nat.min_eq_left (by omega)]
    have e : X.length * 6 = (cur.toList.take (m * 6) ++ obCells Y).length := by
      rw [List.length_append, List.length_take, hl6, show cur.toList.length = cap * 6 from hcs]
      omega
    rw [e]
    exact List.take_left
end
end Go.Proofs.Ytlkbnldpecolbaa

/- Walks of stack: Pop (slices.Delete of the last one). -/
namespace Go.Proofs.Ytlkbnldpecolbaa
open Go.RowKit
set_option linter.unusedVariables false
set_option linter.unusedSimpArgs false
set_option maxHeartbeats 1000000
set_option maxRecDepth 100000

theorem zero24 (w : World) : (zeroValue 30).run Try.prog w = .ok (obV 0 false 0 0 0 ⟨#[]⟩) w := by kernel_rfl
theorem run_clear_ob (w : World) (g m c : Nat) (cur : Array Value) (t : TypeId) (hg : w.heap[g]? = some (.cells cur t (0, 0))) (hfit : m * 6 + 6 ≤ cur.size) (ty : TypeId) :
    (Builtin.clear_ #[46] ty #[.slice (some ⟨g, m * 6, none⟩) 1 c]).run Try.prog w = .ok (.tuple #[]) (w.setRow g (cur.toList.take (m * 6) ++ obCells [Ob.zero] ++ cur.toList.drop (m * 6 + (obCells [Ob.zero]).length)).toArray) := by
  have hst := run_storeCells_at Try.prog g (m * 6) t (obCells [Ob.zero]) 0 cur w hg (by simpa [obCells, Ob.cells] using hfit) (obCells_one _)
  rw [Nat.add_zero] at hst
  have hz : (Builtin.zeroCells (obV 0 false 0 0 0 ⟨#[]⟩).cells 1).toList = obCells [Ob.zero] := by kernel_rfl
  simp [Builtin.clear_, run_underlying Try.underlying46, zero24, hz, hst]
theorem delete_core (g m cap : Nat) (V2 : Value) (R : World → Prop) (w : World) (h1 : ∀ w : World, (Instr.slice 46 (.slice (some ⟨g, 0, none⟩) (m + 1) cap) none (some (.int .i64 m)) none).run Try.prog w = .ok (.slice (some ⟨g, 0, none⟩) m cap) w)
    (h2 : ∀ w : World, (Instr.slice 46 (.slice (some ⟨g, 0, none⟩) (m + 1) cap) (some (.int .i64 ((m : Int) + 1))) none none).run Try.prog w = .ok V2 w)
    (h3 : ∀ w : World, (Instr.slice 46 (.slice (some ⟨g, 0, none⟩) (m + 1) cap) (some (.int .i64 m)) (some (.int .i64 ((m : Int) + 1))) (some (.int .i64 ((m : Int) + 1)))).run Try.prog w = .ok (.slice (some ⟨g, m * 6, none⟩) 1 1) w)
    (h4 : ∀ w : World, (Instr.slice 46 (.slice (some ⟨g, 0, none⟩) m cap) (some (.int .i64 m)) (some (.int .i64 ((m : Int) + 1))) none).run Try.prog w = .ok (.slice (some ⟨g, m * 6, none⟩) 1 (cap - m)) w)
    (h5 : ∀ (w : World) (ty : TypeId), (Builtin.append_ #[46, 46] ty #[.slice (some ⟨g, 0, none⟩) m cap, V2]).run Try.prog w = .ok (.slice (some ⟨g, 0, none⟩) m cap) w)
    (hm : Hid (∀ wx, Below w.heap.size w wx → ∃ wz, (∀ ty, (Builtin.clear_ #[46] ty #[.slice (some ⟨g, m * 6, none⟩) 1 (cap - m)]).run Try.prog wx = .ok (.tuple #[]) wz) ∧ R wz)) :
    Calls Try.prog 46 #[.slice (some ⟨g, 0, none⟩) (m + 1) cap, .int .i64 m, .int .i64 ((m : Int) + 1)] w fun e w' => e = .returned (.slice (some ⟨g, 0, none⟩) m cap) ∧ R w' := by
  go_enter Try.func46, Try.ntmps46
  go_wp2_with fail
  have SX : Hid True := Lib.hid trivial
  (try refine wp_region_noPanic ?_)
  refine wp_region_held_drew (S := fun _ => True) (by kernel_rfl) trivial (fun _ => ?_)
  have KD : Hid (Below w.heap.size w w.drew) := Lib.hid (Below.refl _ _).drew
  generalize w.drew = wd at KD ⊢
  obtain ⟨wz, hcl, hR⟩ := hm.out wd KD.out
  have HR := Lib.hid hR
  clear hR
  refine wpAnyH_take (i := 0) (v := .slice (some ⟨g, 0, none⟩) (m + 1) cap) rfl (by kernel_rfl) (by kernel_rfl) (by kernel_rfl) (fun _ _ _ h => h) (Or.inl ⟨by rfl, fun wx hS => ?_⟩) SX.out ?_
  · go_simp
  try simp only [Act.put, List.getElem_toArray, List.getElem_cons_succ, List.getElem_cons_zero, List.setIfInBounds_toArray, List.set_cons_zero, List.set_cons_succ]
  refine wpAnyH_take (i := 1) (v := .int .i64 m) rfl (by kernel_rfl) (by kernel_rfl) (by kernel_rfl) (fun _ _ _ h => h) (Or.inl ⟨by rfl, fun wx hS => ?_⟩) SX.out ?_
  · go_simp
  try simp only [Act.put, List.getElem_toArray, List.getElem_cons_succ, List.getElem_cons_zero, List.setIfInBounds_toArray, List.set_cons_zero, List.set_cons_succ]
  refine wpAnyH_take (i := 2) (v := .slice (some ⟨g, 0, none⟩) m cap) rfl (by kernel_rfl) (by kernel_rfl) (by kernel_rfl) (fun _ _ _ h => h) (Or.inl ⟨by rfl, fun wx hS => ?_⟩) SX.out ?_
  · go_simp
  try simp only [Act.put, List.getElem_toArray, List.getElem_cons_succ, List.getElem_cons_zero, List.setIfInBounds_toArray, List.set_cons_zero, List.set_cons_succ]
  refine wpAnyH_take (i := 3) (v := .slice (some ⟨g, 0, none⟩) (m + 1) cap) rfl (by kernel_rfl) (by kernel_rfl) (by kernel_rfl) (fun _ _ _ h => h) (Or.inl ⟨by rfl, fun wx hS => ?_⟩) SX.out ?_
  · go_simp
  try simp only [Act.put, List.getElem_toArray, List.getElem_cons_succ, List.getElem_cons_zero, List.setIfInBounds_toArray, List.set_cons_zero, List.set_cons_succ]
  refine wpAnyH_take (i := 4) (v := .int .i64 ((m : Int) + 1)) rfl (by kernel_rfl) (by kernel_rfl) (by kernel_rfl) (fun _ _ _ h => h) (Or.inl ⟨by rfl, fun wx hS => ?_⟩) SX.out ?_
  · go_simp
  try simp only [Act.put, List.getElem_toArray, List.getElem_cons_succ, List.getElem_cons_zero, List.setIfInBounds_toArray, List.set_cons_zero, List.set_cons_succ]
  refine wpAnyH_take (i := 5) (v := V2) rfl (by kernel_rfl) (by kernel_rfl) (by kernel_rfl) (fun _ _ _ h => h) (Or.inl ⟨by rfl, fun wx hS => ?_⟩) SX.out ?_
  · go_simp
  try simp only [Act.put, List.getElem_toArray, List.getElem_cons_succ, List.getElem_cons_zero, List.setIfInBounds_toArray, List.set_cons_zero, List.set_cons_succ]
  refine wpAnyH_ready (rs := [6]) (by kernel_rfl) (by simp) ?_
  refine AllReadyH.cons rfl (fun K hK => ?_) AllReadyH.nil
  refine step_append_ex rfl _ _ 46 rfl (.slice (some ⟨g, 0, none⟩) m cap) V2 rfl rfl (fun v wx => v = .slice (some ⟨g, 0, none⟩) m cap ∧ wx = wd) ⟨_, _, h5 _ _, rfl, rfl⟩ ?_
  rintro _ _ ⟨rfl, rfl⟩
  refine hK.out _ _ SX.out (fun _ => ?_)
  clear hK
  try simp only [Act.put, List.getElem_toArray, List.getElem_cons_succ, List.getElem_cons_zero, List.setIfInBounds_toArray, List.set_cons_zero, List.set_cons_succ]
  refine wpAnyH_take (i := 7) (v := .slice (some ⟨g, 0, none⟩) m cap) rfl (by kernel_rfl) (by kernel_rfl) (by kernel_rfl) (fun _ _ _ h => h) (Or.inl ⟨by rfl, fun wx hS => ?_⟩) SX.out ?_
  · go_simp
  try simp only [Act.put, List.getElem_toArray, List.getElem_cons_succ, List.getElem_cons_zero, List.setIfInBounds_toArray, List.set_cons_zero, List.set_cons_succ]
  refine wpAnyH_done (by kernel_rfl) ?_ _
  (try refine no_panic ?_)
  go_wp2
  go_ret
  exact ⟨rfl, HR.out⟩
section
variable {sb : Nat} {v : Value} {X : List Ob} {w : World}
/-- The last one is deleted. -/
theorem delete_last {g m cap : Nat} {cur : Array Value} (hX : X.length = m + 1) (hg : w.heap[g]? = some (.cells cur 30 (0, 0))) (hc : m + 1 ≤ cap) (hM : cap ≤ maxLen) (hcs : cur.size = cap * 6) (ht : cur.toList.take ((m + 1) * 6) = obCells X) :
    Calls Try.prog 46 #[.slice (some ⟨g, 0, none⟩) (m + 1) cap, .int .i64 m, .int .i64 ((m : Int) + 1)] w fun e w' => e = .returned (.slice (some ⟨g, 0, none⟩) m cap) ∧ w'.ownsRow 0 30 6 (.slice (some ⟨g, 0, none⟩) m cap) (X.take m).length (obCells (X.take m)) ∧ Kept (fun b => b < w.heap.size ∧ b ≠ g) w w' := by
  have hlen : (X.take m).length = m := by simp; omega
  have c1 : ((m : Int) + 1) = ((m + 1 : Nat) : Int) := by omega
  have s1 := slice33_h (some ⟨g, 0, none⟩) (m + 1) cap m (by omega)
  have s2 := slice33_l (some ⟨g, 0, none⟩) (m + 1) cap (m + 1) (Nat.le_refl _)
  have s3 := slice33_lhm (some ⟨g, 0, none⟩) (m + 1) cap m (m + 1) (m + 1) (by omega) (Nat.le_refl _) hc
  have s4 := slice33_lh (some ⟨g, 0, none⟩) m cap m (m + 1) (by omega) hc
  have q1 : sliced (some ⟨g, 0, none⟩) 0 m cap 6 = .slice (some ⟨g, 0, none⟩) m cap := by
    unfold sliced
    simp [Addr.add]
  have q3 : sliced (some ⟨g, 0, none⟩) m (m + 1) (m + 1) 6 = .slice (some ⟨g, m * 6, none⟩) 1 1 := by
    unfold sliced
    rw [if_neg (by omega), Option.map_some, Addr.add_mid, Nat.zero_add, Nat.add_sub_cancel_left]
  have q4 : sliced (some ⟨g, 0, none⟩) m (m + 1) cap 6 = .slice (some ⟨g, m * 6, none⟩) 1 (cap - m) := by
    unfold sliced
    rw [if_neg (by omega), Option.map_some, Addr.add_mid, Nat.zero_add, Nat.add_sub_cancel_left]
  rw [← c1] at s2 s3 s4
  rw [q1] at s1
  rw [q3] at s3
  rw [q4] at s4
  refine delete_core g m cap _ _ w s1 s2 s3 s4 (fun wx ty => ?_) (Lib.hid fun wx kx => ?_)
  · obtain ⟨i0, hi, hz0, hz1, hz2⟩ := info_parts info24
    have hu := Try.underlying46
    have hm : m ≤ cap := by omega
    obtain ⟨ae, he⟩ : ∃ ae, sliced (some ⟨g, 0, none⟩) (m + 1) (m + 1) cap 6 = .slice (some ae) 0 (cap - (m + 1)) := by
      unfold sliced
      rw [Nat.sub_self]
      split
      · exact ⟨_, rfl⟩
      · exact ⟨_, rfl⟩
    rw [he]
    simp [Builtin.append_, run_underlying hu, sizeOf, typeInfo, hi, Builtin.lenOf, Builtin.firstCells, loadCells, loadCellsFrom, hm, storeCells]
  · have hgx : wx.heap[g]? = some (.cells cur 30 (0, 0)) := (kx.block g (blk_lt hg)).trans hg
    refine ⟨_, fun ty => run_clear_ob wx g m (cap - m) cur 30 hgx (by rw [hcs]; omega) ty, ?_, ?_⟩
    · have h6 : (obCells [Ob.zero]).length = 6 := rfl
      refine ⟨by rw [obCells_length], .inr ⟨g, cap, _, by rw [hlen], Nat.zero_le _, setRow_heap wx g cur _ 30 _ hgx, by rw [hlen]; omega, hM, ?_, ?_⟩⟩
      · have hcl : cur.toList.length = cap * 6 := hcs
        simp only [List.size_toArray, List.length_append, List.length_take, List.length_drop, h6, hcl]
        omega
      · have e : (X.take m).length * 6 = (cur.toList.take (m * 6)).length := by
          have hcl : cur.toList.length = cap * 6 := hcs
          rw [hlen, List.length_take, hcl]
          omega
        rw [← take_obCells, ← ht, List.take_take, Nat.min_eq_left (by omega), e, List.append_assoc]
        exact List.take_left
    · exact ⟨kx.os, kx.tape, kx.output, by simpa using kx.size, fun b q => (setRow_other _ _ _ _ q.2).trans (kx.block b q.1)⟩
end
end Go.Proofs.Ytlkbnldpecolbaa

/- Walks of stack: Pop of an operand. -/
namespace Go.Proofs.Ytlkbnldpecolbaa
open Go.RowKit
set_option linter.unusedVariables false
set_option linter.unusedSimpArgs false
set_option maxHeartbeats 1000000
set_option maxRecDepth 100000

section
variable {sb : Nat} {v : Value} {X : List Ob} {w : World}
end
end Go.Proofs.Ytlkbnldpecolbaa

/- Walks of stack: Items; the helper Same. -/
namespace Go.Proofs.Ytlkbnldpecolbaa
open Go.RowKit
set_option linter.unusedVariables false
set_option linter.unusedSimpArgs false
set_option maxHeartbeats 1000000
set_option maxRecDepth 100000

theorem eql33_nil (w : World) (a : Option Addr) (n c : Nat) : (binOp .eql 46 (.slice a n c) (.slice none 0 0)).run Try.prog w = .ok (.bool a.isNone) w := Lib.run_eql_slice_nil w _ _ a n c 0 0 under33
/-- The cells of the i-th object of a slice. -/
theorem Seg.item {w : World} {vp : Value} {L : List Ob} (h : Seg w vp L) {i : Nat} {o : Ob} (hi : L[i]? = some o) : ∃ ad c, vp = .slice (some ad) L.length c ∧ ∀ j u, o.cells[j]? = some u → w.cell? ((ad.add (i * 6)).add j) = some u := by
  have hl := (List.getElem?_eq_some_iff.1 hi).1
  rcases h with ⟨_, rfl⟩ | ⟨ad, c, rfl, hc⟩
  · simp at hi
  · refine ⟨ad, c, rfl, fun j u hj => ?_⟩
    have hj6 : j < 6 := by have := (List.getElem?_eq_some_iff.1 hj).1; simpa [Ob.cells] using this
    rw [Addr.add_add]
    exact hc _ _ (by rw [obCells_get hi hj6]; exact hj)
theorem same_quiet {w : World} {va vb : Value} {L : List Ob} (ha : Seg w va L) (hb : Seg w vb L) (hL : L.length ≤ 1000) : Calls Try.prog 36 #[va, vb] w fun e w' => e = .returned (.bool true) ∧ ∃ m, w' = w.drewN m := by
  have HA := Lib.hid ha
  have HB := Lib.hid hb
  have HL := Lib.hid hL
  obtain ⟨pa, ca, rfl⟩ : ∃ p c, va = .slice p L.length c := by
    rcases ha with ⟨rfl, rfl⟩ | ⟨ad, c, rfl, _⟩
    · exact ⟨_, _, rfl⟩
    · exact ⟨_, _, rfl⟩
  obtain ⟨pb, cb, rfl⟩ : ∃ p c, vb = .slice p L.length c := by
    rcases hb with ⟨rfl, rfl⟩ | ⟨ad, c, rfl, _⟩
    · exact ⟨_, _, rfl⟩
    · exact ⟨_, _, rfl⟩
  clear ha hb hL
  go_enter Try.func36, Try.ntmps36
  go_wp2
  go_loopw [5] (fun i wr => ∃ j : Nat, j ≤ L.length ∧ i = .int .i64 j ∧ ∃ q, wr = w.drewN q) (fun i _ => L.length - (intOf i).toNat)
  case atStart => exact ⟨0, Nat.zero_le _, rfl, 0, rfl⟩
  case round =>
    obtain ⟨j, hj, rfl, q, hw⟩ := hrel
    have HW := Lib.hid hw
    have HK : Hid (Below w.heap.size w wr) := Lib.hid (hw ▸ below_drewN w q)
    clear hw
    by_cases hlt : j < L.length
    · have t1 : (j : Int) < L.length := by omega
      have t0 : (0 : Int) ≤ j := by omega
      have HJ := Lib.hid hlt
      have w1 : IntKind.i64.wrap ((j : Int) + 1) = (j : Int) + 1 := IntWalk.i64_in _ (by have := HL.out; omega)
      have w2 : wrap64 ((j : Int) + 1) = (j : Int) + 1 := by rw [← IntWalk.i64_left]; exact w1
      obtain ⟨o, ho⟩ : ∃ o, L[j]? = some o := ⟨_, List.getElem?_eq_getElem hlt⟩
      obtain ⟨ada, ca', ea, cca⟩ := (HA.out.later HK.out).item ho
      obtain ⟨adb, cb', eb, ccb⟩ := (HB.out.later HK.out).item ho
      obtain ⟨rfl, rfl⟩ : pa = some ada ∧ ca = ca' := by simpa using ea
      obtain ⟨rfl, rfl⟩ : pb = some adb ∧ cb = cb' := by simpa using eb
      have c0 : wr.cell? (ada.add (j * 6)) = some _ := cca 0 _ rfl
      have c1 : wr.cell? ⟨(ada.add (j * 6)).block, (ada.add (j * 6)).off + 1, none⟩ = some _ := cca 1 _ rfl
      have c2 : wr.cell? ⟨(ada.add (j * 6)).block, (ada.add (j * 6)).off + 2, none⟩ = some _ := cca 2 _ rfl
      have c3 : wr.cell? ⟨(ada.add (j * 6)).block, (ada.add (j * 6)).off + 3, none⟩ = some _ := cca 3 _ rfl
      have c4 : wr.cell? ⟨(ada.add (j * 6)).block, (ada.add (j * 6)).off + 4, none⟩ = some _ := cca 4 _ rfl
      have c5 : wr.cell? ⟨(ada.add (j * 6)).block, (ada.add (j * 6)).off + 5, none⟩ = some _ := cca 5 _ rfl
      have d0 : wr.cell? (adb.add (j * 6)) = some _ := ccb 0 _ rfl
      have d1 : wr.cell? ⟨(adb.add (j * 6)).block, (adb.add (j * 6)).off + 1, none⟩ = some _ := ccb 1 _ rfl
      have d2 : wr.cell? ⟨(adb.add (j * 6)).block, (adb.add (j * 6)).off + 2, none⟩ = some _ := ccb 2 _ rfl
      have d3 : wr.cell? ⟨(adb.add (j * 6)).block, (adb.add (j * 6)).off + 3, none⟩ = some _ := ccb 3 _ rfl
      have d4 : wr.cell? ⟨(adb.add (j * 6)).block, (adb.add (j * 6)).off + 4, none⟩ = some _ := ccb 4 _ rfl
      have d5 : wr.cell? ⟨(adb.add (j * 6)).block, (adb.add (j * 6)).off + 5, none⟩ = some _ := ccb 5 _ rfl
      have qe : ∀ w, (binOp .eql 30 (.agg #[.int .i64 o.k, .bool o.x, .int .i64 o.n, .int .i64 o.a, .int .i64 o.l, .string o.s]) (.agg #[.int .i64 o.k, .bool o.x, .int .i64 o.n, .int .i64 o.a, .int .i64 o.l, .string o.s])).run Try.prog w = .ok (.bool true) w := fun w => by rw [eqO]; simp
      clear ea eb cca ccb ho
      go_wp2_with fail
      go_quiet (fail)
      go_wp2
      go_roundw
      case rel => exact ⟨j + 1, HJ.out, by go_num, _, by rw [HW.out, World.drewN_drewN]⟩
      case measure => exact measure_up L.length j _ (by go_num) HJ.out
    · have e : j = L.length := by omega
      subst e
      have t1 : ¬ ((L.length : Int) < L.length) := by omega
      go_wp2
      go_ret
      exact ⟨rfl, _, HW.out⟩
theorem same_yes {w : World} {va vb : Value} {L : List Ob} (ha : Seg w va L) (hb : Seg w vb L) (hL : L.length ≤ 1000) : Calls Try.prog 36 #[va, vb] w fun e w' => e = .returned (.bool true) ∧ Below w.heap.size w w' := by
  refine (same_quiet ha hb hL).mono ?_
  rintro e w' ⟨rfl, m, rfl⟩
  exact ⟨rfl, below_drewN _ _⟩
end Go.Proofs.Ytlkbnldpecolbaa
