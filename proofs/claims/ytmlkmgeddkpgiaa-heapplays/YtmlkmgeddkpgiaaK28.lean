/- Walks of heap: Become, Copy. -/
import Derived.Test.YtmlkmgeddkpgiaaK27
import Derived.Test.YtmlkmgeddkpgiaaK20
namespace Go.Proofs.Ytmlkmgeddkpgiaa
open Go.RowKit
set_option linter.unusedVariables false

/-- The first k cells of P have their twins in the row at block B. -/
def Twins (role : Nat → Nat × Nat) (d hb B n k : Nat) (o : Obj) (P : List Cel) (w wr : World) : Prop := ∃ (role' : Nat → Nat × Nat) (ivs : List Value) (pb : Nat → Nat) (rv : Nat → Value), Keep role d w role' wr ∧ role' B = (d, 1) ∧ wr.heap[hb]? = some o ∧ wr.ownsRow 0 99 1 (.slice (some ⟨B, 0, none⟩) n n) n ivs ∧
  ∀ j cl, j < k → P[j]? = some cl → ∃ iv, ivs[j]? = some iv ∧ PCell wr iv (pb j) (rv j) cl ∧ role' (pb j) = (d, 2 * j + 2) ∧ ∀ g, (rv j).ownBlock = some g → role' g = (d, 2 * j + 3)

theorem Twins.step {role : Nat → Nat × Nat} {d hb B n k : Nat} {o : Obj} {P : List Cel} {w wr w1 : World} {cl : Cel} {b : Nat} {iv v : Value} (h : Twins role d hb B n k o P w wr) (hB : role hb = (d, 0)) (hhb : hb < w.heap.size) (hk : k < n) (hcl : P[k]? = some cl) (k1 : Below wr.heap.size wr w1) (hb1 : wr.heap.size ≤ b) (hc : PCell w1 iv b v cl)
    (hv : ∀ g, v.ownBlock = some g → wr.heap.size ≤ g ∧ g ≠ b) : Twins role d hb B n (k + 1) o P w (w1.setCell ⟨B, k, none⟩ iv) := by
  obtain ⟨role', ivs, pb, rv, q1, q2, q3, q4, q5⟩ := h
  have hBl : B < wr.heap.size := (q4.lt B rfl).2
  have old : ∀ g, g < wr.heap.size → newRole role' wr.heap.size d k b v.ownBlock g = role' g := fun g hg => paint_old hg
  have hne : hb ≠ B := fun e => by
    have := q1.same hb hhb
    rw [e, q2, ← e, hB] at this
    simp at this
  have set : ∀ g, g ≠ B → (w1.setCell ⟨B, k, none⟩ iv).heap[g]? = w1.heap[g]? := fun g hg => heap_setCell_other _ _ _ _ hg
  have q4' : w1.ownsRow 0 99 1 (.slice (some ⟨B, 0, none⟩) n n) n ivs := owns_same q4 fun g _ hg => k1.block g hg
  have hlen : ivs.length = n := by
    have := q4.1
    omega
  refine ⟨newRole role' wr.heap.size d k b v.ownBlock, ivs.set k iv, fun j => if j = k then b else pb j, fun j => if j = k then v else rv j, ?_, ?_, ?_, ?_, ?_⟩
  · refine q1.trans ⟨k1.os, k1.tape, k1.output, by simpa [World.setCell] using k1.size, fun g hg hcol => ?_, old⟩
    rw [set g (fun e => hcol (by rw [e, q2]))]
    exact k1.block g hg
  · rw [old B hBl]
    exact q2
  · rw [set hb hne, k1.block hb (blk_lt q3)]
    exact q3
  · have := (q4'.stored k iv).1
    simpa using this
  · intro j cl' hj hcl'
    by_cases e : j = k
    · subst e
      have : cl = cl' := by rw [hcl] at hcl'; simpa using hcl'
      subst this
      simp only [if_true]
      refine ⟨iv, List.getElem?_set_self (by omega), hc.same (set b (by omega)) fun g e _ => set g (by have := (hv g e).1; omega), ?_, fun g e => ?_⟩
      · rw [newRole, paint_new hb1, if_pos rfl]
      · rw [newRole, paint_new (hv g e).1, if_neg (hv g e).2, if_pos e.symm]
    · obtain ⟨iv', r1, r2, r3, r4⟩ := q5 j cl' (by omega) hcl'
      simp only [if_neg e]
      refine ⟨iv', by rw [List.getElem?_set_ne (Ne.symm e)]; exact r1, (r2.later k1).same (set _ ?_) fun g eg _ => set g ?_, ?_, fun g eg => ?_⟩
      · intro e2
        rw [e2, q2] at r3
        simp at r3
      · intro e2
        have := r4 g eg
        rw [e2, q2] at this
        simp at this
      · rw [old _ r2.lt]
        exact r3
      · rw [old _ (r2.row_lt eg)]
        exact r4 g eg

theorem Twins.done {role : Nat → Nat × Nat} {c d hb gb B : Nat} {v0 v1 vc : Value} {ivs0 : List Value} {pb0 : Nat → Nat} {rv0 : Nat → Value} {P : List Cel} {w wr : World} (h : Twins role d hb B P.length P.length (.cells #[v0, v1] 97 (0, 0)) P w wr) (h0 : PH role c gb vc ivs0 pb0 rv0 P w) (hB : role hb = (d, 0)) (hhb : hb < w.heap.size) :
    ∃ role', PHeap role' d hb P ((wr.setCell ⟨hb, 0, none⟩ (.slice (some ⟨B, 0, none⟩) P.length P.length)).setCell ⟨hb, 1, none⟩ (.int .i64 (usedP P))) ∧ Keep role d w role' ((wr.setCell ⟨hb, 0, none⟩ (.slice (some ⟨B, 0, none⟩) P.length P.length)).setCell ⟨hb, 1, none⟩ (.int .i64 (usedP P))) := by
  obtain ⟨role', ivs, pb, rv, q1, q2, q3, q4, q5⟩ := h
  have hr : role' hb = (d, 0) := (q1.same hb hhb).trans hB
  have set : ∀ g, g ≠ hb → ((wr.setCell ⟨hb, 0, none⟩ (.slice (some ⟨B, 0, none⟩) P.length P.length)).setCell ⟨hb, 1, none⟩ (.int .i64 (usedP P))).heap[g]? = wr.heap[g]? := fun g hg => by
    rw [heap_setCell_other _ _ _ _ hg, heap_setCell_other _ _ _ _ hg]
  refine ⟨role', ⟨.slice (some ⟨B, 0, none⟩) P.length P.length, ivs, pb, rv, h0.wf, hr, ?_, ?_, fun g e => ?_, fun j cl hj => ?_⟩, q1.trans ⟨rfl, rfl, rfl, by simp [World.setCell], fun g hg hcol => set g fun e => hcol (by rw [e, hr]), fun _ _ => rfl⟩⟩
  · exact heap_setCell_same _ hb 1 _ 97 _ (heap_setCell_same wr hb 0 _ 97 _ q3)
  · refine owns_same q4 fun g e _ => set g fun e2 => ?_
    have : B = g := by simpa [Value.ownBlock] using e
    rw [← this] at e2
    rw [e2, hr] at q2
    simp at q2
  · have : B = g := by simpa [Value.ownBlock] using e
    rw [← this]
    exact q2
  · obtain ⟨iv, r1, r2, r3, r4⟩ := q5 j cl (List.getElem?_eq_some_iff.1 hj).1 hj
    refine ⟨iv, r1, r2.same (set _ fun e => ?_) fun g eg _ => set g fun e => ?_, r3, r4⟩
    · rw [e, hr] at r3
      simp at r3
    · have := r4 g eg
      rw [e, hr] at this
      simp at this

theorem info92 : (Try.prog.info? 99).map (fun i => (i.zero, i.size, i.bytes)) = some (some .nilIface, 1, 16) := by kernel_rfl
theorem method_twin106 (r : Nat) (w : World) : (method 294 156 (ptr r) "tympan/heap.twin").run Try.prog w = .ok (161, ptr r) w := by kernel_rfl
theorem method_twin89 (r : Nat) (w : World) : (method 294 141 (ptr r) "tympan/heap.twin").run Try.prog w = .ok (155, ptr r) w := by kernel_rfl
theorem twins_cell {role : Nat → Nat × Nat} {d hb B n k i : Nat} {o : Obj} {P : List Cel} {w wr w1 : World} (h : Twins role d hb B n k o P w wr) (k1 : Below wr.heap.size wr w1) (hi : i < n) : (∃ u, w1.cell? ⟨B, i, none⟩ = some u) ∧ w1.frozen? ⟨B, i, none⟩ = false := by
  obtain ⟨role', ivs, pb, rv, q1, q2, q3, q4, q5⟩ := h
  have q : w1.ownsRow 0 99 1 (.slice (some ⟨B, 0, none⟩) n n) n ivs := owns_same q4 fun g _ hg => k1.block g hg
  have hl := q4.1
  refine ⟨⟨ivs[i]'(by omega), ?_⟩, q.frozenAt _⟩
  rw [q.cellAt i (by omega)]
  exact List.getElem?_eq_getElem _

theorem wrap64_step {n : Nat} (k : Nat) (hn : n ≤ 2000) (h : k < n) : wrap64 ((k : Int) + 1) = ((k + 1 : Nat) : Int) := by
  unfold wrap64
  omega
theorem measure_up (K x : Nat) (q : Int) (h : q = ((x + 1 : Nat) : Int)) (hx : x < K) : K - (intOf (.int .i64 q)).toNat < K - (intOf (.int .i64 (x : Int))).toNat := by
  subst h
  simp [intOf]
  omega

set_option maxHeartbeats 1000000 in
set_option maxRecDepth 100000 in
theorem become_any {role : Nat → Nat × Nat} {c gb : Nat} {vc : Value} {ivs : List Value} {pb : Nat → Nat} {rv : Nat → Value} {P : List Cel} {w : World} (h : PH role c gb vc ivs pb rv P w) (d hb : Nat) (hcd : c ≠ d) (v0 v1 : Value) (hblk : w.heap[hb]? = some (.cells #[v0, v1] 97 (0, 0))) (hr : role hb = (d, 0)) :
    Calls Try.prog 20 #[ptr hb, ptr gb] w fun e w' => e = .returned (.tuple #[]) ∧ ∃ role', PHeap role' d hb P w' ∧ Keep role d w role' w' := by
  obtain ⟨i0, hi, hz0, hz1, hz2⟩ := info_parts info92
  obtain ⟨p, cap, rfl, c0⟩ := h.cells
  have c1 := h.used
  have H := Lib.hid h
  have HL : Hid (P.length ≤ 2000) := Lib.hid h.wf.len
  have HB := Lib.hid hblk
  have HR := Lib.hid hr
  have HH := Lib.hid (blk_lt hblk)
  have HC := Lib.hid hcd
  clear h hblk hr hcd
  go_enter Try.func20, Try.ntmps20
  go_wp2_with (first
    | (refine wpList_make_full w rfl _ _ 95 rfl w.heap.size 99 i0 .nilIface 1 Try.underlying95 hi hz0 hz1 .i64 .i64 _ _ P.length rfl rfl rfl rfl (by rw [hz2]; have := HL.out; omega) (by unfold maxLen; have := HL.out; omega) (Nat.le_refl _) ?_))
  intro w1 hown hgrow
  have B1 : Hid (Below w.heap.size w w1) := Lib.hid ((Below.refl _ w).grown hgrow (Nat.le_refl _) (fun k e => by cases e))
  have T0 : Hid (Twins role d hb w.heap.size P.length 0 (.cells #[v0, v1] 97 (0, 0)) P w w1) := Lib.hid ⟨paint role w.heap.size fun _ => (d, 1), _, fun _ => 0, fun _ => .nilIface, Keep.paint role d B1.out _, paint_new (Nat.le_refl _), (B1.out.block _ HH.out).trans HB.out, hown.mono (Nat.zero_le _), fun j cl hj => by omega⟩
  replace c0 := cell_later B1.out c0
  clear hown hgrow
  go_wp2
  go_loopw [24] (fun i wr => ∃ k : Nat, k ≤ P.length ∧ i = .int .i64 k ∧ Twins role d hb w.heap.size P.length k (.cells #[v0, v1] 97 (0, 0)) P w wr) (fun i _ => P.length - (intOf i).toNat)
  case atStart => exact ⟨0, Nat.zero_le _, rfl, T0.out⟩
  case round =>
    obtain ⟨k, hk, rfl, tw⟩ := hrel
    have TW := Lib.hid tw
    clear tw c0 c1
    by_cases hlt : k < P.length
    · have hcl : P[k]? = some P[k] := List.getElem?_eq_getElem hlt
      obtain ⟨cl, ecl⟩ : ∃ cl, P[k] = cl := ⟨_, rfl⟩
      rw [ecl] at hcl
      have HCL := Lib.hid hcl
      obtain ⟨role', q⟩ : ∃ role', PH role' c gb (.slice p P.length cap) ivs pb rv P wr := by
        obtain ⟨role', _, _, _, q1, _⟩ := TW.out
        exact ⟨role', H.out.keep q1 HC.out⟩
      obtain ⟨g0, cap0, e0, e1, e2, e3⟩ := q.ivAt hcl
      obtain ⟨rfl, rfl⟩ : p = some ⟨g0, 0, none⟩ ∧ cap = cap0 := by simpa using e0
      have HZ : Hid (cl.size ≤ 40000) := Lib.hid (q.wf.size hcl)
      have PC := Lib.hid e3
      clear hcl ecl q e0
      have hlt' : (k : Int) < P.length := by omega
      have hlt0 : (0 : Int) ≤ k := by omega
      rcases celT_two cl with eT | eT
      · have tw := twin_any PC.out HZ.out
        rw [if_pos eT, eT] at tw
        rw [eT] at e2
        have hme := method_twin106
        have TC := Lib.hid tw
        clear tw
        go_wp2_with fail
        refine TC.out.mono ?_
        rintro e w2 ⟨b, v, rfl, hb1, pc, hv, k1⟩
        have ST := Lib.hid (TW.out.step HR.out HH.out hlt HCL.out k1 hb1 pc hv)
        obtain ⟨⟨u, cu⟩, fu⟩ := twins_cell TW.out k1 hlt
        clear hb1 pc hv k1 e1 e2 e3
        go_wp2
        go_roundw
        case rel => exact ⟨k + 1, hlt, congrArg (Value.int .i64) (wrap64_step k HL.out hlt), ST.out⟩
        case measure => exact measure_up P.length k _ (wrap64_step k HL.out hlt) hlt
      · have tw := twin_any PC.out HZ.out
        rw [if_neg (by rw [eT]; decide), eT] at tw
        rw [eT] at e2
        have hme := method_twin89
        have TC := Lib.hid tw
        clear tw
        go_wp2_with fail
        refine TC.out.mono ?_
        rintro e w2 ⟨b, v, rfl, hb1, pc, hv, k1⟩
        have ST := Lib.hid (TW.out.step HR.out HH.out hlt HCL.out k1 hb1 pc hv)
        obtain ⟨⟨u, cu⟩, fu⟩ := twins_cell TW.out k1 hlt
        clear hb1 pc hv k1 e1 e2 e3
        go_wp2
        go_roundw
        case rel => exact ⟨k + 1, hlt, congrArg (Value.int .i64) (wrap64_step k HL.out hlt), ST.out⟩
        case measure => exact measure_up P.length k _ (wrap64_step k HL.out hlt) hlt
    · have e : k = P.length := by omega
      subst e
      have u0 : wr.cell? ⟨gb, 1, none⟩ = some (.int .i64 (usedP P)) := by
        obtain ⟨role', _, _, _, q1, _⟩ := TW.out
        exact (H.out.keep q1 HC.out).used
      have hbl : wr.heap[hb]? = some (.cells #[v0, v1] 97 (0, 0)) := by
        obtain ⟨role', _, _, _, _, _, q3, _⟩ := TW.out
        exact q3
      have b0 := cellAt hbl 0
      have b1 := cellAt hbl 1
      have f0 := freeAt hbl 0
      have f1 := freeAt hbl 1
      simp at b0 b1
      have hne : gb ≠ hb := fun e => by
        have := H.out.hrole
        rw [e, HR.out] at this
        exact HC.out (by simpa using this.symm)
      clear hbl hlt
      go_wp2
      go_end0
      exact ⟨rfl, TW.out.done H.out HR.out HH.out⟩
end Go.Proofs.Ytmlkmgeddkpgiaa
