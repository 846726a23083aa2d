/- Y11: K28, K25, K26, K29. -/
import Derived.Test.YtlkbnldpecolbaaY10
import Derived.Test.YtlkbnldpecolbaaY09
/- Walks of heap: Become, Copy. -/
namespace Go.Proofs.Ytlkbnldpecolbaa
open Go.RowKit
set_option linter.unusedVariables false

/-- The first k cells of P have their twins in the row at block B. -/
def Twins (role : Nat → Nat × Nat) (d hb B n k : Nat) (o : Obj) (P : List Cel) (w wr : World) : Prop := ∃ (role' : Nat → Nat × Nat) (ivs : List Value) (pb : Nat → Nat) (rv : Nat → Value), Keep role d w role' wr ∧ role' B = (d, 1) ∧ wr.heap[hb]? = some o ∧ wr.ownsRow 0 110 1 (.slice (some ⟨B, 0, none⟩) n n) n ivs ∧
  ∀ j cl, j < k → P[j]? = some cl → ∃ iv, ivs[j]? = some iv ∧ PCell wr iv (pb j) (rv j) cl ∧ role' (pb j) = (d, 2 * j + 2) ∧ ∀ g, (rv j).ownBlock = some g → role' g = (d, 2 * j + 3)

theorem Twins.step {role : Nat → Nat × Nat} {d hb B n k : Nat} {o : Obj} {P : List Cel} {w wr w1 : World} {cl : Cel} {b : Nat} {iv v : Value} (h : Twins role d hb B n k o P w wr) (hB : role hb = (d, 0)) (hhb : hb < w.heap.size) (hk : k < n) (hcl : P[k]? = some cl) (k1 : Below wr.heap.size wr w1) (hb1 : wr.heap.size ≤ b) (hc : PCell w1 iv b v cl)
    (hv : ∀ g, v.ownBlock = some g → wr.heap.size ≤ g ∧ g ≠ b) : Twins role d hb B n (k + 1) o P w (w1.setCell ⟨B, k, none⟩ iv) := by
  obtain ⟨role', ivs, pb, rv, q1, q2, q3, q4, q5⟩ := h
  have hBl : B < wr.heap.size := (q4.lt B rfl).2
  have old : ∀ g, g < wr.heap.size → newRole role' wr.heap.size d k b v.ownBlock g = role' g := fun g hg => paint_old hg
  have hne : hb ≠ B := fun e => by
    have := q1.same hb hhb
    rw [e, q2, ← e, hB] at this
    simp at this
  have set : ∀ g, g ≠ B → (w1.setCell ⟨B, k, none⟩ iv).heap[g]? = w1.heap[g]? := fun g hg => heap_setCell_other _ _ _ _ hg
  have q4' : w1.ownsRow 0 110 1 (.slice (some ⟨B, 0, none⟩) n n) n ivs := owns_same q4 fun g _ hg => k1.block g hg
  have hlen : ivs.length = n := by
    have := q4.1
    omega
  refine ⟨newRole role' wr.heap.size d k b v.ownBlock, ivs.set k iv, fun j => if j = k then b else pb j, fun j => if j = k then v else rv j, ?_, ?_, ?_, ?_, ?_⟩
  · refine q1.trans ⟨k1.os, k1.tape, k1.output, by simpa [World.setCell] using k1.size, fun g hg hcol => ?_, old⟩
    rw [set g (fun e => hcol (by rw [e, q2]))]
    exact k1.block g hg
  · rw [old B hBl]
    exact q2
  · rw [set hb hne, k1.block hb (blk_lt q3)]
    exact q3
  · have := (q4'.stored k iv).1
    simpa using this
  · intro j cl' hj hcl'
    by_cases e : j = k
    · subst e
      have : cl = cl' := by rw [hcl] at hcl'; simpa using hcl'
      subst this
      simp only [if_true]
      refine ⟨iv, List.getElem?_set_self (by omega), hc.same (set b (by omega)) fun g e _ => set g (by have := (hv g e).1; omega), ?_, fun g e => ?_⟩
      · rw [newRole, paint_new hb1, if_pos rfl]
      · rw [newRole, paint_new (hv g e).1, if_neg (hv g e).2, if_pos e.symm]
    · obtain ⟨iv', r1, r2, r3, r4⟩ := q5 j cl' (by omega) hcl'
      simp only [if_neg e]
      refine ⟨iv', by rw [List.getElem?_set_ne (Ne.symm e)]; exact r1, (r2.later k1).same (set _ ?_) fun g eg _ => set g ?_, ?_, fun g eg => ?_⟩
      · intro e2
        rw [e2, q2] at r3
        simp at r3
      · intro e2
        have := r4 g eg
        rw [e2, q2] at this
        simp at this
      · rw [old _ r2.lt]
        exact r3
      · rw [old _ (r2.row_lt eg)]
        exact r4 g eg

theorem Twins.done {role : Nat → Nat × Nat} {c d hb gb B : Nat} {v0 v1 vc : Value} {ivs0 : List Value} {pb0 : Nat → Nat} {rv0 : Nat → Value} {P : List Cel} {w wr : World} (h : Twins role d hb B P.length P.length (.cells #[v0, v1] 72 (0, 0)) P w wr) (h0 : PH role c gb vc ivs0 pb0 rv0 P w) (hB : role hb = (d, 0)) (hhb : hb < w.heap.size) :
    ∃ role', PHeap role' d hb P ((wr.setCell ⟨hb, 0, none⟩ (.slice (some ⟨B, 0, none⟩) P.length P.length)).setCell ⟨hb, 1, none⟩ (.int .i64 (usedP P))) ∧ Keep role d w role' ((wr.setCell ⟨hb, 0, none⟩ (.slice (some ⟨B, 0, none⟩) P.length P.length)).setCell ⟨hb, 1, none⟩ (.int .i64 (usedP P))) := by
  obtain ⟨role', ivs, pb, rv, q1, q2, q3, q4, q5⟩ := h
  have hr : role' hb = (d, 0) := (q1.same hb hhb).trans hB
  have set : ∀ g, g ≠ hb → ((wr.setCell ⟨hb, 0, none⟩ (.slice (some ⟨B, 0, none⟩) P.length P.length)).setCell ⟨hb, 1, none⟩ (.int .i64 (usedP P))).heap[g]? = wr.heap[g]? := fun g hg => by
    rw [heap_setCell_other _ _ _ _ hg, heap_setCell_other _ _ _ _ hg]
  refine ⟨role', ⟨.slice (some ⟨B, 0, none⟩) P.length P.length, ivs, pb, rv, h0.wf, hr, ?_, ?_, fun g e => ?_, fun j cl hj => ?_⟩, q1.trans ⟨rfl, rfl, rfl, by simp [World.setCell], fun g hg hcol => set g fun e => hcol (by rw [e, hr]), fun _ _ => rfl⟩⟩
  · exact heap_setCell_same _ hb 1 _ 72 _ (heap_setCell_same wr hb 0 _ 72 _ q3)
  · refine owns_same q4 fun g e _ => set g fun e2 => ?_
    have : B = g := by simpa [Value.ownBlock] using e
    rw [← this] at e2
    rw [e2, hr] at q2
    simp at q2
  · have : B = g := by simpa [Value.ownBlock] using e
    rw [← this]
    exact q2
  · obtain ⟨iv, r1, r2, r3, r4⟩ := q5 j cl (List.getElem?_eq_some_iff.1 hj).1 hj
    refine ⟨iv, r1, r2.same (set _ fun e => ?_) fun g eg _ => set g fun e => ?_, r3, r4⟩
    · rw [e, hr] at r3
      simp at r3
    · have := r4 g eg
      rw [e, hr] at this
      simp at this

theorem info92 : (Try.prog.info? 110).map (fun i => (i.zero, i.size, i.bytes)) = some (some .nilIface, 1, 16) := by kernel_rfl
theorem method_twin106 (r : Nat) (w : World) : (method 270 113 (ptr r) "tympan/heap.twin").run Try.prog w = .ok (131, ptr r) w := by kernel_rfl
theorem method_twin89 (r : Nat) (w : World) : (method 270 134 (ptr r) "tympan/heap.twin").run Try.prog w = .ok (137, ptr r) w := by kernel_rfl
theorem twins_cell {role : Nat → Nat × Nat} {d hb B n k i : Nat} {o : Obj} {P : List Cel} {w wr w1 : World} (h : Twins role d hb B n k o P w wr) (k1 : Below wr.heap.size wr w1) (hi : i < n) : (∃ u, w1.cell? ⟨B, i, none⟩ = some u) ∧ w1.frozen? ⟨B, i, none⟩ = false := by
  obtain ⟨role', ivs, pb, rv, q1, q2, q3, q4, q5⟩ := h
  have q : w1.ownsRow 0 110 1 (.slice (some ⟨B, 0, none⟩) n n) n ivs := owns_same q4 fun g _ hg => k1.block g hg
  have hl := q4.1
  refine ⟨⟨ivs[i]'(by omega), ?_⟩, q.frozenAt _⟩
  rw [q.cellAt i (by omega)]
  exact List.getElem?_eq_getElem _

theorem wrap64_step {n : Nat} (k : Nat) (hn : n ≤ 2000) (h : k < n) : wrap64 ((k : Int) + 1) = ((k + 1 : Nat) : Int) := by
  unfold wrap64
  omega
theorem measure_up (K x : Nat) (q : Int) (h : q = ((x + 1 : Nat) : Int)) (hx : x < K) : K - (intOf (.int .i64 q)).toNat < K - (intOf (.int .i64 (x : Int))).toNat := by
  subst h
  simp [intOf]
  omega

set_option maxHeartbeats 1000000 in
set_option maxRecDepth 100000 in
theorem become_any {role : Nat → Nat × Nat} {c gb : Nat} {vc : Value} {ivs : List Value} {pb : Nat → Nat} {rv : Nat → Value} {P : List Cel} {w : World} (h : PH role c gb vc ivs pb rv P w) (d hb : Nat) (hcd : c ≠ d) (v0 v1 : Value) (hblk : w.heap[hb]? = some (.cells #[v0, v1] 72 (0, 0))) (hr : role hb = (d, 0)) :
    Calls Try.prog 40 #[ptr hb, ptr gb] w fun e w' => e = .returned (.tuple #[]) ∧ ∃ role', PHeap role' d hb P w' ∧ Keep role d w role' w' := by
  obtain ⟨i0, hi, hz0, hz1, hz2⟩ := info_parts info92
  obtain ⟨p, cap, rfl, c0⟩ := h.cells
  have c1 := h.used
  have H := Lib.hid h
  have HL : Hid (P.length ≤ 2000) := Lib.hid h.wf.len
  have HB := Lib.hid hblk
  have HR := Lib.hid hr
  have HH := Lib.hid (blk_lt hblk)
  have HC := Lib.hid hcd
  clear h hblk hr hcd
  go_enter Try.func40, Try.ntmps40
  go_wp2_with (first
    | (refine wpList_make_full w rfl _ _ 70 rfl w.heap.size 110 i0 .nilIface 1 Try.underlying70 hi hz0 hz1 .i64 .i64 _ _ P.length rfl rfl rfl rfl (by rw [hz2]; have := HL.out; omega) (by unfold maxLen; have := HL.out; omega) (Nat.le_refl _) ?_))
  intro w1 hown hgrow
  have B1 : Hid (Below w.heap.size w w1) := Lib.hid ((Below.refl _ w).grown hgrow (Nat.le_refl _) (fun k e => by cases e))
  have T0 : Hid (Twins role d hb w.heap.size P.length 0 (.cells #[v0, v1] 72 (0, 0)) P w w1) := Lib.hid ⟨paint role w.heap.size fun _ => (d, 1), _, fun _ => 0, fun _ => .nilIface, Keep.paint role d B1.out _, paint_new (Nat.le_refl _), (B1.out.block _ HH.out).trans HB.out, hown.mono (Nat.zero_le _), fun j cl hj => by omega⟩
  replace c0 := cell_later B1.out c0
  clear hown hgrow
  go_wp2
  go_loopw [24] (fun i wr => ∃ k : Nat, k ≤ P.length ∧ i = .int .i64 k ∧ Twins role d hb w.heap.size P.length k (.cells #[v0, v1] 72 (0, 0)) P w wr) (fun i _ => P.length - (intOf i).toNat)
  case atStart => exact ⟨0, Nat.zero_le _, rfl, T0.out⟩
  case round =>
    obtain ⟨k, hk, rfl, tw⟩ := hrel
    have TW := Lib.hid tw
    clear tw c0 c1
    by_cases hlt : k < P.length
    · have hcl : P[k]? = some P[k] := List.getElem?_eq_getElem hlt
      obtain ⟨cl, ecl⟩ : ∃ cl, P[k] = cl := ⟨_, rfl⟩
      rw [ecl] at hcl
      have HCL := Lib.hid hcl
      obtain ⟨role', q⟩ : ∃ role', PH role' c gb (.slice p P.length cap) ivs pb rv P wr := by
        obtain ⟨role', _, _, _, q1, _⟩ := TW.out
        exact ⟨role', H.out.keep q1 HC.out⟩
      obtain ⟨g0, cap0, e0, e1, e2, e3⟩ := q.ivAt hcl
      obtain ⟨rfl, rfl⟩ : p = some ⟨g0, 0, none⟩ ∧ cap = cap0 := by simpa using e0
      have HZ : Hid (cl.size ≤ 40000) := Lib.hid (q.wf.size hcl)
      have PC := Lib.hid e3
      clear hcl ecl q e0
      have hlt' : (k : Int) < P.length := by omega
      have hlt0 : (0 : Int) ≤ k := by omega
      rcases celT_two cl with eT | eT
      · have tw := twin_any PC.out HZ.out
        rw [if_pos eT, eT] at tw
        rw [eT] at e2
        have hme := method_twin106
        have TC := Lib.hid tw
        clear tw
        go_wp2_with fail
        refine TC.out.mono ?_
        rintro e w2 ⟨b, v, rfl, hb1, pc, hv, k1⟩
        have ST := Lib.hid (TW.out.step HR.out HH.out hlt HCL.out k1 hb1 pc hv)
        obtain ⟨⟨u, cu⟩, fu⟩ := twins_cell TW.out k1 hlt
        clear hb1 pc hv k1 e1 e2 e3
        go_wp2
        go_roundw
        case rel => exact ⟨k + 1, hlt, congrArg (Value.int .i64) (wrap64_step k HL.out hlt), ST.out⟩
        case measure => exact measure_up P.length k _ (wrap64_step k HL.out hlt) hlt
      · have tw := twin_any PC.out HZ.out
        rw [if_neg (by rw [eT]; decide), eT] at tw
        rw [eT] at e2
        have hme := method_twin89
        have TC := Lib.hid tw
        clear tw
        go_wp2_with fail
        refine TC.out.mono ?_
        rintro e w2 ⟨b, v, rfl, hb1, pc, hv, k1⟩
        have ST := Lib.hid (TW.out.step HR.out HH.out hlt HCL.out k1 hb1 pc hv)
        obtain ⟨⟨u, cu⟩, fu⟩ := twins_cell TW.out k1 hlt
        clear hb1 pc hv k1 e1 e2 e3
        go_wp2
        go_roundw
        case rel => exact ⟨k + 1, hlt, congrArg (Value.int .i64) (wrap64_step k HL.out hlt), ST.out⟩
        case measure => exact measure_up P.length k _ (wrap64_step k HL.out hlt) hlt
    · have e : k = P.length := by omega
      subst e
      have u0 : wr.cell? ⟨gb, 1, none⟩ = some (.int .i64 (usedP P)) := by
        obtain ⟨role', _, _, _, q1, _⟩ := TW.out
        exact (H.out.keep q1 HC.out).used
      have hbl : wr.heap[hb]? = some (.cells #[v0, v1] 72 (0, 0)) := by
        obtain ⟨role', _, _, _, _, _, q3, _⟩ := TW.out
        exact q3
      have b0 := cellAt hbl 0
      have b1 := cellAt hbl 1
      have f0 := freeAt hbl 0
      have f1 := freeAt hbl 1
      simp at b0 b1
      have hne : gb ≠ hb := fun e => by
        have := H.out.hrole
        rw [e, HR.out] at this
        exact HC.out (by simpa using this.symm)
      clear hbl hlt
      go_wp2
      go_end0
      exact ⟨rfl, TW.out.done H.out HR.out HH.out⟩
end Go.Proofs.Ytlkbnldpecolbaa

/- Put of bytes into their own cell. -/
namespace Go.Proofs.Ytlkbnldpecolbaa
open Go.RowKit
set_option linter.unusedVariables false
section
variable {role : Nat → Nat × Nat} {c hb : Nat} {vc : Value} {ivs : List Value} {pb : Nat → Nat} {rv : Nat → Value} {P : List Cel} {w w' : World}
def bputP (P : List Cel) (o q : Ob) (i : Int) : List Cel := P.set o.n.toNat { cellOf P o with bs := putB (cellOf P o).bs (o.a + i).toNat (bytesL P q) }

end
end Go.Proofs.Ytlkbnldpecolbaa

/- A heap beside blocks that it does not touch: Bytes, Put within a string; a heap of one string. -/
namespace Go.Proofs.Ytlkbnldpecolbaa
open Go.RowKit
set_option linter.unusedVariables false
section
variable {own : Nat → Prop} {hb : Nat} {P P' : List Cel} {w w' : World}
theorem sBytes (h : Sep own hb P w) (o : Ob) (L : List UInt8) (ho : okO P o = true) (hk : o.k = 8) (hpos : 0 < (cellOf P o).bs.length) (hL : bytesL P o = L) :
    Calls Try.prog 91 #[ptr hb, o.val] w fun e w' => e = .returned (.tuple #[.string ⟨L.toArray⟩, .int .i64 0]) ∧ Sep own hb P w' ∧ Kept own w w' := by
  have h0 := h
  obtain ⟨role, ⟨vc, ivs, pb, rv, h1⟩, h2⟩ := h
  refine (bytes_is h1 o ho hk hpos).mono ?_
  rintro e w' ⟨rfl, k⟩
  rw [hL]
  exact ⟨rfl, h0.below k⟩
end
/-- The heap of one string. -/
def strP (l : List UInt8) : List Cel := [⟨8, false, [], l⟩]
def sub8 (a l : Nat) : Ob := ⟨8, false, 0, a, l, ⟨#[]⟩⟩
theorem str_ok {L : List UInt8} {a n : Nat} (h : a + n ≤ L.length) (hL : L.length ≤ 40000) : okO (strP L) (sub8 a n) = true := by
  rw [okO_iff]
  refine ⟨rfl, ?_, ?_⟩
  · simp [Ob.may, sub8, mayO, pieceP]
    omega
  · simp [inCell, strP, sub8, cellOf, Cel.size]
    omega
theorem str_len {L : List UInt8} {a n : Nat} (h : a + n ≤ L.length) (hL : L.length ≤ 40000) : lenO (strP L) (sub8 a n) = n := by
  rw [lenO, str_ok h hL]
  simp [sub8]
theorem str_cell (L : List UInt8) (a n : Nat) : cellOf (strP L) (sub8 a n) = ⟨8, false, [], L⟩ := rfl
theorem str_bytes {L : List UInt8} {a n : Nat} (h : a + n ≤ L.length) (hL : L.length ≤ 40000) : bytesL (strP L) (sub8 a n) = (L.drop a).take n := by
  rw [bytesL, str_len h hL, str_cell]
  simp [sub8]
theorem str_part {L : List UInt8} {k i m : Nat} (h : k ≤ L.length) (hL : L.length ≤ 40000) (hi : i + m ≤ k) : partE (strP L) (sub8 0 k) i m = 0 ∧ partO (strP L) (sub8 0 k) i m = ⟨8, false, 0, i, m, ⟨#[]⟩⟩ := by
  have e : partE (strP L) (sub8 0 k) i m = 0 := by
    rw [partE, str_ok (by omega) hL, str_len (by omega) hL]
    simp [sub8]
    omega
  refine ⟨e, ?_⟩
  rw [partO, e]
  simp [sub8]
theorem str_put {L : List UInt8} {k a m b : Nat} (h : k = L.length) (hL : L.length ≤ 40000) (ha : a + m ≤ k) (hb : b + m ≤ k) : bputP (strP L) (sub8 0 k) (sub8 a m) b = strP (putB L b ((L.drop a).take m)) := by
  unfold bputP
  rw [str_cell, str_bytes (by omega) hL]
  simp [sub8, strP]
end Go.Proofs.Ytlkbnldpecolbaa

/- Walks of heap: Copy; two heaps beside blocks that neither touches. -/
namespace Go.Proofs.Ytlkbnldpecolbaa
open Go.RowKit
set_option linter.unusedVariables false

theorem copy_walk (gb : Nat) (R : Nat → World → Prop) (w : World) (hb : Hid (Calls Try.prog 40 #[ptr w.heap.size, ptr gb] (w.alloc (.cells #[.slice none 0 0, .int .i64 0] 72)) fun e w' => e = .returned (.tuple #[]) ∧ R w.heap.size w')) :
    Calls Try.prog 39 #[ptr gb] w fun e w' => ∃ b, e = .returned (ptr b) ∧ R b w' := by
  go_enter Try.func39, Try.ntmps39
  go_wp2_with fail
  refine (new_any w).mono ?_
  rintro e w1 ⟨rfl, rfl⟩
  go_wp2_with fail
  refine hb.out.mono ?_
  rintro e w2 ⟨rfl, hR⟩
  have HR := Lib.hid hR
  clear hR
  go_wp2
  go_ret
  exact ⟨_, rfl, HR.out⟩

/-- Two heaps (colours 1 and 2) beside blocks that neither touches. -/
def Duo (own : Nat → Prop) (hb gb : Nat) (P Q : List Cel) (w : World) : Prop := ∃ role, PHeap role 1 hb P w ∧ PHeap role 2 gb Q w ∧ ∀ b, own b → b < w.heap.size ∧ (role b).1 ≠ 1 ∧ (role b).1 ≠ 2
section
variable {own : Nat → Prop} {hb gb : Nat} {P P' Q Q' : List Cel} {w w' : World}
theorem Duo.op1 {role role' : Nat → Nat × Nat} (ho : ∀ b, own b → b < w.heap.size ∧ (role b).1 ≠ 1 ∧ (role b).1 ≠ 2) (h2 : PHeap role 2 gb Q w) (h : PHeap role' 1 hb P' w') (k : Keep role 1 w role' w') : Duo own hb gb P' Q w' ∧ Kept own w w' :=
  ⟨⟨role', h, h2.keep k (by decide), fun b hb => ⟨Nat.lt_of_lt_of_le (ho b hb).1 k.size, by rw [k.same b (ho b hb).1]; exact (ho b hb).2⟩⟩, k.os, k.tape, k.output, k.size, fun b hb => k.block b (ho b hb).1 (ho b hb).2.1⟩
theorem Duo.op2 {role role' : Nat → Nat × Nat} (ho : ∀ b, own b → b < w.heap.size ∧ (role b).1 ≠ 1 ∧ (role b).1 ≠ 2) (h1 : PHeap role 1 hb P w) (h : PHeap role' 2 gb Q' w') (k : Keep role 2 w role' w') : Duo own hb gb P Q' w' ∧ Kept own w w' :=
  ⟨⟨role', h1.keep k (by decide), h, fun b hb => ⟨Nat.lt_of_lt_of_le (ho b hb).1 k.size, by rw [k.same b (ho b hb).1]; exact (ho b hb).2⟩⟩, k.os, k.tape, k.output, k.size, fun b hb => k.block b (ho b hb).1 (ho b hb).2.2⟩
theorem Duo.below (h : Duo own hb gb P Q w) (k : Below w.heap.size w w') : Duo own hb gb P Q w' ∧ Kept own w w' := by
  obtain ⟨role, h1, h2, ho⟩ := h
  exact Duo.op1 ho h2 (h1.below k) (Keep.of_below 1 k)
theorem Duo.box (h : Duo own hb gb P Q w) (o : Obj) : Duo (fun b => own b ∨ b = w.heap.size) hb gb P Q (w.alloc o) := by
  obtain ⟨role, ⟨vc, ivs, pb, rv, h1⟩, ⟨vc2, ivs2, pb2, rv2, h2⟩, ho⟩ := h
  refine ⟨paint role w.heap.size fun _ => (0, 0), ⟨vc, ivs, pb, rv, h1.paint (box_below _ _) _⟩, ⟨vc2, ivs2, pb2, rv2, h2.paint (box_below _ _) _⟩, fun b hb => ?_⟩
  rcases hb with hb | rfl
  · have := ho b hb
    rw [paint_old this.1]
    refine ⟨?_, this.2⟩
    have := this.1
    simp
    omega
  · rw [paint_new (Nat.le_refl _)]
    exact ⟨by simp, by simp, by simp⟩
theorem Duo.box_ob (h : Duo own hb gb P Q w) (k : Int) (x : Bool) (n a l : Int) (s : ByteArray) :
    ∃ w', w.alloc (.cells #[.int .i64 k, .bool x, .int .i64 n, .int .i64 a, .int .i64 l, .string s] 30) = w' ∧ Duo (fun b => own b ∨ b = w.heap.size) hb gb P Q w' ∧ Kept own w w' ∧ w'.heap[w.heap.size]? = some (obObj k x n a l s) :=
  ⟨_, rfl, h.box _, (h.below (box_below _ _)).2, heap_alloc_new _ _⟩
theorem dSet (h : Duo own hb gb P Q w) (o : Ob) (i : Int) (x : Ob) (E : Int) (P' : List Cel) (hE : setE P o i x = E) (hP : setP P o i x = P') :
    Calls Try.prog 55 #[ptr hb, o.val, .int .i64 i, x.val] w fun e w' => e = .returned (.int .i64 E) ∧ Duo own hb gb P' Q w' ∧ Kept own w w' := by
  obtain ⟨role, ⟨vc, ivs, pb, rv, h1⟩, h2, ho⟩ := h
  refine (set_is h1 o i x).mono ?_
  rintro e w' ⟨rfl, q1, q2⟩
  rw [hE]
  rw [hP] at q1
  exact ⟨rfl, Duo.op1 ho h2 ⟨vc, ivs, pb, rv, q1⟩ q2⟩
theorem dBytes1 (h : Duo own hb gb P Q w) (o : Ob) (L : List UInt8) (ho : okO P o = true) (hk : o.k = 8) (hpos : 0 < (cellOf P o).bs.length) (hL : bytesL P o = L) :
    Calls Try.prog 91 #[ptr hb, o.val] w fun e w' => e = .returned (.tuple #[.string ⟨L.toArray⟩, .int .i64 0]) ∧ Duo own hb gb P Q w' ∧ Kept own w w' := by
  have h0 := h
  obtain ⟨role, ⟨vc, ivs, pb, rv, h1⟩, h2, ho'⟩ := h
  refine (bytes_is h1 o ho hk hpos).mono ?_
  rintro e w' ⟨rfl, k⟩
  rw [hL]
  exact ⟨rfl, h0.below k⟩
theorem dBytes2 (h : Duo own hb gb P Q w) (o : Ob) (L : List UInt8) (ho : okO Q o = true) (hk : o.k = 8) (hpos : 0 < (cellOf Q o).bs.length) (hL : bytesL Q o = L) :
    Calls Try.prog 91 #[ptr gb, o.val] w fun e w' => e = .returned (.tuple #[.string ⟨L.toArray⟩, .int .i64 0]) ∧ Duo own hb gb P Q w' ∧ Kept own w w' := by
  have h0 := h
  obtain ⟨role, h1, ⟨vc, ivs, pb, rv, h2⟩, ho'⟩ := h
  refine (bytes_is h2 o ho hk hpos).mono ?_
  rintro e w' ⟨rfl, k⟩
  rw [hL]
  exact ⟨rfl, h0.below k⟩
theorem dCells1 (h : Duo own hb gb P Q w) : Calls Try.prog 23 #[ptr hb] w fun e w' => e = .returned (.int .i64 P.length) ∧ w = w' := by
  obtain ⟨role, ⟨vc, ivs, pb, rv, h1⟩, h2, ho⟩ := h
  obtain ⟨p, cap, rfl, h0⟩ := h1.cells
  exact cells_any hb p P.length cap w h0
theorem dCells2 (h : Duo own hb gb P Q w) : Calls Try.prog 23 #[ptr gb] w fun e w' => e = .returned (.int .i64 Q.length) ∧ w = w' := by
  obtain ⟨role, h1, ⟨vc, ivs, pb, rv, h2⟩, ho⟩ := h
  obtain ⟨p, cap, rfl, h0⟩ := h2.cells
  exact cells_any gb p Q.length cap w h0

theorem become_new (h : Sep own hb P w) : Calls Try.prog 40 #[ptr w.heap.size, ptr hb] (w.alloc (.cells #[.slice none 0 0, .int .i64 0] 72)) fun e w' => e = .returned (.tuple #[]) ∧ Duo own hb w.heap.size P P w' ∧ Kept own w w' := by
  obtain ⟨role, ⟨vc, ivs, pb, rv, h1⟩, h2⟩ := h
  -- the old blocks of colour 2 are ours now
  have hp : PH (paint (fun b => if (role b).1 = 2 then (0, (role b).2) else role b) w.heap.size fun _ => (2, 0)) 1 hb vc ivs pb rv P (w.alloc (.cells #[.slice none 0 0, .int .i64 0] 72)) := by
    have q : PH (fun b => if (role b).1 = 2 then (0, (role b).2) else role b) 1 hb vc ivs pb rv P w := h1.same fun k hk hc => ⟨rfl, by simp [hc]⟩
    exact q.paint (box_below _ _) _
  refine (become_any hp 2 w.heap.size (by decide) _ _ (heap_alloc_new _ _) (paint_new (Nat.le_refl _))).mono ?_
  rintro e w' ⟨rfl, role', q1, q2⟩
  refine ⟨rfl, ⟨role', ?_, q1, fun b hb => ?_⟩, q2.os, q2.tape, q2.output, Nat.le_trans (by simp) q2.size, fun b hb => ?_⟩
  · exact PHeap.keep (⟨vc, ivs, pb, rv, hp⟩ : PHeap _ 1 hb P _) q2 (by decide)
  · have hl := (h2 b hb).1
    have hl' : b < (w.alloc (.cells #[.slice none 0 0, .int .i64 0] 72)).heap.size := by
      simp
      omega
    refine ⟨Nat.lt_of_lt_of_le hl' q2.size, ?_⟩
    rw [q2.same b hl', paint_old hl]
    have := (h2 b hb).2
    by_cases e2 : (role b).1 = 2
    · simp [e2]
    · simp [e2, this]
  · have hl := (h2 b hb).1
    have hl' : b < (w.alloc (.cells #[.slice none 0 0, .int .i64 0] 72)).heap.size := by
      simp
      omega
    rw [q2.block b hl' ?_, Below.heap_alloc _ _ _ hl]
    rw [paint_old hl]
    by_cases e2 : (role b).1 = 2
    · simp [e2]
    · simp [e2]
theorem sCopy (h : Sep own hb P w) : Calls Try.prog 39 #[ptr hb] w fun e w' => ∃ gb, e = .returned (ptr gb) ∧ Duo own hb gb P P w' ∧ Kept own w w' :=
  copy_walk hb (fun gb w' => Duo own hb gb P P w' ∧ Kept own w w') w (Lib.hid (become_new h))
theorem Duo.sep (h : Duo own hb gb P Q w) : Sep own hb P w := by
  obtain ⟨role, h1, h2, ho⟩ := h
  exact ⟨role, h1, fun b hb => ⟨(ho b hb).1, (ho b hb).2.1⟩⟩
end
end Go.Proofs.Ytlkbnldpecolbaa
