/- X17: K28, K29, K31, Q1. -/
import Derived.Test.YtlkbnldpecolbaaX16
import Derived.Test.YtlkbnldpecolbaaX09
import Derived.Test.YtlkbnldpecolbaaX11
/- Walks of heap: Become, Copy. -/
namespace Go.Proofs.Ytlkbnldpecolbaa
open Go.RowKit
set_option linter.unusedVariables false

/-- The first k cells of P have their twins in the row at block B. -/
def Twins (role : Nat → Nat × Nat) (d hb B n k : Nat) (o : Obj) (P : List Cel) (w wr : World) : Prop := ∃ (role' : Nat → Nat × Nat) (ivs : List Value) (pb : Nat → Nat) (rv : Nat → Value), Keep role d w role' wr ∧ role' B = (d, 1) ∧ wr.heap[hb]? = some o ∧ wr.ownsRow 0 110 1 (.slice (some ⟨B, 0, none⟩) n n) n ivs ∧
  ∀ j cl, j < k → P[j]? = some cl → ∃ iv, ivs[j]? = some iv ∧ PCell wr iv (pb j) (rv j) cl ∧ role' (pb j) = (d, 2 * j + 2) ∧ ∀ g, (rv j).ownBlock = some g → role' g = (d, 2 * j + 3)

theorem Twins.step {role : Nat → Nat × Nat} {d hb B n k : Nat} {o : Obj} {P : List Cel} {w wr w1 : World} {cl : Cel} {b : Nat} {iv v : Value} (h : Twins role d hb B n k o P w wr) (hB : role hb = (d, 0)) (hhb : hb < w.heap.size) (hk : k < n) (hcl : P[k]? = some cl) (k1 : Below wr.heap.size wr w1) (hb1 : wr.heap.size ≤ b) (hc : PCell w1 iv b v cl)
    (hv : ∀ g, v.ownBlock = some g → wr.heap.size ≤ g ∧ g ≠ b) : Twins role d hb B n (k + 1) o P w (w1.setCell ⟨B, k, none⟩ iv) := by
  obtain ⟨role', ivs, pb, rv, q1, q2, q3, q4, q5⟩ := h
  have hBl : B < wr.heap.size := (q4.lt B rfl).2
  have old : ∀ g, g < wr.heap.size → newRole role' wr.heap.size d k b v.ownBlock g = role' g := fun g hg => paint_old hg
  have hne : hb ≠ B := fun e => by
    have := q1.same hb hhb
    rw [e, q2, ← e, hB] at this
    simp at this
  have set : ∀ g, g ≠ B → (w1.setCell ⟨B, k, none⟩ iv).heap[g]? = w1.heap[g]? := fun g hg => heap_setCell_other _ _ _ _ hg
  have q4' : w1.ownsRow 0 110 1 (.slice (some ⟨B, 0, none⟩) n n) n ivs := owns_same q4 fun g _ hg => k1.block g hg
  have hlen : ivs.length = n := by
    have := q4.1
    omega
  refine ⟨newRole role' wr.heap.size d k b v.ownBlock, ivs.set k iv, fun j => if j = k then b else pb j, fun j => if j = k then v else rv j, ?_, ?_, ?_, ?_, ?_⟩
  · refine q1.trans ⟨k1.os, k1.tape, k1.output, by simpa [World.setCell] using k1.size, fun g hg hcol => ?_, old⟩
    rw [set g (fun e => hcol (by rw [e, q2]))]
    exact k1.block g hg
  · rw [old B hBl]
    exact q2
  · rw [set hb hne, k1.block hb (blk_lt q3)]
    exact q3
  · have := (q4'.stored k iv).1
    simpa using this
  · intro j cl' hj hcl'
    by_cases e : j = k
    · subst e
      have : cl = cl' := by rw [hcl] at hcl'; simpa using hcl'
      subst this
      simp only [if_true]
      refine ⟨iv, List.getElem?_set_self (by omega), hc.same (set b (by omega)) fun g e _ => set g (by have := (hv g e).1; omega), ?_, fun g e => ?_⟩
      · rw [newRole, paint_new hb1, if_pos rfl]
      · rw [newRole, paint_new (hv g e).1, if_neg (hv g e).2, if_pos e.symm]
    · obtain ⟨iv', r1, r2, r3, r4⟩ := q5 j cl' (by omega) hcl'
      simp only [if_neg e]
      refine ⟨iv', by rw [List.getElem?_set_ne (Ne.symm e)]; exact r1, (r2.later k1).same (set _ ?_) fun g eg _ => set g ?_, ?_, fun g eg => ?_⟩
      · intro e2
        rw [e2, q2] at r3
        simp at r3
      · intro e2
        have := r4 g eg
        rw [e2, q2] at this
        simp at this
      · rw [old _ r2.lt]
        exact r3
      · rw [old _ (r2.row_lt eg)]
        exact r4 g eg

theorem Twins.done {role : Nat → Nat × Nat} {c d hb gb B : Nat} {v0 v1 vc : Value} {ivs0 : List Value} {pb0 : Nat → Nat} {rv0 : Nat → Value} {P : List Cel} {w wr : World} (h : Twins role d hb B P.length P.length (.cells #[v0, v1] 72 (0, 0)) P w wr) (h0 : PH role c gb vc ivs0 pb0 rv0 P w) (hB : role hb = (d, 0)) (hhb : hb < w.heap.size) :
    ∃ role', PHeap role' d hb P ((wr.setCell ⟨hb, 0, none⟩ (.slice (some ⟨B, 0, none⟩) P.length P.length)).setCell ⟨hb, 1, none⟩ (.int .i64 (usedP P))) ∧ Keep role d w role' ((wr.setCell ⟨hb, 0, none⟩ (.slice (some ⟨B, 0, none⟩) P.length P.length)).setCell ⟨hb, 1, none⟩ (.int .i64 (usedP P))) := by
  obtain ⟨role', ivs, pb, rv, q1, q2, q3, q4, q5⟩ := h
  have hr : role' hb = (d, 0) := (q1.same hb hhb).trans hB
  have set : ∀ g, g ≠ hb → ((wr.setCell ⟨hb, 0, none⟩ (.slice (some ⟨B, 0, none⟩) P.length P.length)).setCell ⟨hb, 1, none⟩ (.int .i64 (usedP P))).heap[g]? = wr.heap[g]? := fun g hg => by
    rw [heap_setCell_other _ _ _ _ hg, heap_setCell_other _ _ _ _ hg]
  refine ⟨role', ⟨.slice (some ⟨B, 0, none⟩) P.length P.length, ivs, pb, rv, h0.wf, hr, ?_, ?_, fun g e => ?_, fun j cl hj => ?_⟩, q1.trans ⟨rfl, rfl, rfl, by simp [World.setCell], fun g hg hcol => set g fun e => hcol (by rw [e, hr]), fun _ _ => rfl⟩⟩
  · exact heap_setCell_same _ hb 1 _ 72 _ (heap_setCell_same wr hb 0 _ 72 _ q3)
  · refine owns_same q4 fun g e _ => set g fun e2 => ?_
    have : B = g := by simpa [Value.ownBlock] using e
    rw [← this] at e2
    rw [e2, hr] at q2
    simp at q2
  · have : B = g := by simpa [Value.ownBlock] using e
    rw [← this]
    exact q2
  · obtain ⟨iv, r1, r2, r3, r4⟩ := q5 j cl (List.getElem?_eq_some_iff.1 hj).1 hj
    refine ⟨iv, r1, r2.same (set _ fun e => ?_) fun g eg _ => set g fun e => ?_, r3, r4⟩
    · rw [e, hr] at r3
      simp at r3
    · have := r4 g eg
      rw [e, hr] at this
      simp at this

theorem info92 : (Try.prog.info? 110).map (fun i => (i.zero, i.size, i.bytes)) = some (some .nilIface, 1, 16) := by kernel_rfl
theorem method_twin106 (r : Nat) (w : World) : (method 270 113 (ptr r) "tympan/heap.twin").run Try.prog w = .ok (131, ptr r) w := by kernel_rfl
theorem method_twin89 (r : Nat) (w : World) : (method 270 134 (ptr r) "tympan/heap.twin").run Try.prog w = .ok (137, ptr r) w := by kernel_rfl
theorem twins_cell {role : Nat → Nat × Nat} {d hb B n k i : Nat} {o : Obj} {P : List Cel} {w wr w1 : World} (h : Twins role d hb B n k o P w wr) (k1 : Below wr.heap.size wr w1) (hi : i < n) : (∃ u, w1.cell? ⟨B, i, none⟩ = some u) ∧ w1.frozen? ⟨B, i, none⟩ = false := by
  obtain ⟨role', ivs, pb, rv, q1, q2, q3, q4, q5⟩ := h
  have q : w1.ownsRow 0 110 1 (.slice (some ⟨B, 0, none⟩) n n) n ivs := owns_same q4 fun g _ hg => k1.block g hg
  have hl := q4.1
  refine ⟨⟨ivs[i]'(by omega), ?_⟩, q.frozenAt _⟩
  rw [q.cellAt i (by omega)]
  exact List.getElem?_eq_getElem _

theorem wrap64_step {n : Nat} (k : Nat) (hn : n ≤ 2000) (h : k < n) : wrap64 ((k : Int) + 1) = ((k + 1 : Nat) : Int) := by
  unfold wrap64
  omega
theorem measure_up (K x : Nat) (q : Int) (h : q = ((x + 1 : Nat) : Int)) (hx : x < K) : K - (intOf (.int .i64 q)).toNat < K - (intOf (.int .i64 (x : Int))).toNat := by
  subst h
  simp [intOf]
  omega

set_option maxHeartbeats 1000000 in
set_option maxRecDepth 100000 in
theorem become_any {role : Nat → Nat × Nat} {c gb : Nat} {vc : Value} {ivs : List Value} {pb : Nat → Nat} {rv : Nat → Value} {P : List Cel} {w : World} (h : PH role c gb vc ivs pb rv P w) (d hb : Nat) (hcd : c ≠ d) (v0 v1 : Value) (hblk : w.heap[hb]? = some (.cells #[v0, v1] 72 (0, 0))) (hr : role hb = (d, 0)) :
    Calls Try.prog 40 #[ptr hb, ptr gb] w fun e w' => e = .returned (.tuple #[]) ∧ ∃ role', PHeap role' d hb P w' ∧ Keep role d w role' w' := by
  obtain ⟨i0, hi, hz0, hz1, hz2⟩ := info_parts info92
  obtain ⟨p, cap, rfl, c0⟩ := h.cells
  have c1 := h.used
  have H := Lib.hid h
  have HL : Hid (P.length ≤ 2000) := Lib.hid h.wf.len
  have HB := Lib.hid hblk
  have HR := Lib.hid hr
  have HH := Lib.hid (blk_lt hblk)
  have HC := Lib.hid hcd
  clear h hblk hr hcd
  go_enter Try.func40, Try.ntmps40
  go_wp2_with (first
    | (refine wpList_make_full w rfl _ _ 70 rfl w.heap.size 110 i0 .nilIface 1 Try.underlying70 hi hz0 hz1 .i64 .i64 _ _ P.length rfl rfl rfl rfl (by rw [hz2]; have := HL.out; omega) (by unfold maxLen; have := HL.out; omega) (Nat.le_refl _) ?_))
  intro w1 hown hgrow
  have B1 : Hid (Below w.heap.size w w1) := Lib.hid ((Below.refl _ w).grown hgrow (Nat.le_refl _) (fun k e => by cases e))
  have T0 : Hid (Twins role d hb w.heap.size P.length 0 (.cells #[v0, v1] 72 (0, 0)) P w w1) := Lib.hid ⟨paint role w.heap.size fun _ => (d, 1), _, fun _ => 0, fun _ => .nilIface, Keep.paint role d B1.out _, paint_new (Nat.le_refl _), (B1.out.block _ HH.out).trans HB.out, hown.mono (Nat.zero_le _), fun j cl hj => by omega⟩
  replace c0 := cell_later B1.out c0
  clear hown hgrow
  go_wp2
  go_loopw [24] (fun i wr => ∃ k : Nat, k ≤ P.length ∧ i = .int .i64 k ∧ Twins role d hb w.heap.size P.length k (.cells #[v0, v1] 72 (0, 0)) P w wr) (fun i _ => P.length - (intOf i).toNat)
  case atStart => exact ⟨0, Nat.zero_le _, rfl, T0.out⟩
  case round =>
    obtain ⟨k, hk, rfl, tw⟩ := hrel
    have TW := Lib.hid tw
    clear tw c0 c1
    by_cases hlt : k < P.length
    · have hcl : P[k]? = some P[k] := List.getElem?_eq_getElem hlt
      obtain ⟨cl, ecl⟩ : ∃ cl, P[k] = cl := ⟨_, rfl⟩
      rw [ecl] at hcl
      have HCL := Lib.hid hcl
      obtain ⟨role', q⟩ : ∃ role', PH role' c gb (.slice p P.length cap) ivs pb rv P wr := by
        obtain ⟨role', _, _, _, q1, _⟩ := TW.out
        exact ⟨role', H.out.keep q1 HC.out⟩
      obtain ⟨g0, cap0, e0, e1, e2, e3⟩ := q.ivAt hcl
      obtain ⟨rfl, rfl⟩ : p = some ⟨g0, 0, none⟩ ∧ cap = cap0 := by simpa using e0
      have HZ : Hid (cl.size ≤ 40000) := Lib.hid (q.wf.size hcl)
      have PC := Lib.hid e3
      clear hcl ecl q e0
      have hlt' : (k : Int) < P.length := by omega
      have hlt0 : (0 : Int) ≤ k := by omega
      rcases celT_two cl with eT | eT
      · have tw := twin_any PC.out HZ.out
        rw [if_pos eT, eT] at tw
        rw [eT] at e2
        have hme := method_twin106
        have TC := Lib.hid tw
        clear tw
        go_wp2_with fail
        refine TC.out.mono ?_
        rintro e w2 ⟨b, v, rfl, hb1, pc, hv, k1⟩
        have ST := Lib.hid (TW.out.step HR.out HH.out hlt HCL.out k1 hb1 pc hv)
        obtain ⟨⟨u, cu⟩, fu⟩ := twins_cell TW.out k1 hlt
        clear hb1 pc hv k1 e1 e2 e3
        go_wp2
        go_roundw
        case rel => exact ⟨k + 1, hlt, congrArg (Value.int .i64) (wrap64_step k HL.out hlt), ST.out⟩
        case measure => exact measure_up P.length k _ (wrap64_step k HL.out hlt) hlt
      · have tw := twin_any PC.out HZ.out
        rw [if_neg (by rw [eT]; decide), eT] at tw
        rw [eT] at e2
        have hme := method_twin89
        have TC := Lib.hid tw
        clear tw
        go_wp2_with fail
        refine TC.out.mono ?_
        rintro e w2 ⟨b, v, rfl, hb1, pc, hv, k1⟩
        have ST := Lib.hid (TW.out.step HR.out HH.out hlt HCL.out k1 hb1 pc hv)
        obtain ⟨⟨u, cu⟩, fu⟩ := twins_cell TW.out k1 hlt
        clear hb1 pc hv k1 e1 e2 e3
        go_wp2
        go_roundw
        case rel => exact ⟨k + 1, hlt, congrArg (Value.int .i64) (wrap64_step k HL.out hlt), ST.out⟩
        case measure => exact measure_up P.length k _ (wrap64_step k HL.out hlt) hlt
    · have e : k = P.length := by omega
      subst e
      have u0 : wr.cell? ⟨gb, 1, none⟩ = some (.int .i64 (usedP P)) := by
        obtain ⟨role', _, _, _, q1, _⟩ := TW.out
        exact (H.out.keep q1 HC.out).used
      have hbl : wr.heap[hb]? = some (.cells #[v0, v1] 72 (0, 0)) := by
        obtain ⟨role', _, _, _, _, _, q3, _⟩ := TW.out
        exact q3
      have b0 := cellAt hbl 0
      have b1 := cellAt hbl 1
      have f0 := freeAt hbl 0
      have f1 := freeAt hbl 1
      simp at b0 b1
      have hne : gb ≠ hb := fun e => by
        have := H.out.hrole
        rw [e, HR.out] at this
        exact HC.out (by simpa using this.symm)
      clear hbl hlt
      go_wp2
      go_end0
      exact ⟨rfl, TW.out.done H.out HR.out HH.out⟩
end Go.Proofs.Ytlkbnldpecolbaa

/- Walks of heap: Copy; two heaps beside blocks that neither touches. -/
namespace Go.Proofs.Ytlkbnldpecolbaa
open Go.RowKit
set_option linter.unusedVariables false

theorem copy_walk (gb : Nat) (R : Nat → World → Prop) (w : World) (hb : Hid (Calls Try.prog 40 #[ptr w.heap.size, ptr gb] (w.alloc (.cells #[.slice none 0 0, .int .i64 0] 72)) fun e w' => e = .returned (.tuple #[]) ∧ R w.heap.size w')) :
    Calls Try.prog 39 #[ptr gb] w fun e w' => ∃ b, e = .returned (ptr b) ∧ R b w' := by
  go_enter Try.func39, Try.ntmps39
  go_wp2_with fail
  refine (new_any w).mono ?_
  rintro e w1 ⟨rfl, rfl⟩
  go_wp2_with fail
  refine hb.out.mono ?_
  rintro e w2 ⟨rfl, hR⟩
  have HR := Lib.hid hR
  clear hR
  go_wp2
  go_ret
  exact ⟨_, rfl, HR.out⟩

/-- Two heaps (colours 1 and 2) beside blocks that neither touches. -/
def Duo (own : Nat → Prop) (hb gb : Nat) (P Q : List Cel) (w : World) : Prop := ∃ role, PHeap role 1 hb P w ∧ PHeap role 2 gb Q w ∧ ∀ b, own b → b < w.heap.size ∧ (role b).1 ≠ 1 ∧ (role b).1 ≠ 2
section
variable {own : Nat → Prop} {hb gb : Nat} {P P' Q Q' : List Cel} {w w' : World}
theorem Duo.op1 {role role' : Nat → Nat × Nat} (ho : ∀ b, own b → b < w.heap.size ∧ (role b).1 ≠ 1 ∧ (role b).1 ≠ 2) (h2 : PHeap role 2 gb Q w) (h : PHeap role' 1 hb P' w') (k : Keep role 1 w role' w') : Duo own hb gb P' Q w' ∧ Kept own w w' :=
  ⟨⟨role', h, h2.keep k (by decide), fun b hb => ⟨Nat.lt_of_lt_of_le (ho b hb).1 k.size, by rw [k.same b (ho b hb).1]; exact (ho b hb).2⟩⟩, k.os, k.tape, k.output, k.size, fun b hb => k.block b (ho b hb).1 (ho b hb).2.1⟩
theorem Duo.op2 {role role' : Nat → Nat × Nat} (ho : ∀ b, own b → b < w.heap.size ∧ (role b).1 ≠ 1 ∧ (role b).1 ≠ 2) (h1 : PHeap role 1 hb P w) (h : PHeap role' 2 gb Q' w') (k : Keep role 2 w role' w') : Duo own hb gb P Q' w' ∧ Kept own w w' :=
  ⟨⟨role', h1.keep k (by decide), h, fun b hb => ⟨Nat.lt_of_lt_of_le (ho b hb).1 k.size, by rw [k.same b (ho b hb).1]; exact (ho b hb).2⟩⟩, k.os, k.tape, k.output, k.size, fun b hb => k.block b (ho b hb).1 (ho b hb).2.2⟩
theorem Duo.below (h : Duo own hb gb P Q w) (k : Below w.heap.size w w') : Duo own hb gb P Q w' ∧ Kept own w w' := by
  obtain ⟨role, h1, h2, ho⟩ := h
  exact Duo.op1 ho h2 (h1.below k) (Keep.of_below 1 k)
theorem Duo.box (h : Duo own hb gb P Q w) (o : Obj) : Duo (fun b => own b ∨ b = w.heap.size) hb gb P Q (w.alloc o) := by
  obtain ⟨role, ⟨vc, ivs, pb, rv, h1⟩, ⟨vc2, ivs2, pb2, rv2, h2⟩, ho⟩ := h
  refine ⟨paint role w.heap.size fun _ => (0, 0), ⟨vc, ivs, pb, rv, h1.paint (box_below _ _) _⟩, ⟨vc2, ivs2, pb2, rv2, h2.paint (box_below _ _) _⟩, fun b hb => ?_⟩
  rcases hb with hb | rfl
  · have := ho b hb
    rw [paint_old this.1]
    refine ⟨?_, this.2⟩
    have := this.1
    simp
    omega
  · rw [paint_new (Nat.le_refl _)]
    exact ⟨by simp, by simp, by simp⟩
theorem Duo.box_ob (h : Duo own hb gb P Q w) (k : Int) (x : Bool) (n a l : Int) (s : ByteArray) :
    ∃ w', w.alloc (.cells #[.int .i64 k, .bool x, .int .i64 n, .int .i64 a, .int .i64 l, .string s] 30) = w' ∧ Duo (fun b => own b ∨ b = w.heap.size) hb gb P Q w' ∧ Kept own w w' ∧ w'.heap[w.heap.size]? = some (obObj k x n a l s) :=
  ⟨_, rfl, h.box _, (h.below (box_below _ _)).2, heap_alloc_new _ _⟩
theorem dSet (h : Duo own hb gb P Q w) (o : Ob) (i : Int) (x : Ob) (E : Int) (P' : List Cel) (hE : setE P o i x = E) (hP : setP P o i x = P') :
    Calls Try.prog 55 #[ptr hb, o.val, .int .i64 i, x.val] w fun e w' => e = .returned (.int .i64 E) ∧ Duo own hb gb P' Q w' ∧ Kept own w w' := by
  obtain ⟨role, ⟨vc, ivs, pb, rv, h1⟩, h2, ho⟩ := h
  refine (set_is h1 o i x).mono ?_
  rintro e w' ⟨rfl, q1, q2⟩
  rw [hE]
  rw [hP] at q1
  exact ⟨rfl, Duo.op1 ho h2 ⟨vc, ivs, pb, rv, q1⟩ q2⟩
theorem dBytes1 (h : Duo own hb gb P Q w) (o : Ob) (L : List UInt8) (ho : okO P o = true) (hk : o.k = 8) (hpos : 0 < (cellOf P o).bs.length) (hL : bytesL P o = L) :
    Calls Try.prog 91 #[ptr hb, o.val] w fun e w' => e = .returned (.tuple #[.string ⟨L.toArray⟩, .int .i64 0]) ∧ Duo own hb gb P Q w' ∧ Kept own w w' := by
  have h0 := h
  obtain ⟨role, ⟨vc, ivs, pb, rv, h1⟩, h2, ho'⟩ := h
  refine (bytes_is h1 o ho hk hpos).mono ?_
  rintro e w' ⟨rfl, k⟩
  rw [hL]
  exact ⟨rfl, h0.below k⟩
theorem dBytes2 (h : Duo own hb gb P Q w) (o : Ob) (L : List UInt8) (ho : okO Q o = true) (hk : o.k = 8) (hpos : 0 < (cellOf Q o).bs.length) (hL : bytesL Q o = L) :
    Calls Try.prog 91 #[ptr gb, o.val] w fun e w' => e = .returned (.tuple #[.string ⟨L.toArray⟩, .int .i64 0]) ∧ Duo own hb gb P Q w' ∧ Kept own w w' := by
  have h0 := h
  obtain ⟨role, h1, ⟨vc, ivs, pb, rv, h2⟩, ho'⟩ := h
  refine (bytes_is h2 o ho hk hpos).mono ?_
  rintro e w' ⟨rfl, k⟩
  rw [hL]
  exact ⟨rfl, h0.below k⟩
theorem dCells1 (h : Duo own hb gb P Q w) : Calls Try.prog 23 #[ptr hb] w fun e w' => e = .returned (.int .i64 P.length) ∧ w = w' := by
  obtain ⟨role, ⟨vc, ivs, pb, rv, h1⟩, h2, ho⟩ := h
  obtain ⟨p, cap, rfl, h0⟩ := h1.cells
  exact cells_any hb p P.length cap w h0
theorem dCells2 (h : Duo own hb gb P Q w) : Calls Try.prog 23 #[ptr gb] w fun e w' => e = .returned (.int .i64 Q.length) ∧ w = w' := by
  obtain ⟨role, h1, ⟨vc, ivs, pb, rv, h2⟩, ho⟩ := h
  obtain ⟨p, cap, rfl, h0⟩ := h2.cells
  exact cells_any gb p Q.length cap w h0

theorem become_new (h : Sep own hb P w) : Calls Try.prog 40 #[ptr w.heap.size, ptr hb] (w.alloc (.cells #[.slice none 0 0, .int .i64 0] 72)) fun e w' => e = .returned (.tuple #[]) ∧ Duo own hb w.heap.size P P w' ∧ Kept own w w' := by
  obtain ⟨role, ⟨vc, ivs, pb, rv, h1⟩, h2⟩ := h
  -- the old blocks of colour 2 are ours now
  have hp : PH (paint (fun b => if (role b).1 = 2 then (0, (role b).2) else role b) w.heap.size fun _ => (2, 0)) 1 hb vc ivs pb rv P (w.alloc (.cells #[.slice none 0 0, .int .i64 0] 72)) := by
    have q : PH (fun b => if (role b).1 = 2 then (0, (role b).2) else role b) 1 hb vc ivs pb rv P w := h1.same fun k hk hc => ⟨rfl, by simp [hc]⟩
    exact q.paint (box_below _ _) _
  refine (become_any hp 2 w.heap.size (by decide) _ _ (heap_alloc_new _ _) (paint_new (Nat.le_refl _))).mono ?_
  rintro e w' ⟨rfl, role', q1, q2⟩
  refine ⟨rfl, ⟨role', ?_, q1, fun b hb => ?_⟩, q2.os, q2.tape, q2.output, Nat.le_trans (by simp) q2.size, fun b hb => ?_⟩
  · exact PHeap.keep (⟨vc, ivs, pb, rv, hp⟩ : PHeap _ 1 hb P _) q2 (by decide)
  · have hl := (h2 b hb).1
    have hl' : b < (w.alloc (.cells #[.slice none 0 0, .int .i64 0] 72)).heap.size := by
      simp
      omega
    refine ⟨Nat.lt_of_lt_of_le hl' q2.size, ?_⟩
    rw [q2.same b hl', paint_old hl]
    have := (h2 b hb).2
    by_cases e2 : (role b).1 = 2
    · simp [e2]
    · simp [e2, this]
  · have hl := (h2 b hb).1
    have hl' : b < (w.alloc (.cells #[.slice none 0 0, .int .i64 0] 72)).heap.size := by
      simp
      omega
    rw [q2.block b hl' ?_, Below.heap_alloc _ _ _ hl]
    rw [paint_old hl]
    by_cases e2 : (role b).1 = 2
    · simp [e2]
    · simp [e2]
theorem sCopy (h : Sep own hb P w) : Calls Try.prog 39 #[ptr hb] w fun e w' => ∃ gb, e = .returned (ptr gb) ∧ Duo own hb gb P P w' ∧ Kept own w w' :=
  copy_walk hb (fun gb w' => Duo own hb gb P P w' ∧ Kept own w w') w (Lib.hid (become_new h))
theorem Duo.sep (h : Duo own hb gb P Q w) : Sep own hb P w := by
  obtain ⟨role, h1, h2, ho⟩ := h
  exact ⟨role, h1, fun b hb => ⟨(ho b hb).1, (ho b hb).2.1⟩⟩
end
end Go.Proofs.Ytlkbnldpecolbaa

/- A heap and any number of copies of it, each of a colour of its own: what one heap's calls do beside them, Copy and Become. -/
namespace Go.Proofs.Ytlkbnldpecolbaa
open Go.RowKit
set_option linter.unusedVariables false

/-- The heap (colour 1), its copies (colours 2, 3, ..), and blocks that none of them touches. -/
def Many (own : Nat → Prop) (hb : Nat) (P : List Cel) (gs : List (Nat × List Cel)) (w : World) : Prop :=
  ∃ role, PHeap role 1 hb P w ∧ (∀ i g, gs[i]? = some g → PHeap role (i + 2) g.1 g.2 w) ∧ ∀ b, own b → b < w.heap.size ∧ (role b).1 = 0
theorem PHeap.same {role role' : Nat → Nat × Nat} {c hb : Nat} {P : List Cel} {w w' : World} (h : PHeap role c hb P w)
    (hk : ∀ k, k < w.heap.size → (role k).1 = c → w'.heap[k]? = w.heap[k]? ∧ role' k = role k) : PHeap role' c hb P w' := by
  obtain ⟨vc, ivs, pb, rv, h⟩ := h
  exact ⟨vc, ivs, pb, rv, h.same hk⟩
section
variable {own : Nat → Prop} {hb gb i : Nat} {P P' Q : List Cel} {gs : List (Nat × List Cel)} {w w' : World}
theorem Many.of_sep (h : Sep own hb P w) : Many own hb P [] w := by
  obtain ⟨role, h1, h2⟩ := h
  refine ⟨fun b => if (role b).1 = 1 then role b else (0, 0), h1.same fun k hk hc => ⟨rfl, by simp [hc]⟩, by simp, fun b hb => ⟨(h2 b hb).1, by simp [(h2 b hb).2]⟩⟩
theorem Many.sep (h : Many own hb P gs w) : Sep own hb P w := by
  obtain ⟨role, h1, h2, h3⟩ := h
  exact ⟨role, h1, fun b hb => ⟨(h3 b hb).1, by rw [(h3 b hb).2]; decide⟩⟩
/-- Whatever is said of the heap by Sep and Kept holds beside its copies. -/
theorem Many.lift (h : Many own hb P gs w) : ∃ own' : Nat → Prop, Sep own' hb P w ∧ (∀ b, own b → own' b) ∧ ∀ P' w', Sep own' hb P' w' → Kept own' w w' → Many own hb P' gs w' := by
  obtain ⟨role, h1, h2, h3⟩ := h
  refine ⟨fun b => b < w.heap.size ∧ (role b).1 ≠ 1, ⟨role, h1, fun b hb => hb⟩, fun b hb => ⟨(h3 b hb).1, by rw [(h3 b hb).2]; decide⟩, fun P' w' s k => ?_⟩
  obtain ⟨role2, s1, s2⟩ := s
  refine ⟨fun b => if b < w.heap.size ∧ (role b).1 ≠ 1 then role b else if (role2 b).1 = 1 then role2 b else (0, 0), s1.same fun b hb hc => ⟨rfl, ?_⟩, fun i g hg => (h2 i g hg).same fun b hb hc => ?_, fun b hb => ?_⟩
  · have n : ¬ (b < w.heap.size ∧ (role b).1 ≠ 1) := fun n => (s2 b n).2 hc
    rw [if_neg n, if_pos hc]
  · have n : b < w.heap.size ∧ (role b).1 ≠ 1 := ⟨hb, by omega⟩
    rw [if_pos n]
    exact ⟨k.block b n, rfl⟩
  · have n : b < w.heap.size ∧ (role b).1 ≠ 1 := ⟨(h3 b hb).1, by rw [(h3 b hb).2]; decide⟩
    dsimp only
    rw [if_pos n]
    exact ⟨Nat.lt_of_lt_of_le n.1 k.size, (h3 b hb).2⟩
theorem Many.below (h : Many own hb P gs w) (k : Below w.heap.size w w') : Many own hb P gs w' ∧ Kept own w w' := by
  obtain ⟨own', s, ho, hl⟩ := h.lift
  exact ⟨hl P w' (s.below k).1 (s.below k).2, (h.sep.below k).2⟩
theorem Many.box (h : Many own hb P gs w) (o : Obj) : Many (fun b => own b ∨ b = w.heap.size) hb P gs (w.alloc o) := by
  obtain ⟨role, h1, h2, h3⟩ := h
  refine ⟨paint role w.heap.size fun _ => (0, 0), h1.same fun k hk _ => ⟨(box_below w o).block k hk, paint_old hk⟩, fun i g hg => (h2 i g hg).same fun k hk _ => ⟨(box_below w o).block k hk, paint_old hk⟩, fun b hb => ?_⟩
  rcases hb with hb | rfl
  · have := h3 b hb
    rw [paint_old this.1]
    refine ⟨?_, this.2⟩
    have := this.1
    simp
    omega
  · rw [paint_new (Nat.le_refl _)]
    exact ⟨by simp, rfl⟩
theorem Many.sub {own' : Nat → Prop} (h : Many own hb P gs w) (k : ∀ b, own' b → own b) : Many own' hb P gs w := by
  obtain ⟨role, h1, h2, h3⟩ := h
  exact ⟨role, h1, h2, fun b hb => h3 b (k b hb)⟩
theorem Many.take (h : Many own hb P gs w) (n : Nat) : Many own hb P (gs.take n) w := by
  obtain ⟨role, h1, h2, h3⟩ := h
  refine ⟨role, h1, fun i g hg => h2 i g ?_, h3⟩
  rw [List.getElem?_take] at hg
  split at hg
  · exact hg
  · cases hg
theorem many_new (h : Many own hb P gs w) : Calls Try.prog 40 #[ptr w.heap.size, ptr hb] (w.alloc (.cells #[.slice none 0 0, .int .i64 0] 72)) fun e w' => e = .returned (.tuple #[]) ∧ Many own hb P (gs ++ [(w.heap.size, P)]) w' ∧ Kept own w w' := by
  obtain ⟨role, h1, h2, h3⟩ := h
  obtain ⟨d, hd⟩ : ∃ d, gs.length + 2 = d := ⟨_, rfl⟩
  obtain ⟨role0, hr0⟩ : ∃ role0 : Nat → Nat × Nat, (fun b => if (role b).1 = d then (0, (role b).2) else role b) = role0 := ⟨_, rfl⟩
  have r0 : ∀ b, (role b).1 ≠ d → role0 b = role b := fun b hb => by rw [← hr0]; simp [hb]
  have bb := box_below w (.cells #[.slice none 0 0, .int .i64 0] 72)
  have p1 : PHeap (paint role0 w.heap.size fun _ => (d, 0)) 1 hb P (w.alloc (.cells #[.slice none 0 0, .int .i64 0] 72)) := h1.same fun k hk hc => ⟨bb.block k hk, by rw [paint_old hk, r0 k (by omega)]⟩
  have p2 : ∀ i g, gs[i]? = some g → PHeap (paint role0 w.heap.size fun _ => (d, 0)) (i + 2) g.1 g.2 (w.alloc (.cells #[.slice none 0 0, .int .i64 0] 72)) := fun i g hg => by
    have hi := (List.getElem?_eq_some_iff.1 hg).1
    exact (h2 i g hg).same fun k hk hc => ⟨bb.block k hk, by rw [paint_old hk, r0 k (by omega)]⟩
  have p1' := p1
  obtain ⟨vc, ivs, pb, rv, hp⟩ := p1'
  refine (become_any hp d w.heap.size (by omega) _ _ (heap_alloc_new _ _) (paint_new (Nat.le_refl _))).mono ?_
  rintro e w' ⟨rfl, role', q1, q2⟩
  have ho : ∀ b, own b → b < (w.alloc (.cells #[.slice none 0 0, .int .i64 0] 72)).heap.size ∧ paint role0 w.heap.size (fun _ => (d, 0)) b = role b := fun b hb => by
    have := (h3 b hb).1
    exact ⟨by simp; omega, by rw [paint_old this, r0 b (by rw [(h3 b hb).2]; omega)]⟩
  refine ⟨rfl, ⟨role', p1.keep q2 (by omega), fun i g hg => ?_, fun b hb => ?_⟩, q2.os, q2.tape, q2.output, Nat.le_trans (by simp) q2.size, fun b hb => ?_⟩
  · rw [List.getElem?_append] at hg
    split at hg
    · next hi => exact (p2 i g hg).keep q2 (by omega)
    · next hi =>
      have hi' : i - gs.length = 0 := by
        have := (List.getElem?_eq_some_iff.1 hg).1
        simp at this
        omega
      rw [hi'] at hg
      obtain rfl : (w.heap.size, P) = g := by simpa using hg
      rw [show i + 2 = d from by omega]
      exact q1
  · refine ⟨Nat.lt_of_lt_of_le (ho b hb).1 q2.size, ?_⟩
    rw [q2.same b (ho b hb).1, (ho b hb).2]
    exact (h3 b hb).2
  · rw [q2.block b (ho b hb).1 (by rw [(ho b hb).2, (h3 b hb).2]; omega)]
    exact bb.block b (h3 b hb).1
theorem manyCopy (h : Many own hb P gs w) : Calls Try.prog 39 #[ptr hb] w fun e w' => ∃ gb, e = .returned (ptr gb) ∧ Many own hb P (gs ++ [(gb, P)]) w' ∧ Kept own w w' :=
  copy_walk hb (fun gb w' => Many own hb P (gs ++ [(gb, P)]) w' ∧ Kept own w w') w (Lib.hid (many_new h))
theorem manyBecome (h : Many own hb P gs w) (hi : gs[i]? = some (gb, Q)) : Calls Try.prog 40 #[ptr hb, ptr gb] w fun e w' => e = .returned (.tuple #[]) ∧ Many own hb Q gs w' ∧ Kept own w w' := by
  obtain ⟨role, h1, h2, h3⟩ := h
  obtain ⟨vc, ivs, pb, rv, hp⟩ := h2 i _ hi
  have h1' := h1
  obtain ⟨vc1, ivs1, pb1, rv1, hh⟩ := h1'
  refine (become_any hp 1 hb (by omega) _ _ hh.hblk hh.hrole).mono ?_
  rintro e w' ⟨rfl, role', q1, q2⟩
  refine ⟨rfl, ⟨role', q1, fun i g hg => (h2 i g hg).keep q2 (by omega), fun b hb => ⟨Nat.lt_of_lt_of_le (h3 b hb).1 q2.size, by rw [q2.same b (h3 b hb).1]; exact (h3 b hb).2⟩⟩, q2.os, q2.tape, q2.output, q2.size, fun b hb => q2.block b (h3 b hb).1 (by rw [(h3 b hb).2]; decide)⟩
theorem manyCells (h : Many own hb P gs w) (hi : gs[i]? = some (gb, Q)) : Calls Try.prog 23 #[ptr gb] w fun e w' => e = .returned (.int .i64 Q.length) ∧ w = w' := by
  obtain ⟨role, h1, h2, h3⟩ := h
  obtain ⟨vc, ivs, pb, rv, hp⟩ := h2 i _ hi
  obtain ⟨p, cap, rfl, h0⟩ := hp.cells
  exact cells_any gb p Q.length cap w h0
end
end Go.Proofs.Ytlkbnldpecolbaa

/- tympanref11: Composite, the size of a cell. -/
namespace Go.Proofs.Ytlkbnldpecolbaa
open Go.RowKit
set_option linter.unusedVariables false

def compP (k : Int) : Bool := decide (k = 9 ∨ k = 8 ∨ k = 10)
theorem rcomp_part (k n a l : Int) (x b1 b2 b3 p : Bool) (s : ByteArray) (w : World) (h1 : (k == 9) = b1) (h2 : (k == 8) = b2) (h3 : (k == 10) = b3) (hp : Hid ((b1 || (b2 || b3)) = p)) :
    Calls Try.prog 93 #[obV k x n a l s] w fun e w' => e = .returned (.bool p) ∧ Below w.heap.size w w' := by
  cases b1 <;> cases b2 <;> cases b3 <;>
  · go_enter Try.func93, Try.ntmps93
    go_upto_region 1 with fail
    obtain ⟨wb, eb, kb, zb, c0, c1, c2, c3, c4, c5⟩ := ob_box w k n a l x s
    rw [eb]
    go_wp2
    go_ret
    exact ⟨ret_bool (by have := hp.out; simpa using this), kb⟩
theorem rcomp_any (k n a l : Int) (x : Bool) (s : ByteArray) (w : World) : Calls Try.prog 93 #[obV k x n a l s] w fun e w' => e = .returned (.bool (compP k)) ∧ Below w.heap.size w w' :=
  rcomp_part k n a l x _ _ _ _ s w rfl rfl rfl (Lib.hid (by unfold compP; rw [Bool.eq_iff_iff]; simp))
/-- A cell of the reference's heap: its value. -/
abbrev rcV (k : Int) (it bs : Value) (lk : Bool) : Value := .agg #[.int .i64 k, it, bs, .bool lk]
theorem rc_box (w : World) (k : Int) (it bs : Value) (lk : Bool) : ∃ wb, w.alloc (.cells #[.int .i64 k, it, bs, .bool lk] 102) = wb ∧ Below w.heap.size w wb ∧ wb.heap.size = w.heap.size + 1 ∧
    wb.cell? ⟨w.heap.size, 0, none⟩ = some (.int .i64 k) ∧ wb.cell? ⟨w.heap.size, 1, none⟩ = some it ∧ wb.cell? ⟨w.heap.size, 2, none⟩ = some bs ∧ wb.cell? ⟨w.heap.size, 3, none⟩ = some (.bool lk) :=
  ⟨_, rfl, box_below _ _, by simp, by simp, by simp, by simp, by simp⟩
theorem rcsize_any (k : Int) (p q : Option Addr) (n c m d t : Nat) (lk : Bool) (w : World) (e : IntKind.i64.wrap ((n : Int) + (m : Int)) = t) :
    Calls Try.prog 74 #[rcV k (.slice p n c) (.slice q m d) lk] w fun e w' => e = .returned (.int .i64 t) ∧ Below w.heap.size w w' := by
  go_enter Try.func74, Try.ntmps74
  go_upto_region 1 with fail
  obtain ⟨wb, eb, kb, zb, c0, c1, c2, c3⟩ := rc_box w k (.slice p n c) (.slice q m d) lk
  rw [eb]
  go_wp2
  go_ret
  exact ⟨rfl, kb⟩
end Go.Proofs.Ytlkbnldpecolbaa
