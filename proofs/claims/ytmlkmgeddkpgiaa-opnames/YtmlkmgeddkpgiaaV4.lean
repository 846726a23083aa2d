/- Walks of op: Count, Number, Name, Family. -/
import Derived.Test.YtmlkmgeddkpgiaaV3
import Derived.Laws.EntriesVeiled
namespace Go.Proofs.Ytmlkmgeddkpgiaa
open Go.RowKit
set_option linter.unusedVariables false

theorem op_box (w : World) (n f : Int) (s : ByteArray) : ∃ wb, w.alloc (.cells #[.int .i64 n, .int .i64 f, .string s] 149) = wb ∧ Below w.heap.size w wb ∧ wb.heap.size = w.heap.size + 1 ∧ wb.heap[w.heap.size]? = some (opObj n f s) :=
  ⟨_, rfl, box_below _ _, by simp, heap_alloc_new _ _⟩
theorem soleB {b : Nat} {u v : World} (k : Below u.heap.size u v) : Sole b u v := (Sole.refl b u).below k
set_option maxHeartbeats 1000000 in
set_option maxRecDepth 100000 in
theorem isName (b : Nat) (q : ByteArray) (n f : Int) (s : ByteArray) (w : World) (h : w.cell? ⟨b, 0, none⟩ = some (.string q)) :
    Calls Try.prog 103 #[opV (n, f, s), ptrv b] w fun e w' => e = .returned (.bool (s.toList == q.toList)) ∧ Below w.heap.size w w' := by
  go_enter Try.func103, Try.ntmps103
  go_upto_region 1 with fail
  obtain ⟨wb, eb, kb, zb, ob⟩ := op_box w n f s
  rw [eb]
  obtain ⟨c0, c1, c2, f0, f1, f2⟩ := cells3 ob
  have c3 := cell_later kb h
  have K := Lib.hid kb
  clear eb kb h
  go_wp2
  go_ret
  exact ⟨rfl, K.out⟩
set_option maxHeartbeats 1000000 in
set_option maxRecDepth 100000 in
theorem isNumber (b : Nat) (m : Int) (n f : Int) (s : ByteArray) (w : World) (h : w.cell? ⟨b, 0, none⟩ = some (.int .i64 m)) :
    Calls Try.prog 119 #[opV (n, f, s), ptrv b] w fun e w' => e = .returned (.bool (n == m)) ∧ Below w.heap.size w w' := by
  go_enter Try.func119, Try.ntmps119
  go_upto_region 1 with fail
  obtain ⟨wb, eb, kb, zb, ob⟩ := op_box w n f s
  rw [eb]
  obtain ⟨c0, c1, c2, f0, f1, f2⟩ := cells3 ob
  have c3 := cell_later kb h
  have K := Lib.hid kb
  clear eb kb h
  go_wp2
  go_ret
  exact ⟨rfl, K.out⟩
set_option maxHeartbeats 1000000 in
set_option maxRecDepth 100000 in
theorem setCount (b : Nat) (m : Int) (n f : Int) (s : ByteArray) (w : World) (h : w.heap[b]? = some (.cells #[.int .i64 m] 3 (0, 0))) :
    Calls Try.prog 105 #[opV (n, f, s), ptrv b] w fun e w' => e = .returned (.bool false) ∧ w'.heap[b]? = some (.cells #[.int .i64 n] 3 (0, 0)) ∧ Sole b w w' := by
  go_enter Try.func105, Try.ntmps105
  go_upto_region 1 with fail
  obtain ⟨wb, eb, kb, zb, ob⟩ := op_box w n f s
  rw [eb]
  obtain ⟨c0, c1, c2, f0, f1, f2⟩ := cells3 ob
  have hb := (kb.block _ (blk_lt h)).trans h
  have c3 := cellAt hb 0
  have f3 := freeAt hb 0
  have K := Lib.hid kb
  have HB := Lib.hid hb
  clear eb kb h hb
  go_wp2
  go_ret
  exact ⟨rfl, by rw [heap_setCell_same _ _ _ _ _ _ HB.out]; rfl, (soleB K.out).trans ⟨rfl, rfl, rfl, by simp [World.setCell], fun i _ hi => heap_setCell_other _ _ _ _ hi⟩⟩

/-- The plain answers. -/
def byNum (m : Int) : Int × Int × ByteArray := (tab.find? fun t => t.1 == m).getD (0, 0, ⟨#[]⟩)
def byName (q : ByteArray) : Int × Int × ByteArray := (tab.find? fun t => t.2.2.toList == q.toList).getD (0, 0, ⟨#[]⟩)
set_option maxRecDepth 100000 in
theorem findByName (b : Nat) (q : ByteArray) (w : World) (hV : w.heap[b]? = some (.cells #[.string q] 9 (0, 0))) {n f : Int} {s : ByteArray} (h : byName q = (n, f, s)) :
    Calls Try.prog 102 #[.func (.func 103) #[] #[ptrv b]] w fun e w' => e = .returned (.agg #[.int .i64 n, .int .i64 f, .string s]) ∧ Sole b w w' := by
  have := find_any 103 b (Lib.hid (entersF_of rfl (by rfl) (by rfl))) (fun t => t.2.2.toList == q.toList) 9 (fun _ => .string q) w (blk_lt hV) hV
    (Lib.hid fun n f s w1 _ _ hz hc => (isName b q n f s w1 (cellAt hc 0)).mono fun e w2 h => ⟨h.1, (h.2.block _ (blk_lt hc)).trans hc, soleB h.2⟩)
  refine this.mono fun e w' g => ⟨g.1.trans ?_, g.2.2⟩
  unfold byName at h
  rw [h]
set_option maxRecDepth 100000 in
theorem findByNum (b : Nat) (m : Int) (w : World) (hV : w.heap[b]? = some (.cells #[.int .i64 m] 3 (0, 0))) {n f : Int} {s : ByteArray} (h : byNum m = (n, f, s)) :
    Calls Try.prog 102 #[.func (.func 119) #[] #[ptrv b]] w fun e w' => e = .returned (.agg #[.int .i64 n, .int .i64 f, .string s]) ∧ Sole b w w' := by
  have := find_any 119 b (Lib.hid (entersF_of rfl (by rfl) (by rfl))) (fun t => t.1 == m) 3 (fun _ => .int .i64 m) w (blk_lt hV) hV
    (Lib.hid fun n f s w1 _ _ hz hc => (isNumber b m n f s w1 (cellAt hc 0)).mono fun e w2 h => ⟨h.1, (h.2.block _ (blk_lt hc)).trans hc, soleB h.2⟩)
  refine this.mono fun e w' g => ⟨g.1.trans ?_, g.2.2⟩
  unfold byNum at h
  rw [h]
set_option maxRecDepth 100000 in
theorem findLast (b : Nat) (w : World) (hV : w.heap[b]? = some (.cells #[.int .i64 0] 3 (0, 0))) :
    Calls Try.prog 102 #[.func (.func 105) #[] #[ptrv b]] w fun e w' => e = .returned (.agg #[.int .i64 0, .int .i64 0, .string ⟨#[]⟩]) ∧ w'.heap[b]? = some (.cells #[.int .i64 162] 3 (0, 0)) ∧ Sole b w w' := by
  have := find_any 105 b (Lib.hid (entersF_of rfl (by rfl) (by rfl))) (fun t => false) 3 (fun z => .int .i64 z) w (blk_lt hV) hV
    (Lib.hid fun n f s w1 _ _ hz hc => setCount b (n - 1) n f s w1 hc)
  have hn : List.find? (fun _ : Int × Int × ByteArray => false) tab = none := by simp
  refine this.mono fun e w' g => ⟨g.1.trans ?_, g.2.1 hn, g.2.2⟩
  rw [hn]
  rfl
/-- A new block with one cell, and what only wrote there. -/
theorem sole_new {w wb wc : World} (k : Below w.heap.size w wb) (hs : Sole w.heap.size wb wc) : Below w.heap.size w wc :=
  ⟨hs.os.trans k.os, hs.tape.trans k.tape, hs.output.trans k.output, Nat.le_trans k.size hs.size, fun i hi => (hs.block i (Nat.lt_of_lt_of_le hi k.size) (by omega)).trans (k.block i hi)⟩
set_option maxHeartbeats 1000000 in
set_option maxRecDepth 100000 in
theorem number_core (q : ByteArray) (w : World) {n f : Int} {s : ByteArray} (h : Hid (byName q = (n, f, s))) : Calls Try.prog 57 #[.string q] w fun e w' => e = .returned (.tuple #[.int .i64 n, .bool (decide (0 < n))]) ∧ Below w.heap.size w w' := by
  go_enter Try.func57, Try.ntmps57
  go_upto_region 1 with fail
  obtain ⟨wb, eb, kb, zb, ob⟩ : ∃ wb, w.alloc (.cells #[.string q] 9) = wb ∧ Below w.heap.size w wb ∧ wb.heap.size = w.heap.size + 1 ∧ wb.heap[w.heap.size]? = some (.cells #[.string q] 9 (0, 0)) := ⟨_, rfl, box_below _ _, by simp, heap_alloc_new _ _⟩
  rw [eb]
  have hf := findByName w.heap.size q wb ob h.out
  have K := Lib.hid kb
  clear eb kb
  go_wp2_with fail
  refine hf.mono ?_
  rintro e wc ⟨rfl, hs⟩
  have K2 := Lib.hid (sole_new K.out hs)
  clear hs hf ob
  go_upto_region 2 with fail
  obtain ⟨wd, ed, kd, zd, od⟩ := op_box wc n f s
  rw [ed]
  have K3 := Lib.hid (below_and K2.out kd)
  obtain ⟨c0, c1, c2, f0, f1, f2⟩ := cells3 od
  clear ed kd od
  go_quiet (fail)
  go_wp2
  go_ret2
  exact ⟨rfl, below_and K3.out (below_drewN _ _)⟩
theorem opNumber (q : ByteArray) (w : World) : Calls Try.prog 57 #[.string q] w fun e w' => e = .returned (.tuple #[.int .i64 (byName q).1, .bool (decide (0 < (byName q).1))]) ∧ Below w.heap.size w w' := by
  rcases h : byName q with ⟨n, f, s⟩
  exact number_core q w (Lib.hid h)
set_option maxHeartbeats 1000000 in
set_option maxRecDepth 100000 in
theorem numbered_core (m : Int) (w : World) {n f : Int} {s : ByteArray} (h : Hid (byNum m = (n, f, s))) : Calls Try.prog 106 #[.int .i64 m] w fun e w' => e = .returned (.agg #[.int .i64 n, .int .i64 f, .string s]) ∧ Below w.heap.size w w' := by
  go_enter Try.func106, Try.ntmps106
  go_upto_region 1 with fail
  obtain ⟨wb, eb, kb, zb, ob⟩ : ∃ wb, w.alloc (.cells #[.int .i64 m] 3) = wb ∧ Below w.heap.size w wb ∧ wb.heap.size = w.heap.size + 1 ∧ wb.heap[w.heap.size]? = some (.cells #[.int .i64 m] 3 (0, 0)) := ⟨_, rfl, box_below _ _, by simp, heap_alloc_new _ _⟩
  rw [eb]
  obtain ⟨wd, ed, kd, zd, od⟩ := op_box wb 0 0 ⟨#[]⟩
  rw [ed]
  have hf := findByNum w.heap.size m wd ((kd.block _ (blk_lt ob)).trans ob) h.out
  have K := Lib.hid (below_and kb kd)
  have OD := Lib.hid od
  have ZB := Lib.hid zb
  clear eb kb ed kd ob od
  go_wp2_with fail
  refine hf.mono ?_
  rintro e wc ⟨rfl, hs⟩
  have K2 := Lib.hid (sole_new K.out hs)
  have OC : wc.heap[w.heap.size + 1]? = some (opObj 0 0 ⟨#[]⟩) := by rw [← ZB.out]; exact (hs.block _ (blk_lt OD.out) (by have := ZB.out; omega)).trans OD.out
  obtain ⟨c0, c1, c2, f0, f1, f2⟩ := cells3 OC
  have OH := Lib.hid OC
  clear hs hf OC
  go_wp2
  (try simp only [Exit.inBlock, Exit.then])
  exact bodyPost_ret (results_cell_row rfl _ _ _ _ _ _ _ rfl (set3 OH.out _ _ _) Try.underlying149 rfl (by kernel_rfl)) rfl ⟨rfl, set3_below K2.out (by omega) _ _ _⟩
set_option maxRecDepth 100000 in
theorem name_core (m : Int) (w : World) {n f : Int} {s : ByteArray} (h : Hid (byNum m = (n, f, s))) : Calls Try.prog 61 #[.int .i64 m] w fun e w' => e = .returned (.string s) ∧ Below w.heap.size w w' := by
  have hfd : ∀ w : World, (Instr.field 149 (.agg #[.int .i64 n, .int .i64 f, .string s]) 2).run Try.prog w = .ok (.string s) w := fun _ => by kernel_rfl
  go_enter Try.func61, Try.ntmps61
  go_wp2_with fail
  refine (numbered_core m w h).mono ?_
  rintro e wc ⟨rfl, k⟩
  go_wp2
  go_ret
  exact ⟨rfl, k⟩
set_option maxRecDepth 100000 in
theorem family_core (m : Int) (w : World) {n f : Int} {s : ByteArray} (h : Hid (byNum m = (n, f, s))) : Calls Try.prog 63 #[.int .i64 m] w fun e w' => e = .returned (.int .i64 f) ∧ Below w.heap.size w w' := by
  have hfd : ∀ w : World, (Instr.field 149 (.agg #[.int .i64 n, .int .i64 f, .string s]) 1).run Try.prog w = .ok (.int .i64 f) w := fun _ => by kernel_rfl
  go_enter Try.func63, Try.ntmps63
  go_wp2_with fail
  refine (numbered_core m w h).mono ?_
  rintro e wc ⟨rfl, k⟩
  go_wp2
  go_ret
  exact ⟨rfl, k⟩
theorem opName (m : Int) (w : World) : Calls Try.prog 61 #[.int .i64 m] w fun e w' => e = .returned (.string (byNum m).2.2) ∧ Below w.heap.size w w' := by
  rcases h : byNum m with ⟨n, f, s⟩
  exact name_core m w (Lib.hid h)
theorem opFamily (m : Int) (w : World) : Calls Try.prog 63 #[.int .i64 m] w fun e w' => e = .returned (.int .i64 (byNum m).2.1) ∧ Below w.heap.size w w' := by
  rcases h : byNum m with ⟨n, f, s⟩
  exact family_core m w (Lib.hid h)
set_option maxRecDepth 100000 in
theorem opCount (w : World) : Calls Try.prog 59 #[] w fun e w' => e = .returned (.int .i64 162) ∧ Below w.heap.size w w' := by
  go_enter Try.func59, Try.ntmps59
  go_upto_region 2 with fail
  obtain ⟨wb, eb, kb, zb, ob⟩ : ∃ wb, w.alloc (.cells #[.int .i64 0] 3) = wb ∧ Below w.heap.size w wb ∧ wb.heap.size = w.heap.size + 1 ∧ wb.heap[w.heap.size]? = some (.cells #[.int .i64 0] 3 (0, 0)) := ⟨_, rfl, box_below _ _, by simp, heap_alloc_new _ _⟩
  rw [eb]
  have hf := findLast w.heap.size wb ob
  have K := Lib.hid kb
  clear eb kb
  go_wp2_with fail
  refine hf.mono ?_
  rintro e wc ⟨rfl, hc, hs⟩
  have K2 := Lib.hid (sole_new K.out hs)
  have c0 := cellAt hc 0
  clear hs hf hc ob
  go_wp2
  go_ret
  exact ⟨rfl, K2.out⟩
end Go.Proofs.Ytmlkmgeddkpgiaa
