/- X26: V4, V5, V6, V7. -/
import Derived.Test.YtlkbnldpecolbaaX25
import Derived.Laws.EntriesVeiled
import Derived.Test.YtlkbnldpecolbaaX07
import Derived.Deep.AppendLies
/- Walks of op: Count, Number, Name, Family. -/
namespace Go.Proofs.Ytlkbnldpecolbaa
open Go.RowKit
set_option linter.unusedVariables false

theorem op_box (w : World) (n f : Int) (s : ByteArray) : ∃ wb, w.alloc (.cells #[.int .i64 n, .int .i64 f, .string s] 81) = wb ∧ Below w.heap.size w wb ∧ wb.heap.size = w.heap.size + 1 ∧ wb.heap[w.heap.size]? = some (opObj n f s) :=
  ⟨_, rfl, box_below _ _, by simp, heap_alloc_new _ _⟩
theorem soleB {b : Nat} {u v : World} (k : Below u.heap.size u v) : Sole b u v := (Sole.refl b u).below k
set_option maxHeartbeats 1000000 in
set_option maxRecDepth 100000 in
theorem isNumber (b : Nat) (m : Int) (n f : Int) (s : ByteArray) (w : World) (h : w.cell? ⟨b, 0, none⟩ = some (.int .i64 m)) :
    Calls Try.prog 79 #[opV (n, f, s), ptrv b] w fun e w' => e = .returned (.bool (n == m)) ∧ Below w.heap.size w w' := by
  go_enter Try.func79, Try.ntmps79
  go_upto_region 1 with fail
  obtain ⟨wb, eb, kb, zb, ob⟩ := op_box w n f s
  rw [eb]
  obtain ⟨c0, c1, c2, f0, f1, f2⟩ := cells3 ob
  have c3 := cell_later kb h
  have K := Lib.hid kb
  clear eb kb h
  go_wp2
  go_ret
  exact ⟨rfl, K.out⟩
set_option maxHeartbeats 1000000 in
set_option maxRecDepth 100000 in
theorem setCount (b : Nat) (m : Int) (n f : Int) (s : ByteArray) (w : World) (h : w.heap[b]? = some (.cells #[.int .i64 m] 3 (0, 0))) :
    Calls Try.prog 49 #[opV (n, f, s), ptrv b] w fun e w' => e = .returned (.bool false) ∧ w'.heap[b]? = some (.cells #[.int .i64 n] 3 (0, 0)) ∧ Sole b w w' := by
  go_enter Try.func49, Try.ntmps49
  go_upto_region 1 with fail
  obtain ⟨wb, eb, kb, zb, ob⟩ := op_box w n f s
  rw [eb]
  obtain ⟨c0, c1, c2, f0, f1, f2⟩ := cells3 ob
  have hb := (kb.block _ (blk_lt h)).trans h
  have c3 := cellAt hb 0
  have f3 := freeAt hb 0
  have K := Lib.hid kb
  have HB := Lib.hid hb
  clear eb kb h hb
  go_wp2
  go_ret
  exact ⟨rfl, by rw [heap_setCell_same _ _ _ _ _ _ HB.out]; rfl, (soleB K.out).trans ⟨rfl, rfl, rfl, by simp [World.setCell], fun i _ hi => heap_setCell_other _ _ _ _ hi⟩⟩

/-- The plain answers. -/
def byNum (m : Int) : Int × Int × ByteArray := (tab.find? fun t => t.1 == m).getD (0, 0, ⟨#[]⟩)
def byName (q : ByteArray) : Int × Int × ByteArray := (tab.find? fun t => t.2.2.toList == q.toList).getD (0, 0, ⟨#[]⟩)
set_option maxRecDepth 100000 in
theorem findByNum (b : Nat) (m : Int) (w : World) (hV : w.heap[b]? = some (.cells #[.int .i64 m] 3 (0, 0))) {n f : Int} {s : ByteArray} (h : byNum m = (n, f, s)) :
    Calls Try.prog 48 #[.func (.func 79) #[] #[ptrv b]] w fun e w' => e = .returned (.agg #[.int .i64 n, .int .i64 f, .string s]) ∧ Sole b w w' := by
  have := find_any 79 b (Lib.hid (entersF_of rfl (by rfl) (by rfl))) (fun t => t.1 == m) 3 (fun _ => .int .i64 m) w (blk_lt hV) hV
    (Lib.hid fun n f s w1 _ _ hz hc => (isNumber b m n f s w1 (cellAt hc 0)).mono fun e w2 h => ⟨h.1, (h.2.block _ (blk_lt hc)).trans hc, soleB h.2⟩)
  refine this.mono fun e w' g => ⟨g.1.trans ?_, g.2.2⟩
  unfold byNum at h
  rw [h]
set_option maxRecDepth 100000 in
theorem findLast (b : Nat) (w : World) (hV : w.heap[b]? = some (.cells #[.int .i64 0] 3 (0, 0))) :
    Calls Try.prog 48 #[.func (.func 49) #[] #[ptrv b]] w fun e w' => e = .returned (.agg #[.int .i64 0, .int .i64 0, .string ⟨#[]⟩]) ∧ w'.heap[b]? = some (.cells #[.int .i64 162] 3 (0, 0)) ∧ Sole b w w' := by
  have := find_any 49 b (Lib.hid (entersF_of rfl (by rfl) (by rfl))) (fun t => false) 3 (fun z => .int .i64 z) w (blk_lt hV) hV
    (Lib.hid fun n f s w1 _ _ hz hc => setCount b (n - 1) n f s w1 hc)
  have hn : List.find? (fun _ : Int × Int × ByteArray => false) tab = none := by simp
  refine this.mono fun e w' g => ⟨g.1.trans ?_, g.2.1 hn, g.2.2⟩
  rw [hn]
  rfl
/-- A new block with one cell, and what only wrote there. -/
theorem sole_new {w wb wc : World} (k : Below w.heap.size w wb) (hs : Sole w.heap.size wb wc) : Below w.heap.size w wc :=
  ⟨hs.os.trans k.os, hs.tape.trans k.tape, hs.output.trans k.output, Nat.le_trans k.size hs.size, fun i hi => (hs.block i (Nat.lt_of_lt_of_le hi k.size) (by omega)).trans (k.block i hi)⟩
set_option maxHeartbeats 1000000 in
set_option maxRecDepth 100000 in
theorem numbered_core (m : Int) (w : World) {n f : Int} {s : ByteArray} (h : Hid (byNum m = (n, f, s))) : Calls Try.prog 50 #[.int .i64 m] w fun e w' => e = .returned (.agg #[.int .i64 n, .int .i64 f, .string s]) ∧ Below w.heap.size w w' := by
  go_enter Try.func50, Try.ntmps50
  go_upto_region 1 with fail
  obtain ⟨wb, eb, kb, zb, ob⟩ : ∃ wb, w.alloc (.cells #[.int .i64 m] 3) = wb ∧ Below w.heap.size w wb ∧ wb.heap.size = w.heap.size + 1 ∧ wb.heap[w.heap.size]? = some (.cells #[.int .i64 m] 3 (0, 0)) := ⟨_, rfl, box_below _ _, by simp, heap_alloc_new _ _⟩
  rw [eb]
  obtain ⟨wd, ed, kd, zd, od⟩ := op_box wb 0 0 ⟨#[]⟩
  rw [ed]
  have hf := findByNum w.heap.size m wd ((kd.block _ (blk_lt ob)).trans ob) h.out
  have K := Lib.hid (below_and kb kd)
  have OD := Lib.hid od
  have ZB := Lib.hid zb
  clear eb kb ed kd ob od
  go_wp2_with fail
  refine hf.mono ?_
  rintro e wc ⟨rfl, hs⟩
  have K2 := Lib.hid (sole_new K.out hs)
  have OC : wc.heap[w.heap.size + 1]? = some (opObj 0 0 ⟨#[]⟩) := by rw [← ZB.out]; exact (hs.block _ (blk_lt OD.out) (by have := ZB.out; omega)).trans OD.out
  obtain ⟨c0, c1, c2, f0, f1, f2⟩ := cells3 OC
  have OH := Lib.hid OC
  clear hs hf OC
  go_wp2
  (try simp only [Exit.inBlock, Exit.then])
  exact bodyPost_ret (results_cell_row rfl _ _ _ _ _ _ _ rfl (set3 OH.out _ _ _) Try.underlying81 rfl (by kernel_rfl)) rfl ⟨rfl, set3_below K2.out (by omega) _ _ _⟩
set_option maxRecDepth 100000 in
theorem name_core (m : Int) (w : World) {n f : Int} {s : ByteArray} (h : Hid (byNum m = (n, f, s))) : Calls Try.prog 19 #[.int .i64 m] w fun e w' => e = .returned (.string s) ∧ Below w.heap.size w w' := by
  have hfd : ∀ w : World, (Instr.field 81 (.agg #[.int .i64 n, .int .i64 f, .string s]) 2).run Try.prog w = .ok (.string s) w := fun _ => by kernel_rfl
  go_enter Try.func19, Try.ntmps19
  go_wp2_with fail
  refine (numbered_core m w h).mono ?_
  rintro e wc ⟨rfl, k⟩
  go_wp2
  go_ret
  exact ⟨rfl, k⟩
theorem opName (m : Int) (w : World) : Calls Try.prog 19 #[.int .i64 m] w fun e w' => e = .returned (.string (byNum m).2.2) ∧ Below w.heap.size w w' := by
  rcases h : byNum m with ⟨n, f, s⟩
  exact name_core m w (Lib.hid h)
set_option maxRecDepth 100000 in
theorem opCount (w : World) : Calls Try.prog 18 #[] w fun e w' => e = .returned (.int .i64 162) ∧ Below w.heap.size w w' := by
  go_enter Try.func18, Try.ntmps18
  go_upto_region 2 with fail
  obtain ⟨wb, eb, kb, zb, ob⟩ : ∃ wb, w.alloc (.cells #[.int .i64 0] 3) = wb ∧ Below w.heap.size w wb ∧ wb.heap.size = w.heap.size + 1 ∧ wb.heap[w.heap.size]? = some (.cells #[.int .i64 0] 3 (0, 0)) := ⟨_, rfl, box_below _ _, by simp, heap_alloc_new _ _⟩
  rw [eb]
  have hf := findLast w.heap.size wb ob
  have K := Lib.hid kb
  clear eb kb
  go_wp2_with fail
  refine hf.mono ?_
  rintro e wc ⟨rfl, hc, hs⟩
  have K2 := Lib.hid (sole_new K.out hs)
  have c0 := cellAt hc 0
  clear hs hf hc ob
  go_wp2
  go_ret
  exact ⟨rfl, K2.out⟩
end Go.Proofs.Ytlkbnldpecolbaa

/- Walks of tympanref15: names. -/
namespace Go.Proofs.Ytlkbnldpecolbaa
open Go.RowKit
set_option linter.unusedVariables false

end Go.Proofs.Ytlkbnldpecolbaa

/- Walks of tympanref15: all. -/
namespace Go.Proofs.Ytlkbnldpecolbaa
open Go.RowKit
set_option linter.unusedVariables false

theorem infoS : (Try.prog.info? 9).map (fun i => (i.zero, i.size, i.bytes)) = some (some (.string ⟨#[]⟩), 1, 16) := by kernel_rfl
def strsV (L : List ByteArray) : List Value := L.map Value.string
def uptoR : Nat → List ByteArray
  | 0 => []
  | k + 1 => uptoR k ++ refN ((k : Int) + 1)
theorem upto_all : uptoR 6 = refAll := by kernel_rfl
theorem upto_len (k : Nat) (h : k ≤ 6) : (uptoR k).length ≤ 162 := by
  have : ∀ k, k ≤ 6 → (uptoR k).length ≤ 162 := by decide +kernel
  exact this k h
theorem refN_len (k : Nat) (h : k < 6) : 0 < (refN ((k : Int) + 1)).length ∧ (refN ((k : Int) + 1)).length ≤ 61 := by
  have : ∀ k : Nat, k < 6 → 0 < (refN ((k : Int) + 1)).length ∧ (refN ((k : Int) + 1)).length ≤ 61 := by decide +kernel
  exact this k h
/-- append at a plain region's list, where it is known what it gives. -/
theorem wpList_append_eq {P : Program} {w w' : World} {v : Value} {ops : Array Oper} {rest : List Oper} {o : Oper} {a : Act} {Q : Exit → Act → World → Prop} (hgd : o.guard = none) (s x : Operand) (t : TypeId)
    (ho : o.op = .call { callee := .builtin .append, args := #[s, x], argTypes := #[t, t] }) (V1 V2 : Value) (hs : a.eval s = V1) (hx : a.eval x = V2) (hr : (Builtin.append_ #[t, t] o.type #[V1, V2]).run P w = .ok v w')
    (h : wpList P ops Q rest (a.put o.dst v) w') : wpList P ops Q (o :: rest) a w := by
  refine wpList_plain hgd fun K hK => ?_
  unfold Oper.wp
  simp [execOp, ho, resolve, invoke, builtin, hs, hx, hr, Result.andThen]
  exact hK _ _ h
end Go.Proofs.Ytlkbnldpecolbaa

/- Walks of tympanref15: Count, Name, Number, Family. -/
namespace Go.Proofs.Ytlkbnldpecolbaa
open Go.RowKit
set_option linter.unusedVariables false

theorem find_range (g : Nat → Int × Int × ByteArray) (hg : ∀ i, (g i).1 = (i : Int) + 1) (m : Int) : ∀ n : Nat, ((List.range n).map g).find? (fun t => t.1 == m) = if 1 ≤ m ∧ m ≤ n then some (g (m - 1).toNat) else none
  | 0 => by simp; omega
  | n + 1 => by
    rw [List.range_succ, List.map_append, List.find?_append, find_range g hg m n]
    by_cases h : 1 ≤ m ∧ m ≤ n
    · rw [if_pos h, if_pos (by omega)]; rfl
    · rw [if_neg h]
      by_cases e : m = n + 1
      · rw [if_pos (by omega)]
        have : (m - 1).toNat = n := by omega
        rw [this]
        simp [hg, e]
      · rw [if_neg (by omega)]
        have : ((n : Int) + 1 == m) = false := by simp; omega
        simp [hg, this]
theorem byNum_in (m : Int) (h1 : 1 ≤ m) (h2 : m ≤ 162) : byNum m = (m, famE (m - 1).toNat, refAll.getD (m - 1).toNat ⟨#[]⟩) := by
  unfold byNum tab
  rw [find_range _ (fun _ => rfl), if_pos ⟨h1, h2⟩]
  have : (((m - 1).toNat : Nat) : Int) + 1 = m := by omega
  simp only [Option.getD_some, this]
theorem byNum_out (m : Int) (h : m < 1 ∨ 162 < m) : byNum m = (0, 0, ⟨#[]⟩) := by
  unfold byNum tab
  rw [find_range _ (fun _ => rfl), if_neg (by omega)]
  rfl
theorem refAll_length : refAll.length = 162 := by kernel_rfl
theorem tab_get (i : Nat) (h : i < 162) : tab[i]? = some ((i : Int) + 1, famE i, refAll.getD i ⟨#[]⟩) := by
  unfold tab
  rw [List.getElem?_map, List.getElem?_range h]
  rfl
theorem strs_at (i : Nat) (h : i < 162) : (strsV refAll)[i]? = some (.string (refAll.getD i ⟨#[]⟩)) := by
  unfold strsV
  have := refAll_length
  rw [List.getElem?_map, List.getD_eq_getElem?_getD, List.getElem?_eq_getElem (by omega)]
  rfl
theorem drop_tab (i : Nat) (h : i < 162) : tab.drop i = ((i : Int) + 1, famE i, refAll.getD i ⟨#[]⟩) :: tab.drop (i + 1) := by
  have hl := tab_length
  rw [List.drop_eq_getElem_cons (by omega)]
  have := tab_get i h
  rw [List.getElem?_eq_getElem (by omega)] at this
  rw [Option.some.inj this]
def cumF : Nat → Int
  | 0 => 0 | 1 => 38 | 2 => 58 | 3 => 71 | 4 => 80 | 5 => 101 | _ => 162
theorem cumF_len (k : Nat) (h : k < 6) : ((refN ((k : Int) + 1)).length : Int) = cumF (k + 1) - cumF k ∧ 0 ≤ cumF k ∧ cumF k < cumF (k + 1) ∧ cumF (k + 1) ≤ 162 := by
  have : k = 0 ∨ k = 1 ∨ k = 2 ∨ k = 3 ∨ k = 4 ∨ k = 5 := by omega
  rcases this with rfl | rfl | rfl | rfl | rfl | rfl <;> exact ⟨by kernel_rfl, by decide, by decide, by decide⟩
theorem famE_of (k : Nat) (h : k < 6) (m : Int) (h1 : cumF k < m) (h2 : m ≤ cumF (k + 1)) : famE (m - 1).toNat = (k : Int) + 1 := by
  have : k = 0 ∨ k = 1 ∨ k = 2 ∨ k = 3 ∨ k = 4 ∨ k = 5 := by omega
  unfold famE
  rcases this with rfl | rfl | rfl | rfl | rfl | rfl <;> simp only [cumF] at h1 h2 <;> (repeat' split) <;> omega
end Go.Proofs.Ytlkbnldpecolbaa
