/- XB: Q6, Q7, Q8, Q9, K32, Q10, Q11. -/
import Derived.Test.YtmlkmgeddkpgiaaXA
import Derived.Deep.CutRange
import Derived.Test.YtmlkmgeddkpgiaaK26
/- Walks of tympanref11: make. -/
namespace Go.Proofs.Ytmlkmgeddkpgiaa
open Go.RowKit
set_option linter.unusedVariables false
set_option linter.unusedSimpArgs false
set_option maxHeartbeats 1000000
set_option maxRecDepth 100000

/-- A cell boxed, and a zero object. -/
theorem rc_zero (w : World) (k : Int) (it bs : Value) (lk : Bool) : ∃ wb, (w.alloc (.cells #[.int .i64 k, it, bs, .bool lk] 110)).alloc (.cells #[.int .i64 0, .bool false, .int .i64 0, .int .i64 0, .int .i64 0, .string ⟨#[]⟩] 24) = wb ∧ Below w.heap.size w wb ∧ wb.heap.size = w.heap.size + 2 ∧
    wb.heap[w.heap.size]? = some (.cells #[.int .i64 k, it, bs, .bool lk] 110 (0, 0)) ∧ wb.heap[w.heap.size + 1]? = some emptyOb := by
  have h2 := heap_alloc_new (w.alloc (.cells #[.int .i64 k, it, bs, .bool lk] 110)) emptyOb
  exact ⟨_, rfl, below_and (box_below _ _) (box_below _ _), by simp, (Below.heap_alloc _ _ _ (by simp)).trans (heap_alloc_new _ _), by simpa using h2⟩
theorem rmake_full (rb z cap : Nat) (p : Option Addr) (k : Int) (it bs : Value) (lk : Bool) (w : World) (hz : 2000 ≤ z) (h0 : w.cell? ⟨rb, 0, none⟩ = some (.slice p z cap)) :
    Calls Try.prog 84 #[ptr rb, rcV k it bs lk] w fun e w' => e = .returned (.tuple #[zeroOb, .int .i64 5]) ∧ Below w.heap.size w w' := by
  have t0 : (z : Int) ≥ 2000 := by omega
  go_enter Try.func84, Try.ntmps84
  go_upto_region 1 with fail
  obtain ⟨wb, eb, kb, zb, cb, ob⟩ := rc_zero w k it bs lk
  rw [eb]
  have d0 := cell_later kb h0
  have KB := Lib.hid kb
  have OB := Lib.hid ob
  clear eb kb zb cb ob
  go_quiet (fail)
  have KQ : Hid (Below w.heap.size w (wb.drewN nq)) := Lib.hid (below_and KB.out (below_drewN _ _))
  have OQ : Hid ((wb.drewN nq).heap[w.heap.size + 1]? = some emptyOb) := Lib.hid OB.out
  generalize wb.drewN nq = wq at KQ OQ
  obtain ⟨⟨o0, o1, o2, o3, o4, o5⟩, g0, g1, g2, g3, g4, g5⟩ := cells6 OQ.out
  go_wp2
  (try simp only [Exit.inBlock, Exit.then])
  refine bodyPost_ret (ret_cell rfl _ _ _ _ _ _ _ _ rfl rfl (set6 OQ.out _ _ _ _ _ _) Try.underlying24 rfl (by kernel_rfl)) rfl ⟨rfl, set6_below KQ.out (Nat.le_succ _) _ _ _ _ _ _⟩
/-- append(nil, v...): a new row, or nil. -/
theorem app_copy {w : World} {I : Nat → Prop} {v : Value} {n : Nat} {cs : List Value} (h : rowC w I v n cs) (t e : TypeId) (i : TypeInfo) (z : Value) (size bytes : Nat) (ht : Try.prog.underlying t = some (.slice e)) (hi : Try.prog.info? e = some i) (hz : i.zero = some z)
    (hsize : i.size = size) (hby : i.bytes = bytes) (hzs : z.cells.size = size) (hsz : 0 < size) (hl : cs.length = n * size) (h1 : ∀ u ∈ cs, u.oneCell' = true) (h63 : n ≤ maxLen) (hbytes : n * bytes ≤ 140737488355328) (ty : TypeId) :
    ∃ v' w', (Builtin.append_ #[t, t] ty #[.slice none 0 0, v]).run Try.prog w = .ok v' w' ∧ w'.ownsRow w.heap.size e size v' n cs ∧ Below w.heap.size w w' ∧ (v' = .slice none 0 0 → n = 0) := by
  rcases h with ⟨rfl, rfl, rfl⟩ | ⟨g, cap, rfl, _, _, _, hc⟩
  · refine ⟨.slice none 0 0, w, ?_, World.ownsRow_nil _ _ _ _, Below.refl _ _, fun _ => rfl⟩
    simp [Builtin.append_, run_underlying ht, sizeOf, typeInfo, hi, Builtin.lenOf, Builtin.firstCells, loadCells, loadCellsFrom]
  · obtain ⟨v', w', hr, h2, h3, h4⟩ := run_append_own (P := Try.prog) w w.heap.size t ty e i z size bytes ht hi hz hsize hby hzs hsz (.slice none 0 0) 0 [] (World.ownsRow_nil _ _ _ _) ⟨g, 0, none⟩ n cap cs hl (fun j u hj => by rw [Addr.add_mid, Nat.zero_add]; exact hc j u hj) h1 (by omega) (by rw [Nat.zero_add]; exact hbytes) (Nat.le_refl _)
    rw [Nat.zero_add, List.nil_append] at h2
    exact ⟨v', w', hr, h2, (Below.refl _ w).grown h3 (Nat.le_refl _) (fun k e => by cases e), fun e => (h4.1 e).2⟩
theorem rowC_of_owns {w : World} {base : Nat} {e : TypeId} {size : Nat} {v : Value} {n : Nat} {cs : List Value} {I : Nat → Prop} (h : w.ownsRow base e size v n cs) (hI : ∀ g, v.ownBlock = some g → I g) (h0 : n = 0 → cs = []) : rowC w I v n cs := by
  rcases h.2 with ⟨rfl, hn⟩ | ⟨g, cap, cur, rfl, hb, hg, hc, hm, hs, ht⟩
  · exact .inl ⟨rfl, hn, h0 hn⟩
  · refine .inr ⟨g, cap, rfl, by omega, hI g rfl, blk_lt hg, fun j u hj => ?_⟩
    have := h.cells rfl j u hj
    rwa [Addr.add_mid, Nat.zero_add] at this
theorem rcCells_one (R : List RC) (h : ∀ r ∈ R, (∃ p n c, r.it = .slice p n c) ∧ ∃ p n c, r.bs = .slice p n c) : ∀ u ∈ rcCells R, u.oneCell' = true := by
  intro u hu
  obtain ⟨r, hr, hu⟩ := List.mem_flatMap.1 hu
  obtain ⟨⟨p, n, c, e1⟩, ⟨q, m, d, e2⟩⟩ := h r hr
  simp only [rcL, List.mem_cons, List.not_mem_nil, or_false] at hu
  rcases hu with rfl | rfl | rfl | rfl
  · rfl
  · rw [e1]; rfl
  · rw [e2]; rfl
  · rfl
theorem rcCells_append (R S : List RC) : rcCells (R ++ S) = rcCells R ++ rcCells S := by simp [rcCells]
theorem rcCells_single (r : RC) : rcCells [r] = rcL r := by simp [rcCells]
theorem cels_append (R S : List RC) : cels (R ++ S) = cels R ++ cels S := by simp [cels]
/-- All that was ours, and what is new. -/
def Plus (own : Nat → Prop) (w w' : World) (b : Nat) : Prop := own b ∨ (w.heap.size ≤ b ∧ b < w'.heap.size)
section
variable {own : Nat → Prop} {rb : Nat} {v : Value} {R : List RC} {w w3 : World}
theorem RH.made (h : RH own rb v R w) (ho : ∀ b, own b → b < w.heap.size) (r : RC) (hr : rowC w (Im own rb v) r.it r.c.it.length (obCells r.c.it) ∧ rowC w (Im own rb v) r.bs r.c.bs.length (byCells r.c.bs)) (hk : (r.c.k = 8 ∧ r.c.it = []) ∨ ((r.c.k = 9 ∨ r.c.k = 10) ∧ r.c.bs = [])) (hl : R.length < 2000) (hu : usedP (cels R) + r.c.size ≤ 40000)
    (k : Below w.heap.size w w3) (g cap : Nat) (hown : w3.ownsRow w.heap.size 110 4 (.slice (some ⟨g, 0, none⟩) (R.length + 1) cap) (R.length + 1) (rcCells R ++ rcL r)) :
    RH (Plus own w w3) rb (.slice (some ⟨g, 0, none⟩) (R.length + 1) cap) (R ++ [r]) (w3.setCell ⟨rb, 0, none⟩ (.slice (some ⟨g, 0, none⟩) (R.length + 1) cap)) := by
  have hrb := blk_lt h.hdr
  have hg := hown.lt g rfl
  have on : Only rb w3 (w3.setCell ⟨rb, 0, none⟩ (.slice (some ⟨g, 0, none⟩) (R.length + 1) cap)) := (Only.refl _ _).set 0 _
  have fx : ∀ b, Im own rb v b → b < w.heap.size → Im (Plus own w w3) rb (.slice (some ⟨g, 0, none⟩) (R.length + 1) cap) b ∧ (w3.setCell ⟨rb, 0, none⟩ (.slice (some ⟨g, 0, none⟩) (R.length + 1) cap)).heap[b]? = w.heap[b]? := fun b q hb =>
    ⟨⟨.inl q.1, q.2.1, fun e => by have : g = b := by simpa [Value.ownBlock] using e
                                   omega⟩, (on.block b q.2.1).trans (k.block b hb)⟩
  have hs : w.heap.size ≤ (w3.setCell ⟨rb, 0, none⟩ (.slice (some ⟨g, 0, none⟩) (R.length + 1) cap)).heap.size := by rw [on.size]; exact k.size
  refine ⟨?_, .inl h.mine, ?_, fun i x hx => ?_, ?_, fun b e j => by
    have : g = b := by simpa [Value.ownBlock] using e
    subst this
    rw [World.frozen?_of_block (w := w3) (a := ⟨g, j, none⟩) (on.block g (by omega))]
    exact hown.frozenAt j⟩
  · rw [heap_setCell_same _ _ _ _ 31 _ ((k.block _ hrb).trans h.hdr)]
    rfl
  · have q := rowC_of_owns (I := fun b => Plus own w w3 b ∧ b ≠ rb) hown (fun b e => by
      have : g = b := by simpa [Value.ownBlock] using e
      subst this
      exact ⟨.inr hg, by omega⟩) (fun e => by omega)
    rw [List.length_append, rcCells_append, rcCells_single]
    refine q.same (by rw [on.size]; exact Nat.le_refl _) fun b q _ => ⟨q, on.block b q.2⟩
  · rw [List.getElem?_append] at hx
    split at hx
    · exact ⟨(h.sub i x hx).1.same hs fx, (h.sub i x hx).2.same hs fx⟩
    · next hi =>
      have hi' : i - R.length = 0 := by
        have := (List.getElem?_eq_some_iff.1 hx).1
        simp at this
        omega
      rw [hi'] at hx
      obtain rfl : r = x := by simpa using hx
      exact ⟨hr.1.same hs fx, hr.2.same hs fx⟩
  · rw [cels_append]
    refine ⟨by simp [cels_length]; omega, ?_, fun c hc => ?_⟩
    · simpa [usedP, cels] using hu
    · rcases List.mem_append.1 hc with hc | hc
      · exact h.wf.kind c hc
      · obtain rfl : c = r.c := by simpa [cels] using hc
        exact hk
end
end Go.Proofs.Ytmlkmgeddkpgiaa

/- Walks of tympanref11: make. -/
namespace Go.Proofs.Ytmlkmgeddkpgiaa
open Go.RowKit
set_option linter.unusedVariables false
set_option linter.unusedSimpArgs false
set_option maxHeartbeats 1000000
set_option maxRecDepth 100000

/-- A boxed cell of the reference's, and the heap's slice. -/
def MkAt (w : World) (rb A : Nat) (v : Value) (k : Int) (it bs : Value) (lk : Bool) : Prop := w.cell? ⟨rb, 0, none⟩ = some v ∧ w.cell? ⟨A, 0, none⟩ = some (.int .i64 k) ∧ w.cell? ⟨A, 1, none⟩ = some it ∧ w.cell? ⟨A, 2, none⟩ = some bs ∧ w.cell? ⟨A, 3, none⟩ = some (.bool lk)
theorem MkAt.later {w wx : World} {rb A : Nat} {v : Value} {k : Int} {it bs : Value} {lk : Bool} (h : MkAt w rb A v k it bs lk) (kc : Below w.heap.size w wx) : MkAt wx rb A v k it bs lk := ⟨cell_later kc h.1, cell_later kc h.2.1, cell_later kc h.2.2.1, cell_later kc h.2.2.2.1, cell_later kc h.2.2.2.2⟩
theorem rmake_used (rb z cap u m : Nat) (p : Option Addr) (k : Int) (it bs : Value) (lk : Bool) (w : World) (hz : z < 2000) (h0 : w.cell? ⟨rb, 0, none⟩ = some (.slice p z cap)) (hu : 40000 < u + m) (hb : u ≤ 40000 ∧ m ≤ 80000)
    (h1 : Hid (∀ wx, Below w.heap.size w wx → Calls Try.prog 25 #[ptr rb] wx fun e w' => e = .returned (.int .i64 u) ∧ Below wx.heap.size wx w'))
    (h3 : Hid (∀ wx, Calls Try.prog 82 #[rcV k it bs lk] wx fun e w' => e = .returned (.int .i64 m) ∧ Below wx.heap.size wx w')) :
    Calls Try.prog 84 #[ptr rb, rcV k it bs lk] w fun e w' => e = .returned (.tuple #[zeroOb, .int .i64 5]) ∧ Below w.heap.size w w' := by
  have t0 : ¬ ((z : Int) ≥ 2000) := by omega
  have e1 : IntKind.i64.wrap ((u : Int) + (m : Int)) = ((u + m : Nat) : Int) := by rw [IntWalk.i64_in _ (by omega)]; omega
  have t1 : ((u + m : Nat) : Int) > 40000 := by omega
  go_enter Try.func84, Try.ntmps84
  go_upto_region 1 with fail
  obtain ⟨wb, eb, kb, zb, cb, ob⟩ := rc_zero w k it bs lk
  rw [eb]
  have gb : Hid (Below w.heap.size w wb.drew) := Lib.hid kb.drew
  have mk : MkAt wb rb w.heap.size (.slice p z cap) k it bs lk := ⟨cell_later kb h0, cellAt cb 0, cellAt cb 1, cellAt cb 2, cellAt cb 3⟩
  have go : Hid (MkAt wb.drew rb w.heap.size (.slice p z cap) k it bs lk) := Lib.hid mk
  have OB : Hid (wb.drew.heap[w.heap.size + 1]? = some emptyOb) := Lib.hid ob
  clear eb kb zb cb ob mk
  go_region_held3 (fun wx => wx.cell? ⟨rb, 0, none⟩ = some (.slice p z cap) ∧ wx.cell? ⟨w.heap.size, 0, none⟩ = some (.int .i64 k) ∧ wx.cell? ⟨w.heap.size, 1, none⟩ = some it ∧ wx.cell? ⟨w.heap.size, 2, none⟩ = some bs ∧ wx.cell? ⟨w.heap.size, 3, none⟩ = some (.bool lk))
    (first | exact go.out | go_keep)
    (first | (go_at_call 25; refine (h1.out _ gb.out).mono ?_; rintro e we ⟨rfl, ke⟩; replace gb := Lib.hid (below_and gb.out ke); replace go := Lib.hid (go.out.later ke); replace OB := Lib.hid ((ke.block _ (blk_lt OB.out)).trans OB.out); clear ke) | (go_at_call 82; refine (h3.out _).mono ?_; rintro e we ⟨rfl, ke⟩; replace gb := Lib.hid (below_and gb.out ke); replace go := Lib.hid (go.out.later ke); replace OB := Lib.hid ((ke.block _ (blk_lt OB.out)).trans OB.out); clear ke))
  all_goals
    obtain ⟨⟨o0, o1, o2, o3, o4, o5⟩, g0, g1, g2, g3, g4, g5⟩ := cells6 OB.out
    go_wp2
    (try simp only [Exit.inBlock, Exit.then])
    exact bodyPost_ret (ret_cell rfl _ _ _ _ _ _ _ _ rfl rfl (set6 OB.out _ _ _ _ _ _) Try.underlying24 rfl (by kernel_rfl)) rfl ⟨rfl, set6_below gb.out (Nat.le_succ _) _ _ _ _ _ _⟩
end Go.Proofs.Ytmlkmgeddkpgiaa

/- Walks of tympanref11: make. -/
namespace Go.Proofs.Ytmlkmgeddkpgiaa
open Go.RowKit
set_option linter.unusedVariables false
set_option linter.unusedSimpArgs false
set_option maxHeartbeats 1000000
set_option maxRecDepth 100000

theorem step_append_ex {P : Program} {w : World} {ops : Array Oper} {o : Oper} {a : Act} {K : Act → World → Prop} {Q : Exit → Act → World → Prop} {E : Prop} (hgd : o.guard = none) (s x : Operand) (t : TypeId)
    (ho : o.op = .call { callee := .builtin .append, args := #[s, x], argTypes := #[t, t] }) (V1 V2 : Value) (hs : a.eval s = V1) (hx : a.eval x = V2) (F : Value → World → Prop) (hrun : ∃ v w', (Builtin.append_ #[t, t] o.type #[V1, V2]).run P w = .ok v w' ∧ F v w')
    (h : ∀ v w', F v w' → K (a.put o.dst v) w') : if Region.wanted o (yielded ops a.tmps) = true then Oper.wp P o a w K Q else E := by
  obtain ⟨v, w', hr, hf⟩ := hrun
  exact step_append_run hgd s x t ho V1 V2 hs hx v w' hr (h v w' hf)
theorem info127 : (Try.prog.info? 110).map (fun i => (i.zero, i.size, i.bytes)) = some (some (.agg #[.int .i64 0, .slice none 0 0, .slice none 0 0, .bool false]), 4, 64) := by kernel_rfl
/-- The heap's slice, copied. -/
theorem cells_copy {own : Nat → Prop} {rb : Nat} {v : Value} {R : List RC} {w : World} (h : RH own rb v R w) (wx : World) (k : Below w.heap.size w wx) (ty : TypeId) :
    ∃ v' w', (Builtin.append_ #[29, 29] ty #[.slice none 0 0, v]).run Try.prog wx = .ok v' w' ∧ w'.ownsRow wx.heap.size 110 4 v' R.length (rcCells R) ∧ Below wx.heap.size wx w' ∧ (v' = .slice none 0 0 → R.length = 0) := by
  obtain ⟨i0, hi, hz0, hz1, hz2⟩ := info_parts info127
  have hl : R.length ≤ 2000 := by have := h.wf.len; rw [cels_length] at this; exact this
  refine app_copy (h.below k).row 29 110 i0 _ 4 64 Try.underlying29 hi hz0 hz1 hz2 rfl (by decide) (rcCells_length R) (rcCells_one R fun r hr => ?_) (by unfold maxLen; omega) (by omega) ty
  obtain ⟨i, hi⟩ := List.mem_iff_getElem?.1 hr
  obtain ⟨p, q, c, d, e1, e2, _⟩ := h.size hi
  exact ⟨⟨_, _, _, e1⟩, ⟨_, _, _, e2⟩⟩
theorem rcl_box (w : World) (r : RC) : ∃ wb, w.alloc (.cells #[.int .i64 r.c.k, r.it, r.bs, .bool r.c.lk] 110) = wb ∧ Below w.heap.size w wb ∧ ∀ j u, (rcL r)[j]? = some u → wb.cell? (Addr.add ⟨w.heap.size, 0, none⟩ j) = some u :=
  ⟨_, rfl, box_below _ _, fun j u h => by rw [Addr.add_mid, Nat.zero_add, cellAt (heap_alloc_new _ _)]; simpa using h⟩
theorem owns_at {w w' : World} {base : Nat} {e : TypeId} {size : Nat} {v : Value} {n : Nat} {xs : List Value} (h : w.ownsRow base e size v n xs) (k : ∀ g, v.ownBlock = some g → w'.heap[g]? = w.heap[g]?) : w'.ownsRow base e size v n xs := by
  refine ⟨h.1, ?_⟩
  rcases h.2 with hn | ⟨g, cap, cur, rfl, hb, hgg, rest⟩
  · exact .inl hn
  · refine .inr ⟨g, cap, cur, rfl, hb, ?_, rest⟩
    rw [k g rfl]
    exact hgg
theorem rcl_one (r : RC) {p1 p2 : Option Addr} {n1 n2 c1 c2 : Nat} (h : r.it = .slice p1 n1 c1 ∧ r.bs = .slice p2 n2 c2) : ∀ u ∈ rcL r, u.oneCell' = true := by
  have := rcCells_one [r] fun x hx => by
    obtain rfl : x = r := by simpa using hx
    exact ⟨⟨_, _, _, h.1⟩, ⟨_, _, _, h.2⟩⟩
  rw [rcCells_single] at this
  exact this
theorem below_kept {rb : Nat} {w w' : World} (h : Below w.heap.size w w') : Kept (fun b => b < w.heap.size ∧ b ≠ rb) w w' := ⟨h.os, h.tape, h.output, h.size, fun b hb => h.block b hb.1⟩
theorem kept_of {own : Nat → Prop} {w w' : World} (h : Below w.heap.size w w') (ho : ∀ b, own b → b < w.heap.size) : Kept own w w' := ⟨h.os, h.tape, h.output, h.size, fun b hb => h.block b (ho b hb)⟩
theorem own_of_eq {g g' m n c : Nat} (h : m ≤ g) (e : (Value.slice (some ⟨g, 0, none⟩) n c).ownBlock = some g') : m ≤ g' := by
  have : g = g' := by simpa [Value.ownBlock] using e
  omega
/-- The boxed cell and the result. -/
def MkX (wx : World) (A : Nat) (r : RC) : Prop := wx.heap[A]? = some (.cells #[.int .i64 r.c.k, r.it, r.bs, .bool r.c.lk] 110 (0, 0)) ∧ wx.heap[A + 1]? = some emptyOb
theorem MkX.keep {w w' : World} {A : Nat} {r : RC} (h : MkX w A r) (k : ∀ b, b = A ∨ b = A + 1 → b < w.heap.size → w'.heap[b]? = w.heap[b]?) : MkX w' A r := ⟨(k _ (.inl rfl) (blk_lt h.1)).trans h.1, (k _ (.inr rfl) (blk_lt h.2)).trans h.2⟩
/-- What stands behind the statement that makes the row anew. -/
structure Made (own : Nat → Prop) (rb : Nat) (R : List RC) (r : RC) (w wb wx : World) : Prop where
  rh : ∃ v', RH (Plus own wb wx) rb v' (R ++ [r]) wx ∧ ∀ g, v'.ownBlock = some g → w.heap.size ≤ g
  kept : Kept (fun b => b < w.heap.size ∧ b ≠ rb) w wx
  box : wx.heap[w.heap.size]? = some (.cells #[.int .i64 r.c.k, r.it, r.bs, .bool r.c.lk] 110 (0, 0))
  res : wx.heap[w.heap.size + 1]? = some emptyOb
section
variable {own : Nat → Prop} {rb : Nat} {v : Value} {R : List RC} {w : World}
theorem rmake_ok (h : RH own rb v R w) (ho : ∀ b, own b → b < w.heap.size) (r : RC) (hr : rowC w (Im own rb v) r.it r.c.it.length (obCells r.c.it) ∧ rowC w (Im own rb v) r.bs r.c.bs.length (byCells r.c.bs)) (hk : (r.c.k = 8 ∧ r.c.it = []) ∨ ((r.c.k = 9 ∨ r.c.k = 10) ∧ r.c.bs = [])) (hl : R.length < 2000) (hu : usedP (cels R) + r.c.size ≤ 40000)
    (T : Nat) (hT : T = if r.c.k = 10 then 0 else r.c.size) :
    Calls Try.prog 84 #[ptr rb, rcV r.c.k r.it r.bs r.c.lk] w fun e w' => e = .returned (.tuple #[obV r.c.k false R.length 0 T ⟨#[]⟩, .int .i64 0]) ∧ (∃ v', RH (Plus own w w') rb v' (R ++ [r]) w' ∧ ∀ g, v'.ownBlock = some g → w.heap.size ≤ g) ∧ Kept (fun b => b < w.heap.size ∧ b ≠ rb) w w' := by
  have H := Lib.hid h
  have HO := Lib.hid ho
  have HR := Lib.hid hr
  have HK := Lib.hid hk
  have HL := Lib.hid hl
  have HU := Lib.hid hu
  have HT := Lib.hid hT
  obtain ⟨p, cap, ev, _⟩ := h.row.form
  have h0 := h.hcell
  have HRB := Lib.hid (blk_lt h.hdr)
  obtain ⟨p1, c1, f1, _⟩ := hr.1.form
  obtain ⟨p2, c2, f2, _⟩ := hr.2.form
  have F12 := Lib.hid (And.intro f1 f2)
  have hsz : IntKind.i64.wrap ((r.c.it.length : Int) + (r.c.bs.length : Int)) = (r.c.size : Nat) := by unfold Cel.size at hu ⊢; rw [IntWalk.i64_in _ (by omega)]; omega
  have h1 : Hid (∀ wx, Below w.heap.size w wx → Calls Try.prog 25 #[ptr rb] wx fun e w' => e = .returned (.int .i64 (usedP (cels R))) ∧ Below wx.heap.size wx w') := Lib.hid fun wx kx => rused_any (h.below kx)
  have h3 : Hid (∀ wx, Calls Try.prog 82 #[rcV r.c.k r.it r.bs r.c.lk] wx fun e w' => e = .returned (.int .i64 r.c.size) ∧ Below wx.heap.size wx w') := Lib.hid fun wx => by rw [f1, f2]; exact rcsize_any r.c.k p1 p2 _ c1 _ c2 r.c.size r.c.lk wx hsz
  have t0 : ¬ ((R.length : Int) ≥ 2000) := by omega
  have e1 : IntKind.i64.wrap ((usedP (cels R) : Int) + (r.c.size : Int)) = ((usedP (cels R) + r.c.size : Nat) : Int) := by rw [IntWalk.i64_in _ (by omega)]; omega
  have t1 : ¬ (((usedP (cels R) + r.c.size : Nat) : Int) > 40000) := by omega
  rw [ev] at h0
  have H0 := Lib.hid h0
  clear h ho hr hk hl hu hT f1 f2 hsz
  go_enter Try.func84, Try.ntmps84
  go_upto_region 1 with fail
  obtain ⟨wb, eb, kb, zsz, cb, ob⟩ := rc_zero w r.c.k r.it r.bs r.c.lk
  rw [eb]
  have KB := Lib.hid kb
  have CB := Lib.hid cb
  have OB := Lib.hid ob
  clear eb kb cb ob h0
  have ZB := Lib.hid zsz
  have HWB := Lib.hid (H.out.below KB.out)
  have HOB : Hid (∀ b, own b → b < wb.heap.size) := Lib.hid fun b q => Nat.lt_of_lt_of_le (HO.out b q) KB.out.size
  have HRw : Hid (rowC wb (Im own rb v) r.it r.c.it.length (obCells r.c.it) ∧ rowC wb (Im own rb v) r.bs r.c.bs.length (byCells r.c.bs)) := Lib.hid ⟨HR.out.1.same KB.out.size fun g q hg => ⟨q, KB.out.block g hg⟩, HR.out.2.same KB.out.size fun g q hg => ⟨q, KB.out.block g hg⟩⟩
  go_cut [20] from 7 to 20 (fun c wx => c = .bool false ∧ Below wb.heap.size wb wx)
  case first =>
    have gb : Hid (Below wb.heap.size wb wb.drew) := Lib.hid (Below.refl _ wb).drew
    have mk : MkAt wb rb w.heap.size (.slice p R.length cap) r.c.k r.it r.bs r.c.lk := ⟨cell_later KB.out H0.out, cellAt CB.out 0, cellAt CB.out 1, cellAt CB.out 2, cellAt CB.out 3⟩
    have go : Hid (MkAt wb.drew rb w.heap.size (.slice p R.length cap) r.c.k r.it r.bs r.c.lk) := Lib.hid mk
    clear mk
    go_region_held3 (fun wx => wx.cell? ⟨rb, 0, none⟩ = some (.slice p R.length cap) ∧ wx.cell? ⟨w.heap.size, 0, none⟩ = some (.int .i64 r.c.k) ∧ wx.cell? ⟨w.heap.size, 1, none⟩ = some r.it ∧ wx.cell? ⟨w.heap.size, 2, none⟩ = some r.bs ∧ wx.cell? ⟨w.heap.size, 3, none⟩ = some (.bool r.c.lk))
      (first | exact go.out | go_keep)
      (first | (go_at_call 25; refine (h1.out _ (below_and KB.out gb.out)).mono ?_; rintro e we ⟨rfl, ke⟩; replace gb := Lib.hid (below_and gb.out ke); replace go := Lib.hid (go.out.later ke); clear ke) | (go_at_call 82; refine (h3.out _).mono ?_; rintro e we ⟨rfl, ke⟩; replace gb := Lib.hid (below_and gb.out ke); replace go := Lib.hid (go.out.later ke); clear ke))
    all_goals
      go_wp2_with fail
      go_meet
      exact ⟨congrArg Value.bool (decide_eq_false (by have := HU.out; omega)), gb.out⟩
  case rest =>
    obtain ⟨rfl, kb⟩ := hcut
    have KC := Lib.hid kb
    have CC := Lib.hid ((kb.block _ (blk_lt CB.out)).trans CB.out)
    have OC := Lib.hid ((kb.block _ (blk_lt OB.out)).trans OB.out)
    clear kb
    go_upto_region 3 with fail
    go_cut [30] from 22 to 32 (fun _ wx => Made own rb R r w wb wx)
    case first =>
      have h0 : wc.drew.cell? ⟨rb, 0, none⟩ = some (.slice p R.length cap) := cell_later (below_and KB.out KC.out.drew) H0.out
      have gb0 : Below wb.heap.size wb wc.drew := KC.out.drew
      have cx0 : MkX wc.drew w.heap.size r := show MkX wc w.heap.size r from ⟨CC.out, OC.out⟩
      have HCP : Hid (∀ wx, Below wb.heap.size wb wx → ∀ ty, ∃ v' w', (Builtin.append_ #[29, 29] ty #[.slice none 0 0, .slice p R.length cap]).run Try.prog wx = .ok v' w' ∧ w'.ownsRow wx.heap.size 110 4 v' R.length (rcCells R) ∧ Below wx.heap.size wx w' ∧ (v' = .slice none 0 0 → R.length = 0)) := Lib.hid fun wx kx ty => by rw [← ev]; exact cells_copy HWB.out wx kx ty
      obtain ⟨i0, hi, hz0, hz1, hz2⟩ := info_parts info127
      try refine wp_region_noPanic ?_
      refine wp_region_held_drew (S := fun wx => MkX wx w.heap.size r) (by kernel_rfl) cx0 (fun _ => ?_)
      generalize wc.drew = wd at gb0 h0 cx0 ⊢
      have gb := Lib.hid gb0
      have CX := Lib.hid cx0
      clear gb0 cx0
      refine wpAnyH_take (i := 0) (v := ptr rb) rfl (by kernel_rfl) (by kernel_rfl) (by kernel_rfl) (fun _ _ _ h => h) (Or.inl ⟨by rfl, fun wx hS => ?_⟩) CX.out ?_
      · go_simp
      try simp only [Act.put, List.getElem_toArray, List.getElem_cons_succ, List.getElem_cons_zero, List.setIfInBounds_toArray, List.set_cons_zero, List.set_cons_succ]
      refine wpAnyH_take (i := 1) (v := ptr rb) rfl (by kernel_rfl) (by kernel_rfl) (by kernel_rfl) (fun _ _ _ h => h) (Or.inl ⟨by rfl, fun wx hS => ?_⟩) CX.out ?_
      · go_simp
      try simp only [Act.put, List.getElem_toArray, List.getElem_cons_succ, List.getElem_cons_zero, List.setIfInBounds_toArray, List.set_cons_zero, List.set_cons_succ]
      refine wpAnyH_take (i := 2) (v := ptr rb) rfl (by kernel_rfl) (by kernel_rfl) (by kernel_rfl) (fun _ _ _ h => h) (Or.inl ⟨by rfl, fun wx hS => ?_⟩) CX.out ?_
      · go_simp
      try simp only [Act.put, List.getElem_toArray, List.getElem_cons_succ, List.getElem_cons_zero, List.setIfInBounds_toArray, List.set_cons_zero, List.set_cons_succ]
      refine wpAnyH_take (i := 3) (v := .pointer (some ⟨rb, 0, none⟩)) rfl (by kernel_rfl) (by kernel_rfl) (by kernel_rfl) (fun _ _ _ h => h) (Or.inl ⟨by rfl, fun wx hS => ?_⟩) CX.out ?_
      · go_simp
      try simp only [Act.put, List.getElem_toArray, List.getElem_cons_succ, List.getElem_cons_zero, List.setIfInBounds_toArray, List.set_cons_zero, List.set_cons_succ]
      refine wpAnyH_take (i := 6) (v := rcV r.c.k r.it r.bs r.c.lk) rfl (by kernel_rfl) (by kernel_rfl) (by kernel_rfl) (fun _ _ _ h => h) (Or.inl ⟨by rfl, fun wx hS => ?_⟩) CX.out ?_
      · have d0 : wx.cell? ⟨w.heap.size, 0, none⟩ = some (.int .i64 r.c.k) := cellAt hS.1 0
        have d1 : wx.cell? ⟨w.heap.size, 1, none⟩ = some r.it := cellAt hS.1 1
        have d2 : wx.cell? ⟨w.heap.size, 2, none⟩ = some r.bs := cellAt hS.1 2
        have d3 : wx.cell? ⟨w.heap.size, 3, none⟩ = some (.bool r.c.lk) := cellAt hS.1 3
        go_simp
      try simp only [Act.put, List.getElem_toArray, List.getElem_cons_succ, List.getElem_cons_zero, List.setIfInBounds_toArray, List.set_cons_zero, List.set_cons_succ]
      refine wpAnyH_ready (rs := [4, 7]) (by kernel_rfl) (by simp) ?_
      refine (AllReadyH.cons rfl (fun K hK => ?_) (AllReadyH.cons rfl (fun K hK => ?_) AllReadyH.nil))
      · -- the heap's slice first
        go_simp
        refine hK.out _ _ CX.out (fun _ => ?_)
        clear hK
        try simp only [Act.put, List.getElem_toArray, List.getElem_cons_succ, List.getElem_cons_zero, List.setIfInBounds_toArray, List.set_cons_zero, List.set_cons_succ]
        refine wpAnyH_ready (rs := [5, 7]) (by kernel_rfl) (by simp) ?_
        refine (AllReadyH.cons rfl (fun K hK => ?_) (AllReadyH.cons rfl (fun K hK => ?_) AllReadyH.nil))
        · refine step_append_ex rfl _ _ 29 rfl (.slice none 0 0) (.slice p R.length cap) rfl rfl _ (HCP.out _ gb.out _) ?_
          rintro v1 w1 ⟨hown, k1, hnil⟩
          have HB1 : Hid (w1.ownsRow wb.heap.size 110 4 v1 R.length (rcCells R)) := Lib.hid (hown.mono gb.out.size)
          have NB1 : Hid (∀ b, b = w.heap.size ∨ b = w.heap.size + 1 → v1.ownBlock = some b → False) := Lib.hid fun b hb e => by have := (hown.lt _ e).1; have := blk_lt CX.out.1; have := blk_lt CX.out.2; omega
          skip
          replace gb : Hid (Below wb.heap.size wb w1) := Lib.hid (gb.out.trans (k1.mono gb.out.size))
          replace CX : Hid (MkX w1 w.heap.size r) := Lib.hid (CX.out.keep fun b _ hb => k1.block b hb)
          clear hown k1 hnil
          refine hK.out _ _ CX.out (fun _ => ?_)
          clear hK
          try simp only [Act.put, List.getElem_toArray, List.getElem_cons_succ, List.getElem_cons_zero, List.setIfInBounds_toArray, List.set_cons_zero, List.set_cons_succ]
          refine wpAnyH_ready (rs := [7]) (by kernel_rfl) (by simp) ?_
          refine (AllReadyH.cons rfl (fun K hK => ?_) AllReadyH.nil)
          go_simp
          obtain ⟨wB, eB, kB, cB⟩ := rcl_box w1 r
          rw [eB]
          replace gb : Hid (Below wb.heap.size wb wB) := Lib.hid (gb.out.trans (kB.mono gb.out.size))
          replace CX : Hid (MkX wB w.heap.size r) := Lib.hid (CX.out.keep fun b _ hb => kB.block b hb)
          replace HB1 : Hid (wB.ownsRow wb.heap.size 110 4 v1 R.length (rcCells R)) := Lib.hid (owns_at HB1.out fun g e => kB.block g (HB1.out.lt g e).2)
          have CB := Lib.hid cB
          clear eB kB cB
          refine hK.out _ _ CX.out (fun _ => ?_)
          clear hK
          try simp only [Act.put, List.getElem_toArray, List.getElem_cons_succ, List.getElem_cons_zero, List.setIfInBounds_toArray, List.set_cons_zero, List.set_cons_succ]
          refine wpAnyH_ready (rs := [8]) (by kernel_rfl) (by simp) ?_
          refine (AllReadyH.cons rfl (fun K hK => ?_) AllReadyH.nil)
          refine step_append_lies wB rfl _ _ 29 rfl wb.heap.size 110 i0 _ 4 64 Try.underlying29 hi hz0 hz1 hz2 rfl (by decide) v1 R.length (rcCells R) rfl HB1.out ⟨w1.heap.size, 0, none⟩ 1 1 (rcL r) rfl rfl CB.out (rcl_one r F12.out) (by decide) (by have := HL.out; unfold maxLen; omega) (by have := HL.out; omega) gb.out.size _ rfl ?_
          intro g cp w3 hown hgrow hg hlt
          have KG : Hid (Below wb.heap.size wb w3) := Lib.hid (gb.out.grown hgrow gb.out.size fun k e => (HB1.out.lt k e).1)
          have CX3 : Hid (MkX w3 w.heap.size r) := Lib.hid (CX.out.keep fun b hb hl => hgrow.block b hl fun e => NB1.out b hb e.symm)
          replace CX := CX3
          have GG : Hid (w.heap.size ≤ g) := Lib.hid (Nat.le_trans KB.out.size (hown.lt g rfl).1)
          have MD := Lib.hid (HWB.out.made HOB.out r HRw.out HK.out HL.out HU.out KG.out g cp hown)
          have f0 : w3.frozen? ⟨rb, 0, none⟩ = false := freeAt ((KG.out.block _ (blk_lt HWB.out.hdr)).trans HWB.out.hdr) 0
          have c0 : w3.cell? ⟨rb, 0, none⟩ = some v := cellAt ((KG.out.block _ (blk_lt HWB.out.hdr)).trans HWB.out.hdr) 0
          clear hown hgrow hg hlt CX3
          refine hK.out _ _ CX.out (fun _ => ?_)
          clear hK
          try simp only [Act.put, List.getElem_toArray, List.getElem_cons_succ, List.getElem_cons_zero, List.setIfInBounds_toArray, List.set_cons_zero, List.set_cons_succ]
          refine wpAnyH_take (i := 9) (v := ptr rb) rfl (by kernel_rfl) (by kernel_rfl) (by kernel_rfl) (fun _ _ _ h => h) (Or.inl ⟨by rfl, fun wx hS => ?_⟩) CX.out ?_
          · go_simp
          try simp only [Act.put, List.getElem_toArray, List.getElem_cons_succ, List.getElem_cons_zero, List.setIfInBounds_toArray, List.set_cons_zero, List.set_cons_succ]
          refine wpAnyH_take (i := 10) (v := .pointer (some ⟨rb, 0, none⟩)) rfl (by kernel_rfl) (by kernel_rfl) (by kernel_rfl) (fun _ _ _ h => h) (Or.inl ⟨by rfl, fun wx hS => ?_⟩) CX.out ?_
          · go_simp
          try simp only [Act.put, List.getElem_toArray, List.getElem_cons_succ, List.getElem_cons_zero, List.setIfInBounds_toArray, List.set_cons_zero, List.set_cons_succ]
          refine wpAnyH_ready (rs := [11]) (by kernel_rfl) (by simp) ?_
          refine (AllReadyH.cons rfl (fun K hK => ?_) AllReadyH.nil)
          go_simp
          have on4 : Only rb w3 (w3.setCell ⟨rb, 0, none⟩ (.slice (some ⟨g, 0, none⟩) (R.length + 1) cp)) := (Only.refl _ _).set 0 _
          have CX4 := CX.out.keep (w' := w3.setCell ⟨rb, 0, none⟩ (.slice (some ⟨g, 0, none⟩) (R.length + 1) cp)) fun b hb _ => on4.block b (by have := HRB.out; omega)
          refine hK.out _ _ CX4 (fun _ => ?_)
          clear hK
          refine wpAnyH_done (by kernel_rfl) ?_ _
          (try refine no_panic ?_)
          go_wp2_with fail
          go_meet
          exact ⟨⟨_, MD.out.kept (fun b q => q.imp id fun q => ⟨q.1, by rw [on4.size]; exact q.2⟩) (Nat.le_refl _) fun _ _ _ => rfl, fun g' e => own_of_eq GG.out e⟩, (below_kept (below_and KB.out KG.out)).trans (kept_only on4 fun q => q.2 rfl), CX4.1, CX4.2⟩
        · go_simp
          obtain ⟨wB, eB, kB, cB⟩ := rcl_box wd r
          rw [eB]
          replace gb : Hid (Below wb.heap.size wb wB) := Lib.hid (gb.out.trans (kB.mono gb.out.size))
          replace CX : Hid (MkX wB w.heap.size r) := Lib.hid (CX.out.keep fun b _ hb => kB.block b hb)
          skip
          have CB := Lib.hid cB
          clear eB kB cB
          refine hK.out _ _ CX.out (fun _ => ?_)
          clear hK
          try simp only [Act.put, List.getElem_toArray, List.getElem_cons_succ, List.getElem_cons_zero, List.setIfInBounds_toArray, List.set_cons_zero, List.set_cons_succ]
          refine wpAnyH_ready (rs := [5]) (by kernel_rfl) (by simp) ?_
          refine (AllReadyH.cons rfl (fun K hK => ?_) AllReadyH.nil)
          refine step_append_ex rfl _ _ 29 rfl (.slice none 0 0) (.slice p R.length cap) rfl rfl _ (HCP.out _ gb.out _) ?_
          rintro v1 w1 ⟨hown, k1, hnil⟩
          have HB1 : Hid (w1.ownsRow wb.heap.size 110 4 v1 R.length (rcCells R)) := Lib.hid (hown.mono gb.out.size)
          have NB1 : Hid (∀ b, b = w.heap.size ∨ b = w.heap.size + 1 → v1.ownBlock = some b → False) := Lib.hid fun b hb e => by have := (hown.lt _ e).1; have := blk_lt CX.out.1; have := blk_lt CX.out.2; omega
          replace CB := Lib.hid (fun j u hj => cell_later k1 (CB.out j u hj))
          replace gb : Hid (Below wb.heap.size wb w1) := Lib.hid (gb.out.trans (k1.mono gb.out.size))
          replace CX : Hid (MkX w1 w.heap.size r) := Lib.hid (CX.out.keep fun b _ hb => k1.block b hb)
          clear hown k1 hnil
          refine hK.out _ _ CX.out (fun _ => ?_)
          clear hK
          try simp only [Act.put, List.getElem_toArray, List.getElem_cons_succ, List.getElem_cons_zero, List.setIfInBounds_toArray, List.set_cons_zero, List.set_cons_succ]
          refine wpAnyH_ready (rs := [8]) (by kernel_rfl) (by simp) ?_
          refine (AllReadyH.cons rfl (fun K hK => ?_) AllReadyH.nil)
          refine step_append_lies w1 rfl _ _ 29 rfl wb.heap.size 110 i0 _ 4 64 Try.underlying29 hi hz0 hz1 hz2 rfl (by decide) v1 R.length (rcCells R) rfl HB1.out ⟨wd.heap.size, 0, none⟩ 1 1 (rcL r) rfl rfl CB.out (rcl_one r F12.out) (by decide) (by have := HL.out; unfold maxLen; omega) (by have := HL.out; omega) gb.out.size _ rfl ?_
          intro g cp w3 hown hgrow hg hlt
          have KG : Hid (Below wb.heap.size wb w3) := Lib.hid (gb.out.grown hgrow gb.out.size fun k e => (HB1.out.lt k e).1)
          have CX3 : Hid (MkX w3 w.heap.size r) := Lib.hid (CX.out.keep fun b hb hl => hgrow.block b hl fun e => NB1.out b hb e.symm)
          replace CX := CX3
          have GG : Hid (w.heap.size ≤ g) := Lib.hid (Nat.le_trans KB.out.size (hown.lt g rfl).1)
          have MD := Lib.hid (HWB.out.made HOB.out r HRw.out HK.out HL.out HU.out KG.out g cp hown)
          have f0 : w3.frozen? ⟨rb, 0, none⟩ = false := freeAt ((KG.out.block _ (blk_lt HWB.out.hdr)).trans HWB.out.hdr) 0
          have c0 : w3.cell? ⟨rb, 0, none⟩ = some v := cellAt ((KG.out.block _ (blk_lt HWB.out.hdr)).trans HWB.out.hdr) 0
          clear hown hgrow hg hlt CX3
          refine hK.out _ _ CX.out (fun _ => ?_)
          clear hK
          try simp only [Act.put, List.getElem_toArray, List.getElem_cons_succ, List.getElem_cons_zero, List.setIfInBounds_toArray, List.set_cons_zero, List.set_cons_succ]
          refine wpAnyH_take (i := 9) (v := ptr rb) rfl (by kernel_rfl) (by kernel_rfl) (by kernel_rfl) (fun _ _ _ h => h) (Or.inl ⟨by rfl, fun wx hS => ?_⟩) CX.out ?_
          · go_simp
          try simp only [Act.put, List.getElem_toArray, List.getElem_cons_succ, List.getElem_cons_zero, List.setIfInBounds_toArray, List.set_cons_zero, List.set_cons_succ]
          refine wpAnyH_take (i := 10) (v := .pointer (some ⟨rb, 0, none⟩)) rfl (by kernel_rfl) (by kernel_rfl) (by kernel_rfl) (fun _ _ _ h => h) (Or.inl ⟨by rfl, fun wx hS => ?_⟩) CX.out ?_
          · go_simp
          try simp only [Act.put, List.getElem_toArray, List.getElem_cons_succ, List.getElem_cons_zero, List.setIfInBounds_toArray, List.set_cons_zero, List.set_cons_succ]
          refine wpAnyH_ready (rs := [11]) (by kernel_rfl) (by simp) ?_
          refine (AllReadyH.cons rfl (fun K hK => ?_) AllReadyH.nil)
          go_simp
          have on4 : Only rb w3 (w3.setCell ⟨rb, 0, none⟩ (.slice (some ⟨g, 0, none⟩) (R.length + 1) cp)) := (Only.refl _ _).set 0 _
          have CX4 := CX.out.keep (w' := w3.setCell ⟨rb, 0, none⟩ (.slice (some ⟨g, 0, none⟩) (R.length + 1) cp)) fun b hb _ => on4.block b (by have := HRB.out; omega)
          refine hK.out _ _ CX4 (fun _ => ?_)
          clear hK
          refine wpAnyH_done (by kernel_rfl) ?_ _
          (try refine no_panic ?_)
          go_wp2_with fail
          go_meet
          exact ⟨⟨_, MD.out.kept (fun b q => q.imp id fun q => ⟨q.1, by rw [on4.size]; exact q.2⟩) (Nat.le_refl _) fun _ _ _ => rfl, fun g' e => own_of_eq GG.out e⟩, (below_kept (below_and KB.out KG.out)).trans (kept_only on4 fun q => q.2 rfl), CX4.1, CX4.2⟩
      · -- the new cell first
        go_simp
        obtain ⟨wB, eB, kB, cB⟩ := rcl_box wd r
        rw [eB]
        replace gb : Hid (Below wb.heap.size wb wB) := Lib.hid (gb.out.trans (kB.mono gb.out.size))
        replace CX : Hid (MkX wB w.heap.size r) := Lib.hid (CX.out.keep fun b _ hb => kB.block b hb)
        replace h0 := cell_later kB h0
        have CB := Lib.hid cB
        clear eB kB cB
        refine hK.out _ _ CX.out (fun _ => ?_)
        clear hK
        try simp only [Act.put, List.getElem_toArray, List.getElem_cons_succ, List.getElem_cons_zero, List.setIfInBounds_toArray, List.set_cons_zero, List.set_cons_succ]
        refine wpAnyH_ready (rs := [4]) (by kernel_rfl) (by simp) ?_
        refine (AllReadyH.cons rfl (fun K hK => ?_) AllReadyH.nil)
        go_simp
        refine hK.out _ _ CX.out (fun _ => ?_)
        clear hK
        try simp only [Act.put, List.getElem_toArray, List.getElem_cons_succ, List.getElem_cons_zero, List.setIfInBounds_toArray, List.set_cons_zero, List.set_cons_succ]
        refine wpAnyH_ready (rs := [5]) (by kernel_rfl) (by simp) ?_
        refine (AllReadyH.cons rfl (fun K hK => ?_) AllReadyH.nil)
        refine step_append_ex rfl _ _ 29 rfl (.slice none 0 0) (.slice p R.length cap) rfl rfl _ (HCP.out _ gb.out _) ?_
        rintro v1 w1 ⟨hown, k1, hnil⟩
        have HB1 : Hid (w1.ownsRow wb.heap.size 110 4 v1 R.length (rcCells R)) := Lib.hid (hown.mono gb.out.size)
        have NB1 : Hid (∀ b, b = w.heap.size ∨ b = w.heap.size + 1 → v1.ownBlock = some b → False) := Lib.hid fun b hb e => by have := (hown.lt _ e).1; have := blk_lt CX.out.1; have := blk_lt CX.out.2; omega
        replace CB := Lib.hid (fun j u hj => cell_later k1 (CB.out j u hj))
        replace gb : Hid (Below wb.heap.size wb w1) := Lib.hid (gb.out.trans (k1.mono gb.out.size))
        replace CX : Hid (MkX w1 w.heap.size r) := Lib.hid (CX.out.keep fun b _ hb => k1.block b hb)
        clear hown k1 hnil
        refine hK.out _ _ CX.out (fun _ => ?_)
        clear hK
        try simp only [Act.put, List.getElem_toArray, List.getElem_cons_succ, List.getElem_cons_zero, List.setIfInBounds_toArray, List.set_cons_zero, List.set_cons_succ]
        refine wpAnyH_ready (rs := [8]) (by kernel_rfl) (by simp) ?_
        refine (AllReadyH.cons rfl (fun K hK => ?_) AllReadyH.nil)
        refine step_append_lies w1 rfl _ _ 29 rfl wb.heap.size 110 i0 _ 4 64 Try.underlying29 hi hz0 hz1 hz2 rfl (by decide) v1 R.length (rcCells R) rfl HB1.out ⟨wd.heap.size, 0, none⟩ 1 1 (rcL r) rfl rfl CB.out (rcl_one r F12.out) (by decide) (by have := HL.out; unfold maxLen; omega) (by have := HL.out; omega) gb.out.size _ rfl ?_
        intro g cp w3 hown hgrow hg hlt
        have KG : Hid (Below wb.heap.size wb w3) := Lib.hid (gb.out.grown hgrow gb.out.size fun k e => (HB1.out.lt k e).1)
        have CX3 : Hid (MkX w3 w.heap.size r) := Lib.hid (CX.out.keep fun b hb hl => hgrow.block b hl fun e => NB1.out b hb e.symm)
        replace CX := CX3
        have GG : Hid (w.heap.size ≤ g) := Lib.hid (Nat.le_trans KB.out.size (hown.lt g rfl).1)
        have MD := Lib.hid (HWB.out.made HOB.out r HRw.out HK.out HL.out HU.out KG.out g cp hown)
        have f0 : w3.frozen? ⟨rb, 0, none⟩ = false := freeAt ((KG.out.block _ (blk_lt HWB.out.hdr)).trans HWB.out.hdr) 0
        have c0 : w3.cell? ⟨rb, 0, none⟩ = some v := cellAt ((KG.out.block _ (blk_lt HWB.out.hdr)).trans HWB.out.hdr) 0
        clear hown hgrow hg hlt CX3
        refine hK.out _ _ CX.out (fun _ => ?_)
        clear hK
        try simp only [Act.put, List.getElem_toArray, List.getElem_cons_succ, List.getElem_cons_zero, List.setIfInBounds_toArray, List.set_cons_zero, List.set_cons_succ]
        refine wpAnyH_take (i := 9) (v := ptr rb) rfl (by kernel_rfl) (by kernel_rfl) (by kernel_rfl) (fun _ _ _ h => h) (Or.inl ⟨by rfl, fun wx hS => ?_⟩) CX.out ?_
        · go_simp
        try simp only [Act.put, List.getElem_toArray, List.getElem_cons_succ, List.getElem_cons_zero, List.setIfInBounds_toArray, List.set_cons_zero, List.set_cons_succ]
        refine wpAnyH_take (i := 10) (v := .pointer (some ⟨rb, 0, none⟩)) rfl (by kernel_rfl) (by kernel_rfl) (by kernel_rfl) (fun _ _ _ h => h) (Or.inl ⟨by rfl, fun wx hS => ?_⟩) CX.out ?_
        · go_simp
        try simp only [Act.put, List.getElem_toArray, List.getElem_cons_succ, List.getElem_cons_zero, List.setIfInBounds_toArray, List.set_cons_zero, List.set_cons_succ]
        refine wpAnyH_ready (rs := [11]) (by kernel_rfl) (by simp) ?_
        refine (AllReadyH.cons rfl (fun K hK => ?_) AllReadyH.nil)
        go_simp
        have on4 : Only rb w3 (w3.setCell ⟨rb, 0, none⟩ (.slice (some ⟨g, 0, none⟩) (R.length + 1) cp)) := (Only.refl _ _).set 0 _
        have CX4 := CX.out.keep (w' := w3.setCell ⟨rb, 0, none⟩ (.slice (some ⟨g, 0, none⟩) (R.length + 1) cp)) fun b hb _ => on4.block b (by have := HRB.out; omega)
        refine hK.out _ _ CX4 (fun _ => ?_)
        clear hK
        refine wpAnyH_done (by kernel_rfl) ?_ _
        (try refine no_panic ?_)
        go_wp2_with fail
        go_meet
        exact ⟨⟨_, MD.out.kept (fun b q => q.imp id fun q => ⟨q.1, by rw [on4.size]; exact q.2⟩) (Nat.le_refl _) fun _ _ _ => rfl, fun g' e => own_of_eq GG.out e⟩, (below_kept (below_and KB.out KG.out)).trans (kept_only on4 fun q => q.2 rfl), CX4.1, CX4.2⟩
    case rest =>
      obtain ⟨⟨v', rh, nv⟩, kp, cb, ob⟩ := hcut
      have NV := Lib.hid nv
      clear nv
      obtain ⟨N1, hN1⟩ : ∃ N1, R.length + 1 = N1 := ⟨_, rfl⟩
      obtain ⟨p', cap', ev', _⟩ := rh.row.form
      rw [List.length_append, List.length_singleton, hN1] at ev'
      have hd : wc.cell? ⟨rb, 0, none⟩ = some (.slice p' N1 cap') := by rw [← ev']; exact rh.hcell
      have ck : wc.cell? ⟨w.heap.size, 0, none⟩ = some (.int .i64 r.c.k) := cellAt cb 0
      have e4 : IntKind.i64.wrap ((N1 : Int) - 1) = R.length := by rw [IntWalk.i64_in _ (by have := HL.out; omega)]; omega
      have HN1 := Lib.hid hN1
      have RHc := Lib.hid rh
      have KP := Lib.hid kp
      have CBx := Lib.hid cb
      have OBx := Lib.hid ob
      clear hN1 rh kp cb ob ev'
      go_upto_region 4 with fail
      have hd' : wc.drew.cell? ⟨rb, 0, none⟩ = some (.slice p' N1 cap') := hd
      have ck' : wc.drew.cell? ⟨w.heap.size, 0, none⟩ = some (.int .i64 r.c.k) := ck
      go_region_held3 (fun wx => wx.cell? ⟨rb, 0, none⟩ = some (.slice p' N1 cap') ∧ wx.cell? ⟨w.heap.size, 0, none⟩ = some (.int .i64 r.c.k))
        (first | exact ⟨hd', ck'⟩ | exact ⟨cell_later (box_below _ _) hd', cell_later (box_below _ _) ck'⟩ | go_keep)
        (first | fail)
      obtain ⟨we, ee, ke, oe⟩ : ∃ we, (wc.alloc (.cells #[.int .i64 r.c.k, .bool false, .int .i64 R.length, .int .i64 0, .int .i64 0, .string ⟨#[]⟩] 24)).drew = we ∧ Below wc.heap.size wc we ∧ we.heap[wc.heap.size]? = some (obObj r.c.k false R.length 0 0 ⟨#[]⟩) := ⟨_, rfl, (box_below _ _).drew, heap_alloc_new _ _⟩
      rw [ee]
      have KE := Lib.hid ke
      have OE := Lib.hid oe
      have ck2 : we.cell? ⟨w.heap.size, 0, none⟩ = some (.int .i64 r.c.k) := cell_later ke ck
      have LT : Hid (w.heap.size + 1 < wc.heap.size) := Lib.hid (blk_lt OBx.out)
      have FX : Hid (∀ wz, Kept (fun b => b < wc.heap.size ∧ b ≠ w.heap.size + 1) we wz → (∃ v', RH (Plus own w wz) rb v' (R ++ [r]) wz ∧ ∀ g, v'.ownBlock = some g → w.heap.size ≤ g) ∧ Kept (fun b => b < w.heap.size ∧ b ≠ rb) w wz) := Lib.hid fun wz kz => by
        have ks : wc.heap.size ≤ wz.heap.size := Nat.le_trans KE.out.size kz.size
        refine ⟨⟨_, RHc.out.kept (fun b q => q.imp id fun q => ⟨by have := ZB.out; omega, Nat.lt_of_lt_of_le q.2 ks⟩) ks (fun b hb hl => ?_), NV.out⟩, KP.out.trans ⟨kz.os.trans KE.out.os, kz.tape.trans KE.out.tape, kz.output.trans KE.out.output, ks, fun b hb => ?_⟩⟩
        · have e : b ≠ w.heap.size + 1 := by
            rcases hb with hb | hb
            · have := HO.out b hb
              omega
            · have := ZB.out
              omega
          exact (kz.block b ⟨hl, e⟩).trans (KE.out.block b hl)
        · have hl : b < wc.heap.size := by have := LT.out; omega
          exact (kz.block b ⟨hl, by omega⟩).trans (KE.out.block b hl)
      clear ee ke oe hd ck hd' ck'
      have RE := Lib.hid ((KE.out.block _ (blk_lt OBx.out)).trans OBx.out)
      by_cases hk10 : r.c.k = 10
      · have tk : (r.c.k != 10) = false := by simp [hk10]
        have eT : T = 0 := by rw [HT.out, if_pos hk10]
        obtain ⟨c0, c1', c2', c3, c4, c5⟩ := ob_cells OE.out
        obtain ⟨⟨o0, o1, o2, o3, o4, o5⟩, g0, g1, g2, g3, g4, g5⟩ := cells6 RE.out
        have hne : wc.heap.size ≠ w.heap.size + 1 := by have := LT.out; omega
        clear hk10
        go_wp2
        (try simp only [Exit.inBlock, Exit.then])
        have on6 := only6 (w.heap.size + 1) we (.int .i64 r.c.k) (.bool false) (.int .i64 R.length) (.int .i64 0) (.int .i64 0) (.string ⟨#[]⟩)
        have fx := FX.out _ (kept_only on6 fun q => q.2 rfl)
        exact bodyPost_ret (ret_cell rfl _ _ _ _ _ _ _ _ rfl rfl (set6 RE.out _ _ _ _ _ _) Try.underlying24 rfl (by kernel_rfl)) rfl ⟨rfl, fx.1, fx.2⟩
      · have tk : (r.c.k != 10) = true := by simp [hk10]
        have eT : T = r.c.size := by rw [HT.out, if_neg hk10]
        have d1 : we.cell? ⟨w.heap.size, 1, none⟩ = some r.it := cell_later KE.out (cellAt CBx.out 1)
        have d2 : we.cell? ⟨w.heap.size, 2, none⟩ = some r.bs := cell_later KE.out (cellAt CBx.out 2)
        have d3 : we.cell? ⟨w.heap.size, 3, none⟩ = some (.bool r.c.lk) := cell_later KE.out (cellAt CBx.out 3)
        clear hk10
        go_wp2_with fail
        refine (h3.out _).mono ?_
        rintro e wf ⟨rfl, kf⟩
        have KF := Lib.hid kf
        have OF := Lib.hid ((kf.block _ (blk_lt OE.out)).trans OE.out)
        have RF := Lib.hid ((kf.block _ (blk_lt RE.out)).trans RE.out)
        clear kf ck2 d1 d2 d3
        obtain ⟨⟨o0, o1, o2, o3, o4, o5⟩, g0, g1, g2, g3, g4, g5⟩ := cells6 OF.out
        go_upto_region 7 with fail
        obtain ⟨wg, ewg⟩ : ∃ wg, wf.setCell ⟨wc.heap.size, 4, none⟩ (.int .i64 r.c.size) = wg := ⟨_, rfl⟩
        rw [ewg]
        have onG : Only wc.heap.size wf wg := by rw [← ewg]; exact (Only.refl _ _).set 4 _
        have og : wg.heap[wc.heap.size]? = some (obObj r.c.k false R.length 0 r.c.size ⟨#[]⟩) := by
          rw [← ewg, heap_setCell_same _ _ _ _ 24 _ OF.out]
          rfl
        have hne : w.heap.size + 1 ≠ wc.heap.size := by have := LT.out; omega
        have rg := (onG.block _ hne).trans RF.out
        have KG : Hid (Kept (fun b => b < wc.heap.size ∧ b ≠ w.heap.size + 1) we wg) := Lib.hid ((kept_of KF.out fun b hb => Nat.lt_of_lt_of_le hb.1 KE.out.size).trans (kept_only onG fun q => Nat.lt_irrefl _ q.1))
        have RG := Lib.hid rg
        have OG := Lib.hid og
        clear ewg onG og rg o0 o1 o2 o3 o4 o5 g0 g1 g2 g3 g4 g5 hne
        obtain ⟨c0, c1', c2', c3, c4, c5⟩ := ob_cells OG.out
        obtain ⟨⟨o0, o1, o2, o3, o4, o5⟩, g0, g1, g2, g3, g4, g5⟩ := cells6 RG.out
        go_wp2
        (try simp only [Exit.inBlock, Exit.then])
        have on6 := only6 (w.heap.size + 1) wg (.int .i64 r.c.k) (.bool false) (.int .i64 R.length) (.int .i64 0) (.int .i64 r.c.size) (.string ⟨#[]⟩)
        have fx := FX.out _ (KG.out.trans (kept_only on6 fun q => q.2 rfl))
        exact bodyPost_ret (ret_cell rfl _ _ _ _ _ _ _ _ rfl rfl (set6 RG.out _ _ _ _ _ _) Try.underlying24 rfl (by kernel_rfl)) rfl ⟨by rw [eT]; rfl, fx.1, fx.2⟩
end
end Go.Proofs.Ytmlkmgeddkpgiaa

/- Walks of tympanref11: String, Copy, Become. -/
namespace Go.Proofs.Ytmlkmgeddkpgiaa
open Go.RowKit
set_option linter.unusedVariables false
set_option maxHeartbeats 1000000
set_option maxRecDepth 100000

/-- The bytes of a string, in a new row. -/
theorem bytes_world (w : World) (s : ByteArray) : ∃ w1 cap, Lib.bytesWorld w 5 s = w1 ∧ grownCap w s.size 0 5 = cap ∧ Below w.heap.size w w1 ∧ w.heap.size < w1.heap.size ∧ s.size ≤ cap ∧ ∀ j u, (byCells s.data.toList)[j]? = some u → w1.cell? ⟨w.heap.size, j, none⟩ = some u := by
  have hsz := Lib.bytesWorld_size w 5 s
  have hcap : s.size ≤ grownCap w s.size 0 5 := grownCap_ge _ _ _ _
  have hnew := Lib.bytesWorld_at_new w 5 s
  refine ⟨_, _, rfl, rfl, ⟨rfl, rfl, rfl, by omega, fun k hk => Lib.bytesWorld_at_old w 5 s k hk⟩, by omega, hcap, fun j u hj => ?_⟩
  rw [cellAt hnew]
  have ht := bytes_take w s
  have hj' := (List.getElem?_eq_some_iff.1 hj).1
  rw [← ht, List.getElem?_take_of_lt (by rw [byCells_length] at hj'; exact hj')] at hj
  simpa using hj
section
variable {own : Nat → Prop} {rb : Nat} {v : Value} {R : List RC} {w : World}
def strC (s : ByteArray) (v : Value) : RC := ⟨⟨8, false, [], s.data.toList⟩, .slice none 0 0, v⟩
theorem rstring_ok (h : RH own rb v R w) (ho : ∀ b, own b → b < w.heap.size) (s : ByteArray) (hl : R.length < 2000) (hu : usedP (cels R) + s.size ≤ 40000) :
    Calls Try.prog 50 #[ptr rb, .string s] w fun e w' => e = .returned (.tuple #[obV 8 false R.length 0 s.size ⟨#[]⟩, .int .i64 0]) ∧ (∃ v' R', RH (Plus own w w') rb v' R' w' ∧ cels R' = cels R ++ [⟨8, false, [], s.data.toList⟩] ∧ ∀ g, v'.ownBlock = some g → w.heap.size ≤ g) ∧ Kept (fun b => b < w.heap.size ∧ b ≠ rb) w w' := by
  have hcv := fun w => Lib.run_convert_string_bytes (P := Try.prog) w 9 108 5 s Try.underlying9 Try.underlying108 Try.underlying5
  have H := Lib.hid h
  have HO := Lib.hid ho
  have HL := Lib.hid hl
  have HU := Lib.hid hu
  have t0 : ¬ ((s.size : Int) > 40000) := by omega
  clear h ho hl hu
  go_enter Try.func50, Try.ntmps50
  go_upto_region 1 with fail
  obtain ⟨wa, ea, ka, za, oa⟩ := zero_box w
  rw [ea]
  have KA := Lib.hid ka
  have ZA := Lib.hid za
  have OA := Lib.hid oa
  clear ea ka za oa
  go_wp2_with fail
  obtain ⟨w1, cap, e1, e2, k1, l1, hc, hcell⟩ := bytes_world wa s
  rw [e1, e2]
  have S : Hid (Below w.heap.size w w1 ∧ wa.heap.size < w1.heap.size ∧ s.size ≤ cap) := Lib.hid ⟨below_and KA.out k1, l1, hc⟩
  have RO : Hid (w1.heap[w.heap.size]? = some emptyOb) := Lib.hid ((k1.block _ (blk_lt OA.out)).trans OA.out)
  have nv : ∀ g, v.ownBlock = some g → g < w.heap.size := fun g e => by
    rcases H.out.row with ⟨rfl, _⟩ | ⟨g', cap', rfl, _, q, hg, _⟩
    · cases e
    · have : g' = g := by simpa [Value.ownBlock] using e
      omega
  have H1 := Lib.hid (H.out.kept (own' := fun b => own b ∨ b = wa.heap.size) (fun b q => .inl q) S.out.1.size fun b q hb => S.out.1.block b hb)
  have hrb := blk_lt H.out.hdr
  have HR1 : Hid (rowC w1 (Im (fun b => own b ∨ b = wa.heap.size) rb v) (strC s (.slice (some ⟨wa.heap.size, 0, none⟩) s.size cap)).it 0 (obCells []) ∧ rowC w1 (Im (fun b => own b ∨ b = wa.heap.size) rb v) (.slice (some ⟨wa.heap.size, 0, none⟩) s.size cap) s.data.toList.length (byCells s.data.toList)) := Lib.hid
    ⟨.inl ⟨rfl, rfl, rfl⟩, .inr ⟨wa.heap.size, cap, rfl, hc, ⟨.inr rfl, by have := ZA.out; omega, fun e => by have := nv _ e; have := ZA.out; omega⟩, l1, hcell⟩⟩
  clear e1 e2 k1 l1 hc hcell hcv nv hrb
  refine (rmake_ok H1.out (fun b q => by rcases q with q | q; exact Nat.lt_of_lt_of_le (HO.out b q) S.out.1.size; have := S.out.2.1; omega) (strC s (.slice (some ⟨wa.heap.size, 0, none⟩) s.size cap)) HR1.out (.inl ⟨rfl, rfl⟩) HL.out (by have := HU.out; show usedP (cels R) + (0 + s.size) ≤ 40000; omega) s.size (by show s.size = if (8 : Int) = 10 then 0 else 0 + s.size; rw [if_neg (by decide)]; omega)).mono ?_
  rintro e w2 ⟨rfl, ⟨v', rh, nv⟩, kp⟩
  have NV := Lib.hid nv
  clear nv
  have RO2 := Lib.hid ((kp.block _ ⟨blk_lt RO.out, by have := blk_lt H.out.hdr; omega⟩).trans RO.out)
  have RH2 := Lib.hid rh
  have KP := Lib.hid kp
  clear rh kp
  obtain ⟨⟨o0, o1, o2, o3, o4, o5⟩, g0, g1, g2, g3, g4, g5⟩ := cells6 RO2.out
  go_wp2
  (try simp only [Exit.inBlock, Exit.then])
  have on6 := only6 w.heap.size w2 (.int .i64 (strC s (.slice (some ⟨wa.heap.size, 0, none⟩) s.size cap)).c.k) (.bool false) (.int .i64 R.length) (.int .i64 0) (.int .i64 s.size) (.string ⟨#[]⟩)
  have hs1 := S.out.1.size
  have hs2 := KP.out.size
  refine bodyPost_ret (ret_cell rfl _ _ _ _ _ _ _ _ rfl rfl (set6 RO2.out _ _ _ _ _ _) Try.underlying24 rfl (by kernel_rfl)) rfl ⟨rfl, ⟨v', R ++ [strC s (.slice (some ⟨wa.heap.size, 0, none⟩) s.size cap)], RH2.out.kept (fun b q => ?_) (by rw [on6.size]; exact Nat.le_refl _) (fun b q hb => on6.block b ?_), by rw [cels_append]; rfl, fun g e => Nat.le_trans hs1 (NV.out g e)⟩, ?_⟩
  · rcases q with (q | q) | q
    · exact .inl q
    · exact .inr ⟨by have := ZA.out; omega, by rw [on6.size]; have := S.out.2.1; omega⟩
    · exact .inr ⟨by omega, by rw [on6.size]; exact q.2⟩
  · rcases q with (q | q) | q
    · have := HO.out b q
      omega
    · have := ZA.out
      omega
    · have := S.out.2.1
      have := ZA.out
      omega
  · refine (Kept.trans (w1 := w1) (kept_of S.out.1 fun b q => q.1) (KP.out.sub fun b q => ⟨Nat.lt_of_lt_of_le q.1 hs1, q.2⟩)).trans (kept_only on6 fun q => Nat.lt_irrefl _ q.1)
theorem wpList_append_ex {P : Program} {w : World} {ops : Array Oper} {rest : List Oper} {o : Oper} {a : Act} {Q : Exit → Act → World → Prop} (hgd : o.guard = none) (s x : Operand) (t : TypeId)
    (ho : o.op = .call { callee := .builtin .append, args := #[s, x], argTypes := #[t, t] }) (V1 V2 : Value) (hs : a.eval s = V1) (hx : a.eval x = V2) (F : Value → World → Prop) (hrun : ∃ v w', (Builtin.append_ #[t, t] o.type #[V1, V2]).run P w = .ok v w' ∧ F v w')
    (h : ∀ v w', F v w' → wpList P ops Q rest (a.put o.dst v) w') : wpList P ops Q (o :: rest) a w :=
  wpList_plain hgd fun K hK => by
    obtain ⟨v, w', hr, hf⟩ := hrun
    unfold Oper.wp execOp
    simp only [ho, resolve, invoke, builtin, Sem.run_bind, Sem.run_pure, Result.andThen_ok, List.map_toArray, List.map_cons, List.map_nil, hs, hx, hr]
    exact hK _ _ (h v w' hf)
theorem frozen_own {w : World} {base : Nat} {e : TypeId} {size n : Nat} {v : Value} {cs : List Value} (h : w.ownsRow base e size v n cs) {g : Nat} (hg : v.ownBlock = some g) (j : Nat) : w.frozen? ⟨g, j, none⟩ = false := by
  rcases h.2 with ⟨rfl, _⟩ | ⟨g', cap, cur, rfl, hb, hgg, _⟩
  · cases hg
  · have : g' = g := by simpa [Value.ownBlock] using hg
    subst this
    exact freeAt hgg j
/-- A slice of cells, copied. -/
structure CopyOf (R : List RC) (w : World) (v' : Value) (w' : World) : Prop where
  own : w'.ownsRow w.heap.size 110 4 v' R.length (rcCells R)
  below : Below w.heap.size w w'
theorem cells_copyS {own : Nat → Prop} {rb : Nat} {v : Value} {R : List RC} {w : World} (h : RH own rb v R w) (ty : TypeId) : ∃ v' w', (Builtin.append_ #[29, 29] ty #[.slice none 0 0, v]).run Try.prog w = .ok v' w' ∧ CopyOf R w v' w' := by
  obtain ⟨v', w', h1, h2, h3, _⟩ := cells_copy h w (Below.refl _ w) ty
  exact ⟨v', w', h1, h2, h3⟩
theorem own_lt {v : Value} (h : RH own rb v R w) {g : Nat} (e : v.ownBlock = some g) : g < w.heap.size := by
  rcases h.row with ⟨rfl, _⟩ | ⟨g', cap', rfl, _, q, hg, _⟩
  · cases e
  · have : g' = g := by simpa [Value.ownBlock] using e
    omega
theorem rcopy_any (h : RH own rb v R w) (ho : ∀ b, own b → b < w.heap.size) : Calls Try.prog 11 #[ptr rb] w fun e w' => ∃ fb, e = .returned (ptr fb) ∧ (∃ vF, RH (Im (Plus own w w') rb v) fb vF R w') ∧ RH (Plus own w w') rb v R w' ∧ Below w.heap.size w w' := by
  have H := Lib.hid h
  have HO := Lib.hid ho
  obtain ⟨p, cap, rfl, _⟩ := h.row.form
  have h0 := h.hcell
  clear h ho
  go_enter Try.func11, Try.ntmps11
  go_wp2_with (first | (at_builtin; refine wpList_append_ex rfl _ _ 29 rfl (.slice none 0 0) (.slice p R.length cap) rfl rfl _ (cells_copyS H.out _) ?_))
  rintro v1 w1 hcp
  have hown := hcp.own
  have k1 := hcp.below
  obtain ⟨p1, c1, rfl⟩ := owns_form (hown.mono (Nat.zero_le _))
  have HW := Lib.hid hown
  have K1 := Lib.hid k1
  clear hown k1 hcp h0
  go_wp2
  go_ret
  have k2 := K1.out.alloc K1.out.size (.cells #[(.slice p1 R.length c1)] 31)
  have hs : (w1.alloc (.cells #[(.slice p1 R.length c1)] 31)).heap.size = w1.heap.size + 1 := by simp
  have hl1 := K1.out.size
  have hrb := blk_lt H.out.hdr
  refine ⟨_, rfl, ⟨(.slice p1 R.length c1), heap_alloc_new _ _, ⟨.inr ⟨hl1, by omega⟩, by omega, fun e => by have := own_lt H.out e; omega⟩, ?_, fun i x hx => ?_, H.out.wf, fun g e j => by
    rw [World.frozen?_of_block (w := w1) (a := ⟨g, j, none⟩) (Below.heap_alloc _ _ _ (HW.out.lt g e).2)]
    exact frozen_own HW.out e j⟩, H.out.kept (fun b q => .inl q) k2.size (fun b q hb => k2.block b hb), k2⟩
  · refine (rowC_of_owns (I := fun b => Im (Plus own w (w1.alloc (.cells #[(.slice p1 R.length c1)] 31))) rb (.slice p R.length cap) b ∧ b ≠ w1.heap.size) HW.out (fun g e => ?_) (fun e => ?_)).same (by omega) fun g q hg => ⟨q, Below.heap_alloc _ _ _ hg⟩
    · have := HW.out.lt g e
      exact ⟨⟨.inr ⟨this.1, by omega⟩, by omega, fun e' => by have := own_lt H.out e'; omega⟩, by omega⟩
    · have : R = [] := List.eq_nil_of_length_eq_zero e
      rw [this]
      rfl
  · have fx : ∀ b, Im own rb (.slice p R.length cap) b → b < w.heap.size → Im (Im (Plus own w (w1.alloc (.cells #[(.slice p1 R.length c1)] 31))) rb (.slice p R.length cap)) w1.heap.size (.slice p1 R.length c1) b ∧ (w1.alloc (.cells #[(.slice p1 R.length c1)] 31)).heap[b]? = w.heap[b]? := fun b q hb =>
      ⟨⟨⟨.inl q.1, q.2.1, q.2.2⟩, by omega, fun e => by have := HW.out.lt _ e; omega⟩, k2.block b hb⟩
    exact ⟨(H.out.sub i x hx).1.same k2.size fx, (H.out.sub i x hx).2.same k2.size fx⟩
theorem rbecome_any {fb : Nat} {vF : Value} {F : List RC} (h : RH own rb v R w) (hf : RH (Im own rb v) fb vF F w) (ho : ∀ b, own b → b < w.heap.size) : Calls Try.prog 21 #[ptr rb, ptr fb] w fun e w' => e = .returned (.tuple #[]) ∧ (∃ v', RH (Plus own w w') rb v' F w' ∧ ∀ g, v'.ownBlock = some g → w.heap.size ≤ g) ∧ Kept (fun b => b < w.heap.size ∧ b ≠ rb) w w' := by
  have H := Lib.hid h
  have HF := Lib.hid hf
  have HO := Lib.hid ho
  obtain ⟨p, cap, rfl, _⟩ := hf.row.form
  have h0 := hf.hcell
  clear h ho hf
  go_enter Try.func21, Try.ntmps21
  go_wp2_with (first | (at_builtin; refine wpList_append_ex rfl _ _ 29 rfl (.slice none 0 0) (.slice p F.length cap) rfl rfl _ (cells_copyS HF.out _) ?_))
  rintro v1 w1 hcp
  have hown := hcp.own
  have k1 := hcp.below
  obtain ⟨p1, c1, rfl⟩ := owns_form (hown.mono (Nat.zero_le _))
  have HW := Lib.hid hown
  have K1 := Lib.hid k1
  have hb := (k1.block _ (blk_lt H.out.hdr)).trans H.out.hdr
  have c0 : w1.cell? ⟨rb, 0, none⟩ = some v := cellAt hb 0
  have f0 : w1.frozen? ⟨rb, 0, none⟩ = false := freeAt hb 0
  have HB := Lib.hid hb
  clear hown k1 hcp h0 hb
  go_wp2
  go_end0
  have on : Only rb w1 (w1.setCell ⟨rb, 0, none⟩ (.slice p1 F.length c1)) := (Only.refl _ _).set 0 _
  have hl1 := K1.out.size
  have hrb := blk_lt H.out.hdr
  refine ⟨rfl, ⟨(.slice p1 F.length c1), ⟨?_, .inl H.out.mine, ?_, fun i x hx => ?_, HF.out.wf, fun g e j => by
    rw [World.frozen?_of_block (w := w1) (a := ⟨g, j, none⟩) (on.block g (by have := (HW.out.lt g e).1; omega))]
    exact frozen_own HW.out e j⟩, fun g e => (HW.out.lt g e).1⟩, (kept_of K1.out fun b q => q.1).trans (kept_only on fun q => q.2 rfl)⟩
  · rw [heap_setCell_same _ _ _ _ 31 _ HB.out]
    rfl
  · refine (rowC_of_owns (I := fun b => Plus own w (w1.setCell ⟨rb, 0, none⟩ (.slice p1 F.length c1)) b ∧ b ≠ rb) HW.out (fun g e => ?_) (fun e => ?_)).same (by rw [on.size]; exact Nat.le_refl _) fun g q hg => ⟨q, on.block g q.2⟩
    · have := HW.out.lt g e
      exact ⟨.inr ⟨this.1, by rw [on.size]; exact this.2⟩, by omega⟩
    · have : F = [] := List.eq_nil_of_length_eq_zero e
      rw [this]
      rfl
  · have fx : ∀ b, Im (Im own rb v) fb (.slice p F.length cap) b → b < w.heap.size → Im (Plus own w (w1.setCell ⟨rb, 0, none⟩ (.slice p1 F.length c1))) rb (.slice p1 F.length c1) b ∧ (w1.setCell ⟨rb, 0, none⟩ (.slice p1 F.length c1)).heap[b]? = w.heap[b]? := fun b q hb =>
      ⟨⟨.inl q.1.1, q.1.2.1, fun e => by have := HW.out.lt _ e; omega⟩, (on.block b q.1.2.1).trans (K1.out.block b hb)⟩
    exact ⟨(HF.out.sub i x hx).1.same (by rw [on.size]; exact hl1) fx, (HF.out.sub i x hx).2.same (by rw [on.size]; exact hl1) fx⟩
/-- A frozen heap stays behind what the live one does. -/
theorem RH.frozen {own own' : Nat → Prop} {rb fb : Nat} {v v' vF : Value} {F : List RC} {w w' : World} (hf : RH (Im own rb v) fb vF F w) (ho : ∀ b, own b → own' b) (k : Kept (fun b => b < w.heap.size ∧ b ≠ rb ∧ v.ownBlock ≠ some b) w w') (hv : v' = v ∨ ∀ g, v'.ownBlock = some g → w.heap.size ≤ g) (hl : ∀ b, own b → b < w.heap.size) : RH (Im own' rb v') fb vF F w' :=
  hf.kept (fun b q => ⟨ho b q.1, q.2.1, fun e => by
    rcases hv with rfl | hv
    · exact q.2.2 e
    · have := hv b e
      have := hl b q.1
      omega⟩) k.size fun b q hb => k.block b ⟨hb, q.2.1, q.2.2⟩
end
end Go.Proofs.Ytmlkmgeddkpgiaa

/- Walks of heap: Bytes of any object. -/
namespace Go.Proofs.Ytmlkmgeddkpgiaa
open Go.RowKit
set_option linter.unusedVariables false

theorem conv_nil (w : World) : (convert 108 9 (.slice (if 0 = 0 then none else none) (0 - 0) (0 - 0))).run Try.prog w = .ok (.string ⟨([] : List UInt8).toArray⟩) w := by kernel_rfl
theorem bytes_err (hb : Nat) (k n a l E : Int) (x : Bool) (s : ByteArray) (w : World) (hE : (E != 0) = true)
    (hf : Hid (∀ wx, Below w.heap.size w wx → Calls Try.prog 71 #[ptr hb, obV k x n a l s] wx fun e w' => e = .returned (.tuple #[pcV .nilIface 0 0, .int .i64 E]) ∧ Below wx.heap.size wx w')) :
    Calls Try.prog 51 #[ptr hb, obV k x n a l s] w fun e w' => e = .returned (.tuple #[.string ⟨#[]⟩, .int .i64 E]) ∧ Below w.heap.size w w' := by
  go_enter Try.func51, Try.ntmps51
  go_wp2_with fail
  obtain ⟨wb, eb, kb, zb, ob⟩ := ob_box w k n a l x s
  rw [eb]
  refine (hf.out _ kb).mono ?_
  rintro e wc ⟨rfl, kc⟩
  have KC := Lib.hid (below_and kb kc)
  clear eb kb zb kc ob
  go_upto_region 2 with fail
  obtain ⟨wd, ed, kd, zd, d0, d1, d2⟩ := pc_box wc .nilIface 0 0
  rw [ed]
  have KD := Lib.hid (below_and KC.out kd)
  clear ed kd zd
  go_wp2
  go_ret2
  exact ⟨rfl, KD.out⟩

theorem bytes_type (hb r : Nat) (k n a l u z : Int) (x : Bool) (s : ByteArray) (w : World)
    (hf : Hid (∀ wx, Below w.heap.size w wx → Calls Try.prog 71 #[ptr hb, obV k x n a l s] wx fun e w' => e = .returned (.tuple #[pcV (.iface 156 (ptr r)) u z, .int .i64 0]) ∧ Below wx.heap.size wx w')) :
    Calls Try.prog 51 #[ptr hb, obV k x n a l s] w fun e w' => e = .returned (.tuple #[.string ⟨#[]⟩, .int .i64 6]) ∧ Below w.heap.size w w' := by
  have ha := assert_87_95
  go_enter Try.func51, Try.ntmps51
  go_wp2_with fail
  obtain ⟨wb, eb, kb, zb, ob⟩ := ob_box w k n a l x s
  rw [eb]
  refine (hf.out _ kb).mono ?_
  rintro e wc ⟨rfl, kc⟩
  have KC := Lib.hid (below_and kb kc)
  clear eb kb zb kc ob
  go_upto_region 2 with fail
  obtain ⟨wd, ed, kd, zd, d0, d1, d2⟩ := pc_box wc (.iface 156 (ptr r)) u z
  rw [ed]
  have KD := Lib.hid (below_and KC.out kd)
  clear ed kd zd
  go_wp2
  go_ret2
  exact ⟨rfl, KD.out⟩

section
variable {role : Nat → Nat × Nat} {c hb : Nat} {vc : Value} {ivs : List Value} {pb : Nat → Nat} {rv : Nat → Value} {P : List Cel} {w : World}
theorem bytes_all_is (h : PH role c hb vc ivs pb rv P w) (o : Ob) (ho : okO P o = true) (hk : o.k = 8) :
    Calls Try.prog 51 #[ptr hb, o.val] w fun e w' => e = .returned (.tuple #[.string ⟨(bytesL P o).toArray⟩, .int .i64 0]) ∧ Below w.heap.size w w' := by
  have hf := fun wx kx => find_ok (h.below (w' := wx) kx) o ho
  obtain ⟨b0, b1, b2, b3, _, _, b6, _⟩ := ok_bd ho
  obtain ⟨n0, n1⟩ := len_in ho
  have hc := cellOf_get (P := P) (o := o) b0 b1
  have hz := h.wf.size hc
  obtain ⟨g0, cap0, rfl, _, _, hp⟩ := h.ivAt hc
  rcases hp with ⟨eT, hC⟩ | ⟨eT, hC⟩
  · have := hC.kind
    omega
  · have eT : celT (cellOf P o) = 141 := by injection eT
    have hs : (cellOf P o).size = (cellOf P o).bs.length := by simp [Cel.size, hC.it]
    rw [eT] at hf
    have ea : ((o.a.toNat : Nat) : Int) = o.a := by omega
    have el : (((lenO P o).toNat : Nat) : Int) = lenO P o := by omega
    have hlen : (bytesL P o).length = (lenO P o).toNat := by
      simp [bytesL]
      omega
    have h2 : w.cell? ⟨pb o.n.toNat, 2, none⟩ = some (rv o.n.toNat) := by
      rw [cellAt hC.blk]
      rfl
    rw [← ea, ← el] at hf
    have hrow := hC.row
    rcases hC.row with ⟨er, hnil⟩ | ⟨g, cap, cur, fr, er, hg, hfr, hcap, hsz, htk⟩
    · rw [er] at h2
      have z0 : (cellOf P o).bs.length = 0 := by rw [hnil]; rfl
      have za : o.a.toNat = 0 := by omega
      have zl : (lenO P o).toNat = 0 := by omega
      rw [za, zl] at hf
      have hb0 : bytesL P o = [] := List.eq_nil_of_length_eq_zero (by omega)
      rw [hb0]
      exact bytes_walk95 hb (pb o.n.toNat) 0 0 0 0 0 none o.k o.n o.a o.l o.x o.s _ _ w h2 rfl (Lib.hid hf) (slice58 none 0 0 0 0 (Nat.le_refl _) (Nat.le_refl _)) (Lib.hid fun wx kx => conv_nil wx)
    · rw [er] at h2 hrow
      have hsl := slice58 (some ⟨g, 0, none⟩) (cellOf P o).bs.length cap o.a.toNat (o.a.toNat + (lenO P o).toNat) (by omega) (by omega)
      rw [show o.a.toNat + (lenO P o).toNat - o.a.toNat = (lenO P o).toNat from by omega] at hsl
      refine bytes_walk95 hb (pb o.n.toNat) (cellOf P o).bs.length cap o.a.toNat (lenO P o).toNat (o.a.toNat + (lenO P o).toNat) (some ⟨g, 0, none⟩) o.k o.n o.a o.l o.x o.s _ _ w h2 (by rw [wrapi_in _ (by omega) (by omega)]; omega) (Lib.hid hf) hsl (Lib.hid fun wx kx => ?_)
      have hx : rowB wx (.slice (some ⟨g, 0, none⟩) (cellOf P o).bs.length cap) (cellOf P o).bs := rowB_same hrow fun q _ hq => kx.block q hq
      rw [← hlen]
      by_cases hcl : cap = o.a.toNat
      · rw [if_pos hcl]
        refine run_convert_bytes_back wx 108 9 5 _ _ (bytesL P o) Try.underlying108 Try.underlying5 Try.underlying9 fun j hj => ?_
        omega
      · rw [if_neg hcl]
        simp only [Option.map_some]
        refine run_convert_bytes_back wx 108 9 5 _ _ (bytesL P o) Try.underlying108 Try.underlying5 Try.underlying9 fun j hj => ?_
        rw [Addr.add_mid, Addr.add_mid, Nat.zero_add]
        refine (rowB_cell hx (by_mid (l := (cellOf P o).bs) (i := o.a.toNat) (n := (lenO P o).toNat) ?_)).1
        show (byCells (bytesL P o))[j]? = _
        rw [byCells_get, List.getElem?_eq_getElem hj]
        rfl
/-- Bytes of any object: the error, the bytes. -/
def bytE (P : List Cel) (o : Ob) : Int := if errO P o = 0 then (if o.k = 8 then 0 else 6) else errO P o
def bytV (P : List Cel) (o : Ob) : ByteArray := if errO P o = 0 ∧ o.k = 8 then ⟨(bytesL P o).toArray⟩ else ⟨#[]⟩
theorem bytes_tot (h : PH role c hb vc ivs pb rv P w) (o : Ob) : Calls Try.prog 51 #[ptr hb, o.val] w fun e w' => e = .returned (.tuple #[.string (bytV P o), .int .i64 (bytE P o)]) ∧ Below w.heap.size w w' := by
  cases ho : okO P o
  · have hE := errO_no ho
    rw [show bytE P o = errO P o from by simp [bytE, hE], show bytV P o = ⟨#[]⟩ from by simp [bytV, hE]]
    exact bytes_err hb o.k o.n o.a o.l (errO P o) o.x o.s w (by simpa using hE) (Lib.hid fun wx kx => find_no (h.below kx) o ho)
  · have hE := errO_ok ho
    by_cases hk : o.k = 8
    · rw [show bytE P o = 0 from by simp [bytE, hE, hk], show bytV P o = ⟨(bytesL P o).toArray⟩ from by simp [bytV, hE, hk]]
      exact bytes_all_is h o ho hk
    · rw [show bytE P o = 6 from by simp [bytE, hE, hk], show bytV P o = ⟨#[]⟩ from by simp [bytV, hk]]
      obtain ⟨b0, b1, _, _, _, _, b6, _⟩ := ok_bd ho
      have hc := cellOf_get (P := P) (o := o) b0 b1
      obtain ⟨g0, cap0, rfl, _, _, hp⟩ := h.ivAt hc
      have hf := fun wx kx => find_ok (h.below (w' := wx) kx) o ho
      have eT : celT (cellOf P o) = 156 := by
        rcases hp with ⟨eT, _⟩ | ⟨_, hC⟩
        · injection eT
        · have := hC.kind
          omega
      rw [eT] at hf
      exact bytes_type hb (pb o.n.toNat) o.k o.n o.a o.l o.a (lenO P o) o.x o.s w (Lib.hid hf)
end
theorem sBytes_tot {own : Nat → Prop} {hb : Nat} {P : List Cel} {w : World} (h : Sep own hb P w) (o : Ob) (B : ByteArray) (E : Int) (hB : bytV P o = B) (hE : bytE P o = E) : Calls Try.prog 51 #[ptr hb, o.val] w fun e w' => e = .returned (.tuple #[.string B, .int .i64 E]) ∧ Sep own hb P w' ∧ Kept own w w' := by
  have h0 := h
  obtain ⟨role, ⟨vc, ivs, pb, rv, h1⟩, h2⟩ := h
  refine (bytes_tot h1 o).mono ?_
  rintro e w' ⟨rfl, k⟩
  rw [hB, hE]
  exact ⟨rfl, h0.below k⟩
end Go.Proofs.Ytmlkmgeddkpgiaa

/- Walks of tympanref11: Bytes. -/
namespace Go.Proofs.Ytmlkmgeddkpgiaa
open Go.RowKit
set_option linter.unusedVariables false
set_option maxHeartbeats 1000000
set_option maxRecDepth 100000

theorem rbytes_err (rb : Nat) (k n a l u z E : Int) (x : Bool) (s : ByteArray) (w : World) (hE : (E != 0) = true)
    (h2 : Hid (∀ wx, Below w.heap.size w wx → Calls Try.prog 73 #[ptr rb, obV k x n a l s] wx fun e w' => e = .returned (.tuple #[.int .i64 u, .int .i64 z, .int .i64 E]) ∧ Below wx.heap.size wx w')) :
    Calls Try.prog 52 #[ptr rb, obV k x n a l s] w fun e w' => e = .returned (.tuple #[.string ⟨#[]⟩, .int .i64 E]) ∧ Below w.heap.size w w' := by
  go_enter Try.func52, Try.ntmps52
  go_upto_region 1 with fail
  obtain ⟨wb, eb, kb, zb, c0, c1, c2, c3, c4, c5⟩ := ob_box w k n a l x s
  rw [eb]
  go_wp2_with fail
  refine (h2.out _ kb).mono ?_
  rintro e wc ⟨rfl, kc⟩
  have KC := Lib.hid (below_and kb kc)
  clear eb kb kc c0 c1 c2 c3 c4 c5
  go_wp2
  go_ret2
  exact ⟨rfl, KC.out⟩
theorem rbytes_type (rb : Nat) (k n a l u z : Int) (x : Bool) (s : ByteArray) (w : World) (hk : (k != 8) = true)
    (h2 : Hid (∀ wx, Below w.heap.size w wx → Calls Try.prog 73 #[ptr rb, obV k x n a l s] wx fun e w' => e = .returned (.tuple #[.int .i64 u, .int .i64 z, .int .i64 0]) ∧ Below wx.heap.size wx w')) :
    Calls Try.prog 52 #[ptr rb, obV k x n a l s] w fun e w' => e = .returned (.tuple #[.string ⟨#[]⟩, .int .i64 6]) ∧ Below w.heap.size w w' := by
  go_enter Try.func52, Try.ntmps52
  go_upto_region 1 with fail
  obtain ⟨wb, eb, kb, zb, oa⟩ := ob_box w k n a l x s
  rw [eb]
  have OA := Lib.hid oa
  obtain ⟨c0, c1, c2, c3, c4, c5⟩ := oa
  go_wp2_with fail
  refine (h2.out _ kb).mono ?_
  rintro e wc ⟨rfl, kc⟩
  have KC := Lib.hid (below_and kb kc)
  have OC := OA.out.later kc
  clear eb kb kc c0 c1 c2 c3 c4 c5
  obtain ⟨c0, c1, c2, c3, c4, c5⟩ := OC
  go_wp2
  go_ret2
  exact ⟨rfl, KC.out⟩
theorem rbytes_walk (rb g z cap i lo m hi n2 c2 : Nat) (p2 : Option Addr) (a l : Int) (x : Bool) (s t : ByteArray) (V : Value) (w : World) (hiz : i < z) (h0 : w.cell? ⟨rb, 0, none⟩ = some (.slice (some ⟨g, 0, none⟩) z cap)) (d2 : w.cell? ⟨g, i * 4 + 2, none⟩ = some (.slice p2 n2 c2)) (e1 : IntKind.i64.wrap ((lo : Int) + m) = hi)
    (hsl : ∀ w : World, (Instr.slice 108 (.slice p2 n2 c2) (some (.int .i64 lo)) (some (.int .i64 hi)) none).run Try.prog w = .ok V w)
    (hc : Hid (∀ wx, Below w.heap.size w wx → (convert 108 9 V).run Try.prog wx = .ok (.string t) wx))
    (h2 : Hid (∀ wx, Below w.heap.size w wx → Calls Try.prog 73 #[ptr rb, obV 8 x i a l s] wx fun e w' => e = .returned (.tuple #[.int .i64 lo, .int .i64 m, .int .i64 0]) ∧ Below wx.heap.size wx w')) :
    Calls Try.prog 52 #[ptr rb, obV 8 x i a l s] w fun e w' => e = .returned (.tuple #[.string t, .int .i64 0]) ∧ Below w.heap.size w w' := by
  have t0 : (0 : Int) ≤ i := by omega
  have t1 : (i : Int) < z := by omega
  have DD : Hid (w.cell? ⟨rb, 0, none⟩ = some (.slice (some ⟨g, 0, none⟩) z cap) ∧ w.cell? ⟨g, i * 4 + 2, none⟩ = some (.slice p2 n2 c2)) := Lib.hid ⟨h0, d2⟩
  clear h0 d2
  go_enter Try.func52, Try.ntmps52
  go_upto_region 1 with fail
  obtain ⟨wb, eb, kb, zb, oa⟩ := ob_box w 8 i a l x s
  rw [eb]
  have OA := Lib.hid oa
  obtain ⟨c0, c1, c2', c3, c4, c5⟩ := oa
  go_wp2_with fail
  refine (h2.out _ kb).mono ?_
  rintro e wc ⟨rfl, kc⟩
  have kk := below_and kb kc
  have KC := Lib.hid kk
  have OC := OA.out.later kc
  have h0 := cell_later kk DD.out.1
  have d2 := cell_later kk DD.out.2
  have hcv : ∀ q, (convert 108 9 V).run Try.prog (wc.drewN q) = .ok (.string t) (wc.drewN q) := fun q => hc.out _ (below_and kk (below_drewN _ _))
  clear eb kb kc c0 c1 c2' c3 c4 c5 kk
  obtain ⟨c0, c1, c2', c3, c4, c5⟩ := OC
  go_wp2_with fail
  go_quiet (fail)
  go_wp2
  go_ret2
  exact ⟨rfl, below_and KC.out (below_drewN _ _)⟩
section
variable {own : Nat → Prop} {rb : Nat} {v : Value} {R : List RC} {w : World}
theorem rbytes_tot (h : RH own rb v R w) (o : Ob) : Calls Try.prog 52 #[ptr rb, o.val] w fun e w' => e = .returned (.tuple #[.string (bytV (cels R) o), .int .i64 (bytE (cels R) o)]) ∧ Below w.heap.size w w' := by
  have hr := Lib.hid (fun wx (kx : Below w.heap.size w wx) => rroom_any (h.below kx) o)
  cases ho : okO (cels R) o
  · have hE := errO_no ho
    rw [show bytE (cels R) o = errO (cels R) o from by simp [bytE, hE], show bytV (cels R) o = ⟨#[]⟩ from by simp [bytV, hE]]
    exact rbytes_err rb o.k o.n o.a o.l _ _ (errO (cels R) o) o.x o.s w (by simpa using hE) hr
  have hE := errO_ok ho
  rw [hE] at hr
  by_cases hk : o.k = 8
  · rw [show bytE (cels R) o = 0 from by simp [bytE, hE, hk], show bytV (cels R) o = ⟨(bytesL (cels R) o).toArray⟩ from by simp [bytV, hE, hk]]
    obtain ⟨b0, b1, b2, b3, b4, b5, b6, b7, b8⟩ := ok_bd ho
    obtain ⟨n0, n1⟩ := len_in ho
    rw [cels_length] at b1
    obtain ⟨r, hrr⟩ : ∃ r, R[o.n.toNat]? = some r := ⟨_, List.getElem?_eq_getElem (by omega)⟩
    obtain ⟨g, cap, ev, _, _, _, d0, d1, d2, d3⟩ := h.at hrr
    have h0 := h.hcell
    rw [ev] at h0
    have hco := h.cellOf (o := o) hrr
    rw [hco, hk] at b6
    rw [hco] at n1
    have hit : r.c.it = [] := by
      rcases h.wf.kind r.c (cell_mem (cels_get hrr)) with ⟨_, q⟩ | ⟨q, _⟩
      · exact q
      · omega
    have hs : r.c.size = r.c.bs.length := by simp [Cel.size, hit]
    have hz := h.wf.size (cels_get hrr)
    obtain ⟨p2, c2, e2, _⟩ := (h.sub _ r hrr).2.form
    have hsub := (h.sub _ r hrr).2
    rw [e2] at d2 hsub
    have en : ((o.n.toNat : Nat) : Int) = o.n := by omega
    have ea : ((o.a.toNat : Nat) : Int) = o.a := by omega
    have el : (((lenO (cels R) o).toNat : Nat) : Int) = lenO (cels R) o := by omega
    have hat : atO (cels R) o = o.a := by simp [atO, ho]
    rw [hat, ← ea, ← el] at hr
    have hv : o.val = obV 8 o.x (o.n.toNat : Nat) o.a o.l o.s := by rw [en, ← hk]; rfl
    rw [hv] at hr ⊢
    have hcap : r.c.bs.length ≤ c2 := by
      rcases hsub with ⟨q, q2, _⟩ | ⟨_, _, q, q2, _⟩
      · injection q with _ _ q3
      · injection q with _ _ q3
    have hlen : (bytesL (cels R) o).length = (lenO (cels R) o).toNat := by
      simp [bytesL, hco]
      omega
    have hsl := slice58 p2 r.c.bs.length c2 o.a.toNat (o.a.toNat + (lenO (cels R) o).toNat) (by omega) (by omega)
    rw [show o.a.toNat + (lenO (cels R) o).toNat - o.a.toNat = (lenO (cels R) o).toNat from by omega] at hsl
    refine rbytes_walk rb g R.length cap o.n.toNat o.a.toNat (lenO (cels R) o).toNat (o.a.toNat + (lenO (cels R) o).toNat) _ c2 p2 o.a o.l o.x o.s _ _ w (by omega) h0 d2 (by rw [wrapi_in _ (by omega) (by omega)]; omega) hsl (Lib.hid fun wx kx => ?_) hr
    rcases hsub with ⟨q, q2, q3⟩ | ⟨g2, cap2, q, q2, q3, q4, q5⟩
    · injection q with w1 w2 w3
      subst w1 w3
      have za : o.a.toNat = 0 := by omega
      have zl : (lenO (cels R) o).toNat = 0 := by omega
      rw [za, zl, show bytesL (cels R) o = [] from List.eq_nil_of_length_eq_zero (by omega)]
      exact conv_nil wx
    · injection q with w1 w2 w3
      subst w1 w3
      rw [← hlen]
      have hx : ∀ j u, (byCells r.c.bs)[j]? = some u → wx.cell? ⟨g2, j, none⟩ = some u := fun j u hj => by
        rw [World.cell?_of_block (w := w) (a := ⟨g2, j, none⟩) (kx.block _ q4)]
        exact q5 j u hj
      by_cases hcl : c2 = o.a.toNat
      · rw [if_pos hcl]
        refine run_convert_bytes_back wx 108 9 5 _ _ (bytesL (cels R) o) Try.underlying108 Try.underlying5 Try.underlying9 fun j hj => ?_
        omega
      · rw [if_neg hcl]
        simp only [Option.map_some]
        refine run_convert_bytes_back wx 108 9 5 _ _ (bytesL (cels R) o) Try.underlying108 Try.underlying5 Try.underlying9 fun j hj => ?_
        rw [Addr.add_mid, Addr.add_mid, Nat.zero_add]
        refine hx _ _ (by_mid (l := r.c.bs) (i := o.a.toNat) (n := (lenO (cels R) o).toNat) ?_)
        have : bytesL (cels R) o = (r.c.bs.drop o.a.toNat).take (lenO (cels R) o).toNat := by rw [bytesL, hco]
        rw [← this, byCells_get, List.getElem?_eq_getElem hj]
        rfl
  · rw [show bytE (cels R) o = 6 from by simp [bytE, hE, hk], show bytV (cels R) o = ⟨#[]⟩ from by simp [bytV, hk]]
    exact rbytes_type rb o.k o.n o.a o.l _ _ o.x o.s w (by simpa using hk) hr
end
end Go.Proofs.Ytmlkmgeddkpgiaa

/- Walks of tympanref11: Set of a byte, and what it refuses first. -/
namespace Go.Proofs.Ytmlkmgeddkpgiaa
open Go.RowKit
set_option linter.unusedVariables false
set_option linter.unusedSimpArgs false
set_option maxHeartbeats 1000000
set_option maxRecDepth 100000

theorem rset_err (rb : Nat) (k n a l k' n' a' l' i u z E : Int) (x x' : Bool) (s s' : ByteArray) (w : World) (hE : (E != 0) = true)
    (h2 : Hid (∀ wx, Below w.heap.size w wx → Calls Try.prog 73 #[ptr rb, obV k x n a l s] wx fun e w' => e = .returned (.tuple #[.int .i64 u, .int .i64 z, .int .i64 E]) ∧ Below wx.heap.size wx w')) :
    Calls Try.prog 15 #[ptr rb, obV k x n a l s, .int .i64 i, obV k' x' n' a' l' s'] w fun e w' => e = .returned (.int .i64 E) ∧ Below w.heap.size w w' := by
  go_enter Try.func15, Try.ntmps15
  go_upto_region 1 with fail
  obtain ⟨wb, eb, kb, ⟨c0, c1, c2, c3, c4, c5⟩, o2⟩ := two_box w k n a l k' n' a' l' x x' s s'
  rw [eb]
  go_wp2_with fail
  refine (h2.out _ kb).mono ?_
  rintro e wc ⟨rfl, kc⟩
  have KC := Lib.hid (below_and kb kc)
  clear eb kb kc c0 c1 c2 c3 c4 c5 o2
  go_wp2
  go_ret
  exact ⟨rfl, KC.out⟩
theorem rset_index (rb : Nat) (k n a l k' n' a' l' i u z : Int) (x x' : Bool) (s s' : ByteArray) (w : World) (hi : decide (i < 0) = true ∨ (decide (i < 0) = false ∧ decide (z ≤ i) = true))
    (h2 : Hid (∀ wx, Below w.heap.size w wx → Calls Try.prog 73 #[ptr rb, obV k x n a l s] wx fun e w' => e = .returned (.tuple #[.int .i64 u, .int .i64 z, .int .i64 0]) ∧ Below wx.heap.size wx w')) :
    Calls Try.prog 15 #[ptr rb, obV k x n a l s, .int .i64 i, obV k' x' n' a' l' s'] w fun e w' => e = .returned (.int .i64 12) ∧ Below w.heap.size w w' := by
  rcases hi with hi | ⟨hi, hz⟩
  · go_enter Try.func15, Try.ntmps15
    go_upto_region 1 with fail
    obtain ⟨wb, eb, kb, ⟨c0, c1, c2, c3, c4, c5⟩, o2⟩ := two_box w k n a l k' n' a' l' x x' s s'
    rw [eb]
    go_wp2_with fail
    refine (h2.out _ kb).mono ?_
    rintro e wc ⟨rfl, kc⟩
    have KC := Lib.hid (below_and kb kc)
    clear eb kb kc c0 c1 c2 c3 c4 c5 o2
    go_wp2
    go_ret
    exact ⟨rfl, KC.out⟩
  · go_enter Try.func15, Try.ntmps15
    go_upto_region 1 with fail
    obtain ⟨wb, eb, kb, ⟨c0, c1, c2, c3, c4, c5⟩, o2⟩ := two_box w k n a l k' n' a' l' x x' s s'
    rw [eb]
    go_wp2_with fail
    refine (h2.out _ kb).mono ?_
    rintro e wc ⟨rfl, kc⟩
    have KC := Lib.hid (below_and kb kc)
    clear eb kb kc c0 c1 c2 c3 c4 c5 o2
    go_wp2
    go_ret
    exact ⟨rfl, KC.out⟩

/-- The two boxed objects, and the heap's slice. -/
structure SetX (w : World) (rb A g z cap n : Nat) (k a l k' n' a' l' : Int) (x x' : Bool) (s s' : ByteArray) : Prop where
  hd : w.heap[rb]? = some (.cells #[.slice (some ⟨g, 0, none⟩) z cap] 31 (0, 0))
  o : w.heap[A]? = some (obObj k x n a l s)
  q : w.heap[A + 1]? = some (obObj k' x' n' a' l' s')
theorem SetX.keep {w w' : World} {rb A g z cap n : Nat} {k a l k' n' a' l' : Int} {x x' : Bool} {s s' : ByteArray} (h : SetX w rb A g z cap n k a l k' n' a' l' x x' s s') (e : ∀ b, b = rb ∨ b = A ∨ b = A + 1 → b < w.heap.size → w'.heap[b]? = w.heap[b]?) : SetX w' rb A g z cap n k a l k' n' a' l' x x' s s' :=
  ⟨(e _ (.inl rfl) (blk_lt h.hd)).trans h.hd, (e _ (.inr (.inl rfl)) (blk_lt h.o)).trans h.o, (e _ (.inr (.inr rfl)) (blk_lt h.q)).trans h.q⟩
theorem set_box2 (w : World) (rb g z cap n : Nat) (k a l k' n' a' l' : Int) (x x' : Bool) (s s' : ByteArray) (hd : w.heap[rb]? = some (.cells #[.slice (some ⟨g, 0, none⟩) z cap] 31 (0, 0))) :
    ∃ wb, (w.alloc (.cells #[.int .i64 k, .bool x, .int .i64 n, .int .i64 a, .int .i64 l, .string s] 24)).alloc (.cells #[.int .i64 k', .bool x', .int .i64 n', .int .i64 a', .int .i64 l', .string s'] 24) = wb ∧ Below w.heap.size w wb ∧ wb.heap.size = w.heap.size + 2 ∧ SetX wb rb w.heap.size g z cap n k a l k' n' a' l' x x' s s' := by
  have h2 := heap_alloc_new (w.alloc (.cells #[.int .i64 k, .bool x, .int .i64 n, .int .i64 a, .int .i64 l, .string s] 24)) (obObj k' x' n' a' l' s')
  have kb := below_and (box_below w (.cells #[.int .i64 k, .bool x, .int .i64 n, .int .i64 a, .int .i64 l, .string s] 24)) (box_below (w.alloc (.cells #[.int .i64 k, .bool x, .int .i64 n, .int .i64 a, .int .i64 l, .string s] 24)) (.cells #[.int .i64 k', .bool x', .int .i64 n', .int .i64 a', .int .i64 l', .string s'] 24))
  exact ⟨_, rfl, kb, by simp, (kb.block _ (blk_lt hd)).trans hd, (Below.heap_alloc _ _ _ (by simp)).trans (heap_alloc_new _ _), by simpa using h2⟩
theorem info119 : (Try.prog.info? 5).map (fun i => (i.zero, i.size, i.bytes)) = some (some (.int .u8 0), 1, 1) := by kernel_rfl
theorem u8_in (c : Int) (h0 : 0 ≤ c) (h1 : c ≤ 255) : IntKind.u8.wrap c = c := by
  simp [IntKind.wrap, IntKind.bits, IntKind.signed]
  omega
theorem own_eq {g b n c : Nat} (e : (Value.slice (some ⟨g, 0, none⟩) n c).ownBlock = some b) : g = b := by simpa [Value.ownBlock] using e
theorem rcCells_set {R : List RC} {n : Nat} {r r' : RC} (h : R[n]? = some r) (e1 : r'.c.k = r.c.k) (e2 : r'.it = r.it) (e3 : r'.c.lk = r.c.lk) : rcCells (R.set n r') = (rcCells R).set (n * 4 + 2) r'.bs := by
  induction R generalizing n with
  | nil => simp at h
  | cons p R ih =>
    cases n with
    | zero =>
      obtain rfl : p = r := by simpa using h
      show rcL r' ++ rcCells R = (rcL p ++ rcCells R).set 2 r'.bs
      simp [rcL, e1, e2, e3]
    | succ n =>
      have h' : R[n]? = some r := by simpa using h
      show rcL p ++ rcCells (R.set n r') = (rcL p ++ rcCells R).set ((n + 1) * 4 + 2) r'.bs
      rw [ih h', List.set_append_right _ _ (by rw [show (rcL p).length = 4 from rfl]; omega)]
      rw [show (n + 1) * 4 + 2 - (rcL p).length = n * 4 + 2 from by rw [show (rcL p).length = 4 from rfl]; omega]
theorem cels_set (R : List RC) (n : Nat) (r : RC) : cels (R.set n r) = (cels R).set n r.c := by simp [cels, List.map_set]
theorem owns_cap {w : World} {base : Nat} {e : TypeId} {size n : Nat} {v : Value} {cs : List Value} (h : w.ownsRow base e size v n cs) : ∃ p cap, v = .slice p n cap ∧ n ≤ cap := by
  rcases h.2 with ⟨rfl, rfl⟩ | ⟨g, cap, cur, rfl, _, _, hc, _⟩
  · exact ⟨_, _, rfl, Nat.le_refl _⟩
  · exact ⟨_, _, rfl, by omega⟩
/-- A string's byte has been set: the heap as it lies then. -/
theorem RH.byte {own : Nat → Prop} {rb g cap n j g2 cp2 : Nat} {R : List RC} {r : RC} {c : Int} {p2 : Option Addr} {c2 : Nat} {w w1 w2 w4 : World} (h : RH own rb (.slice (some ⟨g, 0, none⟩) R.length cap) R w) (ho : ∀ b, own b → b < w.heap.size) (hr : R[n]? = some r) (hg : g ≠ rb) (e2 : r.bs = .slice p2 r.c.bs.length c2) (hj : j < r.c.bs.length) (c0 : 0 ≤ c) (c1 : c ≤ 255)
    (k1 : Below w.heap.size w w1) (hg2 : w.heap.size ≤ g2) (hown : w1.ownsRow w.heap.size 5 1 (.slice (some ⟨g2, 0, none⟩) r.c.bs.length cp2) r.c.bs.length (byCells r.c.bs))
    (on : Only g w1 w2) (cg : w2.cell? ⟨g, n * 4 + 2, none⟩ = some (.slice (some ⟨g2, 0, none⟩) r.c.bs.length cp2)) (co : ∀ t, t ≠ n * 4 + 2 → w2.cell? ⟨g, t, none⟩ = w1.cell? ⟨g, t, none⟩) (fo : ∀ t, w2.frozen? ⟨g, t, none⟩ = w1.frozen? ⟨g, t, none⟩)
    (e4 : w2.drew.setCell ⟨g2, j, none⟩ (.int .u8 c) = w4) :
    RH (Plus own w w4) rb (.slice (some ⟨g, 0, none⟩) R.length cap) (R.set n ⟨⟨r.c.k, r.c.lk, r.c.it, r.c.bs.set j (UInt8.ofNat c.toNat)⟩, r.it, .slice (some ⟨g2, 0, none⟩) r.c.bs.length cp2⟩) w4 := by
  have on4 : Only g2 w2.drew w4 := by rw [← e4]; exact (Only.refl _ _).set _ _
  have hgl : g < w.heap.size := own_lt h rfl
  have hrb := blk_lt h.hdr
  have hg2' := hown.lt g2 rfl
  have hs : w.heap.size ≤ w4.heap.size := by
    rw [on4.size]
    show w.heap.size ≤ w2.heap.size
    rw [on.size]
    exact k1.size
  have old : ∀ b, b < w.heap.size → b ≠ g → w4.heap[b]? = w.heap[b]? := fun b hb hbg => (on4.block b (by omega)).trans ((on.block b hbg).trans (k1.block b hb))
  have atg : ∀ t, w4.cell? ⟨g, t, none⟩ = w2.cell? ⟨g, t, none⟩ := fun t => World.cell?_of_block (w := w2) (a := ⟨g, t, none⟩) (on4.block g (by omega))
  have fx : ∀ b, Im own rb (.slice (some ⟨g, 0, none⟩) R.length cap) b → b < w.heap.size → Im (Plus own w w4) rb (.slice (some ⟨g, 0, none⟩) R.length cap) b ∧ w4.heap[b]? = w.heap[b]? := fun b q hb => ⟨⟨.inl q.1, q.2.1, q.2.2⟩, old b hb fun e => q.2.2 (by rw [e]; rfl)⟩
  have hz4 : g2 < w4.heap.size := by
    rw [on4.size]
    show g2 < w2.heap.size
    rw [on.size]
    exact hg2'.2
  refine ⟨(old rb hrb (Ne.symm hg)).trans h.hdr, .inl h.mine, ?_, fun i x hx => ?_, ⟨?_, ?_, fun d hd => ?_⟩, fun b e t => ?_⟩
  · rcases h.row with ⟨q, _, _⟩ | ⟨g', cap', q, q2, q3, q4, q5⟩
    · cases q
    · injection q with w1' w2' w3'
      injection w1' with w1'
      injection w1' with w1' _ _
      subst w1' w3'
      refine .inr ⟨g, cap, by rw [List.length_set], by rw [List.length_set]; exact q2, ⟨.inl q3.1, q3.2⟩, Nat.lt_of_lt_of_le q4 hs, fun t u ht => ?_⟩
      rw [rcCells_set (r' := ⟨⟨r.c.k, r.c.lk, r.c.it, r.c.bs.set j (UInt8.ofNat c.toNat)⟩, r.it, .slice (some ⟨g2, 0, none⟩) r.c.bs.length cp2⟩) hr rfl rfl rfl] at ht
      rw [atg]
      by_cases e : t = n * 4 + 2
      · subst e
        rw [List.getElem?_set_self (by
          have := (List.getElem?_eq_some_iff.1 ht).1
          simpa using this)] at ht
        rw [cg]
        exact ht
      · rw [List.getElem?_set_ne (Ne.symm e)] at ht
        rw [co t e, World.cell?_of_block (w := w) (a := ⟨g, t, none⟩) (k1.block g hgl)]
        exact q5 t u ht
  · by_cases e : i = n
    · subst e
      rw [List.getElem?_set_self (List.getElem?_eq_some_iff.1 hr).1] at hx
      obtain rfl := Option.some.inj hx
      refine ⟨(h.sub i r hr).1.same hs fx, .inr ⟨g2, cp2, by rw [List.length_set], ?_, ⟨.inr ⟨hg2, hz4⟩, by omega, fun e => by have := own_eq e; omega⟩, hz4, fun t u ht => ?_⟩⟩
      · obtain ⟨_, _, q, q2⟩ := owns_cap hown
        injection q with _ _ q3
        rw [List.length_set]
        omega
      · have hb : w2.drew.heap[g2]? = w1.heap[g2]? := on.block g2 (by omega)
        rw [← e4]
        rw [byCells_get] at ht
        by_cases et : t = j
        · subst et
          rw [List.getElem?_set_self hj] at ht
          have hc : w2.drew.cell? ⟨g2, t, none⟩ = some (.int .u8 (r.c.bs[t]).toNat) := by
            rw [World.cell?_of_block (w := w1) (a := ⟨g2, t, none⟩) hb]
            have := hown.cells rfl t (.int .u8 (r.c.bs[t]).toNat) (by rw [byCells_get, List.getElem?_eq_getElem hj]; rfl)
            rwa [Addr.add_mid, Nat.zero_add] at this
          rw [World.cell?_setCell_same _ _ _ hc]
          have : ((UInt8.ofNat c.toNat).toNat : Int) = c := by
            simp [UInt8.toNat_ofNat]
            omega
          rw [← ht, Option.map_some, this]
        · rw [List.getElem?_set_ne (Ne.symm et)] at ht
          rw [World.cell?_setCell_other _ _ _ _ (by simp <;> omega), World.cell?_of_block (w := w1) (a := ⟨g2, t, none⟩) hb]
          have := hown.cells rfl t u (by rw [byCells_get]; exact ht)
          rwa [Addr.add_mid, Nat.zero_add] at this
    · rw [List.getElem?_set_ne (Ne.symm e)] at hx
      exact ⟨(h.sub i x hx).1.same hs fx, (h.sub i x hx).2.same hs fx⟩
  · rw [cels_set]
    simpa using h.wf.len
  · rw [cels_set, used_set (cels_get hr) (by simp [Cel.size])]
    exact h.wf.used
  · rw [cels_set] at hd
    rcases List.mem_or_eq_of_mem_set hd with hd | rfl
    · exact h.wf.kind d hd
    · rcases h.wf.kind r.c (cell_mem (cels_get hr)) with q | ⟨q, q2⟩
      · exact .inl q
      · rw [q2] at hj
        simp at hj
  · obtain rfl := own_eq e
    rw [World.frozen?_of_block (w := w2) (a := ⟨g, t, none⟩) (on4.block g (by omega)), fo, World.frozen?_of_block (w := w) (a := ⟨g, t, none⟩) (k1.block g hgl)]
    exact h.free g rfl t
/-- A slice of bytes, copied. -/
structure CopyB (l : List UInt8) (w : World) (v' : Value) (w' : World) : Prop where
  own : w'.ownsRow w.heap.size 5 1 v' l.length (byCells l)
  below : Below w.heap.size w w'
section
variable {own : Nat → Prop} {rb : Nat} {v : Value} {R : List RC} {w : World}
theorem bytes_copy (h : RH own rb v R w) {i : Nat} {r : RC} (hr : R[i]? = some r) {p : Option Addr} {c : Nat} (e : r.bs = .slice p r.c.bs.length c) (hz : r.c.bs.length ≤ 40000) (ty : TypeId) :
    ∃ v' w', (Builtin.append_ #[108, 108] ty #[.slice none 0 0, .slice p r.c.bs.length c]).run Try.prog w = .ok v' w' ∧ CopyB r.c.bs w v' w' := by
  obtain ⟨i0, hi, hz0, hz1, hz2⟩ := info_parts info119
  have hs := (h.sub i r hr).2
  rw [e] at hs
  obtain ⟨v', w', h1, h2, h3, _⟩ := app_copy hs 108 5 i0 _ 1 1 Try.underlying108 hi hz0 hz1 hz2 rfl (by decide) (by rw [byCells_length]; omega) (byCells_one _) (by unfold maxLen; omega) (by omega) ty
  exact ⟨v', w', h1, h2, h3⟩
theorem rset_byte (h : RH own rb v R w) (ho : ∀ b, own b → b < w.heap.size) (o : Ob) (i : Nat) (c : Int) (hok : okO (cels R) o = true) (hk : o.k = 8) (hi : (i : Int) < lenO (cels R) o) (hlk : (cellOf (cels R) o).lk = false) (c0 : 0 ≤ c) (c1 : c ≤ 255) :
    Calls Try.prog 15 #[ptr rb, o.val, .int .i64 i, (Ob.num c).val] w fun e w' => e = .returned (.int .i64 0) ∧ (∃ R', RH (Plus own w w') rb v R' w' ∧ cels R' = setP (cels R) o i (Ob.num c)) ∧ Kept (fun b => b < w.heap.size ∧ b ≠ rb ∧ v.ownBlock ≠ some b) w w' := by
  obtain ⟨b0, b1, b2, b3, b4, b5, b6, b7, b8⟩ := ok_bd hok
  obtain ⟨n0, n1⟩ := len_in hok
  rw [cels_length] at b1
  obtain ⟨r, hr⟩ : ∃ r, R[o.n.toNat]? = some r := ⟨_, List.getElem?_eq_getElem (by omega)⟩
  have hco := h.cellOf (o := o) hr
  rw [hco] at b6 b7 n1 hlk
  rw [hk] at b6
  have hit : r.c.it = [] := by
    rcases h.wf.kind r.c (cell_mem (cels_get hr)) with ⟨_, q⟩ | ⟨q, _⟩
    · exact q
    · omega
  have hs : r.c.size = r.c.bs.length := by simp [Cel.size, hit]
  have hz := h.wf.size (cels_get hr)
  obtain ⟨g, cap, ev, hgo, hgr, hgl, d0, d1, d2, d3⟩ := h.at hr
  rw [hlk] at d3
  have hd := h.hdr
  rw [ev] at hd
  have hfree := h.free g (by rw [ev]; rfl)
  obtain ⟨n, hn⟩ : ∃ n, o.n.toNat = n := ⟨_, rfl⟩
  obtain ⟨lo, hlo⟩ : ∃ lo, o.a.toNat = lo := ⟨_, rfl⟩
  obtain ⟨m, hm⟩ : ∃ m, (lenO (cels R) o).toNat = m := ⟨_, rfl⟩
  have en : o.n = (n : Int) := by omega
  have hroom : Hid (∀ wx, Below w.heap.size w wx → Calls Try.prog 73 #[ptr rb, obV 8 o.x n o.a o.l o.s] wx fun e w' => e = .returned (.tuple #[.int .i64 lo, .int .i64 m, .int .i64 0]) ∧ Below wx.heap.size wx w') := Lib.hid fun wx kx => by
    have := rroom_any (h.below kx) o
    rw [errO_ok hok, show atO (cels R) o = (lo : Int) from by simp [atO, hok]; omega, show lenO (cels R) o = (m : Int) from by omega] at this
    rw [show o.val = obV 8 o.x n o.a o.l o.s from by rw [← hk, ← en]; rfl] at this
    exact this
  have hsp : setP (cels R) o i (Ob.num c) = (cels R).set o.n.toNat ⟨r.c.k, r.c.lk, r.c.it, r.c.bs.set (lo + i) (UInt8.ofNat c.toNat)⟩ := by
    have e : setE (cels R) o i (Ob.num c) = 0 := by
      rw [setE, hok, hco, hlk]
      simp [hk, hi, Ob.num]
      omega
    rw [setP, if_pos e, putItem, hco, if_pos b6, show (o.a + (i : Int)).toNat = lo + i from by omega]
    rfl
  rw [hn] at hr d0 d1 d2 d3 hsp
  have HSP := Lib.hid hsp
  clear hsp
  have hnz : n < R.length := by omega
  have hidx : lo + i < r.c.bs.length := by omega
  have him : (i : Int) < m := by omega
  obtain ⟨p2, c2, e2, _⟩ := (h.sub _ r hr).2.form
  rw [e2] at d2
  rw [show o.val = obV 8 o.x n o.a o.l o.s from by rw [← hk, ← en]; rfl, show (Ob.num c).val = obV 3 false c 0 0 ⟨#[]⟩ from rfl]
  have H := Lib.hid h
  have HO := Lib.hid ho
  have HR := Lib.hid hr
  have HX := Lib.hid hidx
  have HC := Lib.hid (And.intro c0 c1)
  have D2 := Lib.hid d2
  have D3 := Lib.hid d3
  have HD := Lib.hid hd
  have HF := Lib.hid hfree
  have HG := Lib.hid (And.intro hgr hgl)
  have HZ : Hid (r.c.bs.length ≤ 40000) := Lib.hid (by omega)
  have t0 : (0 : Int) ≤ n := by omega
  have t1 : (n : Int) < R.length := by omega
  have t2 : ¬ ((i : Int) < 0) := by omega
  have t3 : ¬ ((i : Int) ≥ m) := by omega
  have t4 : ¬ (c < 0) := by omega
  have t5 : ¬ (c > 255) := by omega
  clear h ho hok hi hlk b0 b1 b2 b3 b4 b5 b6 b7 b8 n0 n1 hco hit hs hz d0 d1 d2 d3 hd hfree hgo hgr hgl hnz hidx him hr
  go_enter Try.func15, Try.ntmps15
  go_upto_region 1 with fail
  obtain ⟨wb, eb, kb, zb, sx⟩ := set_box2 w rb g R.length cap n 8 o.a o.l 3 c 0 0 o.x false o.s ⟨#[]⟩ HD.out
  rw [eb]
  have SX := Lib.hid sx
  have KB := Lib.hid kb
  have ZB := Lib.hid zb
  obtain ⟨c0', c1', c2', c3', c4', c5'⟩ := ob_cells sx.o
  clear eb kb zb sx
  go_wp2_with fail
  refine (hroom.out _ KB.out).mono ?_
  rintro e wc ⟨rfl, kc⟩
  have SC := Lib.hid (SX.out.keep fun b _ hb => kc.block b hb)
  have KC := Lib.hid (below_and KB.out kc)
  have ZC : Hid (w.heap.size + 2 ≤ wc.heap.size) := Lib.hid (by have := kc.size; have := ZB.out; omega)
  clear kc c0' c1' c2' c3' c4' c5' SX KB ZB
  have h0 : wc.cell? ⟨rb, 0, none⟩ = some (.slice (some ⟨g, 0, none⟩) R.length cap) := cellAt SC.out.hd 0
  have d3 := cell_later KC.out D3.out
  obtain ⟨c0', c1', c2', c3', c4', c5'⟩ := ob_cells SC.out.o
  obtain ⟨q0, q1, q2, q3, q4, q5⟩ := ob_cells SC.out.q
  go_upto_region 6 with fail
  go_quiet (fail)
  go_upto_region 13 with fail
  have sq : SetX (wc.drewN nq) rb w.heap.size g R.length cap n 8 o.a o.l 3 c 0 0 o.x false o.s ⟨#[]⟩ := SC.out.keep fun _ _ _ => rfl
  have kq : Below w.heap.size w (wc.drewN nq) := below_and KC.out (below_drewN _ _)
  have zq : w.heap.size + 2 ≤ (wc.drewN nq).heap.size := ZC.out
  generalize wc.drewN nq = wq at sq kq zq ⊢
  clear h0 d3 c0' c1' c2' c3' c4' c5' q0 q1 q2 q3 q4 q5
  have SQ' : SetX wq.drew rb w.heap.size g R.length cap n 8 o.a o.l 3 c 0 0 o.x false o.s ⟨#[]⟩ := sq.keep fun _ _ _ => rfl
  have kd : Below w.heap.size w wq.drew := kq.drew
  have zd : w.heap.size + 2 ≤ wq.drew.heap.size := zq
  (try refine wp_region_noPanic ?_)
  refine wp_region_held_drew (S := fun wx => SetX wx rb w.heap.size g R.length cap n 8 o.a o.l 3 c 0 0 o.x false o.s ⟨#[]⟩) (by kernel_rfl) SQ' (fun _ => ?_)
  generalize wq.drew = wd at SQ' kd zd ⊢
  have SQ := Lib.hid SQ'
  have KD := Lib.hid kd
  have ZD := Lib.hid zd
  clear sq kq zq SQ' kd zd
  refine wpAnyH_take (i := 0) (v := ptr rb) rfl (by kernel_rfl) (by kernel_rfl) (by kernel_rfl) (fun _ _ _ h => h) (Or.inl ⟨by rfl, fun wx hS => ?_⟩) SQ.out ?_
  · have hh : wx.cell? ⟨rb, 0, none⟩ = some (.slice (some ⟨g, 0, none⟩) R.length cap) := cellAt hS.hd 0
    have hq : wx.cell? ⟨w.heap.size, 2, none⟩ = some (.int .i64 n) := cellAt hS.o 2
    go_simp
  try simp only [Act.put, List.getElem_toArray, List.getElem_cons_succ, List.getElem_cons_zero, List.setIfInBounds_toArray, List.set_cons_zero, List.set_cons_succ]
  refine wpAnyH_take (i := 1) (v := ptr rb) rfl (by kernel_rfl) (by kernel_rfl) (by kernel_rfl) (fun _ _ _ h => h) (Or.inl ⟨by rfl, fun wx hS => ?_⟩) SQ.out ?_
  · have hh : wx.cell? ⟨rb, 0, none⟩ = some (.slice (some ⟨g, 0, none⟩) R.length cap) := cellAt hS.hd 0
    have hq : wx.cell? ⟨w.heap.size, 2, none⟩ = some (.int .i64 n) := cellAt hS.o 2
    go_simp
  try simp only [Act.put, List.getElem_toArray, List.getElem_cons_succ, List.getElem_cons_zero, List.setIfInBounds_toArray, List.set_cons_zero, List.set_cons_succ]
  refine wpAnyH_take (i := 2) (v := .pointer (some ⟨rb, 0, none⟩)) rfl (by kernel_rfl) (by kernel_rfl) (by kernel_rfl) (fun _ _ _ h => h) (Or.inl ⟨by rfl, fun wx hS => ?_⟩) SQ.out ?_
  · have hh : wx.cell? ⟨rb, 0, none⟩ = some (.slice (some ⟨g, 0, none⟩) R.length cap) := cellAt hS.hd 0
    have hq : wx.cell? ⟨w.heap.size, 2, none⟩ = some (.int .i64 n) := cellAt hS.o 2
    go_simp
  try simp only [Act.put, List.getElem_toArray, List.getElem_cons_succ, List.getElem_cons_zero, List.setIfInBounds_toArray, List.set_cons_zero, List.set_cons_succ]
  refine wpAnyH_take (i := 3) (v := .slice (some ⟨g, 0, none⟩) R.length cap) rfl (by kernel_rfl) (by kernel_rfl) (by kernel_rfl) (fun _ _ _ h => h) (Or.inl ⟨by rfl, fun wx hS => ?_⟩) SQ.out ?_
  · have hh : wx.cell? ⟨rb, 0, none⟩ = some (.slice (some ⟨g, 0, none⟩) R.length cap) := cellAt hS.hd 0
    have hq : wx.cell? ⟨w.heap.size, 2, none⟩ = some (.int .i64 n) := cellAt hS.o 2
    go_simp
  try simp only [Act.put, List.getElem_toArray, List.getElem_cons_succ, List.getElem_cons_zero, List.setIfInBounds_toArray, List.set_cons_zero, List.set_cons_succ]
  refine wpAnyH_take (i := 4) (v := .pointer (some ⟨w.heap.size, 2, none⟩)) rfl (by kernel_rfl) (by kernel_rfl) (by kernel_rfl) (fun _ _ _ h => h) (Or.inl ⟨by rfl, fun wx hS => ?_⟩) SQ.out ?_
  · have hh : wx.cell? ⟨rb, 0, none⟩ = some (.slice (some ⟨g, 0, none⟩) R.length cap) := cellAt hS.hd 0
    have hq : wx.cell? ⟨w.heap.size, 2, none⟩ = some (.int .i64 n) := cellAt hS.o 2
    go_simp
  try simp only [Act.put, List.getElem_toArray, List.getElem_cons_succ, List.getElem_cons_zero, List.setIfInBounds_toArray, List.set_cons_zero, List.set_cons_succ]
  refine wpAnyH_take (i := 5) (v := .int .i64 n) rfl (by kernel_rfl) (by kernel_rfl) (by kernel_rfl) (fun _ _ _ h => h) (Or.inl ⟨by rfl, fun wx hS => ?_⟩) SQ.out ?_
  · have hh : wx.cell? ⟨rb, 0, none⟩ = some (.slice (some ⟨g, 0, none⟩) R.length cap) := cellAt hS.hd 0
    have hq : wx.cell? ⟨w.heap.size, 2, none⟩ = some (.int .i64 n) := cellAt hS.o 2
    go_simp
  try simp only [Act.put, List.getElem_toArray, List.getElem_cons_succ, List.getElem_cons_zero, List.setIfInBounds_toArray, List.set_cons_zero, List.set_cons_succ]
  refine wpAnyH_take (i := 6) (v := ptr rb) rfl (by kernel_rfl) (by kernel_rfl) (by kernel_rfl) (fun _ _ _ h => h) (Or.inl ⟨by rfl, fun wx hS => ?_⟩) SQ.out ?_
  · have hh : wx.cell? ⟨rb, 0, none⟩ = some (.slice (some ⟨g, 0, none⟩) R.length cap) := cellAt hS.hd 0
    have hq : wx.cell? ⟨w.heap.size, 2, none⟩ = some (.int .i64 n) := cellAt hS.o 2
    go_simp
  try simp only [Act.put, List.getElem_toArray, List.getElem_cons_succ, List.getElem_cons_zero, List.setIfInBounds_toArray, List.set_cons_zero, List.set_cons_succ]
  refine wpAnyH_take (i := 7) (v := ptr rb) rfl (by kernel_rfl) (by kernel_rfl) (by kernel_rfl) (fun _ _ _ h => h) (Or.inl ⟨by rfl, fun wx hS => ?_⟩) SQ.out ?_
  · have hh : wx.cell? ⟨rb, 0, none⟩ = some (.slice (some ⟨g, 0, none⟩) R.length cap) := cellAt hS.hd 0
    have hq : wx.cell? ⟨w.heap.size, 2, none⟩ = some (.int .i64 n) := cellAt hS.o 2
    go_simp
  try simp only [Act.put, List.getElem_toArray, List.getElem_cons_succ, List.getElem_cons_zero, List.setIfInBounds_toArray, List.set_cons_zero, List.set_cons_succ]
  refine wpAnyH_take (i := 8) (v := .pointer (some ⟨rb, 0, none⟩)) rfl (by kernel_rfl) (by kernel_rfl) (by kernel_rfl) (fun _ _ _ h => h) (Or.inl ⟨by rfl, fun wx hS => ?_⟩) SQ.out ?_
  · have hh : wx.cell? ⟨rb, 0, none⟩ = some (.slice (some ⟨g, 0, none⟩) R.length cap) := cellAt hS.hd 0
    have hq : wx.cell? ⟨w.heap.size, 2, none⟩ = some (.int .i64 n) := cellAt hS.o 2
    go_simp
  try simp only [Act.put, List.getElem_toArray, List.getElem_cons_succ, List.getElem_cons_zero, List.setIfInBounds_toArray, List.set_cons_zero, List.set_cons_succ]
  refine wpAnyH_take (i := 9) (v := .slice (some ⟨g, 0, none⟩) R.length cap) rfl (by kernel_rfl) (by kernel_rfl) (by kernel_rfl) (fun _ _ _ h => h) (Or.inl ⟨by rfl, fun wx hS => ?_⟩) SQ.out ?_
  · have hh : wx.cell? ⟨rb, 0, none⟩ = some (.slice (some ⟨g, 0, none⟩) R.length cap) := cellAt hS.hd 0
    have hq : wx.cell? ⟨w.heap.size, 2, none⟩ = some (.int .i64 n) := cellAt hS.o 2
    go_simp
  try simp only [Act.put, List.getElem_toArray, List.getElem_cons_succ, List.getElem_cons_zero, List.setIfInBounds_toArray, List.set_cons_zero, List.set_cons_succ]
  refine wpAnyH_take (i := 10) (v := .pointer (some ⟨w.heap.size, 2, none⟩)) rfl (by kernel_rfl) (by kernel_rfl) (by kernel_rfl) (fun _ _ _ h => h) (Or.inl ⟨by rfl, fun wx hS => ?_⟩) SQ.out ?_
  · have hh : wx.cell? ⟨rb, 0, none⟩ = some (.slice (some ⟨g, 0, none⟩) R.length cap) := cellAt hS.hd 0
    have hq : wx.cell? ⟨w.heap.size, 2, none⟩ = some (.int .i64 n) := cellAt hS.o 2
    go_simp
  try simp only [Act.put, List.getElem_toArray, List.getElem_cons_succ, List.getElem_cons_zero, List.setIfInBounds_toArray, List.set_cons_zero, List.set_cons_succ]
  refine wpAnyH_take (i := 11) (v := .int .i64 n) rfl (by kernel_rfl) (by kernel_rfl) (by kernel_rfl) (fun _ _ _ h => h) (Or.inl ⟨by rfl, fun wx hS => ?_⟩) SQ.out ?_
  · have hh : wx.cell? ⟨rb, 0, none⟩ = some (.slice (some ⟨g, 0, none⟩) R.length cap) := cellAt hS.hd 0
    have hq : wx.cell? ⟨w.heap.size, 2, none⟩ = some (.int .i64 n) := cellAt hS.o 2
    go_simp
  try simp only [Act.put, List.getElem_toArray, List.getElem_cons_succ, List.getElem_cons_zero, List.setIfInBounds_toArray, List.set_cons_zero, List.set_cons_succ]
  refine wpAnyH_take (i := 12) (v := .pointer (some ⟨g, n * 4, none⟩)) rfl (by kernel_rfl) (by kernel_rfl) (by kernel_rfl) (fun _ _ _ h => h) (Or.inl ⟨by rfl, fun wx hS => ?_⟩) SQ.out ?_
  · have hh : wx.cell? ⟨rb, 0, none⟩ = some (.slice (some ⟨g, 0, none⟩) R.length cap) := cellAt hS.hd 0
    have hq : wx.cell? ⟨w.heap.size, 2, none⟩ = some (.int .i64 n) := cellAt hS.o 2
    go_simp
  try simp only [Act.put, List.getElem_toArray, List.getElem_cons_succ, List.getElem_cons_zero, List.setIfInBounds_toArray, List.set_cons_zero, List.set_cons_succ]
  refine wpAnyH_take (i := 13) (v := .pointer (some ⟨g, n * 4 + 2, none⟩)) rfl (by kernel_rfl) (by kernel_rfl) (by kernel_rfl) (fun _ _ _ h => h) (Or.inl ⟨by rfl, fun wx hS => ?_⟩) SQ.out ?_
  · have hh : wx.cell? ⟨rb, 0, none⟩ = some (.slice (some ⟨g, 0, none⟩) R.length cap) := cellAt hS.hd 0
    have hq : wx.cell? ⟨w.heap.size, 2, none⟩ = some (.int .i64 n) := cellAt hS.o 2
    go_simp
  try simp only [Act.put, List.getElem_toArray, List.getElem_cons_succ, List.getElem_cons_zero, List.setIfInBounds_toArray, List.set_cons_zero, List.set_cons_succ]
  have d2 := cell_later KD.out D2.out
  refine wpAnyH_ready (rs := [14]) (by kernel_rfl) (by simp) ?_
  refine AllReadyH.cons rfl (fun K hK => ?_) AllReadyH.nil
  go_simp
  refine hK.out _ _ SQ.out (fun _ => ?_)
  clear hK
  try simp only [Act.put, List.getElem_toArray, List.getElem_cons_succ, List.getElem_cons_zero, List.setIfInBounds_toArray, List.set_cons_zero, List.set_cons_succ]
  refine wpAnyH_ready (rs := [15]) (by kernel_rfl) (by simp) ?_
  refine AllReadyH.cons rfl (fun K hK => ?_) AllReadyH.nil
  refine step_append_ex rfl _ _ 108 rfl (.slice none 0 0) (.slice p2 r.c.bs.length c2) rfl rfl _ (bytes_copy (H.out.below KD.out) HR.out e2 HZ.out _) ?_
  rintro v1 w1 hcp
  obtain ⟨g2, cp2, rfl, hg2, hg2'⟩ := hcp.own.form (by have := HX.out; omega)
  have CP := Lib.hid hcp
  have HG2 := Lib.hid (And.intro hg2 hg2')
  clear hcp hg2 hg2' d2
  have S1 := Lib.hid (SQ.out.keep fun b _ hb => CP.out.below.block b hb)
  refine hK.out _ _ S1.out (fun _ => ?_)
  clear hK
  try simp only [Act.put, List.getElem_toArray, List.getElem_cons_succ, List.getElem_cons_zero, List.setIfInBounds_toArray, List.set_cons_zero, List.set_cons_succ]
  refine wpAnyH_take (i := 16) (v := .pointer (some ⟨g, n * 4, none⟩)) rfl (by kernel_rfl) (by kernel_rfl) (by kernel_rfl) (fun _ _ _ h => h) (Or.inl ⟨by rfl, fun wx hS => ?_⟩) S1.out ?_
  · have hh : wx.cell? ⟨rb, 0, none⟩ = some (.slice (some ⟨g, 0, none⟩) R.length cap) := cellAt hS.hd 0
    have hq : wx.cell? ⟨w.heap.size, 2, none⟩ = some (.int .i64 n) := cellAt hS.o 2
    go_simp
  try simp only [Act.put, List.getElem_toArray, List.getElem_cons_succ, List.getElem_cons_zero, List.setIfInBounds_toArray, List.set_cons_zero, List.set_cons_succ]
  refine wpAnyH_take (i := 17) (v := .pointer (some ⟨g, n * 4 + 2, none⟩)) rfl (by kernel_rfl) (by kernel_rfl) (by kernel_rfl) (fun _ _ _ h => h) (Or.inl ⟨by rfl, fun wx hS => ?_⟩) S1.out ?_
  · have hh : wx.cell? ⟨rb, 0, none⟩ = some (.slice (some ⟨g, 0, none⟩) R.length cap) := cellAt hS.hd 0
    have hq : wx.cell? ⟨w.heap.size, 2, none⟩ = some (.int .i64 n) := cellAt hS.o 2
    go_simp
  try simp only [Act.put, List.getElem_toArray, List.getElem_cons_succ, List.getElem_cons_zero, List.setIfInBounds_toArray, List.set_cons_zero, List.set_cons_succ]
  have K1 : Hid (Below w.heap.size w w1) := Lib.hid (below_and KD.out CP.out.below)
  have c2 := cell_later K1.out D2.out
  have f2 : w1.frozen? ⟨g, n * 4 + 2, none⟩ = false := by rw [World.frozen?_of_block (w := w) (a := ⟨g, n * 4 + 2, none⟩) (K1.out.block _ HG.out.2)]; exact HF.out _
  refine wpAnyH_ready (rs := [18]) (by kernel_rfl) (by simp) ?_
  refine AllReadyH.cons rfl (fun K hK => ?_) AllReadyH.nil
  go_simp
  have onG : Only g w1 (w1.setCell ⟨g, n * 4 + 2, none⟩ (.slice (some ⟨g2, 0, none⟩) r.c.bs.length cp2)) := (Only.refl _ _).set _ _
  have cG : (w1.setCell ⟨g, n * 4 + 2, none⟩ (.slice (some ⟨g2, 0, none⟩) r.c.bs.length cp2)).cell? ⟨g, n * 4 + 2, none⟩ = some (.slice (some ⟨g2, 0, none⟩) r.c.bs.length cp2) := World.cell?_setCell_same _ _ _ c2
  have cO : ∀ j, j ≠ n * 4 + 2 → (w1.setCell ⟨g, n * 4 + 2, none⟩ (.slice (some ⟨g2, 0, none⟩) r.c.bs.length cp2)).cell? ⟨g, j, none⟩ = w1.cell? ⟨g, j, none⟩ := fun j hj => World.cell?_setCell_other _ _ _ _ (by simp <;> omega)
  have fO : ∀ j, (w1.setCell ⟨g, n * 4 + 2, none⟩ (.slice (some ⟨g2, 0, none⟩) r.c.bs.length cp2)).frozen? ⟨g, j, none⟩ = w1.frozen? ⟨g, j, none⟩ := fun j => by simp
  generalize w1.setCell ⟨g, n * 4 + 2, none⟩ (.slice (some ⟨g2, 0, none⟩) r.c.bs.length cp2) = w2 at onG cG cO fO ⊢
  have S2 := Lib.hid (S1.out.keep (w' := w2) fun b hb _ => onG.block b (by have := HG.out; rcases hb with q | q | q <;> omega))
  refine hK.out _ _ S2.out (fun _ => ?_)
  clear hK
  refine wpAnyH_done (by kernel_rfl) ?_ _
  (try refine no_panic ?_)
  have ON := Lib.hid onG
  have CG := Lib.hid cG
  have CO := Lib.hid cO
  have FO := Lib.hid fO
  clear onG cG cO fO c2 f2
  go_upto_region 14 with fail
  have hh : w2.cell? ⟨rb, 0, none⟩ = some (.slice (some ⟨g, 0, none⟩) R.length cap) := cellAt S2.out.hd 0
  have hq : w2.cell? ⟨w.heap.size, 2, none⟩ = some (.int .i64 n) := cellAt S2.out.o 2
  have hx : w2.cell? ⟨w.heap.size + 1, 2, none⟩ = some (.int .i64 c) := cellAt S2.out.q 2
  have hv := CG.out
  obtain ⟨j, hj⟩ : ∃ j, lo + i = j := ⟨_, rfl⟩
  have e5 : IntKind.i64.wrap ((lo : Int) + (i : Int)) = j := by rw [IntWalk.i64_in _ (by have := HX.out; have := HZ.out; omega)]; omega
  have HJ : Hid (j < r.c.bs.length) := Lib.hid (by have := HX.out; omega)
  have j0 : (0 : Int) ≤ j := by omega
  have j1 : (j : Int) < r.c.bs.length := by have := HJ.out; omega
  have ec : IntKind.u8.wrap c = c := by have := HC.out; exact u8_in c this.1 this.2
  go_still_tail 16, (by kernel_rfl)
  change wpList _ _ _ _ _ w2.drew
  have hne : g2 ≠ g := by have := HG.out; have := HG2.out; have := ZD.out; omega
  have rg := owns_at CP.out.own (w' := w2.drew) fun b e => ON.out.block b (by have := own_eq e; omega)
  obtain ⟨b0, hb0⟩ : ∃ b0, r.c.bs[j]? = some b0 := ⟨_, List.getElem?_eq_getElem HJ.out⟩
  have cj : w2.drew.cell? ⟨g2, j, none⟩ = some (.int .u8 b0.toNat) := by
    have := rg.cells rfl j (.int .u8 b0.toNat) (by rw [byCells_get, hb0]; rfl)
    rwa [Addr.add_mid, Nat.zero_add] at this
  have fj : w2.drew.frozen? ⟨g2, j, none⟩ = false := rg.frozenAt j
  obtain ⟨wx, ewx⟩ : ∃ wx, w2.drew = wx := ⟨_, rfl⟩
  have EWX := Lib.hid ewx
  rw [ewx] at cj fj ⊢
  clear ewx rg hb0 hh hq hx hv
  go_wp2
  go_ret
  obtain ⟨w4, ew4⟩ : ∃ w4, wx.setCell ⟨g2, j, none⟩ (.int .u8 c) = w4 := ⟨_, rfl⟩
  rw [ew4]
  have K1 : Below w.heap.size w w1 := below_and KD.out CP.out.below
  have on4 : Only g2 wx w4 := by rw [← ew4]; exact (Only.refl _ _).set _ _
  have hgd : w.heap.size ≤ g2 := by have := HG2.out; have := ZD.out; omega
  refine ⟨rfl, ⟨_, by rw [ev]; exact RH.byte (by rw [← ev]; exact H.out) HO.out HR.out HG.out.1 e2 HJ.out HC.out.1 HC.out.2 K1 hgd (CP.out.own.mono (by have := ZD.out; omega)) ON.out CG.out CO.out FO.out (by rw [EWX.out]; exact ew4), ?_⟩, ?_⟩
  · rw [HSP.out, hj, cels_set]
  · refine ((kept_of K1 fun b q => q.1).trans (kept_only ON.out fun q => q.2.2 (by rw [ev]; rfl))).trans (Kept.trans (w1 := wx) (by rw [← EWX.out]; exact ⟨rfl, rfl, rfl, Nat.le_refl _, fun _ _ => rfl⟩) (kept_only on4 fun q => by have := q.1; omega))
end
end Go.Proofs.Ytmlkmgeddkpgiaa
