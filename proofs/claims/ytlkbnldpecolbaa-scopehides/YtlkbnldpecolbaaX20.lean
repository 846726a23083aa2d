/- X20: Q6, Q7, Q8, G1. -/
import Derived.Test.YtlkbnldpecolbaaX18
import Derived.Test.YtlkbnldpecolbaaX19
import Derived.Deep.CutRange
import Derived.BigQuiet
/- Walks of tympanref11: make. -/
namespace Go.Proofs.Ytlkbnldpecolbaa
open Go.RowKit
set_option linter.unusedVariables false
set_option linter.unusedSimpArgs false
set_option maxHeartbeats 1000000
set_option maxRecDepth 100000

/-- A cell boxed, and a zero object. -/
theorem rc_zero (w : World) (k : Int) (it bs : Value) (lk : Bool) : ∃ wb, (w.alloc (.cells #[.int .i64 k, it, bs, .bool lk] 102)).alloc (.cells #[.int .i64 0, .bool false, .int .i64 0, .int .i64 0, .int .i64 0, .string ⟨#[]⟩] 30) = wb ∧ Below w.heap.size w wb ∧ wb.heap.size = w.heap.size + 2 ∧
    wb.heap[w.heap.size]? = some (.cells #[.int .i64 k, it, bs, .bool lk] 102 (0, 0)) ∧ wb.heap[w.heap.size + 1]? = some emptyOb := by
  have h2 := heap_alloc_new (w.alloc (.cells #[.int .i64 k, it, bs, .bool lk] 102)) emptyOb
  exact ⟨_, rfl, below_and (box_below _ _) (box_below _ _), by simp, (Below.heap_alloc _ _ _ (by simp)).trans (heap_alloc_new _ _), by simpa using h2⟩
theorem rmake_full (rb z cap : Nat) (p : Option Addr) (k : Int) (it bs : Value) (lk : Bool) (w : World) (hz : 2000 ≤ z) (h0 : w.cell? ⟨rb, 0, none⟩ = some (.slice p z cap)) :
    Calls Try.prog 63 #[ptr rb, rcV k it bs lk] w fun e w' => e = .returned (.tuple #[zeroOb, .int .i64 5]) ∧ Below w.heap.size w w' := by
  have t0 : (z : Int) ≥ 2000 := by omega
  go_enter Try.func63, Try.ntmps63
  go_upto_region 1 with fail
  obtain ⟨wb, eb, kb, zb, cb, ob⟩ := rc_zero w k it bs lk
  rw [eb]
  have d0 := cell_later kb h0
  have KB := Lib.hid kb
  have OB := Lib.hid ob
  clear eb kb zb cb ob
  go_quiet (fail)
  have KQ : Hid (Below w.heap.size w (wb.drewN nq)) := Lib.hid (below_and KB.out (below_drewN _ _))
  have OQ : Hid ((wb.drewN nq).heap[w.heap.size + 1]? = some emptyOb) := Lib.hid OB.out
  generalize wb.drewN nq = wq at KQ OQ
  obtain ⟨⟨o0, o1, o2, o3, o4, o5⟩, g0, g1, g2, g3, g4, g5⟩ := cells6 OQ.out
  go_wp2
  (try simp only [Exit.inBlock, Exit.then])
  refine bodyPost_ret (ret_cell rfl _ _ _ _ _ _ _ _ rfl rfl (set6 OQ.out _ _ _ _ _ _) Try.underlying30 rfl (by kernel_rfl)) rfl ⟨rfl, set6_below KQ.out (Nat.le_succ _) _ _ _ _ _ _⟩
/-- append(nil, v...): a new row, or nil. -/
theorem app_copy {w : World} {I : Nat → Prop} {v : Value} {n : Nat} {cs : List Value} (h : rowC w I v n cs) (t e : TypeId) (i : TypeInfo) (z : Value) (size bytes : Nat) (ht : Try.prog.underlying t = some (.slice e)) (hi : Try.prog.info? e = some i) (hz : i.zero = some z)
    (hsize : i.size = size) (hby : i.bytes = bytes) (hzs : z.cells.size = size) (hsz : 0 < size) (hl : cs.length = n * size) (h1 : ∀ u ∈ cs, u.oneCell' = true) (h63 : n ≤ maxLen) (hbytes : n * bytes ≤ 140737488355328) (ty : TypeId) :
    ∃ v' w', (Builtin.append_ #[t, t] ty #[.slice none 0 0, v]).run Try.prog w = .ok v' w' ∧ w'.ownsRow w.heap.size e size v' n cs ∧ Below w.heap.size w w' ∧ (v' = .slice none 0 0 → n = 0) := by
  rcases h with ⟨rfl, rfl, rfl⟩ | ⟨g, cap, rfl, _, _, _, hc⟩
  · refine ⟨.slice none 0 0, w, ?_, World.ownsRow_nil _ _ _ _, Below.refl _ _, fun _ => rfl⟩
    simp [Builtin.append_, run_underlying ht, sizeOf, typeInfo, hi, Builtin.lenOf, Builtin.firstCells, loadCells, loadCellsFrom]
  · obtain ⟨v', w', hr, h2, h3, h4⟩ := run_append_own (P := Try.prog) w w.heap.size t ty e i z size bytes ht hi hz hsize hby hzs hsz (.slice none 0 0) 0 [] (World.ownsRow_nil _ _ _ _) ⟨g, 0, none⟩ n cap cs hl (fun j u hj => by rw [Addr.add_mid, Nat.zero_add]; exact hc j u hj) h1 (by omega) (by rw [Nat.zero_add]; exact hbytes) (Nat.le_refl _)
    rw [Nat.zero_add, List.nil_append] at h2
    exact ⟨v', w', hr, h2, (Below.refl _ w).grown h3 (Nat.le_refl _) (fun k e => by cases e), fun e => (h4.1 e).2⟩
theorem rowC_of_owns {w : World} {base : Nat} {e : TypeId} {size : Nat} {v : Value} {n : Nat} {cs : List Value} {I : Nat → Prop} (h : w.ownsRow base e size v n cs) (hI : ∀ g, v.ownBlock = some g → I g) (h0 : n = 0 → cs = []) : rowC w I v n cs := by
  rcases h.2 with ⟨rfl, hn⟩ | ⟨g, cap, cur, rfl, hb, hg, hc, hm, hs, ht⟩
  · exact .inl ⟨rfl, hn, h0 hn⟩
  · refine .inr ⟨g, cap, rfl, by omega, hI g rfl, blk_lt hg, fun j u hj => ?_⟩
    have := h.cells rfl j u hj
    rwa [Addr.add_mid, Nat.zero_add] at this
theorem rcCells_one (R : List RC) (h : ∀ r ∈ R, (∃ p n c, r.it = .slice p n c) ∧ ∃ p n c, r.bs = .slice p n c) : ∀ u ∈ rcCells R, u.oneCell' = true := by
  intro u hu
  obtain ⟨r, hr, hu⟩ := List.mem_flatMap.1 hu
  obtain ⟨⟨p, n, c, e1⟩, ⟨q, m, d, e2⟩⟩ := h r hr
  simp only [rcL, List.mem_cons, List.not_mem_nil, or_false] at hu
  rcases hu with rfl | rfl | rfl | rfl
  · rfl
  · rw [e1]; rfl
  · rw [e2]; rfl
  · rfl
theorem rcCells_append (R S : List RC) : rcCells (R ++ S) = rcCells R ++ rcCells S := by simp [rcCells]
theorem rcCells_single (r : RC) : rcCells [r] = rcL r := by simp [rcCells]
theorem cels_append (R S : List RC) : cels (R ++ S) = cels R ++ cels S := by simp [cels]
/-- All that was ours, and what is new. -/
def Plus (own : Nat → Prop) (w w' : World) (b : Nat) : Prop := own b ∨ (w.heap.size ≤ b ∧ b < w'.heap.size)
section
variable {own : Nat → Prop} {rb : Nat} {v : Value} {R : List RC} {w w3 : World}
theorem RH.made (h : RH own rb v R w) (ho : ∀ b, own b → b < w.heap.size) (r : RC) (hr : rowC w (Im own rb v) r.it r.c.it.length (obCells r.c.it) ∧ rowC w (Im own rb v) r.bs r.c.bs.length (byCells r.c.bs)) (hk : (r.c.k = 8 ∧ r.c.it = []) ∨ ((r.c.k = 9 ∨ r.c.k = 10) ∧ r.c.bs = [])) (hl : R.length < 2000) (hu : usedP (cels R) + r.c.size ≤ 40000)
    (k : Below w.heap.size w w3) (g cap : Nat) (hown : w3.ownsRow w.heap.size 102 4 (.slice (some ⟨g, 0, none⟩) (R.length + 1) cap) (R.length + 1) (rcCells R ++ rcL r)) :
    RH (Plus own w w3) rb (.slice (some ⟨g, 0, none⟩) (R.length + 1) cap) (R ++ [r]) (w3.setCell ⟨rb, 0, none⟩ (.slice (some ⟨g, 0, none⟩) (R.length + 1) cap)) := by
  have hrb := blk_lt h.hdr
  have hg := hown.lt g rfl
  have on : Only rb w3 (w3.setCell ⟨rb, 0, none⟩ (.slice (some ⟨g, 0, none⟩) (R.length + 1) cap)) := (Only.refl _ _).set 0 _
  have fx : ∀ b, Im own rb v b → b < w.heap.size → Im (Plus own w w3) rb (.slice (some ⟨g, 0, none⟩) (R.length + 1) cap) b ∧ (w3.setCell ⟨rb, 0, none⟩ (.slice (some ⟨g, 0, none⟩) (R.length + 1) cap)).heap[b]? = w.heap[b]? := fun b q hb =>
    ⟨⟨.inl q.1, q.2.1, fun e => by have : g = b := by simpa [Value.ownBlock] using e
                                   omega⟩, (on.block b q.2.1).trans (k.block b hb)⟩
  have hs : w.heap.size ≤ (w3.setCell ⟨rb, 0, none⟩ (.slice (some ⟨g, 0, none⟩) (R.length + 1) cap)).heap.size := by rw [on.size]; exact k.size
  refine ⟨?_, .inl h.mine, ?_, fun i x hx => ?_, ?_, fun b e j => by
    have : g = b := by simpa [Value.ownBlock] using e
    subst this
    rw [World.frozen?_of_block (w := w3) (a := ⟨g, j, none⟩) (on.block g (by omega))]
    exact hown.frozenAt j⟩
  · rw [heap_setCell_same _ _ _ _ 54 _ ((k.block _ hrb).trans h.hdr)]
    rfl
  · have q := rowC_of_owns (I := fun b => Plus own w w3 b ∧ b ≠ rb) hown (fun b e => by
      have : g = b := by simpa [Value.ownBlock] using e
      subst this
      exact ⟨.inr hg, by omega⟩) (fun e => by omega)
    rw [List.length_append, rcCells_append, rcCells_single]
    refine q.same (by rw [on.size]; exact Nat.le_refl _) fun b q _ => ⟨q, on.block b q.2⟩
  · rw [List.getElem?_append] at hx
    split at hx
    · exact ⟨(h.sub i x hx).1.same hs fx, (h.sub i x hx).2.same hs fx⟩
    · next hi =>
      have hi' : i - R.length = 0 := by
        have := (List.getElem?_eq_some_iff.1 hx).1
        simp at this
        omega
      rw [hi'] at hx
      obtain rfl : r = x := by simpa using hx
      exact ⟨hr.1.same hs fx, hr.2.same hs fx⟩
  · rw [cels_append]
    refine ⟨by simp [cels_length]; omega, ?_, fun c hc => ?_⟩
    · simpa [usedP, cels] using hu
    · rcases List.mem_append.1 hc with hc | hc
      · exact h.wf.kind c hc
      · obtain rfl : c = r.c := by simpa [cels] using hc
        exact hk
end
end Go.Proofs.Ytlkbnldpecolbaa

/- Walks of tympanref11: make. -/
namespace Go.Proofs.Ytlkbnldpecolbaa
open Go.RowKit
set_option linter.unusedVariables false
set_option linter.unusedSimpArgs false
set_option maxHeartbeats 1000000
set_option maxRecDepth 100000

/-- A boxed cell of the reference's, and the heap's slice. -/
def MkAt (w : World) (rb A : Nat) (v : Value) (k : Int) (it bs : Value) (lk : Bool) : Prop := w.cell? ⟨rb, 0, none⟩ = some v ∧ w.cell? ⟨A, 0, none⟩ = some (.int .i64 k) ∧ w.cell? ⟨A, 1, none⟩ = some it ∧ w.cell? ⟨A, 2, none⟩ = some bs ∧ w.cell? ⟨A, 3, none⟩ = some (.bool lk)
theorem MkAt.later {w wx : World} {rb A : Nat} {v : Value} {k : Int} {it bs : Value} {lk : Bool} (h : MkAt w rb A v k it bs lk) (kc : Below w.heap.size w wx) : MkAt wx rb A v k it bs lk := ⟨cell_later kc h.1, cell_later kc h.2.1, cell_later kc h.2.2.1, cell_later kc h.2.2.2.1, cell_later kc h.2.2.2.2⟩
theorem rmake_used (rb z cap u m : Nat) (p : Option Addr) (k : Int) (it bs : Value) (lk : Bool) (w : World) (hz : z < 2000) (h0 : w.cell? ⟨rb, 0, none⟩ = some (.slice p z cap)) (hu : 40000 < u + m) (hb : u ≤ 40000 ∧ m ≤ 80000)
    (h1 : Hid (∀ wx, Below w.heap.size w wx → Calls Try.prog 38 #[ptr rb] wx fun e w' => e = .returned (.int .i64 u) ∧ Below wx.heap.size wx w'))
    (h3 : Hid (∀ wx, Calls Try.prog 74 #[rcV k it bs lk] wx fun e w' => e = .returned (.int .i64 m) ∧ Below wx.heap.size wx w')) :
    Calls Try.prog 63 #[ptr rb, rcV k it bs lk] w fun e w' => e = .returned (.tuple #[zeroOb, .int .i64 5]) ∧ Below w.heap.size w w' := by
  have t0 : ¬ ((z : Int) ≥ 2000) := by omega
  have e1 : IntKind.i64.wrap ((u : Int) + (m : Int)) = ((u + m : Nat) : Int) := by rw [IntWalk.i64_in _ (by omega)]; omega
  have t1 : ((u + m : Nat) : Int) > 40000 := by omega
  go_enter Try.func63, Try.ntmps63
  go_upto_region 1 with fail
  obtain ⟨wb, eb, kb, zb, cb, ob⟩ := rc_zero w k it bs lk
  rw [eb]
  have gb : Hid (Below w.heap.size w wb.drew) := Lib.hid kb.drew
  have mk : MkAt wb rb w.heap.size (.slice p z cap) k it bs lk := ⟨cell_later kb h0, cellAt cb 0, cellAt cb 1, cellAt cb 2, cellAt cb 3⟩
  have go : Hid (MkAt wb.drew rb w.heap.size (.slice p z cap) k it bs lk) := Lib.hid mk
  have OB : Hid (wb.drew.heap[w.heap.size + 1]? = some emptyOb) := Lib.hid ob
  clear eb kb zb cb ob mk
  go_region_held3 (fun wx => wx.cell? ⟨rb, 0, none⟩ = some (.slice p z cap) ∧ wx.cell? ⟨w.heap.size, 0, none⟩ = some (.int .i64 k) ∧ wx.cell? ⟨w.heap.size, 1, none⟩ = some it ∧ wx.cell? ⟨w.heap.size, 2, none⟩ = some bs ∧ wx.cell? ⟨w.heap.size, 3, none⟩ = some (.bool lk))
    (first | exact go.out | go_keep)
    (first | (go_at_call 38; refine (h1.out _ gb.out).mono ?_; rintro e we ⟨rfl, ke⟩; replace gb := Lib.hid (below_and gb.out ke); replace go := Lib.hid (go.out.later ke); replace OB := Lib.hid ((ke.block _ (blk_lt OB.out)).trans OB.out); clear ke) | (go_at_call 74; refine (h3.out _).mono ?_; rintro e we ⟨rfl, ke⟩; replace gb := Lib.hid (below_and gb.out ke); replace go := Lib.hid (go.out.later ke); replace OB := Lib.hid ((ke.block _ (blk_lt OB.out)).trans OB.out); clear ke))
  all_goals
    obtain ⟨⟨o0, o1, o2, o3, o4, o5⟩, g0, g1, g2, g3, g4, g5⟩ := cells6 OB.out
    go_wp2
    (try simp only [Exit.inBlock, Exit.then])
    exact bodyPost_ret (ret_cell rfl _ _ _ _ _ _ _ _ rfl rfl (set6 OB.out _ _ _ _ _ _) Try.underlying30 rfl (by kernel_rfl)) rfl ⟨rfl, set6_below gb.out (Nat.le_succ _) _ _ _ _ _ _⟩
end Go.Proofs.Ytlkbnldpecolbaa

/- Walks of tympanref11: make. -/
namespace Go.Proofs.Ytlkbnldpecolbaa
open Go.RowKit
set_option linter.unusedVariables false
set_option linter.unusedSimpArgs false
set_option maxHeartbeats 1000000
set_option maxRecDepth 100000

theorem step_append_ex {P : Program} {w : World} {ops : Array Oper} {o : Oper} {a : Act} {K : Act → World → Prop} {Q : Exit → Act → World → Prop} {E : Prop} (hgd : o.guard = none) (s x : Operand) (t : TypeId)
    (ho : o.op = .call { callee := .builtin .append, args := #[s, x], argTypes := #[t, t] }) (V1 V2 : Value) (hs : a.eval s = V1) (hx : a.eval x = V2) (F : Value → World → Prop) (hrun : ∃ v w', (Builtin.append_ #[t, t] o.type #[V1, V2]).run P w = .ok v w' ∧ F v w')
    (h : ∀ v w', F v w' → K (a.put o.dst v) w') : if Region.wanted o (yielded ops a.tmps) = true then Oper.wp P o a w K Q else E := by
  obtain ⟨v, w', hr, hf⟩ := hrun
  exact step_append_run hgd s x t ho V1 V2 hs hx v w' hr (h v w' hf)
theorem info127 : (Try.prog.info? 102).map (fun i => (i.zero, i.size, i.bytes)) = some (some (.agg #[.int .i64 0, .slice none 0 0, .slice none 0 0, .bool false]), 4, 64) := by kernel_rfl
/-- The heap's slice, copied. -/
theorem cells_copy {own : Nat → Prop} {rb : Nat} {v : Value} {R : List RC} {w : World} (h : RH own rb v R w) (wx : World) (k : Below w.heap.size w wx) (ty : TypeId) :
    ∃ v' w', (Builtin.append_ #[52, 52] ty #[.slice none 0 0, v]).run Try.prog wx = .ok v' w' ∧ w'.ownsRow wx.heap.size 102 4 v' R.length (rcCells R) ∧ Below wx.heap.size wx w' ∧ (v' = .slice none 0 0 → R.length = 0) := by
  obtain ⟨i0, hi, hz0, hz1, hz2⟩ := info_parts info127
  have hl : R.length ≤ 2000 := by have := h.wf.len; rw [cels_length] at this; exact this
  refine app_copy (h.below k).row 52 102 i0 _ 4 64 Try.underlying52 hi hz0 hz1 hz2 rfl (by decide) (rcCells_length R) (rcCells_one R fun r hr => ?_) (by unfold maxLen; omega) (by omega) ty
  obtain ⟨i, hi⟩ := List.mem_iff_getElem?.1 hr
  obtain ⟨p, q, c, d, e1, e2, _⟩ := h.size hi
  exact ⟨⟨_, _, _, e1⟩, ⟨_, _, _, e2⟩⟩
theorem rcl_box (w : World) (r : RC) : ∃ wb, w.alloc (.cells #[.int .i64 r.c.k, r.it, r.bs, .bool r.c.lk] 102) = wb ∧ Below w.heap.size w wb ∧ ∀ j u, (rcL r)[j]? = some u → wb.cell? (Addr.add ⟨w.heap.size, 0, none⟩ j) = some u :=
  ⟨_, rfl, box_below _ _, fun j u h => by rw [Addr.add_mid, Nat.zero_add, cellAt (heap_alloc_new _ _)]; simpa using h⟩
theorem owns_at {w w' : World} {base : Nat} {e : TypeId} {size : Nat} {v : Value} {n : Nat} {xs : List Value} (h : w.ownsRow base e size v n xs) (k : ∀ g, v.ownBlock = some g → w'.heap[g]? = w.heap[g]?) : w'.ownsRow base e size v n xs := by
  refine ⟨h.1, ?_⟩
  rcases h.2 with hn | ⟨g, cap, cur, rfl, hb, hgg, rest⟩
  · exact .inl hn
  · refine .inr ⟨g, cap, cur, rfl, hb, ?_, rest⟩
    rw [k g rfl]
    exact hgg
theorem rcl_one (r : RC) {p1 p2 : Option Addr} {n1 n2 c1 c2 : Nat} (h : r.it = .slice p1 n1 c1 ∧ r.bs = .slice p2 n2 c2) : ∀ u ∈ rcL r, u.oneCell' = true := by
  have := rcCells_one [r] fun x hx => by
    obtain rfl : x = r := by simpa using hx
    exact ⟨⟨_, _, _, h.1⟩, ⟨_, _, _, h.2⟩⟩
  rw [rcCells_single] at this
  exact this
theorem below_kept {rb : Nat} {w w' : World} (h : Below w.heap.size w w') : Kept (fun b => b < w.heap.size ∧ b ≠ rb) w w' := ⟨h.os, h.tape, h.output, h.size, fun b hb => h.block b hb.1⟩
theorem kept_of {own : Nat → Prop} {w w' : World} (h : Below w.heap.size w w') (ho : ∀ b, own b → b < w.heap.size) : Kept own w w' := ⟨h.os, h.tape, h.output, h.size, fun b hb => h.block b (ho b hb)⟩
theorem own_of_eq {g g' m n c : Nat} (h : m ≤ g) (e : (Value.slice (some ⟨g, 0, none⟩) n c).ownBlock = some g') : m ≤ g' := by
  have : g = g' := by simpa [Value.ownBlock] using e
  omega
/-- The boxed cell and the result. -/
def MkX (wx : World) (A : Nat) (r : RC) : Prop := wx.heap[A]? = some (.cells #[.int .i64 r.c.k, r.it, r.bs, .bool r.c.lk] 102 (0, 0)) ∧ wx.heap[A + 1]? = some emptyOb
theorem MkX.keep {w w' : World} {A : Nat} {r : RC} (h : MkX w A r) (k : ∀ b, b = A ∨ b = A + 1 → b < w.heap.size → w'.heap[b]? = w.heap[b]?) : MkX w' A r := ⟨(k _ (.inl rfl) (blk_lt h.1)).trans h.1, (k _ (.inr rfl) (blk_lt h.2)).trans h.2⟩
/-- What stands behind the statement that makes the row anew. -/
structure Made (own : Nat → Prop) (rb : Nat) (R : List RC) (r : RC) (w wb wx : World) : Prop where
  rh : ∃ v', RH (Plus own wb wx) rb v' (R ++ [r]) wx ∧ ∀ g, v'.ownBlock = some g → w.heap.size ≤ g
  kept : Kept (fun b => b < w.heap.size ∧ b ≠ rb) w wx
  box : wx.heap[w.heap.size]? = some (.cells #[.int .i64 r.c.k, r.it, r.bs, .bool r.c.lk] 102 (0, 0))
  res : wx.heap[w.heap.size + 1]? = some emptyOb
section
variable {own : Nat → Prop} {rb : Nat} {v : Value} {R : List RC} {w : World}
theorem rmake_ok (h : RH own rb v R w) (ho : ∀ b, own b → b < w.heap.size) (r : RC) (hr : rowC w (Im own rb v) r.it r.c.it.length (obCells r.c.it) ∧ rowC w (Im own rb v) r.bs r.c.bs.length (byCells r.c.bs)) (hk : (r.c.k = 8 ∧ r.c.it = []) ∨ ((r.c.k = 9 ∨ r.c.k = 10) ∧ r.c.bs = [])) (hl : R.length < 2000) (hu : usedP (cels R) + r.c.size ≤ 40000)
    (T : Nat) (hT : T = if r.c.k = 10 then 0 else r.c.size) :
    Calls Try.prog 63 #[ptr rb, rcV r.c.k r.it r.bs r.c.lk] w fun e w' => e = .returned (.tuple #[obV r.c.k false R.length 0 T ⟨#[]⟩, .int .i64 0]) ∧ (∃ v', RH (Plus own w w') rb v' (R ++ [r]) w' ∧ ∀ g, v'.ownBlock = some g → w.heap.size ≤ g) ∧ Kept (fun b => b < w.heap.size ∧ b ≠ rb) w w' := by
  have H := Lib.hid h
  have HO := Lib.hid ho
  have HR := Lib.hid hr
  have HK := Lib.hid hk
  have HL := Lib.hid hl
  have HU := Lib.hid hu
  have HT := Lib.hid hT
  obtain ⟨p, cap, ev, _⟩ := h.row.form
  have h0 := h.hcell
  have HRB := Lib.hid (blk_lt h.hdr)
  obtain ⟨p1, c1, f1, _⟩ := hr.1.form
  obtain ⟨p2, c2, f2, _⟩ := hr.2.form
  have F12 := Lib.hid (And.intro f1 f2)
  have hsz : IntKind.i64.wrap ((r.c.it.length : Int) + (r.c.bs.length : Int)) = (r.c.size : Nat) := by unfold Cel.size at hu ⊢; rw [IntWalk.i64_in _ (by omega)]; omega
  have h1 : Hid (∀ wx, Below w.heap.size w wx → Calls Try.prog 38 #[ptr rb] wx fun e w' => e = .returned (.int .i64 (usedP (cels R))) ∧ Below wx.heap.size wx w') := Lib.hid fun wx kx => rused_any (h.below kx)
  have h3 : Hid (∀ wx, Calls Try.prog 74 #[rcV r.c.k r.it r.bs r.c.lk] wx fun e w' => e = .returned (.int .i64 r.c.size) ∧ Below wx.heap.size wx w') := Lib.hid fun wx => by rw [f1, f2]; exact rcsize_any r.c.k p1 p2 _ c1 _ c2 r.c.size r.c.lk wx hsz
  have t0 : ¬ ((R.length : Int) ≥ 2000) := by omega
  have e1 : IntKind.i64.wrap ((usedP (cels R) : Int) + (r.c.size : Int)) = ((usedP (cels R) + r.c.size : Nat) : Int) := by rw [IntWalk.i64_in _ (by omega)]; omega
  have t1 : ¬ (((usedP (cels R) + r.c.size : Nat) : Int) > 40000) := by omega
  rw [ev] at h0
  have H0 := Lib.hid h0
  clear h ho hr hk hl hu hT f1 f2 hsz
  go_enter Try.func63, Try.ntmps63
  go_upto_region 1 with fail
  obtain ⟨wb, eb, kb, zsz, cb, ob⟩ := rc_zero w r.c.k r.it r.bs r.c.lk
  rw [eb]
  have KB := Lib.hid kb
  have CB := Lib.hid cb
  have OB := Lib.hid ob
  clear eb kb cb ob h0
  have ZB := Lib.hid zsz
  have HWB := Lib.hid (H.out.below KB.out)
  have HOB : Hid (∀ b, own b → b < wb.heap.size) := Lib.hid fun b q => Nat.lt_of_lt_of_le (HO.out b q) KB.out.size
  have HRw : Hid (rowC wb (Im own rb v) r.it r.c.it.length (obCells r.c.it) ∧ rowC wb (Im own rb v) r.bs r.c.bs.length (byCells r.c.bs)) := Lib.hid ⟨HR.out.1.same KB.out.size fun g q hg => ⟨q, KB.out.block g hg⟩, HR.out.2.same KB.out.size fun g q hg => ⟨q, KB.out.block g hg⟩⟩
  go_cut [20] from 7 to 20 (fun c wx => c = .bool false ∧ Below wb.heap.size wb wx)
  case first =>
    have gb : Hid (Below wb.heap.size wb wb.drew) := Lib.hid (Below.refl _ wb).drew
    have mk : MkAt wb rb w.heap.size (.slice p R.length cap) r.c.k r.it r.bs r.c.lk := ⟨cell_later KB.out H0.out, cellAt CB.out 0, cellAt CB.out 1, cellAt CB.out 2, cellAt CB.out 3⟩
    have go : Hid (MkAt wb.drew rb w.heap.size (.slice p R.length cap) r.c.k r.it r.bs r.c.lk) := Lib.hid mk
    clear mk
    go_region_held3 (fun wx => wx.cell? ⟨rb, 0, none⟩ = some (.slice p R.length cap) ∧ wx.cell? ⟨w.heap.size, 0, none⟩ = some (.int .i64 r.c.k) ∧ wx.cell? ⟨w.heap.size, 1, none⟩ = some r.it ∧ wx.cell? ⟨w.heap.size, 2, none⟩ = some r.bs ∧ wx.cell? ⟨w.heap.size, 3, none⟩ = some (.bool r.c.lk))
      (first | exact go.out | go_keep)
      (first | (go_at_call 38; refine (h1.out _ (below_and KB.out gb.out)).mono ?_; rintro e we ⟨rfl, ke⟩; replace gb := Lib.hid (below_and gb.out ke); replace go := Lib.hid (go.out.later ke); clear ke) | (go_at_call 74; refine (h3.out _).mono ?_; rintro e we ⟨rfl, ke⟩; replace gb := Lib.hid (below_and gb.out ke); replace go := Lib.hid (go.out.later ke); clear ke))
    all_goals
      go_wp2_with fail
      go_meet
      exact ⟨congrArg Value.bool (decide_eq_false (by have := HU.out; omega)), gb.out⟩
  case rest =>
    obtain ⟨rfl, kb⟩ := hcut
    have KC := Lib.hid kb
    have CC := Lib.hid ((kb.block _ (blk_lt CB.out)).trans CB.out)
    have OC := Lib.hid ((kb.block _ (blk_lt OB.out)).trans OB.out)
    clear kb
    go_upto_region 3 with fail
    go_cut [30] from 22 to 32 (fun _ wx => Made own rb R r w wb wx)
    case first =>
      have h0 : wc.drew.cell? ⟨rb, 0, none⟩ = some (.slice p R.length cap) := cell_later (below_and KB.out KC.out.drew) H0.out
      have gb0 : Below wb.heap.size wb wc.drew := KC.out.drew
      have cx0 : MkX wc.drew w.heap.size r := show MkX wc w.heap.size r from ⟨CC.out, OC.out⟩
      have HCP : Hid (∀ wx, Below wb.heap.size wb wx → ∀ ty, ∃ v' w', (Builtin.append_ #[52, 52] ty #[.slice none 0 0, .slice p R.length cap]).run Try.prog wx = .ok v' w' ∧ w'.ownsRow wx.heap.size 102 4 v' R.length (rcCells R) ∧ Below wx.heap.size wx w' ∧ (v' = .slice none 0 0 → R.length = 0)) := Lib.hid fun wx kx ty => by rw [← ev]; exact cells_copy HWB.out wx kx ty
      obtain ⟨i0, hi, hz0, hz1, hz2⟩ := info_parts info127
      try refine wp_region_noPanic ?_
      refine wp_region_held_drew (S := fun wx => MkX wx w.heap.size r) (by kernel_rfl) cx0 (fun _ => ?_)
      generalize wc.drew = wd at gb0 h0 cx0 ⊢
      have gb := Lib.hid gb0
      have CX := Lib.hid cx0
      clear gb0 cx0
      refine wpAnyH_take (i := 0) (v := ptr rb) rfl (by kernel_rfl) (by kernel_rfl) (by kernel_rfl) (fun _ _ _ h => h) (Or.inl ⟨by rfl, fun wx hS => ?_⟩) CX.out ?_
      · go_simp
      try simp only [Act.put, List.getElem_toArray, List.getElem_cons_succ, List.getElem_cons_zero, List.setIfInBounds_toArray, List.set_cons_zero, List.set_cons_succ]
      refine wpAnyH_take (i := 1) (v := ptr rb) rfl (by kernel_rfl) (by kernel_rfl) (by kernel_rfl) (fun _ _ _ h => h) (Or.inl ⟨by rfl, fun wx hS => ?_⟩) CX.out ?_
      · go_simp
      try simp only [Act.put, List.getElem_toArray, List.getElem_cons_succ, List.getElem_cons_zero, List.setIfInBounds_toArray, List.set_cons_zero, List.set_cons_succ]
      refine wpAnyH_take (i := 2) (v := ptr rb) rfl (by kernel_rfl) (by kernel_rfl) (by kernel_rfl) (fun _ _ _ h => h) (Or.inl ⟨by rfl, fun wx hS => ?_⟩) CX.out ?_
      · go_simp
      try simp only [Act.put, List.getElem_toArray, List.getElem_cons_succ, List.getElem_cons_zero, List.setIfInBounds_toArray, List.set_cons_zero, List.set_cons_succ]
      refine wpAnyH_take (i := 3) (v := .pointer (some ⟨rb, 0, none⟩)) rfl (by kernel_rfl) (by kernel_rfl) (by kernel_rfl) (fun _ _ _ h => h) (Or.inl ⟨by rfl, fun wx hS => ?_⟩) CX.out ?_
      · go_simp
      try simp only [Act.put, List.getElem_toArray, List.getElem_cons_succ, List.getElem_cons_zero, List.setIfInBounds_toArray, List.set_cons_zero, List.set_cons_succ]
      refine wpAnyH_take (i := 6) (v := rcV r.c.k r.it r.bs r.c.lk) rfl (by kernel_rfl) (by kernel_rfl) (by kernel_rfl) (fun _ _ _ h => h) (Or.inl ⟨by rfl, fun wx hS => ?_⟩) CX.out ?_
      · have d0 : wx.cell? ⟨w.heap.size, 0, none⟩ = some (.int .i64 r.c.k) := cellAt hS.1 0
        have d1 : wx.cell? ⟨w.heap.size, 1, none⟩ = some r.it := cellAt hS.1 1
        have d2 : wx.cell? ⟨w.heap.size, 2, none⟩ = some r.bs := cellAt hS.1 2
        have d3 : wx.cell? ⟨w.heap.size, 3, none⟩ = some (.bool r.c.lk) := cellAt hS.1 3
        go_simp
      try simp only [Act.put, List.getElem_toArray, List.getElem_cons_succ, List.getElem_cons_zero, List.setIfInBounds_toArray, List.set_cons_zero, List.set_cons_succ]
      refine wpAnyH_ready (rs := [4, 7]) (by kernel_rfl) (by simp) ?_
      refine (AllReadyH.cons rfl (fun K hK => ?_) (AllReadyH.cons rfl (fun K hK => ?_) AllReadyH.nil))
      · -- the heap's slice first
        go_simp
        refine hK.out _ _ CX.out (fun _ => ?_)
        clear hK
        try simp only [Act.put, List.getElem_toArray, List.getElem_cons_succ, List.getElem_cons_zero, List.setIfInBounds_toArray, List.set_cons_zero, List.set_cons_succ]
        refine wpAnyH_ready (rs := [5, 7]) (by kernel_rfl) (by simp) ?_
        refine (AllReadyH.cons rfl (fun K hK => ?_) (AllReadyH.cons rfl (fun K hK => ?_) AllReadyH.nil))
        · refine step_append_ex rfl _ _ 52 rfl (.slice none 0 0) (.slice p R.length cap) rfl rfl _ (HCP.out _ gb.out _) ?_
          rintro v1 w1 ⟨hown, k1, hnil⟩
          have HB1 : Hid (w1.ownsRow wb.heap.size 102 4 v1 R.length (rcCells R)) := Lib.hid (hown.mono gb.out.size)
          have NB1 : Hid (∀ b, b = w.heap.size ∨ b = w.heap.size + 1 → v1.ownBlock = some b → False) := Lib.hid fun b hb e => by have := (hown.lt _ e).1; have := blk_lt CX.out.1; have := blk_lt CX.out.2; omega
          skip
          replace gb : Hid (Below wb.heap.size wb w1) := Lib.hid (gb.out.trans (k1.mono gb.out.size))
          replace CX : Hid (MkX w1 w.heap.size r) := Lib.hid (CX.out.keep fun b _ hb => k1.block b hb)
          clear hown k1 hnil
          refine hK.out _ _ CX.out (fun _ => ?_)
          clear hK
          try simp only [Act.put, List.getElem_toArray, List.getElem_cons_succ, List.getElem_cons_zero, List.setIfInBounds_toArray, List.set_cons_zero, List.set_cons_succ]
          refine wpAnyH_ready (rs := [7]) (by kernel_rfl) (by simp) ?_
          refine (AllReadyH.cons rfl (fun K hK => ?_) AllReadyH.nil)
          go_simp
          obtain ⟨wB, eB, kB, cB⟩ := rcl_box w1 r
          rw [eB]
          replace gb : Hid (Below wb.heap.size wb wB) := Lib.hid (gb.out.trans (kB.mono gb.out.size))
          replace CX : Hid (MkX wB w.heap.size r) := Lib.hid (CX.out.keep fun b _ hb => kB.block b hb)
          replace HB1 : Hid (wB.ownsRow wb.heap.size 102 4 v1 R.length (rcCells R)) := Lib.hid (owns_at HB1.out fun g e => kB.block g (HB1.out.lt g e).2)
          have CB := Lib.hid cB
          clear eB kB cB
          refine hK.out _ _ CX.out (fun _ => ?_)
          clear hK
          try simp only [Act.put, List.getElem_toArray, List.getElem_cons_succ, List.getElem_cons_zero, List.setIfInBounds_toArray, List.set_cons_zero, List.set_cons_succ]
          refine wpAnyH_ready (rs := [8]) (by kernel_rfl) (by simp) ?_
          refine (AllReadyH.cons rfl (fun K hK => ?_) AllReadyH.nil)
          refine step_append_lies wB rfl _ _ 52 rfl wb.heap.size 102 i0 _ 4 64 Try.underlying52 hi hz0 hz1 hz2 rfl (by decide) v1 R.length (rcCells R) rfl HB1.out ⟨w1.heap.size, 0, none⟩ 1 1 (rcL r) rfl rfl CB.out (rcl_one r F12.out) (by decide) (by have := HL.out; unfold maxLen; omega) (by have := HL.out; omega) gb.out.size _ rfl ?_
          intro g cp w3 hown hgrow hg hlt
          have KG : Hid (Below wb.heap.size wb w3) := Lib.hid (gb.out.grown hgrow gb.out.size fun k e => (HB1.out.lt k e).1)
          have CX3 : Hid (MkX w3 w.heap.size r) := Lib.hid (CX.out.keep fun b hb hl => hgrow.block b hl fun e => NB1.out b hb e.symm)
          replace CX := CX3
          have GG : Hid (w.heap.size ≤ g) := Lib.hid (Nat.le_trans KB.out.size (hown.lt g rfl).1)
          have MD := Lib.hid (HWB.out.made HOB.out r HRw.out HK.out HL.out HU.out KG.out g cp hown)
          have f0 : w3.frozen? ⟨rb, 0, none⟩ = false := freeAt ((KG.out.block _ (blk_lt HWB.out.hdr)).trans HWB.out.hdr) 0
          have c0 : w3.cell? ⟨rb, 0, none⟩ = some v := cellAt ((KG.out.block _ (blk_lt HWB.out.hdr)).trans HWB.out.hdr) 0
          clear hown hgrow hg hlt CX3
          refine hK.out _ _ CX.out (fun _ => ?_)
          clear hK
          try simp only [Act.put, List.getElem_toArray, List.getElem_cons_succ, List.getElem_cons_zero, List.setIfInBounds_toArray, List.set_cons_zero, List.set_cons_succ]
          refine wpAnyH_take (i := 9) (v := ptr rb) rfl (by kernel_rfl) (by kernel_rfl) (by kernel_rfl) (fun _ _ _ h => h) (Or.inl ⟨by rfl, fun wx hS => ?_⟩) CX.out ?_
          · go_simp
          try simp only [Act.put, List.getElem_toArray, List.getElem_cons_succ, List.getElem_cons_zero, List.setIfInBounds_toArray, List.set_cons_zero, List.set_cons_succ]
          refine wpAnyH_take (i := 10) (v := .pointer (some ⟨rb, 0, none⟩)) rfl (by kernel_rfl) (by kernel_rfl) (by kernel_rfl) (fun _ _ _ h => h) (Or.inl ⟨by rfl, fun wx hS => ?_⟩) CX.out ?_
          · go_simp
          try simp only [Act.put, List.getElem_toArray, List.getElem_cons_succ, List.getElem_cons_zero, List.setIfInBounds_toArray, List.set_cons_zero, List.set_cons_succ]
          refine wpAnyH_ready (rs := [11]) (by kernel_rfl) (by simp) ?_
          refine (AllReadyH.cons rfl (fun K hK => ?_) AllReadyH.nil)
          go_simp
          have on4 : Only rb w3 (w3.setCell ⟨rb, 0, none⟩ (.slice (some ⟨g, 0, none⟩) (R.length + 1) cp)) := (Only.refl _ _).set 0 _
          have CX4 := CX.out.keep (w' := w3.setCell ⟨rb, 0, none⟩ (.slice (some ⟨g, 0, none⟩) (R.length + 1) cp)) fun b hb _ => on4.block b (by have := HRB.out; omega)
          refine hK.out _ _ CX4 (fun _ => ?_)
          clear hK
          refine wpAnyH_done (by kernel_rfl) ?_ _
          (try refine no_panic ?_)
          go_wp2_with fail
          go_meet
          exact ⟨⟨_, MD.out.kept (fun b q => q.imp id fun q => ⟨q.1, by rw [on4.size]; exact q.2⟩) (Nat.le_refl _) fun _ _ _ => rfl, fun g' e => own_of_eq GG.out e⟩, (below_kept (below_and KB.out KG.out)).trans (kept_only on4 fun q => q.2 rfl), CX4.1, CX4.2⟩
        · go_simp
          obtain ⟨wB, eB, kB, cB⟩ := rcl_box wd r
          rw [eB]
          replace gb : Hid (Below wb.heap.size wb wB) := Lib.hid (gb.out.trans (kB.mono gb.out.size))
          replace CX : Hid (MkX wB w.heap.size r) := Lib.hid (CX.out.keep fun b _ hb => kB.block b hb)
          skip
          have CB := Lib.hid cB
          clear eB kB cB
          refine hK.out _ _ CX.out (fun _ => ?_)
          clear hK
          try simp only [Act.put, List.getElem_toArray, List.getElem_cons_succ, List.getElem_cons_zero, List.setIfInBounds_toArray, List.set_cons_zero, List.set_cons_succ]
          refine wpAnyH_ready (rs := [5]) (by kernel_rfl) (by simp) ?_
          refine (AllReadyH.cons rfl (fun K hK => ?_) AllReadyH.nil)
          refine step_append_ex rfl _ _ 52 rfl (.slice none 0 0) (.slice p R.length cap) rfl rfl _ (HCP.out _ gb.out _) ?_
          rintro v1 w1 ⟨hown, k1, hnil⟩
          have HB1 : Hid (w1.ownsRow wb.heap.size 102 4 v1 R.length (rcCells R)) := Lib.hid (hown.mono gb.out.size)
          have NB1 : Hid (∀ b, b = w.heap.size ∨ b = w.heap.size + 1 → v1.ownBlock = some b → False) := Lib.hid fun b hb e => by have := (hown.lt _ e).1; have := blk_lt CX.out.1; have := blk_lt CX.out.2; omega
          replace CB := Lib.hid (fun j u hj => cell_later k1 (CB.out j u hj))
          replace gb : Hid (Below wb.heap.size wb w1) := Lib.hid (gb.out.trans (k1.mono gb.out.size))
          replace CX : Hid (MkX w1 w.heap.size r) := Lib.hid (CX.out.keep fun b _ hb => k1.block b hb)
          clear hown k1 hnil
          refine hK.out _ _ CX.out (fun _ => ?_)
          clear hK
          try simp only [Act.put, List.getElem_toArray, List.getElem_cons_succ, List.getElem_cons_zero, List.setIfInBounds_toArray, List.set_cons_zero, List.set_cons_succ]
          refine wpAnyH_ready (rs := [8]) (by kernel_rfl) (by simp) ?_
          refine (AllReadyH.cons rfl (fun K hK => ?_) AllReadyH.nil)
          refine step_append_lies w1 rfl _ _ 52 rfl wb.heap.size 102 i0 _ 4 64 Try.underlying52 hi hz0 hz1 hz2 rfl (by decide) v1 R.length (rcCells R) rfl HB1.out ⟨wd.heap.size, 0, none⟩ 1 1 (rcL r) rfl rfl CB.out (rcl_one r F12.out) (by decide) (by have := HL.out; unfold maxLen; omega) (by have := HL.out; omega) gb.out.size _ rfl ?_
          intro g cp w3 hown hgrow hg hlt
          have KG : Hid (Below wb.heap.size wb w3) := Lib.hid (gb.out.grown hgrow gb.out.size fun k e => (HB1.out.lt k e).1)
          have CX3 : Hid (MkX w3 w.heap.size r) := Lib.hid (CX.out.keep fun b hb hl => hgrow.block b hl fun e => NB1.out b hb e.symm)
          replace CX := CX3
          have GG : Hid (w.heap.size ≤ g) := Lib.hid (Nat.le_trans KB.out.size (hown.lt g rfl).1)
          have MD := Lib.hid (HWB.out.made HOB.out r HRw.out HK.out HL.out HU.out KG.out g cp hown)
          have f0 : w3.frozen? ⟨rb, 0, none⟩ = false := freeAt ((KG.out.block _ (blk_lt HWB.out.hdr)).trans HWB.out.hdr) 0
          have c0 : w3.cell? ⟨rb, 0, none⟩ = some v := cellAt ((KG.out.block _ (blk_lt HWB.out.hdr)).trans HWB.out.hdr) 0
          clear hown hgrow hg hlt CX3
          refine hK.out _ _ CX.out (fun _ => ?_)
          clear hK
          try simp only [Act.put, List.getElem_toArray, List.getElem_cons_succ, List.getElem_cons_zero, List.setIfInBounds_toArray, List.set_cons_zero, List.set_cons_succ]
          refine wpAnyH_take (i := 9) (v := ptr rb) rfl (by kernel_rfl) (by kernel_rfl) (by kernel_rfl) (fun _ _ _ h => h) (Or.inl ⟨by rfl, fun wx hS => ?_⟩) CX.out ?_
          · go_simp
          try simp only [Act.put, List.getElem_toArray, List.getElem_cons_succ, List.getElem_cons_zero, List.setIfInBounds_toArray, List.set_cons_zero, List.set_cons_succ]
          refine wpAnyH_take (i := 10) (v := .pointer (some ⟨rb, 0, none⟩)) rfl (by kernel_rfl) (by kernel_rfl) (by kernel_rfl) (fun _ _ _ h => h) (Or.inl ⟨by rfl, fun wx hS => ?_⟩) CX.out ?_
          · go_simp
          try simp only [Act.put, List.getElem_toArray, List.getElem_cons_succ, List.getElem_cons_zero, List.setIfInBounds_toArray, List.set_cons_zero, List.set_cons_succ]
          refine wpAnyH_ready (rs := [11]) (by kernel_rfl) (by simp) ?_
          refine (AllReadyH.cons rfl (fun K hK => ?_) AllReadyH.nil)
          go_simp
          have on4 : Only rb w3 (w3.setCell ⟨rb, 0, none⟩ (.slice (some ⟨g, 0, none⟩) (R.length + 1) cp)) := (Only.refl _ _).set 0 _
          have CX4 := CX.out.keep (w' := w3.setCell ⟨rb, 0, none⟩ (.slice (some ⟨g, 0, none⟩) (R.length + 1) cp)) fun b hb _ => on4.block b (by have := HRB.out; omega)
          refine hK.out _ _ CX4 (fun _ => ?_)
          clear hK
          refine wpAnyH_done (by kernel_rfl) ?_ _
          (try refine no_panic ?_)
          go_wp2_with fail
          go_meet
          exact ⟨⟨_, MD.out.kept (fun b q => q.imp id fun q => ⟨q.1, by rw [on4.size]; exact q.2⟩) (Nat.le_refl _) fun _ _ _ => rfl, fun g' e => own_of_eq GG.out e⟩, (below_kept (below_and KB.out KG.out)).trans (kept_only on4 fun q => q.2 rfl), CX4.1, CX4.2⟩
      · -- the new cell first
        go_simp
        obtain ⟨wB, eB, kB, cB⟩ := rcl_box wd r
        rw [eB]
        replace gb : Hid (Below wb.heap.size wb wB) := Lib.hid (gb.out.trans (kB.mono gb.out.size))
        replace CX : Hid (MkX wB w.heap.size r) := Lib.hid (CX.out.keep fun b _ hb => kB.block b hb)
        replace h0 := cell_later kB h0
        have CB := Lib.hid cB
        clear eB kB cB
        refine hK.out _ _ CX.out (fun _ => ?_)
        clear hK
        try simp only [Act.put, List.getElem_toArray, List.getElem_cons_succ, List.getElem_cons_zero, List.setIfInBounds_toArray, List.set_cons_zero, List.set_cons_succ]
        refine wpAnyH_ready (rs := [4]) (by kernel_rfl) (by simp) ?_
        refine (AllReadyH.cons rfl (fun K hK => ?_) AllReadyH.nil)
        go_simp
        refine hK.out _ _ CX.out (fun _ => ?_)
        clear hK
        try simp only [Act.put, List.getElem_toArray, List.getElem_cons_succ, List.getElem_cons_zero, List.setIfInBounds_toArray, List.set_cons_zero, List.set_cons_succ]
        refine wpAnyH_ready (rs := [5]) (by kernel_rfl) (by simp) ?_
        refine (AllReadyH.cons rfl (fun K hK => ?_) AllReadyH.nil)
        refine step_append_ex rfl _ _ 52 rfl (.slice none 0 0) (.slice p R.length cap) rfl rfl _ (HCP.out _ gb.out _) ?_
        rintro v1 w1 ⟨hown, k1, hnil⟩
        have HB1 : Hid (w1.ownsRow wb.heap.size 102 4 v1 R.length (rcCells R)) := Lib.hid (hown.mono gb.out.size)
        have NB1 : Hid (∀ b, b = w.heap.size ∨ b = w.heap.size + 1 → v1.ownBlock = some b → False) := Lib.hid fun b hb e => by have := (hown.lt _ e).1; have := blk_lt CX.out.1; have := blk_lt CX.out.2; omega
        replace CB := Lib.hid (fun j u hj => cell_later k1 (CB.out j u hj))
        replace gb : Hid (Below wb.heap.size wb w1) := Lib.hid (gb.out.trans (k1.mono gb.out.size))
        replace CX : Hid (MkX w1 w.heap.size r) := Lib.hid (CX.out.keep fun b _ hb => k1.block b hb)
        clear hown k1 hnil
        refine hK.out _ _ CX.out (fun _ => ?_)
        clear hK
        try simp only [Act.put, List.getElem_toArray, List.getElem_cons_succ, List.getElem_cons_zero, List.setIfInBounds_toArray, List.set_cons_zero, List.set_cons_succ]
        refine wpAnyH_ready (rs := [8]) (by kernel_rfl) (by simp) ?_
        refine (AllReadyH.cons rfl (fun K hK => ?_) AllReadyH.nil)
        refine step_append_lies w1 rfl _ _ 52 rfl wb.heap.size 102 i0 _ 4 64 Try.underlying52 hi hz0 hz1 hz2 rfl (by decide) v1 R.length (rcCells R) rfl HB1.out ⟨wd.heap.size, 0, none⟩ 1 1 (rcL r) rfl rfl CB.out (rcl_one r F12.out) (by decide) (by have := HL.out; unfold maxLen; omega) (by have := HL.out; omega) gb.out.size _ rfl ?_
        intro g cp w3 hown hgrow hg hlt
        have KG : Hid (Below wb.heap.size wb w3) := Lib.hid (gb.out.grown hgrow gb.out.size fun k e => (HB1.out.lt k e).1)
        have CX3 : Hid (MkX w3 w.heap.size r) := Lib.hid (CX.out.keep fun b hb hl => hgrow.block b hl fun e => NB1.out b hb e.symm)
        replace CX := CX3
        have GG : Hid (w.heap.size ≤ g) := Lib.hid (Nat.le_trans KB.out.size (hown.lt g rfl).1)
        have MD := Lib.hid (HWB.out.made HOB.out r HRw.out HK.out HL.out HU.out KG.out g cp hown)
        have f0 : w3.frozen? ⟨rb, 0, none⟩ = false := freeAt ((KG.out.block _ (blk_lt HWB.out.hdr)).trans HWB.out.hdr) 0
        have c0 : w3.cell? ⟨rb, 0, none⟩ = some v := cellAt ((KG.out.block _ (blk_lt HWB.out.hdr)).trans HWB.out.hdr) 0
        clear hown hgrow hg hlt CX3
        refine hK.out _ _ CX.out (fun _ => ?_)
        clear hK
        try simp only [Act.put, List.getElem_toArray, List.getElem_cons_succ, List.getElem_cons_zero, List.setIfInBounds_toArray, List.set_cons_zero, List.set_cons_succ]
        refine wpAnyH_take (i := 9) (v := ptr rb) rfl (by kernel_rfl) (by kernel_rfl) (by kernel_rfl) (fun _ _ _ h => h) (Or.inl ⟨by rfl, fun wx hS => ?_⟩) CX.out ?_
        · go_simp
        try simp only [Act.put, List.getElem_toArray, List.getElem_cons_succ, List.getElem_cons_zero, List.setIfInBounds_toArray, List.set_cons_zero, List.set_cons_succ]
        refine wpAnyH_take (i := 10) (v := .pointer (some ⟨rb, 0, none⟩)) rfl (by kernel_rfl) (by kernel_rfl) (by kernel_rfl) (fun _ _ _ h => h) (Or.inl ⟨by rfl, fun wx hS => ?_⟩) CX.out ?_
        · go_simp
        try simp only [Act.put, List.getElem_toArray, List.getElem_cons_succ, List.getElem_cons_zero, List.setIfInBounds_toArray, List.set_cons_zero, List.set_cons_succ]
        refine wpAnyH_ready (rs := [11]) (by kernel_rfl) (by simp) ?_
        refine (AllReadyH.cons rfl (fun K hK => ?_) AllReadyH.nil)
        go_simp
        have on4 : Only rb w3 (w3.setCell ⟨rb, 0, none⟩ (.slice (some ⟨g, 0, none⟩) (R.length + 1) cp)) := (Only.refl _ _).set 0 _
        have CX4 := CX.out.keep (w' := w3.setCell ⟨rb, 0, none⟩ (.slice (some ⟨g, 0, none⟩) (R.length + 1) cp)) fun b hb _ => on4.block b (by have := HRB.out; omega)
        refine hK.out _ _ CX4 (fun _ => ?_)
        clear hK
        refine wpAnyH_done (by kernel_rfl) ?_ _
        (try refine no_panic ?_)
        go_wp2_with fail
        go_meet
        exact ⟨⟨_, MD.out.kept (fun b q => q.imp id fun q => ⟨q.1, by rw [on4.size]; exact q.2⟩) (Nat.le_refl _) fun _ _ _ => rfl, fun g' e => own_of_eq GG.out e⟩, (below_kept (below_and KB.out KG.out)).trans (kept_only on4 fun q => q.2 rfl), CX4.1, CX4.2⟩
    case rest =>
      obtain ⟨⟨v', rh, nv⟩, kp, cb, ob⟩ := hcut
      have NV := Lib.hid nv
      clear nv
      obtain ⟨N1, hN1⟩ : ∃ N1, R.length + 1 = N1 := ⟨_, rfl⟩
      obtain ⟨p', cap', ev', _⟩ := rh.row.form
      rw [List.length_append, List.length_singleton, hN1] at ev'
      have hd : wc.cell? ⟨rb, 0, none⟩ = some (.slice p' N1 cap') := by rw [← ev']; exact rh.hcell
      have ck : wc.cell? ⟨w.heap.size, 0, none⟩ = some (.int .i64 r.c.k) := cellAt cb 0
      have e4 : IntKind.i64.wrap ((N1 : Int) - 1) = R.length := by rw [IntWalk.i64_in _ (by have := HL.out; omega)]; omega
      have HN1 := Lib.hid hN1
      have RHc := Lib.hid rh
      have KP := Lib.hid kp
      have CBx := Lib.hid cb
      have OBx := Lib.hid ob
      clear hN1 rh kp cb ob ev'
      go_upto_region 4 with fail
      have hd' : wc.drew.cell? ⟨rb, 0, none⟩ = some (.slice p' N1 cap') := hd
      have ck' : wc.drew.cell? ⟨w.heap.size, 0, none⟩ = some (.int .i64 r.c.k) := ck
      go_region_held3 (fun wx => wx.cell? ⟨rb, 0, none⟩ = some (.slice p' N1 cap') ∧ wx.cell? ⟨w.heap.size, 0, none⟩ = some (.int .i64 r.c.k))
        (first | exact ⟨hd', ck'⟩ | exact ⟨cell_later (box_below _ _) hd', cell_later (box_below _ _) ck'⟩ | go_keep)
        (first | fail)
      obtain ⟨we, ee, ke, oe⟩ : ∃ we, (wc.alloc (.cells #[.int .i64 r.c.k, .bool false, .int .i64 R.length, .int .i64 0, .int .i64 0, .string ⟨#[]⟩] 30)).drew = we ∧ Below wc.heap.size wc we ∧ we.heap[wc.heap.size]? = some (obObj r.c.k false R.length 0 0 ⟨#[]⟩) := ⟨_, rfl, (box_below _ _).drew, heap_alloc_new _ _⟩
      rw [ee]
      have KE := Lib.hid ke
      have OE := Lib.hid oe
      have ck2 : we.cell? ⟨w.heap.size, 0, none⟩ = some (.int .i64 r.c.k) := cell_later ke ck
      have LT : Hid (w.heap.size + 1 < wc.heap.size) := Lib.hid (blk_lt OBx.out)
      have FX : Hid (∀ wz, Kept (fun b => b < wc.heap.size ∧ b ≠ w.heap.size + 1) we wz → (∃ v', RH (Plus own w wz) rb v' (R ++ [r]) wz ∧ ∀ g, v'.ownBlock = some g → w.heap.size ≤ g) ∧ Kept (fun b => b < w.heap.size ∧ b ≠ rb) w wz) := Lib.hid fun wz kz => by
        have ks : wc.heap.size ≤ wz.heap.size := Nat.le_trans KE.out.size kz.size
        refine ⟨⟨_, RHc.out.kept (fun b q => q.imp id fun q => ⟨by have := ZB.out; omega, Nat.lt_of_lt_of_le q.2 ks⟩) ks (fun b hb hl => ?_), NV.out⟩, KP.out.trans ⟨kz.os.trans KE.out.os, kz.tape.trans KE.out.tape, kz.output.trans KE.out.output, ks, fun b hb => ?_⟩⟩
        · have e : b ≠ w.heap.size + 1 := by
            rcases hb with hb | hb
            · have := HO.out b hb
              omega
            · have := ZB.out
              omega
          exact (kz.block b ⟨hl, e⟩).trans (KE.out.block b hl)
        · have hl : b < wc.heap.size := by have := LT.out; omega
          exact (kz.block b ⟨hl, by omega⟩).trans (KE.out.block b hl)
      clear ee ke oe hd ck hd' ck'
      have RE := Lib.hid ((KE.out.block _ (blk_lt OBx.out)).trans OBx.out)
      by_cases hk10 : r.c.k = 10
      · have tk : (r.c.k != 10) = false := by simp [hk10]
        have eT : T = 0 := by rw [HT.out, if_pos hk10]
        obtain ⟨c0, c1', c2', c3, c4, c5⟩ := ob_cells OE.out
        obtain ⟨⟨o0, o1, o2, o3, o4, o5⟩, g0, g1, g2, g3, g4, g5⟩ := cells6 RE.out
        have hne : wc.heap.size ≠ w.heap.size + 1 := by have := LT.out; omega
        clear hk10
        go_wp2
        (try simp only [Exit.inBlock, Exit.then])
        have on6 := only6 (w.heap.size + 1) we (.int .i64 r.c.k) (.bool false) (.int .i64 R.length) (.int .i64 0) (.int .i64 0) (.string ⟨#[]⟩)
        have fx := FX.out _ (kept_only on6 fun q => q.2 rfl)
        exact bodyPost_ret (ret_cell rfl _ _ _ _ _ _ _ _ rfl rfl (set6 RE.out _ _ _ _ _ _) Try.underlying30 rfl (by kernel_rfl)) rfl ⟨rfl, fx.1, fx.2⟩
      · have tk : (r.c.k != 10) = true := by simp [hk10]
        have eT : T = r.c.size := by rw [HT.out, if_neg hk10]
        have d1 : we.cell? ⟨w.heap.size, 1, none⟩ = some r.it := cell_later KE.out (cellAt CBx.out 1)
        have d2 : we.cell? ⟨w.heap.size, 2, none⟩ = some r.bs := cell_later KE.out (cellAt CBx.out 2)
        have d3 : we.cell? ⟨w.heap.size, 3, none⟩ = some (.bool r.c.lk) := cell_later KE.out (cellAt CBx.out 3)
        clear hk10
        go_wp2_with fail
        refine (h3.out _).mono ?_
        rintro e wf ⟨rfl, kf⟩
        have KF := Lib.hid kf
        have OF := Lib.hid ((kf.block _ (blk_lt OE.out)).trans OE.out)
        have RF := Lib.hid ((kf.block _ (blk_lt RE.out)).trans RE.out)
        clear kf ck2 d1 d2 d3
        obtain ⟨⟨o0, o1, o2, o3, o4, o5⟩, g0, g1, g2, g3, g4, g5⟩ := cells6 OF.out
        go_upto_region 7 with fail
        obtain ⟨wg, ewg⟩ : ∃ wg, wf.setCell ⟨wc.heap.size, 4, none⟩ (.int .i64 r.c.size) = wg := ⟨_, rfl⟩
        rw [ewg]
        have onG : Only wc.heap.size wf wg := by rw [← ewg]; exact (Only.refl _ _).set 4 _
        have og : wg.heap[wc.heap.size]? = some (obObj r.c.k false R.length 0 r.c.size ⟨#[]⟩) := by
          rw [← ewg, heap_setCell_same _ _ _ _ 30 _ OF.out]
          rfl
        have hne : w.heap.size + 1 ≠ wc.heap.size := by have := LT.out; omega
        have rg := (onG.block _ hne).trans RF.out
        have KG : Hid (Kept (fun b => b < wc.heap.size ∧ b ≠ w.heap.size + 1) we wg) := Lib.hid ((kept_of KF.out fun b hb => Nat.lt_of_lt_of_le hb.1 KE.out.size).trans (kept_only onG fun q => Nat.lt_irrefl _ q.1))
        have RG := Lib.hid rg
        have OG := Lib.hid og
        clear ewg onG og rg o0 o1 o2 o3 o4 o5 g0 g1 g2 g3 g4 g5 hne
        obtain ⟨c0, c1', c2', c3, c4, c5⟩ := ob_cells OG.out
        obtain ⟨⟨o0, o1, o2, o3, o4, o5⟩, g0, g1, g2, g3, g4, g5⟩ := cells6 RG.out
        go_wp2
        (try simp only [Exit.inBlock, Exit.then])
        have on6 := only6 (w.heap.size + 1) wg (.int .i64 r.c.k) (.bool false) (.int .i64 R.length) (.int .i64 0) (.int .i64 r.c.size) (.string ⟨#[]⟩)
        have fx := FX.out _ (KG.out.trans (kept_only on6 fun q => q.2 rfl))
        exact bodyPost_ret (ret_cell rfl _ _ _ _ _ _ _ _ rfl rfl (set6 RG.out _ _ _ _ _ _) Try.underlying30 rfl (by kernel_rfl)) rfl ⟨by rw [eT]; rfl, fx.1, fx.2⟩
end
end Go.Proofs.Ytlkbnldpecolbaa

/- How a stack of layer 14 lies in memory (the program's and the reference's alike); walks of New, Len, Clear, Peek. -/
namespace Go.Proofs.Ytlkbnldpecolbaa
open Go.RowKit
set_option linter.unusedVariables false
set_option linter.unusedSimpArgs false
set_option maxHeartbeats 1000000
set_option maxRecDepth 100000

/-- A stack of type T: its block sb, the slice v in it, its operands X. -/
structure Stk (T : TypeId) (sb : Nat) (v : Value) (X : List Ob) (w : World) : Prop where
  hdr : w.heap[sb]? = some (.cells #[v] T (0, 0))
  row : w.ownsRow 0 30 6 v X.length (obCells X)
  ne : v.ownBlock ≠ some sb
  len : X.length ≤ 200
/-- What a call has done to a stack: it has the operands X', and no other block has changed. -/
structure Did (T : TypeId) (sb : Nat) (v : Value) (w : World) (X' : List Ob) (w' : World) : Prop where
  ex : ∃ v', Stk T sb v' X' w' ∧ ∀ g, v'.ownBlock = some g → v.ownBlock = some g ∨ w.heap.size ≤ g
  kept : Kept (fun b => b < w.heap.size ∧ b ≠ sb ∧ v.ownBlock ≠ some b) w w'
section
variable {T : TypeId} {sb : Nat} {v : Value} {X : List Ob} {w w' : World}
theorem Stk.cell (h : Stk T sb v X w) : w.cell? ⟨sb, 0, none⟩ = some v := by
  rw [cellAt h.hdr]
  rfl
theorem Stk.free (h : Stk T sb v X w) : w.frozen? ⟨sb, 0, none⟩ = false := freeAt h.hdr 0
theorem Stk.lt (h : Stk T sb v X w) : sb < w.heap.size := blk_lt h.hdr
theorem Stk.form (h : Stk T sb v X w) : ∃ p cap, v = .slice p X.length cap := by
  obtain ⟨p, cap, e⟩ := owns_form h.row
  exact ⟨p, cap, e⟩
theorem Stk.same (h : Stk T sb v X w) (k : ∀ b, b = sb ∨ v.ownBlock = some b → w'.heap[b]? = w.heap[b]?) : Stk T sb v X w' :=
  ⟨(k _ (.inl rfl)).trans h.hdr, owns_at h.row fun g e => k g (.inr e), h.ne, h.len⟩
theorem Stk.blk (h : Stk T sb v X w) {b : Nat} (q : b = sb ∨ v.ownBlock = some b) : b < w.heap.size := by
  rcases q with rfl | q
  · exact h.lt
  · exact (h.row.lt b q).2
theorem Stk.below (h : Stk T sb v X w) (k : Below w.heap.size w w') : Stk T sb v X w' := h.same fun b q => k.block b (h.blk q)
theorem Stk.did (h : Stk T sb v X w) (k : Below w.heap.size w w') : Did T sb v w X w' := ⟨⟨v, h.below k, fun g e => .inl e⟩, kept_of k fun b q => q.1⟩
theorem Stk.nil (w : World) : Stk T w.heap.size (.slice none 0 0) [] (w.alloc (.cells #[.slice none 0 0] T)) :=
  ⟨heap_alloc_new _ _, World.ownsRow_nil _ _ _ _, by simp [Value.ownBlock], Nat.zero_le _⟩
theorem Did.store {v' : Value} {Y : List Ob} (h : Stk T sb v X w) (k : Kept (fun b => b < w.heap.size ∧ v.ownBlock ≠ some b) w w') (row : w'.ownsRow 0 30 6 v' Y.length (obCells Y)) (hg : ∀ g, v'.ownBlock = some g → v.ownBlock = some g ∨ w.heap.size ≤ g) (hY : Y.length ≤ 200) : Did T sb v w Y (w'.setCell ⟨sb, 0, none⟩ v') := by
  have hl := h.lt
  have hne : v'.ownBlock ≠ some sb := fun e => by
    rcases hg sb e with q | q
    · exact h.ne q
    · omega
  have hh : w'.heap[sb]? = some (.cells #[v] T (0, 0)) := (k.block sb ⟨hl, h.ne⟩).trans h.hdr
  refine ⟨⟨v', ⟨?_, ownsRow_setCell_other row hne _, hne, hY⟩, hg⟩, k.os, k.tape, k.output, ?_, fun b q => ?_⟩
  · rw [heap_setCell_same _ _ _ _ T _ hh]
    rfl
  · have := k.size
    simpa [World.setCell] using this
  · rw [heap_setCell_other _ _ _ _ q.2.1]
    exact k.block b ⟨q.1, q.2.2⟩
end

/-- A slice of objects that is read: its cells are those of L. -/
def Seg (w : World) (vp : Value) (L : List Ob) : Prop := (vp = .slice none 0 0 ∧ L = []) ∨ ∃ ad c, vp = .slice (some ad) L.length c ∧ ∀ j u, (obCells L)[j]? = some u → w.cell? (ad.add j) = some u
section
variable {w w' : World} {v vp : Value} {X L : List Ob}
theorem Seg.later (h : Seg w vp L) (k : Below w.heap.size w w') : Seg w' vp L := by
  rcases h with h | ⟨ad, c, e, hc⟩
  · exact .inl h
  · exact .inr ⟨ad, c, e, fun j u hj => cell_later k (hc j u hj)⟩
theorem Seg.of_owns {base : Nat} (h : w.ownsRow base 30 6 v X.length (obCells X)) : Seg w v X := by
  have hc := fun g e => h.cells (g := g) e
  rcases h.2 with ⟨rfl, h0⟩ | ⟨g, cap, cur, rfl, _⟩
  · exact .inl ⟨rfl, List.eq_nil_of_length_eq_zero h0⟩
  · exact .inr ⟨⟨g, 0, none⟩, cap, rfl, hc g rfl⟩
theorem obCells_drop (L : List Ob) (lo : Nat) (h : lo ≤ L.length) (j : Nat) : (obCells (L.drop lo))[j]? = (obCells L)[lo * 6 + j]? := by
  have e := obCells_append (L.take lo) (L.drop lo)
  rw [List.take_append_drop] at e
  rw [e, List.getElem?_append_right (by rw [obCells_length, List.length_take]; omega), obCells_length, List.length_take]
  congr 1
  omega
theorem obCells_take {L : List Ob} {k j : Nat} {u : Value} (h : (obCells (L.take k))[j]? = some u) : (obCells L)[j]? = some u := by
  have e := obCells_append (L.take k) (L.drop k)
  rw [List.take_append_drop] at e
  rw [e, List.getElem?_append_left (List.getElem?_eq_some_iff.1 h).1]
  exact h
/-- A part of a slice. -/
theorem Seg.sub {p : Option Addr} {cap : Nat} (h : Seg w (.slice p L.length cap) L) (lo hi m : Nat) (h1 : lo ≤ hi) (h2 : hi ≤ L.length) (h3 : hi ≤ m) (h4 : m ≤ cap) : Seg w (sliced p lo hi m 6) ((L.drop lo).take (hi - lo)) := by
  unfold sliced
  have hlen : ((L.drop lo).take (hi - lo)).length = hi - lo := by simp; omega
  rcases h with ⟨e, rfl⟩ | ⟨ad, c, e, hc'⟩
  · obtain ⟨rfl, _, rfl⟩ : p = none ∧ ([] : List Ob).length = 0 ∧ cap = 0 := by simpa using e
    simp at h2
    subst h2
    obtain rfl : lo = 0 := by omega
    obtain rfl : m = 0 := by omega
    exact .inl ⟨by simp, by simp⟩
  · obtain ⟨rfl, rfl⟩ : p = some ad ∧ cap = c := by simpa using e
    refine .inr ⟨if m = lo then ad else ad.add (lo * 6), m - lo, ?_, fun j u hj => ?_⟩
    · rw [hlen]
      split <;> rfl
    · have hj' := (List.getElem?_eq_some_iff.1 hj).1
      rw [obCells_length, hlen] at hj'
      have hj2 := obCells_take hj
      rw [obCells_drop _ _ (by omega)] at hj2
      rw [if_neg (by omega), Addr.add_add]
      exact hc' _ _ hj2
/-- What an append gives: the slice's own row has grown, or a new one is made. -/
structure AppOf (base : Nat) (v : Value) (Y : List Ob) (w : World) (v' : Value) (w' : World) : Prop where
  row : w'.ownsRow base 30 6 v' Y.length (obCells Y)
  grow : w.grownBy w' v.ownBlock
  own : ∀ g, v'.ownBlock = some g → v.ownBlock = some g ∨ w.heap.size ≤ g
theorem seg_append {base : Nat} (row : w.ownsRow base 30 6 v X.length (obCells X)) (s : Seg w vp L) (hb : base ≤ w.heap.size) (hX : X.length ≤ 1000) (hL : L.length ≤ 1000) (ty : TypeId) :
    ∃ v' w', (Builtin.append_ #[46, 46] ty #[v, vp]).run Try.prog w = .ok v' w' ∧ AppOf base v (X ++ L) w v' w' := by
  obtain ⟨i0, hi, hz0, hz1, hz2⟩ := info_parts info24
  rcases s with ⟨rfl, rfl⟩ | ⟨ad, c, rfl, hc⟩
  · refine ⟨v, w, ?_, ⟨by simpa using row, ⟨rfl, rfl, rfl, Nat.le_refl _, fun _ _ _ => rfl⟩, fun g e => .inl e⟩⟩
    have hu := Try.underlying46
    rcases row.2 with ⟨rfl, _⟩ | ⟨g, cap, cur, rfl, _, _, hn, _⟩
    · simp [Builtin.append_, run_underlying hu, sizeOf, typeInfo, hi, Builtin.lenOf, Builtin.firstCells, loadCells, loadCellsFrom]
    · simp [Builtin.append_, run_underlying hu, sizeOf, typeInfo, hi, Builtin.lenOf, Builtin.firstCells, loadCells, loadCellsFrom, hn, storeCells]
  · obtain ⟨v', w', hr, h2, h3, _, h5⟩ := run_append_own_at (P := Try.prog) w base 46 ty 30 i0 _ 6 56 Try.underlying46 hi hz0 hz1 hz2 rfl (by decide) v X.length (obCells X) row ad L.length c (obCells L) (obCells_length L) hc (obCells_one L) (by unfold maxLen; omega) (by omega) hb
    refine ⟨v', w', hr, ⟨by rw [List.length_append, obCells_append]; exact h2, h3, fun g e => ?_⟩⟩
    rcases h5 with q | q
    · exact .inl (q ▸ e)
    · rw [q] at e
      exact .inr (Nat.le_of_eq (Option.some.inj e))
/-- append at a plain region's list. -/
theorem wpList_append_ex {P : Program} {w : World} {ops : Array Oper} {rest : List Oper} {o : Oper} {a : Act} {Q : Exit → Act → World → Prop} (hgd : o.guard = none) (s x : Operand) (t : TypeId)
    (ho : o.op = .call { callee := .builtin .append, args := #[s, x], argTypes := #[t, t] }) (V1 V2 : Value) (hs : a.eval s = V1) (hx : a.eval x = V2) (F : Value → World → Prop) (hrun : ∃ v w', (Builtin.append_ #[t, t] o.type #[V1, V2]).run P w = .ok v w' ∧ F v w')
    (h : ∀ v w', F v w' → wpList P ops Q rest (a.put o.dst v) w') : wpList P ops Q (o :: rest) a w := by
  obtain ⟨v, w', hr, hf⟩ := hrun
  refine wpList_plain hgd fun K hK => ?_
  unfold Oper.wp
  simp [execOp, ho, resolve, invoke, builtin, hs, hx, hr, Result.andThen]
  exact hK _ _ (h v w' hf)
/-- Nobody else's block has changed. -/
theorem AppOf.kept {base : Nat} {v v' : Value} {Y : List Ob} {w w' : World} (h : AppOf base v Y w v' w') : Kept (fun b => b < w.heap.size ∧ v.ownBlock ≠ some b) w w' :=
  ⟨h.grow.os, h.grow.tape, h.grow.output, h.grow.size, fun b q => h.grow.block b q.1 fun e => q.2 e.symm⟩
theorem Stk.after {T : TypeId} {sb : Nat} {base : Nat} {w4 w5 : World} {v' : Value} {Y : List Ob} (h : Stk T sb v X w) (k : Below w.heap.size w w4) (a : AppOf base v Y w4 v' w5) (hY : Y.length ≤ 200) : Did T sb v w Y (w5.setCell ⟨sb, 0, none⟩ v') :=
  Did.store h ⟨a.grow.os.trans k.os, a.grow.tape.trans k.tape, a.grow.output.trans k.output, Nat.le_trans k.size a.grow.size, fun b q => (a.grow.block b (Nat.lt_of_lt_of_le q.1 k.size) fun e => q.2 e.symm).trans (k.block b q.1)⟩ (a.row.mono (Nat.zero_le _)) (fun g e => (a.own g e).imp id fun q => Nat.le_trans k.size q) hY
theorem ObAt.same {b : Nat} {k n a l : Int} {x : Bool} {s : ByteArray} (h : ObAt w b k x n a l s) (q : w'.heap[b]? = w.heap[b]?) : ObAt w' b k x n a l s := by
  obtain ⟨c0, c1, c2, c3, c4, c5⟩ := h
  have e : ∀ j, w'.cell? ⟨b, j, none⟩ = w.cell? ⟨b, j, none⟩ := fun j => World.cell?_of_block q
  exact ⟨(e _).trans c0, (e _).trans c1, (e _).trans c2, (e _).trans c3, (e _).trans c4, (e _).trans c5⟩
theorem ObAt.lt {b : Nat} {k n a l : Int} {x : Bool} {s : ByteArray} (h : ObAt w b k x n a l s) : b < w.heap.size := World.block_lt_of_cell? w _ h.1
end
end Go.Proofs.Ytlkbnldpecolbaa
