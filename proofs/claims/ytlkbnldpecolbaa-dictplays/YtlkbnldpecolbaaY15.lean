/- Y15: Q8, Q9, K32, Q10. -/
import Derived.Test.YtlkbnldpecolbaaY14
import Derived.Deep.CutRange
import Derived.Test.YtlkbnldpecolbaaY11
/- Walks of tympanref11: make. -/
namespace Go.Proofs.Ytlkbnldpecolbaa
open Go.RowKit
set_option linter.unusedVariables false
set_option linter.unusedSimpArgs false
set_option maxHeartbeats 1000000
set_option maxRecDepth 100000

theorem step_append_ex {P : Program} {w : World} {ops : Array Oper} {o : Oper} {a : Act} {K : Act → World → Prop} {Q : Exit → Act → World → Prop} {E : Prop} (hgd : o.guard = none) (s x : Operand) (t : TypeId)
    (ho : o.op = .call { callee := .builtin .append, args := #[s, x], argTypes := #[t, t] }) (V1 V2 : Value) (hs : a.eval s = V1) (hx : a.eval x = V2) (F : Value → World → Prop) (hrun : ∃ v w', (Builtin.append_ #[t, t] o.type #[V1, V2]).run P w = .ok v w' ∧ F v w')
    (h : ∀ v w', F v w' → K (a.put o.dst v) w') : if Region.wanted o (yielded ops a.tmps) = true then Oper.wp P o a w K Q else E := by
  obtain ⟨v, w', hr, hf⟩ := hrun
  exact step_append_run hgd s x t ho V1 V2 hs hx v w' hr (h v w' hf)
theorem info127 : (Try.prog.info? 102).map (fun i => (i.zero, i.size, i.bytes)) = some (some (.agg #[.int .i64 0, .slice none 0 0, .slice none 0 0, .bool false]), 4, 64) := by kernel_rfl
/-- The heap's slice, copied. -/
theorem cells_copy {own : Nat → Prop} {rb : Nat} {v : Value} {R : List RC} {w : World} (h : RH own rb v R w) (wx : World) (k : Below w.heap.size w wx) (ty : TypeId) :
    ∃ v' w', (Builtin.append_ #[52, 52] ty #[.slice none 0 0, v]).run Try.prog wx = .ok v' w' ∧ w'.ownsRow wx.heap.size 102 4 v' R.length (rcCells R) ∧ Below wx.heap.size wx w' ∧ (v' = .slice none 0 0 → R.length = 0) := by
  obtain ⟨i0, hi, hz0, hz1, hz2⟩ := info_parts info127
  have hl : R.length ≤ 2000 := by have := h.wf.len; rw [cels_length] at this; exact this
  refine app_copy (h.below k).row 52 102 i0 _ 4 64 Try.underlying52 hi hz0 hz1 hz2 rfl (by decide) (rcCells_length R) (rcCells_one R fun r hr => ?_) (by unfold maxLen; omega) (by omega) ty
  obtain ⟨i, hi⟩ := List.mem_iff_getElem?.1 hr
  obtain ⟨p, q, c, d, e1, e2, _⟩ := h.size hi
  exact ⟨⟨_, _, _, e1⟩, ⟨_, _, _, e2⟩⟩
theorem rcl_box (w : World) (r : RC) : ∃ wb, w.alloc (.cells #[.int .i64 r.c.k, r.it, r.bs, .bool r.c.lk] 102) = wb ∧ Below w.heap.size w wb ∧ ∀ j u, (rcL r)[j]? = some u → wb.cell? (Addr.add ⟨w.heap.size, 0, none⟩ j) = some u :=
  ⟨_, rfl, box_below _ _, fun j u h => by rw [Addr.add_mid, Nat.zero_add, cellAt (heap_alloc_new _ _)]; simpa using h⟩
theorem owns_at {w w' : World} {base : Nat} {e : TypeId} {size : Nat} {v : Value} {n : Nat} {xs : List Value} (h : w.ownsRow base e size v n xs) (k : ∀ g, v.ownBlock = some g → w'.heap[g]? = w.heap[g]?) : w'.ownsRow base e size v n xs := by
  refine ⟨h.1, ?_⟩
  rcases h.2 with hn | ⟨g, cap, cur, rfl, hb, hgg, rest⟩
  · exact .inl hn
  · refine .inr ⟨g, cap, cur, rfl, hb, ?_, rest⟩
    rw [k g rfl]
    exact hgg
theorem rcl_one (r : RC) {p1 p2 : Option Addr} {n1 n2 c1 c2 : Nat} (h : r.it = .slice p1 n1 c1 ∧ r.bs = .slice p2 n2 c2) : ∀ u ∈ rcL r, u.oneCell' = true := by
  have := rcCells_one [r] fun x hx => by
    obtain rfl : x = r := by simpa using hx
    exact ⟨⟨_, _, _, h.1⟩, ⟨_, _, _, h.2⟩⟩
  rw [rcCells_single] at this
  exact this
theorem below_kept {rb : Nat} {w w' : World} (h : Below w.heap.size w w') : Kept (fun b => b < w.heap.size ∧ b ≠ rb) w w' := ⟨h.os, h.tape, h.output, h.size, fun b hb => h.block b hb.1⟩
theorem kept_of {own : Nat → Prop} {w w' : World} (h : Below w.heap.size w w') (ho : ∀ b, own b → b < w.heap.size) : Kept own w w' := ⟨h.os, h.tape, h.output, h.size, fun b hb => h.block b (ho b hb)⟩
theorem own_of_eq {g g' m n c : Nat} (h : m ≤ g) (e : (Value.slice (some ⟨g, 0, none⟩) n c).ownBlock = some g') : m ≤ g' := by
  have : g = g' := by simpa [Value.ownBlock] using e
  omega
/-- The boxed cell and the result. -/
def MkX (wx : World) (A : Nat) (r : RC) : Prop := wx.heap[A]? = some (.cells #[.int .i64 r.c.k, r.it, r.bs, .bool r.c.lk] 102 (0, 0)) ∧ wx.heap[A + 1]? = some emptyOb
theorem MkX.keep {w w' : World} {A : Nat} {r : RC} (h : MkX w A r) (k : ∀ b, b = A ∨ b = A + 1 → b < w.heap.size → w'.heap[b]? = w.heap[b]?) : MkX w' A r := ⟨(k _ (.inl rfl) (blk_lt h.1)).trans h.1, (k _ (.inr rfl) (blk_lt h.2)).trans h.2⟩
/-- What stands behind the statement that makes the row anew. -/
structure Made (own : Nat → Prop) (rb : Nat) (R : List RC) (r : RC) (w wb wx : World) : Prop where
  rh : ∃ v', RH (Plus own wb wx) rb v' (R ++ [r]) wx ∧ ∀ g, v'.ownBlock = some g → w.heap.size ≤ g
  kept : Kept (fun b => b < w.heap.size ∧ b ≠ rb) w wx
  box : wx.heap[w.heap.size]? = some (.cells #[.int .i64 r.c.k, r.it, r.bs, .bool r.c.lk] 102 (0, 0))
  res : wx.heap[w.heap.size + 1]? = some emptyOb
section
variable {own : Nat → Prop} {rb : Nat} {v : Value} {R : List RC} {w : World}
theorem rmake_ok (h : RH own rb v R w) (ho : ∀ b, own b → b < w.heap.size) (r : RC) (hr : rowC w (Im own rb v) r.it r.c.it.length (obCells r.c.it) ∧ rowC w (Im own rb v) r.bs r.c.bs.length (byCells r.c.bs)) (hk : (r.c.k = 8 ∧ r.c.it = []) ∨ ((r.c.k = 9 ∨ r.c.k = 10) ∧ r.c.bs = [])) (hl : R.length < 2000) (hu : usedP (cels R) + r.c.size ≤ 40000)
    (T : Nat) (hT : T = if r.c.k = 10 then 0 else r.c.size) :
    Calls Try.prog 63 #[ptr rb, rcV r.c.k r.it r.bs r.c.lk] w fun e w' => e = .returned (.tuple #[obV r.c.k false R.length 0 T ⟨#[]⟩, .int .i64 0]) ∧ (∃ v', RH (Plus own w w') rb v' (R ++ [r]) w' ∧ ∀ g, v'.ownBlock = some g → w.heap.size ≤ g) ∧ Kept (fun b => b < w.heap.size ∧ b ≠ rb) w w' := by
  have H := Lib.hid h
  have HO := Lib.hid ho
  have HR := Lib.hid hr
  have HK := Lib.hid hk
  have HL := Lib.hid hl
  have HU := Lib.hid hu
  have HT := Lib.hid hT
  obtain ⟨p, cap, ev, _⟩ := h.row.form
  have h0 := h.hcell
  have HRB := Lib.hid (blk_lt h.hdr)
  obtain ⟨p1, c1, f1, _⟩ := hr.1.form
  obtain ⟨p2, c2, f2, _⟩ := hr.2.form
  have F12 := Lib.hid (And.intro f1 f2)
  have hsz : IntKind.i64.wrap ((r.c.it.length : Int) + (r.c.bs.length : Int)) = (r.c.size : Nat) := by unfold Cel.size at hu ⊢; rw [IntWalk.i64_in _ (by omega)]; omega
  have h1 : Hid (∀ wx, Below w.heap.size w wx → Calls Try.prog 38 #[ptr rb] wx fun e w' => e = .returned (.int .i64 (usedP (cels R))) ∧ Below wx.heap.size wx w') := Lib.hid fun wx kx => rused_any (h.below kx)
  have h3 : Hid (∀ wx, Calls Try.prog 74 #[rcV r.c.k r.it r.bs r.c.lk] wx fun e w' => e = .returned (.int .i64 r.c.size) ∧ Below wx.heap.size wx w') := Lib.hid fun wx => by rw [f1, f2]; exact rcsize_any r.c.k p1 p2 _ c1 _ c2 r.c.size r.c.lk wx hsz
  have t0 : ¬ ((R.length : Int) ≥ 2000) := by omega
  have e1 : IntKind.i64.wrap ((usedP (cels R) : Int) + (r.c.size : Int)) = ((usedP (cels R) + r.c.size : Nat) : Int) := by rw [IntWalk.i64_in _ (by omega)]; omega
  have t1 : ¬ (((usedP (cels R) + r.c.size : Nat) : Int) > 40000) := by omega
  rw [ev] at h0
  have H0 := Lib.hid h0
  clear h ho hr hk hl hu hT f1 f2 hsz
  go_enter Try.func63, Try.ntmps63
  go_upto_region 1 with fail
  obtain ⟨wb, eb, kb, zsz, cb, ob⟩ := rc_zero w r.c.k r.it r.bs r.c.lk
  rw [eb]
  have KB := Lib.hid kb
  have CB := Lib.hid cb
  have OB := Lib.hid ob
  clear eb kb cb ob h0
  have ZB := Lib.hid zsz
  have HWB := Lib.hid (H.out.below KB.out)
  have HOB : Hid (∀ b, own b → b < wb.heap.size) := Lib.hid fun b q => Nat.lt_of_lt_of_le (HO.out b q) KB.out.size
  have HRw : Hid (rowC wb (Im own rb v) r.it r.c.it.length (obCells r.c.it) ∧ rowC wb (Im own rb v) r.bs r.c.bs.length (byCells r.c.bs)) := Lib.hid ⟨HR.out.1.same KB.out.size fun g q hg => ⟨q, KB.out.block g hg⟩, HR.out.2.same KB.out.size fun g q hg => ⟨q, KB.out.block g hg⟩⟩
  go_cut [20] from 7 to 20 (fun c wx => c = .bool false ∧ Below wb.heap.size wb wx)
  case first =>
    have gb : Hid (Below wb.heap.size wb wb.drew) := Lib.hid (Below.refl _ wb).drew
    have mk : MkAt wb rb w.heap.size (.slice p R.length cap) r.c.k r.it r.bs r.c.lk := ⟨cell_later KB.out H0.out, cellAt CB.out 0, cellAt CB.out 1, cellAt CB.out 2, cellAt CB.out 3⟩
    have go : Hid (MkAt wb.drew rb w.heap.size (.slice p R.length cap) r.c.k r.it r.bs r.c.lk) := Lib.hid mk
    clear mk
    go_region_held3 (fun wx => wx.cell? ⟨rb, 0, none⟩ = some (.slice p R.length cap) ∧ wx.cell? ⟨w.heap.size, 0, none⟩ = some (.int .i64 r.c.k) ∧ wx.cell? ⟨w.heap.size, 1, none⟩ = some r.it ∧ wx.cell? ⟨w.heap.size, 2, none⟩ = some r.bs ∧ wx.cell? ⟨w.heap.size, 3, none⟩ = some (.bool r.c.lk))
      (first | exact go.out | go_keep)
      (first | (go_at_call 38; refine (h1.out _ (below_and KB.out gb.out)).mono ?_; rintro e we ⟨rfl, ke⟩; replace gb := Lib.hid (below_and gb.out ke); replace go := Lib.hid (go.out.later ke); clear ke) | (go_at_call 74; refine (h3.out _).mono ?_; rintro e we ⟨rfl, ke⟩; replace gb := Lib.hid (below_and gb.out ke); replace go := Lib.hid (go.out.later ke); clear ke))
    all_goals
      go_wp2_with fail
      go_meet
      exact ⟨congrArg Value.bool (decide_eq_false (by have := HU.out; omega)), gb.out⟩
  case rest =>
    obtain ⟨rfl, kb⟩ := hcut
    have KC := Lib.hid kb
    have CC := Lib.hid ((kb.block _ (blk_lt CB.out)).trans CB.out)
    have OC := Lib.hid ((kb.block _ (blk_lt OB.out)).trans OB.out)
    clear kb
    go_upto_region 3 with fail
    go_cut [30] from 22 to 32 (fun _ wx => Made own rb R r w wb wx)
    case first =>
      have h0 : wc.drew.cell? ⟨rb, 0, none⟩ = some (.slice p R.length cap) := cell_later (below_and KB.out KC.out.drew) H0.out
      have gb0 : Below wb.heap.size wb wc.drew := KC.out.drew
      have cx0 : MkX wc.drew w.heap.size r := show MkX wc w.heap.size r from ⟨CC.out, OC.out⟩
      have HCP : Hid (∀ wx, Below wb.heap.size wb wx → ∀ ty, ∃ v' w', (Builtin.append_ #[52, 52] ty #[.slice none 0 0, .slice p R.length cap]).run Try.prog wx = .ok v' w' ∧ w'.ownsRow wx.heap.size 102 4 v' R.length (rcCells R) ∧ Below wx.heap.size wx w' ∧ (v' = .slice none 0 0 → R.length = 0)) := Lib.hid fun wx kx ty => by rw [← ev]; exact cells_copy HWB.out wx kx ty
      obtain ⟨i0, hi, hz0, hz1, hz2⟩ := info_parts info127
      try refine wp_region_noPanic ?_
      refine wp_region_held_drew (S := fun wx => MkX wx w.heap.size r) (by kernel_rfl) cx0 (fun _ => ?_)
      generalize wc.drew = wd at gb0 h0 cx0 ⊢
      have gb := Lib.hid gb0
      have CX := Lib.hid cx0
      clear gb0 cx0
      refine wpAnyH_take (i := 0) (v := ptr rb) rfl (by kernel_rfl) (by kernel_rfl) (by kernel_rfl) (fun _ _ _ h => h) (Or.inl ⟨by rfl, fun wx hS => ?_⟩) CX.out ?_
      · go_simp
      try simp only [Act.put, List.getElem_toArray, List.getElem_cons_succ, List.getElem_cons_zero, List.setIfInBounds_toArray, List.set_cons_zero, List.set_cons_succ]
      refine wpAnyH_take (i := 1) (v := ptr rb) rfl (by kernel_rfl) (by kernel_rfl) (by kernel_rfl) (fun _ _ _ h => h) (Or.inl ⟨by rfl, fun wx hS => ?_⟩) CX.out ?_
      · go_simp
      try simp only [Act.put, List.getElem_toArray, List.getElem_cons_succ, List.getElem_cons_zero, List.setIfInBounds_toArray, List.set_cons_zero, List.set_cons_succ]
      refine wpAnyH_take (i := 2) (v := ptr rb) rfl (by kernel_rfl) (by kernel_rfl) (by kernel_rfl) (fun _ _ _ h => h) (Or.inl ⟨by rfl, fun wx hS => ?_⟩) CX.out ?_
      · go_simp
      try simp only [Act.put, List.getElem_toArray, List.getElem_cons_succ, List.getElem_cons_zero, List.setIfInBounds_toArray, List.set_cons_zero, List.set_cons_succ]
      refine wpAnyH_take (i := 3) (v := .pointer (some ⟨rb, 0, none⟩)) rfl (by kernel_rfl) (by kernel_rfl) (by kernel_rfl) (fun _ _ _ h => h) (Or.inl ⟨by rfl, fun wx hS => ?_⟩) CX.out ?_
      · go_simp
      try simp only [Act.put, List.getElem_toArray, List.getElem_cons_succ, List.getElem_cons_zero, List.setIfInBounds_toArray, List.set_cons_zero, List.set_cons_succ]
      refine wpAnyH_take (i := 6) (v := rcV r.c.k r.it r.bs r.c.lk) rfl (by kernel_rfl) (by kernel_rfl) (by kernel_rfl) (fun _ _ _ h => h) (Or.inl ⟨by rfl, fun wx hS => ?_⟩) CX.out ?_
      · have d0 : wx.cell? ⟨w.heap.size, 0, none⟩ = some (.int .i64 r.c.k) := cellAt hS.1 0
        have d1 : wx.cell? ⟨w.heap.size, 1, none⟩ = some r.it := cellAt hS.1 1
        have d2 : wx.cell? ⟨w.heap.size, 2, none⟩ = some r.bs := cellAt hS.1 2
        have d3 : wx.cell? ⟨w.heap.size, 3, none⟩ = some (.bool r.c.lk) := cellAt hS.1 3
        go_simp
      try simp only [Act.put, List.getElem_toArray, List.getElem_cons_succ, List.getElem_cons_zero, List.setIfInBounds_toArray, List.set_cons_zero, List.set_cons_succ]
      refine wpAnyH_ready (rs := [4, 7]) (by kernel_rfl) (by simp) ?_
      refine (AllReadyH.cons rfl (fun K hK => ?_) (AllReadyH.cons rfl (fun K hK => ?_) AllReadyH.nil))
      · -- the heap's slice first
        go_simp
        refine hK.out _ _ CX.out (fun _ => ?_)
        clear hK
        try simp only [Act.put, List.getElem_toArray, List.getElem_cons_succ, List.getElem_cons_zero, List.setIfInBounds_toArray, List.set_cons_zero, List.set_cons_succ]
        refine wpAnyH_ready (rs := [5, 7]) (by kernel_rfl) (by simp) ?_
        refine (AllReadyH.cons rfl (fun K hK => ?_) (AllReadyH.cons rfl (fun K hK => ?_) AllReadyH.nil))
        · refine step_append_ex rfl _ _ 52 rfl (.slice none 0 0) (.slice p R.length cap) rfl rfl _ (HCP.out _ gb.out _) ?_
          rintro v1 w1 ⟨hown, k1, hnil⟩
          have HB1 : Hid (w1.ownsRow wb.heap.size 102 4 v1 R.length (rcCells R)) := Lib.hid (hown.mono gb.out.size)
          have NB1 : Hid (∀ b, b = w.heap.size ∨ b = w.heap.size + 1 → v1.ownBlock = some b → False) := Lib.hid fun b hb e => by have := (hown.lt _ e).1; have := blk_lt CX.out.1; have := blk_lt CX.out.2; omega
          skip
          replace gb : Hid (Below wb.heap.size wb w1) := Lib.hid (gb.out.trans (k1.mono gb.out.size))
          replace CX : Hid (MkX w1 w.heap.size r) := Lib.hid (CX.out.keep fun b _ hb => k1.block b hb)
          clear hown k1 hnil
          refine hK.out _ _ CX.out (fun _ => ?_)
          clear hK
          try simp only [Act.put, List.getElem_toArray, List.getElem_cons_succ, List.getElem_cons_zero, List.setIfInBounds_toArray, List.set_cons_zero, List.set_cons_succ]
          refine wpAnyH_ready (rs := [7]) (by kernel_rfl) (by simp) ?_
          refine (AllReadyH.cons rfl (fun K hK => ?_) AllReadyH.nil)
          go_simp
          obtain ⟨wB, eB, kB, cB⟩ := rcl_box w1 r
          rw [eB]
          replace gb : Hid (Below wb.heap.size wb wB) := Lib.hid (gb.out.trans (kB.mono gb.out.size))
          replace CX : Hid (MkX wB w.heap.size r) := Lib.hid (CX.out.keep fun b _ hb => kB.block b hb)
          replace HB1 : Hid (wB.ownsRow wb.heap.size 102 4 v1 R.length (rcCells R)) := Lib.hid (owns_at HB1.out fun g e => kB.block g (HB1.out.lt g e).2)
          have CB := Lib.hid cB
          clear eB kB cB
          refine hK.out _ _ CX.out (fun _ => ?_)
          clear hK
          try simp only [Act.put, List.getElem_toArray, List.getElem_cons_succ, List.getElem_cons_zero, List.setIfInBounds_toArray, List.set_cons_zero, List.set_cons_succ]
          refine wpAnyH_ready (rs := [8]) (by kernel_rfl) (by simp) ?_
          refine (AllReadyH.cons rfl (fun K hK => ?_) AllReadyH.nil)
          refine step_append_lies wB rfl _ _ 52 rfl wb.heap.size 102 i0 _ 4 64 Try.underlying52 hi hz0 hz1 hz2 rfl (by decide) v1 R.length (rcCells R) rfl HB1.out ⟨w1.heap.size, 0, none⟩ 1 1 (rcL r) rfl rfl CB.out (rcl_one r F12.out) (by decide) (by have := HL.out; unfold maxLen; omega) (by have := HL.out; omega) gb.out.size _ rfl ?_
          intro g cp w3 hown hgrow hg hlt
          have KG : Hid (Below wb.heap.size wb w3) := Lib.hid (gb.out.grown hgrow gb.out.size fun k e => (HB1.out.lt k e).1)
          have CX3 : Hid (MkX w3 w.heap.size r) := Lib.hid (CX.out.keep fun b hb hl => hgrow.block b hl fun e => NB1.out b hb e.symm)
          replace CX := CX3
          have GG : Hid (w.heap.size ≤ g) := Lib.hid (Nat.le_trans KB.out.size (hown.lt g rfl).1)
          have MD := Lib.hid (HWB.out.made HOB.out r HRw.out HK.out HL.out HU.out KG.out g cp hown)
          have f0 : w3.frozen? ⟨rb, 0, none⟩ = false := freeAt ((KG.out.block _ (blk_lt HWB.out.hdr)).trans HWB.out.hdr) 0
          have c0 : w3.cell? ⟨rb, 0, none⟩ = some v := cellAt ((KG.out.block _ (blk_lt HWB.out.hdr)).trans HWB.out.hdr) 0
          clear hown hgrow hg hlt CX3
          refine hK.out _ _ CX.out (fun _ => ?_)
          clear hK
          try simp only [Act.put, List.getElem_toArray, List.getElem_cons_succ, List.getElem_cons_zero, List.setIfInBounds_toArray, List.set_cons_zero, List.set_cons_succ]
          refine wpAnyH_take (i := 9) (v := ptr rb) rfl (by kernel_rfl) (by kernel_rfl) (by kernel_rfl) (fun _ _ _ h => h) (Or.inl ⟨by rfl, fun wx hS => ?_⟩) CX.out ?_
          · go_simp
          try simp only [Act.put, List.getElem_toArray, List.getElem_cons_succ, List.getElem_cons_zero, List.setIfInBounds_toArray, List.set_cons_zero, List.set_cons_succ]
          refine wpAnyH_take (i := 10) (v := .pointer (some ⟨rb, 0, none⟩)) rfl (by kernel_rfl) (by kernel_rfl) (by kernel_rfl) (fun _ _ _ h => h) (Or.inl ⟨by rfl, fun wx hS => ?_⟩) CX.out ?_
          · go_simp
          try simp only [Act.put, List.getElem_toArray, List.getElem_cons_succ, List.getElem_cons_zero, List.setIfInBounds_toArray, List.set_cons_zero, List.set_cons_succ]
          refine wpAnyH_ready (rs := [11]) (by kernel_rfl) (by simp) ?_
          refine (AllReadyH.cons rfl (fun K hK => ?_) AllReadyH.nil)
          go_simp
          have on4 : Only rb w3 (w3.setCell ⟨rb, 0, none⟩ (.slice (some ⟨g, 0, none⟩) (R.length + 1) cp)) := (Only.refl _ _).set 0 _
          have CX4 := CX.out.keep (w' := w3.setCell ⟨rb, 0, none⟩ (.slice (some ⟨g, 0, none⟩) (R.length + 1) cp)) fun b hb _ => on4.block b (by have := HRB.out; omega)
          refine hK.out _ _ CX4 (fun _ => ?_)
          clear hK
          refine wpAnyH_done (by kernel_rfl) ?_ _
          (try refine no_panic ?_)
          go_wp2_with fail
          go_meet
          exact ⟨⟨_, MD.out.kept (fun b q => q.imp id fun q => ⟨q.1, by rw [on4.size]; exact q.2⟩) (Nat.le_refl _) fun _ _ _ => rfl, fun g' e => own_of_eq GG.out e⟩, (below_kept (below_and KB.out KG.out)).trans (kept_only on4 fun q => q.2 rfl), CX4.1, CX4.2⟩
        · go_simp
          obtain ⟨wB, eB, kB, cB⟩ := rcl_box wd r
          rw [eB]
          replace gb : Hid (Below wb.heap.size wb wB) := Lib.hid (gb.out.trans (kB.mono gb.out.size))
          replace CX : Hid (MkX wB w.heap.size r) := Lib.hid (CX.out.keep fun b _ hb => kB.block b hb)
          skip
          have CB := Lib.hid cB
          clear eB kB cB
          refine hK.out _ _ CX.out (fun _ => ?_)
          clear hK
          try simp only [Act.put, List.getElem_toArray, List.getElem_cons_succ, List.getElem_cons_zero, List.setIfInBounds_toArray, List.set_cons_zero, List.set_cons_succ]
          refine wpAnyH_ready (rs := [5]) (by kernel_rfl) (by simp) ?_
          refine (AllReadyH.cons rfl (fun K hK => ?_) AllReadyH.nil)
          refine step_append_ex rfl _ _ 52 rfl (.slice none 0 0) (.slice p R.length cap) rfl rfl _ (HCP.out _ gb.out _) ?_
          rintro v1 w1 ⟨hown, k1, hnil⟩
          have HB1 : Hid (w1.ownsRow wb.heap.size 102 4 v1 R.length (rcCells R)) := Lib.hid (hown.mono gb.out.size)
          have NB1 : Hid (∀ b, b = w.heap.size ∨ b = w.heap.size + 1 → v1.ownBlock = some b → False) := Lib.hid fun b hb e => by have := (hown.lt _ e).1; have := blk_lt CX.out.1; have := blk_lt CX.out.2; omega
          replace CB := Lib.hid (fun j u hj => cell_later k1 (CB.out j u hj))
          replace gb : Hid (Below wb.heap.size wb w1) := Lib.hid (gb.out.trans (k1.mono gb.out.size))
          replace CX : Hid (MkX w1 w.heap.size r) := Lib.hid (CX.out.keep fun b _ hb => k1.block b hb)
          clear hown k1 hnil
          refine hK.out _ _ CX.out (fun _ => ?_)
          clear hK
          try simp only [Act.put, List.getElem_toArray, List.getElem_cons_succ, List.getElem_cons_zero, List.setIfInBounds_toArray, List.set_cons_zero, List.set_cons_succ]
          refine wpAnyH_ready (rs := [8]) (by kernel_rfl) (by simp) ?_
          refine (AllReadyH.cons rfl (fun K hK => ?_) AllReadyH.nil)
          refine step_append_lies w1 rfl _ _ 52 rfl wb.heap.size 102 i0 _ 4 64 Try.underlying52 hi hz0 hz1 hz2 rfl (by decide) v1 R.length (rcCells R) rfl HB1.out ⟨wd.heap.size, 0, none⟩ 1 1 (rcL r) rfl rfl CB.out (rcl_one r F12.out) (by decide) (by have := HL.out; unfold maxLen; omega) (by have := HL.out; omega) gb.out.size _ rfl ?_
          intro g cp w3 hown hgrow hg hlt
          have KG : Hid (Below wb.heap.size wb w3) := Lib.hid (gb.out.grown hgrow gb.out.size fun k e => (HB1.out.lt k e).1)
          have CX3 : Hid (MkX w3 w.heap.size r) := Lib.hid (CX.out.keep fun b hb hl => hgrow.block b hl fun e => NB1.out b hb e.symm)
          replace CX := CX3
          have GG : Hid (w.heap.size ≤ g) := Lib.hid (Nat.le_trans KB.out.size (hown.lt g rfl).1)
          have MD := Lib.hid (HWB.out.made HOB.out r HRw.out HK.out HL.out HU.out KG.out g cp hown)
          have f0 : w3.frozen? ⟨rb, 0, none⟩ = false := freeAt ((KG.out.block _ (blk_lt HWB.out.hdr)).trans HWB.out.hdr) 0
          have c0 : w3.cell? ⟨rb, 0, none⟩ = some v := cellAt ((KG.out.block _ (blk_lt HWB.out.hdr)).trans HWB.out.hdr) 0
          clear hown hgrow hg hlt CX3
          refine hK.out _ _ CX.out (fun _ => ?_)
          clear hK
          try simp only [Act.put, List.getElem_toArray, List.getElem_cons_succ, List.getElem_cons_zero, List.setIfInBounds_toArray, List.set_cons_zero, List.set_cons_succ]
          refine wpAnyH_take (i := 9) (v := ptr rb) rfl (by kernel_rfl) (by kernel_rfl) (by kernel_rfl) (fun _ _ _ h => h) (Or.inl ⟨by rfl, fun wx hS => ?_⟩) CX.out ?_
          · go_simp
          try simp only [Act.put, List.getElem_toArray, List.getElem_cons_succ, List.getElem_cons_zero, List.setIfInBounds_toArray, List.set_cons_zero, List.set_cons_succ]
          refine wpAnyH_take (i := 10) (v := .pointer (some ⟨rb, 0, none⟩)) rfl (by kernel_rfl) (by kernel_rfl) (by kernel_rfl) (fun _ _ _ h => h) (Or.inl ⟨by rfl, fun wx hS => ?_⟩) CX.out ?_
          · go_simp
          try simp only [Act.put, List.getElem_toArray, List.getElem_cons_succ, List.getElem_cons_zero, List.setIfInBounds_toArray, List.set_cons_zero, List.set_cons_succ]
          refine wpAnyH_ready (rs := [11]) (by kernel_rfl) (by simp) ?_
          refine (AllReadyH.cons rfl (fun K hK => ?_) AllReadyH.nil)
          go_simp
          have on4 : Only rb w3 (w3.setCell ⟨rb, 0, none⟩ (.slice (some ⟨g, 0, none⟩) (R.length + 1) cp)) := (Only.refl _ _).set 0 _
          have CX4 := CX.out.keep (w' := w3.setCell ⟨rb, 0, none⟩ (.slice (some ⟨g, 0, none⟩) (R.length + 1) cp)) fun b hb _ => on4.block b (by have := HRB.out; omega)
          refine hK.out _ _ CX4 (fun _ => ?_)
          clear hK
          refine wpAnyH_done (by kernel_rfl) ?_ _
          (try refine no_panic ?_)
          go_wp2_with fail
          go_meet
          exact ⟨⟨_, MD.out.kept (fun b q => q.imp id fun q => ⟨q.1, by rw [on4.size]; exact q.2⟩) (Nat.le_refl _) fun _ _ _ => rfl, fun g' e => own_of_eq GG.out e⟩, (below_kept (below_and KB.out KG.out)).trans (kept_only on4 fun q => q.2 rfl), CX4.1, CX4.2⟩
      · -- the new cell first
        go_simp
        obtain ⟨wB, eB, kB, cB⟩ := rcl_box wd r
        rw [eB]
        replace gb : Hid (Below wb.heap.size wb wB) := Lib.hid (gb.out.trans (kB.mono gb.out.size))
        replace CX : Hid (MkX wB w.heap.size r) := Lib.hid (CX.out.keep fun b _ hb => kB.block b hb)
        replace h0 := cell_later kB h0
        have CB := Lib.hid cB
        clear eB kB cB
        refine hK.out _ _ CX.out (fun _ => ?_)
        clear hK
        try simp only [Act.put, List.getElem_toArray, List.getElem_cons_succ, List.getElem_cons_zero, List.setIfInBounds_toArray, List.set_cons_zero, List.set_cons_succ]
        refine wpAnyH_ready (rs := [4]) (by kernel_rfl) (by simp) ?_
        refine (AllReadyH.cons rfl (fun K hK => ?_) AllReadyH.nil)
        go_simp
        refine hK.out _ _ CX.out (fun _ => ?_)
        clear hK
        try simp only [Act.put, List.getElem_toArray, List.getElem_cons_succ, List.getElem_cons_zero, List.setIfInBounds_toArray, List.set_cons_zero, List.set_cons_succ]
        refine wpAnyH_ready (rs := [5]) (by kernel_rfl) (by simp) ?_
        refine (AllReadyH.cons rfl (fun K hK => ?_) AllReadyH.nil)
        refine step_append_ex rfl _ _ 52 rfl (.slice none 0 0) (.slice p R.length cap) rfl rfl _ (HCP.out _ gb.out _) ?_
        rintro v1 w1 ⟨hown, k1, hnil⟩
        have HB1 : Hid (w1.ownsRow wb.heap.size 102 4 v1 R.length (rcCells R)) := Lib.hid (hown.mono gb.out.size)
        have NB1 : Hid (∀ b, b = w.heap.size ∨ b = w.heap.size + 1 → v1.ownBlock = some b → False) := Lib.hid fun b hb e => by have := (hown.lt _ e).1; have := blk_lt CX.out.1; have := blk_lt CX.out.2; omega
        replace CB := Lib.hid (fun j u hj => cell_later k1 (CB.out j u hj))
        replace gb : Hid (Below wb.heap.size wb w1) := Lib.hid (gb.out.trans (k1.mono gb.out.size))
        replace CX : Hid (MkX w1 w.heap.size r) := Lib.hid (CX.out.keep fun b _ hb => k1.block b hb)
        clear hown k1 hnil
        refine hK.out _ _ CX.out (fun _ => ?_)
        clear hK
        try simp only [Act.put, List.getElem_toArray, List.getElem_cons_succ, List.getElem_cons_zero, List.setIfInBounds_toArray, List.set_cons_zero, List.set_cons_succ]
        refine wpAnyH_ready (rs := [8]) (by kernel_rfl) (by simp) ?_
        refine (AllReadyH.cons rfl (fun K hK => ?_) AllReadyH.nil)
        refine step_append_lies w1 rfl _ _ 52 rfl wb.heap.size 102 i0 _ 4 64 Try.underlying52 hi hz0 hz1 hz2 rfl (by decide) v1 R.length (rcCells R) rfl HB1.out ⟨wd.heap.size, 0, none⟩ 1 1 (rcL r) rfl rfl CB.out (rcl_one r F12.out) (by decide) (by have := HL.out; unfold maxLen; omega) (by have := HL.out; omega) gb.out.size _ rfl ?_
        intro g cp w3 hown hgrow hg hlt
        have KG : Hid (Below wb.heap.size wb w3) := Lib.hid (gb.out.grown hgrow gb.out.size fun k e => (HB1.out.lt k e).1)
        have CX3 : Hid (MkX w3 w.heap.size r) := Lib.hid (CX.out.keep fun b hb hl => hgrow.block b hl fun e => NB1.out b hb e.symm)
        replace CX := CX3
        have GG : Hid (w.heap.size ≤ g) := Lib.hid (Nat.le_trans KB.out.size (hown.lt g rfl).1)
        have MD := Lib.hid (HWB.out.made HOB.out r HRw.out HK.out HL.out HU.out KG.out g cp hown)
        have f0 : w3.frozen? ⟨rb, 0, none⟩ = false := freeAt ((KG.out.block _ (blk_lt HWB.out.hdr)).trans HWB.out.hdr) 0
        have c0 : w3.cell? ⟨rb, 0, none⟩ = some v := cellAt ((KG.out.block _ (blk_lt HWB.out.hdr)).trans HWB.out.hdr) 0
        clear hown hgrow hg hlt CX3
        refine hK.out _ _ CX.out (fun _ => ?_)
        clear hK
        try simp only [Act.put, List.getElem_toArray, List.getElem_cons_succ, List.getElem_cons_zero, List.setIfInBounds_toArray, List.set_cons_zero, List.set_cons_succ]
        refine wpAnyH_take (i := 9) (v := ptr rb) rfl (by kernel_rfl) (by kernel_rfl) (by kernel_rfl) (fun _ _ _ h => h) (Or.inl ⟨by rfl, fun wx hS => ?_⟩) CX.out ?_
        · go_simp
        try simp only [Act.put, List.getElem_toArray, List.getElem_cons_succ, List.getElem_cons_zero, List.setIfInBounds_toArray, List.set_cons_zero, List.set_cons_succ]
        refine wpAnyH_take (i := 10) (v := .pointer (some ⟨rb, 0, none⟩)) rfl (by kernel_rfl) (by kernel_rfl) (by kernel_rfl) (fun _ _ _ h => h) (Or.inl ⟨by rfl, fun wx hS => ?_⟩) CX.out ?_
        · go_simp
        try simp only [Act.put, List.getElem_toArray, List.getElem_cons_succ, List.getElem_cons_zero, List.setIfInBounds_toArray, List.set_cons_zero, List.set_cons_succ]
        refine wpAnyH_ready (rs := [11]) (by kernel_rfl) (by simp) ?_
        refine (AllReadyH.cons rfl (fun K hK => ?_) AllReadyH.nil)
        go_simp
        have on4 : Only rb w3 (w3.setCell ⟨rb, 0, none⟩ (.slice (some ⟨g, 0, none⟩) (R.length + 1) cp)) := (Only.refl _ _).set 0 _
        have CX4 := CX.out.keep (w' := w3.setCell ⟨rb, 0, none⟩ (.slice (some ⟨g, 0, none⟩) (R.length + 1) cp)) fun b hb _ => on4.block b (by have := HRB.out; omega)
        refine hK.out _ _ CX4 (fun _ => ?_)
        clear hK
        refine wpAnyH_done (by kernel_rfl) ?_ _
        (try refine no_panic ?_)
        go_wp2_with fail
        go_meet
        exact ⟨⟨_, MD.out.kept (fun b q => q.imp id fun q => ⟨q.1, by rw [on4.size]; exact q.2⟩) (Nat.le_refl _) fun _ _ _ => rfl, fun g' e => own_of_eq GG.out e⟩, (below_kept (below_and KB.out KG.out)).trans (kept_only on4 fun q => q.2 rfl), CX4.1, CX4.2⟩
    case rest =>
      obtain ⟨⟨v', rh, nv⟩, kp, cb, ob⟩ := hcut
      have NV := Lib.hid nv
      clear nv
      obtain ⟨N1, hN1⟩ : ∃ N1, R.length + 1 = N1 := ⟨_, rfl⟩
      obtain ⟨p', cap', ev', _⟩ := rh.row.form
      rw [List.length_append, List.length_singleton, hN1] at ev'
      have hd : wc.cell? ⟨rb, 0, none⟩ = some (.slice p' N1 cap') := by rw [← ev']; exact rh.hcell
      have ck : wc.cell? ⟨w.heap.size, 0, none⟩ = some (.int .i64 r.c.k) := cellAt cb 0
      have e4 : IntKind.i64.wrap ((N1 : Int) - 1) = R.length := by rw [IntWalk.i64_in _ (by have := HL.out; omega)]; omega
      have HN1 := Lib.hid hN1
      have RHc := Lib.hid rh
      have KP := Lib.hid kp
      have CBx := Lib.hid cb
      have OBx := Lib.hid ob
      clear hN1 rh kp cb ob ev'
      go_upto_region 4 with fail
      have hd' : wc.drew.cell? ⟨rb, 0, none⟩ = some (.slice p' N1 cap') := hd
      have ck' : wc.drew.cell? ⟨w.heap.size, 0, none⟩ = some (.int .i64 r.c.k) := ck
      go_region_held3 (fun wx => wx.cell? ⟨rb, 0, none⟩ = some (.slice p' N1 cap') ∧ wx.cell? ⟨w.heap.size, 0, none⟩ = some (.int .i64 r.c.k))
        (first | exact ⟨hd', ck'⟩ | exact ⟨cell_later (box_below _ _) hd', cell_later (box_below _ _) ck'⟩ | go_keep)
        (first | fail)
      obtain ⟨we, ee, ke, oe⟩ : ∃ we, (wc.alloc (.cells #[.int .i64 r.c.k, .bool false, .int .i64 R.length, .int .i64 0, .int .i64 0, .string ⟨#[]⟩] 30)).drew = we ∧ Below wc.heap.size wc we ∧ we.heap[wc.heap.size]? = some (obObj r.c.k false R.length 0 0 ⟨#[]⟩) := ⟨_, rfl, (box_below _ _).drew, heap_alloc_new _ _⟩
      rw [ee]
      have KE := Lib.hid ke
      have OE := Lib.hid oe
      have ck2 : we.cell? ⟨w.heap.size, 0, none⟩ = some (.int .i64 r.c.k) := cell_later ke ck
      have LT : Hid (w.heap.size + 1 < wc.heap.size) := Lib.hid (blk_lt OBx.out)
      have FX : Hid (∀ wz, Kept (fun b => b < wc.heap.size ∧ b ≠ w.heap.size + 1) we wz → (∃ v', RH (Plus own w wz) rb v' (R ++ [r]) wz ∧ ∀ g, v'.ownBlock = some g → w.heap.size ≤ g) ∧ Kept (fun b => b < w.heap.size ∧ b ≠ rb) w wz) := Lib.hid fun wz kz => by
        have ks : wc.heap.size ≤ wz.heap.size := Nat.le_trans KE.out.size kz.size
        refine ⟨⟨_, RHc.out.kept (fun b q => q.imp id fun q => ⟨by have := ZB.out; omega, Nat.lt_of_lt_of_le q.2 ks⟩) ks (fun b hb hl => ?_), NV.out⟩, KP.out.trans ⟨kz.os.trans KE.out.os, kz.tape.trans KE.out.tape, kz.output.trans KE.out.output, ks, fun b hb => ?_⟩⟩
        · have e : b ≠ w.heap.size + 1 := by
            rcases hb with hb | hb
            · have := HO.out b hb
              omega
            · have := ZB.out
              omega
          exact (kz.block b ⟨hl, e⟩).trans (KE.out.block b hl)
        · have hl : b < wc.heap.size := by have := LT.out; omega
          exact (kz.block b ⟨hl, by omega⟩).trans (KE.out.block b hl)
      clear ee ke oe hd ck hd' ck'
      have RE := Lib.hid ((KE.out.block _ (blk_lt OBx.out)).trans OBx.out)
      by_cases hk10 : r.c.k = 10
      · have tk : (r.c.k != 10) = false := by simp [hk10]
        have eT : T = 0 := by rw [HT.out, if_pos hk10]
        obtain ⟨c0, c1', c2', c3, c4, c5⟩ := ob_cells OE.out
        obtain ⟨⟨o0, o1, o2, o3, o4, o5⟩, g0, g1, g2, g3, g4, g5⟩ := cells6 RE.out
        have hne : wc.heap.size ≠ w.heap.size + 1 := by have := LT.out; omega
        clear hk10
        go_wp2
        (try simp only [Exit.inBlock, Exit.then])
        have on6 := only6 (w.heap.size + 1) we (.int .i64 r.c.k) (.bool false) (.int .i64 R.length) (.int .i64 0) (.int .i64 0) (.string ⟨#[]⟩)
        have fx := FX.out _ (kept_only on6 fun q => q.2 rfl)
        exact bodyPost_ret (ret_cell rfl _ _ _ _ _ _ _ _ rfl rfl (set6 RE.out _ _ _ _ _ _) Try.underlying30 rfl (by kernel_rfl)) rfl ⟨rfl, fx.1, fx.2⟩
      · have tk : (r.c.k != 10) = true := by simp [hk10]
        have eT : T = r.c.size := by rw [HT.out, if_neg hk10]
        have d1 : we.cell? ⟨w.heap.size, 1, none⟩ = some r.it := cell_later KE.out (cellAt CBx.out 1)
        have d2 : we.cell? ⟨w.heap.size, 2, none⟩ = some r.bs := cell_later KE.out (cellAt CBx.out 2)
        have d3 : we.cell? ⟨w.heap.size, 3, none⟩ = some (.bool r.c.lk) := cell_later KE.out (cellAt CBx.out 3)
        clear hk10
        go_wp2_with fail
        refine (h3.out _).mono ?_
        rintro e wf ⟨rfl, kf⟩
        have KF := Lib.hid kf
        have OF := Lib.hid ((kf.block _ (blk_lt OE.out)).trans OE.out)
        have RF := Lib.hid ((kf.block _ (blk_lt RE.out)).trans RE.out)
        clear kf ck2 d1 d2 d3
        obtain ⟨⟨o0, o1, o2, o3, o4, o5⟩, g0, g1, g2, g3, g4, g5⟩ := cells6 OF.out
        go_upto_region 7 with fail
        obtain ⟨wg, ewg⟩ : ∃ wg, wf.setCell ⟨wc.heap.size, 4, none⟩ (.int .i64 r.c.size) = wg := ⟨_, rfl⟩
        rw [ewg]
        have onG : Only wc.heap.size wf wg := by rw [← ewg]; exact (Only.refl _ _).set 4 _
        have og : wg.heap[wc.heap.size]? = some (obObj r.c.k false R.length 0 r.c.size ⟨#[]⟩) := by
          rw [← ewg, heap_setCell_same _ _ _ _ 30 _ OF.out]
          rfl
        have hne : w.heap.size + 1 ≠ wc.heap.size := by have := LT.out; omega
        have rg := (onG.block _ hne).trans RF.out
        have KG : Hid (Kept (fun b => b < wc.heap.size ∧ b ≠ w.heap.size + 1) we wg) := Lib.hid ((kept_of KF.out fun b hb => Nat.lt_of_lt_of_le hb.1 KE.out.size).trans (kept_only onG fun q => Nat.lt_irrefl _ q.1))
        have RG := Lib.hid rg
        have OG := Lib.hid og
        clear ewg onG og rg o0 o1 o2 o3 o4 o5 g0 g1 g2 g3 g4 g5 hne
        obtain ⟨c0, c1', c2', c3, c4, c5⟩ := ob_cells OG.out
        obtain ⟨⟨o0, o1, o2, o3, o4, o5⟩, g0, g1, g2, g3, g4, g5⟩ := cells6 RG.out
        go_wp2
        (try simp only [Exit.inBlock, Exit.then])
        have on6 := only6 (w.heap.size + 1) wg (.int .i64 r.c.k) (.bool false) (.int .i64 R.length) (.int .i64 0) (.int .i64 r.c.size) (.string ⟨#[]⟩)
        have fx := FX.out _ (KG.out.trans (kept_only on6 fun q => q.2 rfl))
        exact bodyPost_ret (ret_cell rfl _ _ _ _ _ _ _ _ rfl rfl (set6 RG.out _ _ _ _ _ _) Try.underlying30 rfl (by kernel_rfl)) rfl ⟨by rw [eT]; rfl, fx.1, fx.2⟩
end
end Go.Proofs.Ytlkbnldpecolbaa

/- Walks of tympanref11: String, Copy, Become. -/
namespace Go.Proofs.Ytlkbnldpecolbaa
open Go.RowKit
set_option linter.unusedVariables false
set_option maxHeartbeats 1000000
set_option maxRecDepth 100000

/-- The bytes of a string, in a new row. -/
theorem bytes_world (w : World) (s : ByteArray) : ∃ w1 cap, Lib.bytesWorld w 5 s = w1 ∧ grownCap w s.size 0 5 = cap ∧ Below w.heap.size w w1 ∧ w.heap.size < w1.heap.size ∧ s.size ≤ cap ∧ ∀ j u, (byCells s.data.toList)[j]? = some u → w1.cell? ⟨w.heap.size, j, none⟩ = some u := by
  have hsz := Lib.bytesWorld_size w 5 s
  have hcap : s.size ≤ grownCap w s.size 0 5 := grownCap_ge _ _ _ _
  have hnew := Lib.bytesWorld_at_new w 5 s
  refine ⟨_, _, rfl, rfl, ⟨rfl, rfl, rfl, by omega, fun k hk => Lib.bytesWorld_at_old w 5 s k hk⟩, by omega, hcap, fun j u hj => ?_⟩
  rw [cellAt hnew]
  have ht := bytes_take w s
  have hj' := (List.getElem?_eq_some_iff.1 hj).1
  rw [← ht, List.getElem?_take_of_lt (by rw [byCells_length] at hj'; exact hj')] at hj
  simpa using hj
section
variable {own : Nat → Prop} {rb : Nat} {v : Value} {R : List RC} {w : World}
def strC (s : ByteArray) (v : Value) : RC := ⟨⟨8, false, [], s.data.toList⟩, .slice none 0 0, v⟩
theorem wpList_append_ex {P : Program} {w : World} {ops : Array Oper} {rest : List Oper} {o : Oper} {a : Act} {Q : Exit → Act → World → Prop} (hgd : o.guard = none) (s x : Operand) (t : TypeId)
    (ho : o.op = .call { callee := .builtin .append, args := #[s, x], argTypes := #[t, t] }) (V1 V2 : Value) (hs : a.eval s = V1) (hx : a.eval x = V2) (F : Value → World → Prop) (hrun : ∃ v w', (Builtin.append_ #[t, t] o.type #[V1, V2]).run P w = .ok v w' ∧ F v w')
    (h : ∀ v w', F v w' → wpList P ops Q rest (a.put o.dst v) w') : wpList P ops Q (o :: rest) a w :=
  wpList_plain hgd fun K hK => by
    obtain ⟨v, w', hr, hf⟩ := hrun
    unfold Oper.wp execOp
    simp only [ho, resolve, invoke, builtin, Sem.run_bind, Sem.run_pure, Result.andThen_ok, List.map_toArray, List.map_cons, List.map_nil, hs, hx, hr]
    exact hK _ _ (h v w' hf)
theorem frozen_own {w : World} {base : Nat} {e : TypeId} {size n : Nat} {v : Value} {cs : List Value} (h : w.ownsRow base e size v n cs) {g : Nat} (hg : v.ownBlock = some g) (j : Nat) : w.frozen? ⟨g, j, none⟩ = false := by
  rcases h.2 with ⟨rfl, _⟩ | ⟨g', cap, cur, rfl, hb, hgg, _⟩
  · cases hg
  · have : g' = g := by simpa [Value.ownBlock] using hg
    subst this
    exact freeAt hgg j
/-- A slice of cells, copied. -/
structure CopyOf (R : List RC) (w : World) (v' : Value) (w' : World) : Prop where
  own : w'.ownsRow w.heap.size 102 4 v' R.length (rcCells R)
  below : Below w.heap.size w w'
theorem cells_copyS {own : Nat → Prop} {rb : Nat} {v : Value} {R : List RC} {w : World} (h : RH own rb v R w) (ty : TypeId) : ∃ v' w', (Builtin.append_ #[52, 52] ty #[.slice none 0 0, v]).run Try.prog w = .ok v' w' ∧ CopyOf R w v' w' := by
  obtain ⟨v', w', h1, h2, h3, _⟩ := cells_copy h w (Below.refl _ w) ty
  exact ⟨v', w', h1, h2, h3⟩
theorem own_lt {v : Value} (h : RH own rb v R w) {g : Nat} (e : v.ownBlock = some g) : g < w.heap.size := by
  rcases h.row with ⟨rfl, _⟩ | ⟨g', cap', rfl, _, q, hg, _⟩
  · cases e
  · have : g' = g := by simpa [Value.ownBlock] using e
    omega
/-- A frozen heap stays behind what the live one does. -/
theorem RH.frozen {own own' : Nat → Prop} {rb fb : Nat} {v v' vF : Value} {F : List RC} {w w' : World} (hf : RH (Im own rb v) fb vF F w) (ho : ∀ b, own b → own' b) (k : Kept (fun b => b < w.heap.size ∧ b ≠ rb ∧ v.ownBlock ≠ some b) w w') (hv : v' = v ∨ ∀ g, v'.ownBlock = some g → w.heap.size ≤ g) (hl : ∀ b, own b → b < w.heap.size) : RH (Im own' rb v') fb vF F w' :=
  hf.kept (fun b q => ⟨ho b q.1, q.2.1, fun e => by
    rcases hv with rfl | hv
    · exact q.2.2 e
    · have := hv b e
      have := hl b q.1
      omega⟩) k.size fun b q hb => k.block b ⟨hb, q.2.1, q.2.2⟩
end
end Go.Proofs.Ytlkbnldpecolbaa

/- Walks of heap: Bytes of any object. -/
namespace Go.Proofs.Ytlkbnldpecolbaa
open Go.RowKit
set_option linter.unusedVariables false

theorem conv_nil (w : World) : (convert 100 9 (.slice (if 0 = 0 then none else none) (0 - 0) (0 - 0))).run Try.prog w = .ok (.string ⟨([] : List UInt8).toArray⟩) w := by kernel_rfl
theorem bytes_err (hb : Nat) (k n a l E : Int) (x : Bool) (s : ByteArray) (w : World) (hE : (E != 0) = true)
    (hf : Hid (∀ wx, Below w.heap.size w wx → Calls Try.prog 81 #[ptr hb, obV k x n a l s] wx fun e w' => e = .returned (.tuple #[pcV .nilIface 0 0, .int .i64 E]) ∧ Below wx.heap.size wx w')) :
    Calls Try.prog 91 #[ptr hb, obV k x n a l s] w fun e w' => e = .returned (.tuple #[.string ⟨#[]⟩, .int .i64 E]) ∧ Below w.heap.size w w' := by
  go_enter Try.func91, Try.ntmps91
  go_wp2_with fail
  obtain ⟨wb, eb, kb, zb, ob⟩ := ob_box w k n a l x s
  rw [eb]
  refine (hf.out _ kb).mono ?_
  rintro e wc ⟨rfl, kc⟩
  have KC := Lib.hid (below_and kb kc)
  clear eb kb zb kc ob
  go_upto_region 2 with fail
  obtain ⟨wd, ed, kd, zd, d0, d1, d2⟩ := pc_box wc .nilIface 0 0
  rw [ed]
  have KD := Lib.hid (below_and KC.out kd)
  clear ed kd zd
  go_wp2
  go_ret2
  exact ⟨rfl, KD.out⟩

theorem bytes_type (hb r : Nat) (k n a l u z : Int) (x : Bool) (s : ByteArray) (w : World)
    (hf : Hid (∀ wx, Below w.heap.size w wx → Calls Try.prog 81 #[ptr hb, obV k x n a l s] wx fun e w' => e = .returned (.tuple #[pcV (.iface 113 (ptr r)) u z, .int .i64 0]) ∧ Below wx.heap.size wx w')) :
    Calls Try.prog 91 #[ptr hb, obV k x n a l s] w fun e w' => e = .returned (.tuple #[.string ⟨#[]⟩, .int .i64 6]) ∧ Below w.heap.size w w' := by
  have ha := assert_87_95
  go_enter Try.func91, Try.ntmps91
  go_wp2_with fail
  obtain ⟨wb, eb, kb, zb, ob⟩ := ob_box w k n a l x s
  rw [eb]
  refine (hf.out _ kb).mono ?_
  rintro e wc ⟨rfl, kc⟩
  have KC := Lib.hid (below_and kb kc)
  clear eb kb zb kc ob
  go_upto_region 2 with fail
  obtain ⟨wd, ed, kd, zd, d0, d1, d2⟩ := pc_box wc (.iface 113 (ptr r)) u z
  rw [ed]
  have KD := Lib.hid (below_and KC.out kd)
  clear ed kd zd
  go_wp2
  go_ret2
  exact ⟨rfl, KD.out⟩

section
variable {role : Nat → Nat × Nat} {c hb : Nat} {vc : Value} {ivs : List Value} {pb : Nat → Nat} {rv : Nat → Value} {P : List Cel} {w : World}
theorem bytes_all_is (h : PH role c hb vc ivs pb rv P w) (o : Ob) (ho : okO P o = true) (hk : o.k = 8) :
    Calls Try.prog 91 #[ptr hb, o.val] w fun e w' => e = .returned (.tuple #[.string ⟨(bytesL P o).toArray⟩, .int .i64 0]) ∧ Below w.heap.size w w' := by
  have hf := fun wx kx => find_ok (h.below (w' := wx) kx) o ho
  obtain ⟨b0, b1, b2, b3, _, _, b6, _⟩ := ok_bd ho
  obtain ⟨n0, n1⟩ := len_in ho
  have hc := cellOf_get (P := P) (o := o) b0 b1
  have hz := h.wf.size hc
  obtain ⟨g0, cap0, rfl, _, _, hp⟩ := h.ivAt hc
  rcases hp with ⟨eT, hC⟩ | ⟨eT, hC⟩
  · have := hC.kind
    omega
  · have eT : celT (cellOf P o) = 134 := by injection eT
    have hs : (cellOf P o).size = (cellOf P o).bs.length := by simp [Cel.size, hC.it]
    rw [eT] at hf
    have ea : ((o.a.toNat : Nat) : Int) = o.a := by omega
    have el : (((lenO P o).toNat : Nat) : Int) = lenO P o := by omega
    have hlen : (bytesL P o).length = (lenO P o).toNat := by
      simp [bytesL]
      omega
    have h2 : w.cell? ⟨pb o.n.toNat, 2, none⟩ = some (rv o.n.toNat) := by
      rw [cellAt hC.blk]
      rfl
    rw [← ea, ← el] at hf
    have hrow := hC.row
    rcases hC.row with ⟨er, hnil⟩ | ⟨g, cap, cur, fr, er, hg, hfr, hcap, hsz, htk⟩
    · rw [er] at h2
      have z0 : (cellOf P o).bs.length = 0 := by rw [hnil]; rfl
      have za : o.a.toNat = 0 := by omega
      have zl : (lenO P o).toNat = 0 := by omega
      rw [za, zl] at hf
      have hb0 : bytesL P o = [] := List.eq_nil_of_length_eq_zero (by omega)
      rw [hb0]
      exact bytes_walk95 hb (pb o.n.toNat) 0 0 0 0 0 none o.k o.n o.a o.l o.x o.s _ _ w h2 rfl (Lib.hid hf) (slice58 none 0 0 0 0 (Nat.le_refl _) (Nat.le_refl _)) (Lib.hid fun wx kx => conv_nil wx)
    · rw [er] at h2 hrow
      have hsl := slice58 (some ⟨g, 0, none⟩) (cellOf P o).bs.length cap o.a.toNat (o.a.toNat + (lenO P o).toNat) (by omega) (by omega)
      rw [show o.a.toNat + (lenO P o).toNat - o.a.toNat = (lenO P o).toNat from by omega] at hsl
      refine bytes_walk95 hb (pb o.n.toNat) (cellOf P o).bs.length cap o.a.toNat (lenO P o).toNat (o.a.toNat + (lenO P o).toNat) (some ⟨g, 0, none⟩) o.k o.n o.a o.l o.x o.s _ _ w h2 (by rw [wrapi_in _ (by omega) (by omega)]; omega) (Lib.hid hf) hsl (Lib.hid fun wx kx => ?_)
      have hx : rowB wx (.slice (some ⟨g, 0, none⟩) (cellOf P o).bs.length cap) (cellOf P o).bs := rowB_same hrow fun q _ hq => kx.block q hq
      rw [← hlen]
      by_cases hcl : cap = o.a.toNat
      · rw [if_pos hcl]
        refine run_convert_bytes_back wx 100 9 5 _ _ (bytesL P o) Try.underlying100 Try.underlying5 Try.underlying9 fun j hj => ?_
        omega
      · rw [if_neg hcl]
        simp only [Option.map_some]
        refine run_convert_bytes_back wx 100 9 5 _ _ (bytesL P o) Try.underlying100 Try.underlying5 Try.underlying9 fun j hj => ?_
        rw [Addr.add_mid, Addr.add_mid, Nat.zero_add]
        refine (rowB_cell hx (by_mid (l := (cellOf P o).bs) (i := o.a.toNat) (n := (lenO P o).toNat) ?_)).1
        show (byCells (bytesL P o))[j]? = _
        rw [byCells_get, List.getElem?_eq_getElem hj]
        rfl
/-- Bytes of any object: the error, the bytes. -/
def bytE (P : List Cel) (o : Ob) : Int := if errO P o = 0 then (if o.k = 8 then 0 else 6) else errO P o
def bytV (P : List Cel) (o : Ob) : ByteArray := if errO P o = 0 ∧ o.k = 8 then ⟨(bytesL P o).toArray⟩ else ⟨#[]⟩
theorem bytes_tot (h : PH role c hb vc ivs pb rv P w) (o : Ob) : Calls Try.prog 91 #[ptr hb, o.val] w fun e w' => e = .returned (.tuple #[.string (bytV P o), .int .i64 (bytE P o)]) ∧ Below w.heap.size w w' := by
  cases ho : okO P o
  · have hE := errO_no ho
    rw [show bytE P o = errO P o from by simp [bytE, hE], show bytV P o = ⟨#[]⟩ from by simp [bytV, hE]]
    exact bytes_err hb o.k o.n o.a o.l (errO P o) o.x o.s w (by simpa using hE) (Lib.hid fun wx kx => find_no (h.below kx) o ho)
  · have hE := errO_ok ho
    by_cases hk : o.k = 8
    · rw [show bytE P o = 0 from by simp [bytE, hE, hk], show bytV P o = ⟨(bytesL P o).toArray⟩ from by simp [bytV, hE, hk]]
      exact bytes_all_is h o ho hk
    · rw [show bytE P o = 6 from by simp [bytE, hE, hk], show bytV P o = ⟨#[]⟩ from by simp [bytV, hk]]
      obtain ⟨b0, b1, _, _, _, _, b6, _⟩ := ok_bd ho
      have hc := cellOf_get (P := P) (o := o) b0 b1
      obtain ⟨g0, cap0, rfl, _, _, hp⟩ := h.ivAt hc
      have hf := fun wx kx => find_ok (h.below (w' := wx) kx) o ho
      have eT : celT (cellOf P o) = 113 := by
        rcases hp with ⟨eT, _⟩ | ⟨_, hC⟩
        · injection eT
        · have := hC.kind
          omega
      rw [eT] at hf
      exact bytes_type hb (pb o.n.toNat) o.k o.n o.a o.l o.a (lenO P o) o.x o.s w (Lib.hid hf)
end
theorem sBytes_tot {own : Nat → Prop} {hb : Nat} {P : List Cel} {w : World} (h : Sep own hb P w) (o : Ob) (B : ByteArray) (E : Int) (hB : bytV P o = B) (hE : bytE P o = E) : Calls Try.prog 91 #[ptr hb, o.val] w fun e w' => e = .returned (.tuple #[.string B, .int .i64 E]) ∧ Sep own hb P w' ∧ Kept own w w' := by
  have h0 := h
  obtain ⟨role, ⟨vc, ivs, pb, rv, h1⟩, h2⟩ := h
  refine (bytes_tot h1 o).mono ?_
  rintro e w' ⟨rfl, k⟩
  rw [hB, hE]
  exact ⟨rfl, h0.below k⟩
end Go.Proofs.Ytlkbnldpecolbaa

/- Walks of tympanref11: Bytes. -/
namespace Go.Proofs.Ytlkbnldpecolbaa
open Go.RowKit
set_option linter.unusedVariables false
set_option maxHeartbeats 1000000
set_option maxRecDepth 100000

theorem rbytes_err (rb : Nat) (k n a l u z E : Int) (x : Bool) (s : ByteArray) (w : World) (hE : (E != 0) = true)
    (h2 : Hid (∀ wx, Below w.heap.size w wx → Calls Try.prog 94 #[ptr rb, obV k x n a l s] wx fun e w' => e = .returned (.tuple #[.int .i64 u, .int .i64 z, .int .i64 E]) ∧ Below wx.heap.size wx w')) :
    Calls Try.prog 66 #[ptr rb, obV k x n a l s] w fun e w' => e = .returned (.tuple #[.string ⟨#[]⟩, .int .i64 E]) ∧ Below w.heap.size w w' := by
  go_enter Try.func66, Try.ntmps66
  go_upto_region 1 with fail
  obtain ⟨wb, eb, kb, zb, c0, c1, c2, c3, c4, c5⟩ := ob_box w k n a l x s
  rw [eb]
  go_wp2_with fail
  refine (h2.out _ kb).mono ?_
  rintro e wc ⟨rfl, kc⟩
  have KC := Lib.hid (below_and kb kc)
  clear eb kb kc c0 c1 c2 c3 c4 c5
  go_wp2
  go_ret2
  exact ⟨rfl, KC.out⟩
theorem rbytes_type (rb : Nat) (k n a l u z : Int) (x : Bool) (s : ByteArray) (w : World) (hk : (k != 8) = true)
    (h2 : Hid (∀ wx, Below w.heap.size w wx → Calls Try.prog 94 #[ptr rb, obV k x n a l s] wx fun e w' => e = .returned (.tuple #[.int .i64 u, .int .i64 z, .int .i64 0]) ∧ Below wx.heap.size wx w')) :
    Calls Try.prog 66 #[ptr rb, obV k x n a l s] w fun e w' => e = .returned (.tuple #[.string ⟨#[]⟩, .int .i64 6]) ∧ Below w.heap.size w w' := by
  go_enter Try.func66, Try.ntmps66
  go_upto_region 1 with fail
  obtain ⟨wb, eb, kb, zb, oa⟩ := ob_box w k n a l x s
  rw [eb]
  have OA := Lib.hid oa
  obtain ⟨c0, c1, c2, c3, c4, c5⟩ := oa
  go_wp2_with fail
  refine (h2.out _ kb).mono ?_
  rintro e wc ⟨rfl, kc⟩
  have KC := Lib.hid (below_and kb kc)
  have OC := OA.out.later kc
  clear eb kb kc c0 c1 c2 c3 c4 c5
  obtain ⟨c0, c1, c2, c3, c4, c5⟩ := OC
  go_wp2
  go_ret2
  exact ⟨rfl, KC.out⟩
theorem rbytes_walk (rb g z cap i lo m hi n2 c2 : Nat) (p2 : Option Addr) (a l : Int) (x : Bool) (s t : ByteArray) (V : Value) (w : World) (hiz : i < z) (h0 : w.cell? ⟨rb, 0, none⟩ = some (.slice (some ⟨g, 0, none⟩) z cap)) (d2 : w.cell? ⟨g, i * 4 + 2, none⟩ = some (.slice p2 n2 c2)) (e1 : IntKind.i64.wrap ((lo : Int) + m) = hi)
    (hsl : ∀ w : World, (Instr.slice 100 (.slice p2 n2 c2) (some (.int .i64 lo)) (some (.int .i64 hi)) none).run Try.prog w = .ok V w)
    (hc : Hid (∀ wx, Below w.heap.size w wx → (convert 100 9 V).run Try.prog wx = .ok (.string t) wx))
    (h2 : Hid (∀ wx, Below w.heap.size w wx → Calls Try.prog 94 #[ptr rb, obV 8 x i a l s] wx fun e w' => e = .returned (.tuple #[.int .i64 lo, .int .i64 m, .int .i64 0]) ∧ Below wx.heap.size wx w')) :
    Calls Try.prog 66 #[ptr rb, obV 8 x i a l s] w fun e w' => e = .returned (.tuple #[.string t, .int .i64 0]) ∧ Below w.heap.size w w' := by
  have t0 : (0 : Int) ≤ i := by omega
  have t1 : (i : Int) < z := by omega
  have DD : Hid (w.cell? ⟨rb, 0, none⟩ = some (.slice (some ⟨g, 0, none⟩) z cap) ∧ w.cell? ⟨g, i * 4 + 2, none⟩ = some (.slice p2 n2 c2)) := Lib.hid ⟨h0, d2⟩
  clear h0 d2
  go_enter Try.func66, Try.ntmps66
  go_upto_region 1 with fail
  obtain ⟨wb, eb, kb, zb, oa⟩ := ob_box w 8 i a l x s
  rw [eb]
  have OA := Lib.hid oa
  obtain ⟨c0, c1, c2', c3, c4, c5⟩ := oa
  go_wp2_with fail
  refine (h2.out _ kb).mono ?_
  rintro e wc ⟨rfl, kc⟩
  have kk := below_and kb kc
  have KC := Lib.hid kk
  have OC := OA.out.later kc
  have h0 := cell_later kk DD.out.1
  have d2 := cell_later kk DD.out.2
  have hcv : ∀ q, (convert 100 9 V).run Try.prog (wc.drewN q) = .ok (.string t) (wc.drewN q) := fun q => hc.out _ (below_and kk (below_drewN _ _))
  clear eb kb kc c0 c1 c2' c3 c4 c5 kk
  obtain ⟨c0, c1, c2', c3, c4, c5⟩ := OC
  go_wp2_with fail
  go_quiet (fail)
  go_wp2
  go_ret2
  exact ⟨rfl, below_and KC.out (below_drewN _ _)⟩
section
variable {own : Nat → Prop} {rb : Nat} {v : Value} {R : List RC} {w : World}
theorem rbytes_tot (h : RH own rb v R w) (o : Ob) : Calls Try.prog 66 #[ptr rb, o.val] w fun e w' => e = .returned (.tuple #[.string (bytV (cels R) o), .int .i64 (bytE (cels R) o)]) ∧ Below w.heap.size w w' := by
  have hr := Lib.hid (fun wx (kx : Below w.heap.size w wx) => rroom_any (h.below kx) o)
  cases ho : okO (cels R) o
  · have hE := errO_no ho
    rw [show bytE (cels R) o = errO (cels R) o from by simp [bytE, hE], show bytV (cels R) o = ⟨#[]⟩ from by simp [bytV, hE]]
    exact rbytes_err rb o.k o.n o.a o.l _ _ (errO (cels R) o) o.x o.s w (by simpa using hE) hr
  have hE := errO_ok ho
  rw [hE] at hr
  by_cases hk : o.k = 8
  · rw [show bytE (cels R) o = 0 from by simp [bytE, hE, hk], show bytV (cels R) o = ⟨(bytesL (cels R) o).toArray⟩ from by simp [bytV, hE, hk]]
    obtain ⟨b0, b1, b2, b3, b4, b5, b6, b7, b8⟩ := ok_bd ho
    obtain ⟨n0, n1⟩ := len_in ho
    rw [cels_length] at b1
    obtain ⟨r, hrr⟩ : ∃ r, R[o.n.toNat]? = some r := ⟨_, List.getElem?_eq_getElem (by omega)⟩
    obtain ⟨g, cap, ev, _, _, _, d0, d1, d2, d3⟩ := h.at hrr
    have h0 := h.hcell
    rw [ev] at h0
    have hco := h.cellOf (o := o) hrr
    rw [hco, hk] at b6
    rw [hco] at n1
    have hit : r.c.it = [] := by
      rcases h.wf.kind r.c (cell_mem (cels_get hrr)) with ⟨_, q⟩ | ⟨q, _⟩
      · exact q
      · omega
    have hs : r.c.size = r.c.bs.length := by simp [Cel.size, hit]
    have hz := h.wf.size (cels_get hrr)
    obtain ⟨p2, c2, e2, _⟩ := (h.sub _ r hrr).2.form
    have hsub := (h.sub _ r hrr).2
    rw [e2] at d2 hsub
    have en : ((o.n.toNat : Nat) : Int) = o.n := by omega
    have ea : ((o.a.toNat : Nat) : Int) = o.a := by omega
    have el : (((lenO (cels R) o).toNat : Nat) : Int) = lenO (cels R) o := by omega
    have hat : atO (cels R) o = o.a := by simp [atO, ho]
    rw [hat, ← ea, ← el] at hr
    have hv : o.val = obV 8 o.x (o.n.toNat : Nat) o.a o.l o.s := by rw [en, ← hk]; rfl
    rw [hv] at hr ⊢
    have hcap : r.c.bs.length ≤ c2 := by
      rcases hsub with ⟨q, q2, _⟩ | ⟨_, _, q, q2, _⟩
      · injection q with _ _ q3
      · injection q with _ _ q3
    have hlen : (bytesL (cels R) o).length = (lenO (cels R) o).toNat := by
      simp [bytesL, hco]
      omega
    have hsl := slice58 p2 r.c.bs.length c2 o.a.toNat (o.a.toNat + (lenO (cels R) o).toNat) (by omega) (by omega)
    rw [show o.a.toNat + (lenO (cels R) o).toNat - o.a.toNat = (lenO (cels R) o).toNat from by omega] at hsl
    refine rbytes_walk rb g R.length cap o.n.toNat o.a.toNat (lenO (cels R) o).toNat (o.a.toNat + (lenO (cels R) o).toNat) _ c2 p2 o.a o.l o.x o.s _ _ w (by omega) h0 d2 (by rw [wrapi_in _ (by omega) (by omega)]; omega) hsl (Lib.hid fun wx kx => ?_) hr
    rcases hsub with ⟨q, q2, q3⟩ | ⟨g2, cap2, q, q2, q3, q4, q5⟩
    · injection q with w1 w2 w3
      subst w1 w3
      have za : o.a.toNat = 0 := by omega
      have zl : (lenO (cels R) o).toNat = 0 := by omega
      rw [za, zl, show bytesL (cels R) o = [] from List.eq_nil_of_length_eq_zero (by omega)]
      exact conv_nil wx
    · injection q with w1 w2 w3
      subst w1 w3
      rw [← hlen]
      have hx : ∀ j u, (byCells r.c.bs)[j]? = some u → wx.cell? ⟨g2, j, none⟩ = some u := fun j u hj => by
        rw [World.cell?_of_block (w := w) (a := ⟨g2, j, none⟩) (kx.block _ q4)]
        exact q5 j u hj
      by_cases hcl : c2 = o.a.toNat
      · rw [if_pos hcl]
        refine run_convert_bytes_back wx 100 9 5 _ _ (bytesL (cels R) o) Try.underlying100 Try.underlying5 Try.underlying9 fun j hj => ?_
        omega
      · rw [if_neg hcl]
        simp only [Option.map_some]
        refine run_convert_bytes_back wx 100 9 5 _ _ (bytesL (cels R) o) Try.underlying100 Try.underlying5 Try.underlying9 fun j hj => ?_
        rw [Addr.add_mid, Addr.add_mid, Nat.zero_add]
        refine hx _ _ (by_mid (l := r.c.bs) (i := o.a.toNat) (n := (lenO (cels R) o).toNat) ?_)
        have : bytesL (cels R) o = (r.c.bs.drop o.a.toNat).take (lenO (cels R) o).toNat := by rw [bytesL, hco]
        rw [← this, byCells_get, List.getElem?_eq_getElem hj]
        rfl
  · rw [show bytE (cels R) o = 6 from by simp [bytE, hE, hk], show bytV (cels R) o = ⟨#[]⟩ from by simp [bytV, hk]]
    exact rbytes_type rb o.k o.n o.a o.l _ _ o.x o.s w (by simpa using hk) hr
end
end Go.Proofs.Ytlkbnldpecolbaa
