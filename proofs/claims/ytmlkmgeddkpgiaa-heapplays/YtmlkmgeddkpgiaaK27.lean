/- Walks of heap: twin. -/
import Derived.Test.YtmlkmgeddkpgiaaK24
import Derived.Deep.RegionHeldLaw
import Derived.Deep.RegionHeld3
namespace Go.Proofs.Ytmlkmgeddkpgiaa
open Go.RowKit
set_option linter.unusedVariables false

/-- The three cells of a cell's block. -/
def Tri (w : World) (pb : Nat) (a b c : Value) : Prop := w.cell? ⟨pb, 0, none⟩ = some a ∧ w.cell? ⟨pb, 1, none⟩ = some b ∧ w.cell? ⟨pb, 2, none⟩ = some c
theorem Tri.later {w wx : World} {pb : Nat} {a b c : Value} (h : Tri w pb a b c) (k : Below w.heap.size w wx) : Tri wx pb a b c := ⟨cell_later k h.1, cell_later k h.2.1, cell_later k h.2.2⟩

set_option maxRecDepth 100000 in
theorem itwin_walk (pb m z cap : Nat) (p : Option Addr) (kk : Int) (lk : Bool) (l : List Ob) (w : World) (c0 : w.cell? ⟨pb, 0, none⟩ = some (.int .i64 kk)) (c1 : w.cell? ⟨pb, 1, none⟩ = some (.bool lk)) (c2 : w.cell? ⟨pb, 2, none⟩ = some (.slice p z cap))
    (hc : Hid (∀ wx, Below w.heap.size w wx → Calls Try.prog 111 #[.slice p z cap] wx fun e w' => ∃ v, e = .returned v ∧ w'.ownsRow wx.heap.size 24 6 v m (obCells l) ∧ Below wx.heap.size wx w')) :
    Calls Try.prog 161 #[ptr pb] w fun e w' => ∃ v w1, e = .returned (.iface 156 (ptr w1.heap.size)) ∧ w1.ownsRow w.heap.size 24 6 v m (obCells l) ∧ Below w.heap.size w w1 ∧ w' = w1.alloc (.cells #[.int .i64 kk, .bool lk, v] 160) := by
  go_enter Try.func161, Try.ntmps161
  go_wp2_with fail
  have gb : Hid (Below w.heap.size w w.drew) := Lib.hid (Below.refl _ w).drew
  have go : Hid (Tri w.drew pb (.int .i64 kk) (.bool lk) (.slice p z cap)) := Lib.hid ⟨c0, c1, c2⟩
  go_region_held3 (fun wx => wx.cell? ⟨pb, 0, none⟩ = some (.int .i64 kk) ∧ wx.cell? ⟨pb, 1, none⟩ = some (.bool lk) ∧ wx.cell? ⟨pb, 2, none⟩ = some (.slice p z cap))
    (first | exact go.out | exact (go.out.later (box_below _ _)) | go_keep)
    (first | (go_at_call 111; refine (hc.out _ gb.out).mono ?_; rintro e wy ⟨v, rfl, hv, ky⟩; have HV := Lib.hid (hv.mono gb.out.size); have KY := Lib.hid (below_and gb.out ky); replace go := Lib.hid (go.out.later ky); obtain ⟨p1, cap1, rfl⟩ := owns_form (hv.mono (Nat.zero_le _)); clear hv ky))
  go_wp2
  go_ret
  exact ⟨_, _, rfl, HV.out, KY.out, rfl⟩

theorem info5 : (Try.prog.info? 5).map (fun i => (i.zero, i.size, i.bytes)) = some (some (.int .u8 0), 1, 1) := by kernel_rfl
set_option maxRecDepth 100000 in
theorem btwin_walk (pb m cap : Nat) (ad : Addr) (kk : Int) (lk : Bool) (l : List UInt8) (w : World) (hl : l.length = m) (hm0 : 0 < m) (hm : m ≤ 40000) (c0 : w.cell? ⟨pb, 0, none⟩ = some (.int .i64 kk)) (c1 : w.cell? ⟨pb, 1, none⟩ = some (.bool lk)) (c2 : w.cell? ⟨pb, 2, none⟩ = some (.slice (some ad) m cap))
    (hnews : ∀ j u, (byCells l)[j]? = some u → w.cell? (ad.add j) = some u) :
    Calls Try.prog 155 #[ptr pb] w fun e w' => ∃ v w1, e = .returned (.iface 141 (ptr w1.heap.size)) ∧ w1.ownsRow w.heap.size 5 1 v m (byCells l) ∧ Below w.heap.size w w1 ∧ w' = w1.alloc (.cells #[.int .i64 kk, .bool lk, v] 147) := by
  obtain ⟨i0, hi, hz0, hz1, hz2⟩ := info_parts info5
  have HN := Lib.hid hnews
  have HL := Lib.hid hl
  have HM : Hid (0 < m ∧ m ≤ 40000) := Lib.hid ⟨hm0, hm⟩
  clear hnews hl hm0 hm
  go_enter Try.func155, Try.ntmps155
  go_wp2_with fail
  have go : Hid (Tri w.drew pb (.int .i64 kk) (.bool lk) (.slice (some ad) m cap)) := Lib.hid ⟨c0, c1, c2⟩
  go_region_held_law (fun wx => wx.cell? ⟨pb, 0, none⟩ = some (.int .i64 kk) ∧ wx.cell? ⟨pb, 1, none⟩ = some (.bool lk) ∧ wx.cell? ⟨pb, 2, none⟩ = some (.slice (some ad) m cap))
    (first | exact go.out | exact (go.out.later (box_below _ _)) | go_keep)
    (first | (refine step_append_lies _ rfl _ _ 108 rfl w.heap.size 5 i0 (.int .u8 0) 1 1 Try.underlying108 hi hz0 hz1 hz2 rfl (by decide) (.slice none 0 0) 0 [] rfl (World.ownsRow_nil _ _ _ _) ad m cap (byCells l) rfl (by rw [byCells_length, HL.out]; omega) HN.out (byCells_one l) HM.out.1 (by unfold maxLen; have := HM.out; omega) (by have := HM.out; omega) (Nat.le_refl _) w.heap.size rfl ?_; intro g cp w1 hown hgrow hat hlt; have HV : Hid (w1.ownsRow w.heap.size 5 1 (.slice (some ⟨g, 0, none⟩) (0 + m) cp) (0 + m) (byCells l)) := Lib.hid (by simpa using hown); have K1 : Hid (Below w.drew.heap.size w.drew w1) := Lib.hid ((Below.refl _ w.drew).grown hgrow (Nat.le_refl _) (fun k e => by cases e)); replace go := Lib.hid (go.out.later K1.out); clear hown hgrow hat hlt))
  go_wp2
  go_ret
  rw [Nat.zero_add] at HV
  exact ⟨_, w1, rfl, HV.out, (Below.refl _ w).drew.trans K1.out, rfl⟩

theorem step_append_run {P : Program} {w : World} {ops : Array Oper} {o : Oper} {a : Act} {K : Act → World → Prop} {Q : Exit → Act → World → Prop} {E : Prop} (hgd : o.guard = none) (s x : Operand) (t : TypeId)
    (ho : o.op = .call { callee := .builtin .append, args := #[s, x], argTypes := #[t, t] }) (V1 V2 : Value) (hs : a.eval s = V1) (hx : a.eval x = V2) (v : Value) (w' : World) (hrun : (Builtin.append_ #[t, t] o.type #[V1, V2]).run P w = .ok v w')
    (h : K (a.put o.dst v) w') : if Region.wanted o (yielded ops a.tmps) = true then Oper.wp P o a w K Q else E := by
  have hw : Region.wanted o (yielded ops a.tmps) = true := by simp [Region.wanted, hgd]
  rw [if_pos hw]
  unfold Oper.wp execOp
  simp only [ho, resolve, invoke, builtin, Sem.run_bind, Sem.run_pure, Result.andThen_ok, List.map_toArray, List.map_cons, List.map_nil, hs, hx, hrun]
  exact h

set_option maxRecDepth 100000 in
theorem btwin_nil (pb z : Nat) (p : Option Addr) (cap : Nat) (kk : Int) (lk : Bool) (w : World) (c0 : w.cell? ⟨pb, 0, none⟩ = some (.int .i64 kk)) (c1 : w.cell? ⟨pb, 1, none⟩ = some (.bool lk)) (c2 : w.cell? ⟨pb, 2, none⟩ = some (.slice p 0 cap))
    (hap : ∀ wx : World, (Builtin.append_ #[108, 108] 108 #[.slice none 0 0, .slice p 0 cap]).run Try.prog wx = .ok (.slice none 0 0) wx) :
    Calls Try.prog 155 #[ptr pb] w fun e w' => e = .returned (.iface 141 (ptr w.heap.size)) ∧ w' = w.drew.alloc (.cells #[.int .i64 kk, .bool lk, .slice none 0 0] 147) := by
  go_enter Try.func155, Try.ntmps155
  go_wp2_with fail
  have go : Hid (Tri w.drew pb (.int .i64 kk) (.bool lk) (.slice p 0 cap)) := Lib.hid ⟨c0, c1, c2⟩
  go_region_held_law (fun wx => wx.cell? ⟨pb, 0, none⟩ = some (.int .i64 kk) ∧ wx.cell? ⟨pb, 1, none⟩ = some (.bool lk) ∧ wx.cell? ⟨pb, 2, none⟩ = some (.slice p 0 cap))
    (first | exact go.out | exact (go.out.later (box_below _ _)) | go_keep)
    (first | (refine step_append_run rfl _ _ 108 rfl (.slice none 0 0) (.slice p 0 cap) rfl rfl (.slice none 0 0) _ (hap _) ?_))
  go_wp2
  go_ret
  exact ⟨rfl, rfl⟩

theorem append0 (p : Option Addr) (cap : Nat) (wx : World) : (Builtin.append_ #[108, 108] 108 #[.slice none 0 0, .slice p 0 cap]).run Try.prog wx = .ok (.slice none 0 0) wx := by
  obtain ⟨i0, hi, hz0, hz1, hz2⟩ := info_parts info5
  cases p <;> simp [Builtin.append_, run_underlying Try.underlying108, sizeOf, typeInfo, hi, Builtin.lenOf, Builtin.firstCells, loadCells, loadCellsFrom]
theorem rowB_of_owns {w : World} {base : Nat} {v : Value} {l : List UInt8} {m : Nat} (h : w.ownsRow base 5 1 v m (byCells l)) (hl : l.length = m) : rowB w v l := by
  subst hl
  rcases h.2 with ⟨rfl, h0⟩ | ⟨g, cap, cur, rfl, hb, hg, hn, hm, hs, ht⟩
  · exact .inl ⟨rfl, List.eq_nil_of_length_eq_zero h0⟩
  · exact .inr ⟨g, cap, cur, (0, 0), rfl, hg, .inl rfl, hn, by rw [hs]; omega, by simpa using ht⟩

/-- A cell's twin: new blocks that hold the same. -/
theorem twin_any {w : World} {iv row : Value} {pb : Nat} {c : Cel} (h : PCell w iv pb row c) (hz : c.size ≤ 40000) :
    Calls Try.prog (if celT c = 156 then 161 else 155) #[ptr pb] w fun e w' => ∃ b v, e = .returned (.iface (celT c) (ptr b)) ∧ w.heap.size ≤ b ∧ PCell w' (.iface (celT c) (ptr b)) b v c ∧ (∀ g, v.ownBlock = some g → w.heap.size ≤ g ∧ g ≠ b) ∧ Below w.heap.size w w' := by
  rcases h with ⟨e, h⟩ | ⟨e, h⟩
  · have eT : celT c = 156 := by
      rcases h.kind with q | q <;> simp [celT, q]
    rw [if_pos eT, eT]
    have hs : c.size = c.it.length := by simp [Cel.size, h.bs]
    obtain ⟨p, cap, ev⟩ := owns_form h.row
    have hrow := h.row
    have hb := h.blk
    rw [ev] at hb hrow
    refine (itwin_walk pb c.it.length c.it.length cap p c.k c.lk c.it w (cellAt hb 0) (cellAt hb 1) (cellAt hb 2) (Lib.hid fun wx kx => ?_)).mono ?_
    · rcases hrow.2 with ⟨q, h0⟩ | ⟨g, cap', cur, q, _⟩
      · have e0 : c.it = [] := List.eq_nil_of_length_eq_zero h0
        injection q with q1 q2 q3
        rw [q1, q3, e0]
        exact copyItems_none wx
      · injection q with q1 q2 q3
        subst q1
        refine copyItems_some ⟨g, 0, none⟩ c.it.length cap c.it wx rfl (by omega) fun j u hj => ?_
        exact cell_later kx (hrow.cells rfl j u hj)
    · rintro e w' ⟨v, w1, rfl, hv, k1, rfl⟩
      refine ⟨w1.heap.size, v, rfl, k1.size, .inl ⟨rfl, h.kind, h.bs, heap_alloc_new _ _, (hv.mono (Nat.zero_le _)).alloc _⟩, fun g e => ?_, k1.alloc k1.size _⟩
      have := hv.lt g e
      omega
  · have eT : celT c = 141 := by simp [celT, h.kind]
    rw [if_neg (by rw [eT]; decide), eT]
    have hs : c.size = c.bs.length := by simp [Cel.size, h.it]
    have hb := h.blk
    rcases h.row with ⟨ev, hnil⟩ | ⟨g, cap, cur, fr, ev, hg, hfr, hcap, hsz, htk⟩
    · rw [ev] at hb
      refine (btwin_nil pb 0 none 0 c.k c.lk w (cellAt hb 0) (cellAt hb 1) (cellAt hb 2) (append0 _ _)).mono ?_
      rintro e w' ⟨rfl, rfl⟩
      refine ⟨w.heap.size, .slice none 0 0, rfl, Nat.le_refl _, .inr ⟨rfl, h.kind, h.it, heap_alloc_new _ _, .inl ⟨rfl, hnil⟩⟩, fun g e => (by cases e), (Below.refl _ w).drew.alloc (Nat.le_refl _) _⟩
    · have hrow := h.row
      rw [ev] at hb hrow
      by_cases h0 : c.bs.length = 0
      · rw [h0] at hb
        refine (btwin_nil pb 0 _ cap c.k c.lk w (cellAt hb 0) (cellAt hb 1) (cellAt hb 2) (append0 _ _)).mono ?_
        rintro e w' ⟨rfl, rfl⟩
        refine ⟨w.heap.size, .slice none 0 0, rfl, Nat.le_refl _, .inr ⟨rfl, h.kind, h.it, heap_alloc_new _ _, .inl ⟨rfl, List.eq_nil_of_length_eq_zero h0⟩⟩, fun g e => (by cases e), (Below.refl _ w).drew.alloc (Nat.le_refl _) _⟩
      refine (btwin_walk pb c.bs.length cap ⟨g, 0, none⟩ c.k c.lk c.bs w rfl (by omega) (by omega) (cellAt hb 0) (cellAt hb 1) (cellAt hb 2) fun j u hj => ?_).mono ?_
      · rw [Addr.add_mid, Nat.zero_add]
        exact (rowB_cell hrow hj).1
      · rintro e w' ⟨v, w1, rfl, hv, k1, rfl⟩
        have hr := rowB_of_owns (hv.mono (Nat.zero_le _)) rfl
        refine ⟨w1.heap.size, v, rfl, k1.size, .inr ⟨rfl, h.kind, h.it, heap_alloc_new _ _, rowB_same hr fun q _ hq => Below.heap_alloc _ _ _ hq⟩, fun g e => ?_, k1.alloc k1.size _⟩
        have := hv.lt g e
        omega
end Go.Proofs.Ytmlkmgeddkpgiaa
