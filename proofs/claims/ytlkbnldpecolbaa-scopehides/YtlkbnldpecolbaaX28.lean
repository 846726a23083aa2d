/- X28: PB. -/
import Derived.Test.YtlkbnldpecolbaaX27
/- Scope: the laws begin; what ScopeSystem calls. -/
namespace Go.Proofs.Ytlkbnldpecolbaa
open Go.RowKit
set_option linter.unusedVariables false
set_option linter.unusedSimpArgs false
set_option maxRecDepth 1000000
set_option maxHeartbeats 4000000

theorem Rs.begin {w0 w : World} {bs : List (Nat × Obj)} (k : Below w0.heap.size w0 w) (hbx : ∀ p, p ∈ bs → w.heap[p.1]? = some p.2 ∧ w0.heap.size ≤ p.1) (hn : (bs.map (·.1)).Nodup) :
    Calls Try.prog 9 #[ptr w.heap.size] (w.alloc (.cells #[.slice none 0 0, .int .i64 0] 72)) fun e w' => ∃ sb, e = .returned (.tuple #[ptr sb, .int .i64 0]) ∧ Rs w0 w.heap.size sb ds0 [sysO, usrO] bs w' := by
  have hz := k.size
  refine Rs.start ((Sep.new w).sub fun b q => ?_) (k.trans ((box_below _ _).mono hz)) (fun p q => ⟨(Below.heap_alloc _ _ _ (blk_lt (hbx p q).1)).trans (hbx p q).1, (hbx p q).2⟩) hn
  rcases q with q | q
  · omega
  · obtain ⟨p, q2, rfl⟩ := List.mem_map.1 q
    exact blk_lt (hbx p q2).1
section
variable {out : Nat → Prop} {hb sb : Nat} {ds ds' : List Dc} {L : List Ob} {w : World}
theorem SC.calls (h : SC out hb sb ds L w) (ok : DsOk ds → DsOk ds') (hn : ds.length ≤ ds'.length) {f : Nat} {xs : Array Value} {v : Value} (C : ∀ own, Sep own hb (HD ds) w → Calls Try.prog f xs w fun e w' => e = .returned v ∧ Sep own hb (HD ds') w' ∧ Kept own w w') :
    Calls Try.prog f xs w fun e w' => e = .returned v ∧ SC out hb sb ds' L w' ∧ Kept out w w' := by
  obtain ⟨own, u, h1, h2, h3, h4, h5, h6, h7⟩ := h
  refine (C _ h1).mono ?_
  rintro e w' ⟨rfl, s, kk⟩
  refine ⟨rfl, ⟨own, u, s, h2.same ?_, h3, h4, h5, ok h6, fun d q => (h7 d q).more hn⟩, kk.sub fun b q => .inr q⟩
  rintro b (rfl | q)
  · exact kk.block _ (.inl h3)
  · exact kk.block _ (.inl (h4 _ q))
theorem xSetLock (h : SC out hb sb ds0 L w) {i : Nat} (hi : i < 162) (v : Ob) :
    Calls Try.prog 20 #[ptr hb, sysO.val, (nmAt i).val, v.val] w fun e w' => e = .returned (.int .i64 1) ∧ SC out hb sb ds0 L w' ∧ Kept out w w' := by
  have hk := nm_key (P := HD ds0) (nm_short hi)
  have e1 : dsetE (HD ds0) sysL.ps sysL.rm sysL.lk (nmAt i) v = 1 := by
    rw [dsetE, nmAt, if_pos hk.1, if_neg (by rintro ⟨_, q⟩; cases q)]
  have := xSet h (d := sysO) (c := sysL) (isD_sys (by decide)) rfl (nmAt i) v
  rw [setD, e1, if_neg (by decide)] at this
  exact this
theorem xDropLock (h : SC out hb sb ds0 L w) {i : Nat} (hi : i < 162) :
    Calls Try.prog 21 #[ptr hb, sysO.val, (nmAt i).val] w fun e w' => e = .returned (.int .i64 1) ∧ SC out hb sb ds0 L w' ∧ Kept out w w' := by
  have hk := nm_key (P := HD ds0) (nm_short hi)
  refine h.calls id (Nat.le_refl _) fun own h1 => hDropLock h1 h.ok (d := sysO) (c := sysL) (isD_sys (by decide)) rfl rfl (nmAt i) hk.1 (i := i) ?_
  rw [show keyO (HD ds0) (nmAt i) = nmAt i from hk.2]
  exact ix_old hi
theorem xPairs (h : SC out hb sb ds0 L w) : Calls Try.prog 22 #[ptr hb, sysO.val] w fun e w' => ∃ g cap, e = .returned (.tuple #[.slice (some ⟨g, 6, none⟩) 324 (cap - 1), .int .i64 0]) ∧ w'.ownsRow 0 30 6 (.slice (some ⟨g, 0, none⟩) 325 cap) 325 (obCells (itemsD (prs 162) 162)) ∧ Below w.heap.size w w' := by
  obtain ⟨own, v, h1, h2, h3, h4, h5, h6, h7⟩ := h
  refine (hPairs h1 h6 (d := sysO) (c := sysL) (isD_sys (by decide)) rfl 325 (by show 325 = 2 * (prs 162).length + 1; rw [prs_length])).mono ?_
  rintro e w' ⟨g, cap, ad, rfl, had, hg, row, kb⟩
  rw [had (by show 0 < (prs 162).length; rw [prs_length]; decide)]
  exact ⟨g, cap, rfl, row, kb⟩
theorem xCells (h : SC out hb sb ds L w) : Calls Try.prog 23 #[ptr hb] w fun e w' => e = .returned (.int .i64 ds.length) ∧ Below w.heap.size w w' := by
  obtain ⟨own, v, h1, h2, h3, h4, h5, h6, h7⟩ := h
  refine (sCells h1).mono ?_
  rintro e w' ⟨rfl, rfl⟩
  rw [hd_length]
  exact ⟨rfl, Below.refl _ _⟩
end
theorem items_len : (itemsD (prs 162) 162).length = 325 := by rw [itemsD_length (by rw [prs_length]; exact Nat.le_refl _)]
theorem row_at {w : World} {g cap : Nat} (row : w.ownsRow 0 30 6 (.slice (some ⟨g, 0, none⟩) 325 cap) 325 (obCells (itemsD (prs 162) 162))) {j : Nat} {o : Ob} (hj : (itemsD (prs 162) 162)[j]? = some o) :
    w.cell? ⟨g, j * 6, none⟩ = some (.int .i64 o.k) ∧ w.cell? ⟨g, j * 6 + 1, none⟩ = some (.bool o.x) ∧ w.cell? ⟨g, j * 6 + 2, none⟩ = some (.int .i64 o.n) ∧ w.cell? ⟨g, j * 6 + 3, none⟩ = some (.int .i64 o.a) ∧ w.cell? ⟨g, j * 6 + 4, none⟩ = some (.int .i64 o.l) ∧ w.cell? ⟨g, j * 6 + 5, none⟩ = some (.string o.s) := by
  have row' : w.ownsRow 0 30 6 (.slice (some ⟨g, 0, none⟩) 325 cap) (itemsD (prs 162) 162).length (obCells (itemsD (prs 162) 162)) := by rw [items_len]; exact row
  obtain ⟨g', cap', e, q⟩ := row_item row' hj
  obtain ⟨rfl, rfl⟩ : g = g' ∧ cap = cap' := by
    simp at e
    exact ⟨e.1, e.2.2⟩
  exact q
end Go.Proofs.Ytlkbnldpecolbaa
