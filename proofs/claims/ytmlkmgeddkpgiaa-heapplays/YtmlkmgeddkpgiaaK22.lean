/- Items and Lock of a whole heap. -/
import Derived.Test.YtmlkmgeddkpgiaaK21
namespace Go.Proofs.Ytmlkmgeddkpgiaa
open Go.RowKit
set_option linter.unusedVariables false

theorem slice33 (p : Option Addr) (z cap lo hi : Nat) (h1 : lo ≤ hi) (h2 : hi ≤ cap) (w : World) :
    (Instr.slice 33 (.slice p z cap) (some (.int .i64 lo)) (some (.int .i64 hi)) none).run Try.prog w = .ok (.slice (if cap = lo then p else p.map (·.add (lo * 6))) (hi - lo) (cap - lo)) w := by
  have hs : (sizeOf (Try.prog.elem 33)).run Try.prog w = .ok 6 w := by kernel_rfl
  rw [run_slice_lh w 33 p z cap (by kernel_rfl) .i64 .i64 lo hi (by omega) (by omega) (by omega), hs]
  simp [sliced]

def itemsL (P : List Cel) (o : Ob) : List Ob := ((cellOf P o).it.drop o.a.toNat).take (lenO P o).toNat
def lockP (P : List Cel) (o : Ob) : List Cel := P.set o.n.toNat { cellOf P o with lk := true }

theorem obCells_mid {l : List Ob} {i n j : Nat} {u : Value} (h : (obCells ((l.drop i).take n))[j]? = some u) : (obCells l)[i * 6 + j]? = some u := by
  have hj : j < (obCells ((l.drop i).take n)).length := (List.getElem?_eq_some_iff.1 h).1
  rw [obCells_length] at hj
  have hlt : j / 6 < ((l.drop i).take n).length := by omega
  obtain ⟨o, ho⟩ : ∃ o, ((l.drop i).take n)[j / 6]? = some o := ⟨_, List.getElem?_eq_getElem hlt⟩
  have h1 := obCells_get ho (j := j % 6) (by omega)
  rw [show j / 6 * 6 + j % 6 = j from by omega, h] at h1
  have h2 : l[i + j / 6]? = some o := by
    rw [List.getElem?_take] at ho
    split at ho
    · rwa [List.getElem?_drop] at ho
    · cases ho
  have h3 := obCells_get h2 (j := j % 6) (by omega)
  rw [show (i + j / 6) * 6 + j % 6 = i * 6 + j from by omega] at h3
  rw [h3, h1]

section
variable {role : Nat → Nat × Nat} {c hb : Nat} {vc : Value} {ivs : List Value} {pb : Nat → Nat} {rv : Nat → Value} {P : List Cel} {w w' : World}

theorem len_in {o : Ob} (ho : okO P o = true) : 0 ≤ lenO P o ∧ o.a + lenO P o ≤ (cellOf P o).size := by
  obtain ⟨b0, b1, b2, b3, b4, b5, b6, b7, b8⟩ := ok_bd ho
  simp only [lenO, ho, if_true]
  by_cases hk : o.k = 10
  · have := b8 hk
    simp only [hk, if_true]
    omega
  · simp only [hk, if_false]
    omega

theorem items_is (h : PH role c hb vc ivs pb rv P w) (o : Ob) (ho : okO P o = true) (hk : o.k ≠ 8) :
    Calls Try.prog 78 #[ptr hb, o.val] w fun e w' => ∃ v, e = .returned (.tuple #[v, .int .i64 0]) ∧ w'.ownsRow w.heap.size 24 6 v (itemsL P o).length (obCells (itemsL P o)) ∧ Below w.heap.size w w' := by
  have hf := fun wx kx => find_ok (h.below (w' := wx) kx) o ho
  obtain ⟨b0, b1, b2, b3, _, _, b6, _⟩ := ok_bd ho
  obtain ⟨n0, n1⟩ := len_in ho
  have hc := cellOf_get (P := P) (o := o) b0 b1
  have hz := h.wf.size hc
  obtain ⟨g0, cap0, rfl, _, _, hp⟩ := h.ivAt hc
  have hp' := hp
  rcases hp with ⟨eT, hC⟩ | ⟨eT, hC⟩
  · have eT : celT (cellOf P o) = 156 := by injection eT
    have hs : (cellOf P o).size = (cellOf P o).it.length := by simp [Cel.size, hC.bs]
    rw [eT] at hf hp'
    have ea : ((o.a.toNat : Nat) : Int) = o.a := by omega
    have el : (((lenO P o).toNat : Nat) : Int) = lenO P o := by omega
    have hlen : (itemsL P o).length = (lenO P o).toNat := by
      simp [itemsL]
      omega
    have h2 : w.cell? ⟨pb o.n.toNat, 2, none⟩ = some (rv o.n.toNat) := by
      rw [cellAt hC.blk]
      rfl
    rw [← ea, ← el] at hf
    have key : ∀ p cap, rv o.n.toNat = .slice p (cellOf P o).it.length cap → (cellOf P o).it.length ≤ cap → (∀ wx, Below w.heap.size w wx → Calls Try.prog 111 #[.slice (if cap = o.a.toNat then p else p.map (·.add (o.a.toNat * 6))) (lenO P o).toNat (cap - o.a.toNat)] wx fun e w' => ∃ v, e = .returned v ∧ w'.ownsRow wx.heap.size 24 6 v (lenO P o).toNat (obCells (itemsL P o)) ∧ Below wx.heap.size wx w') →
        Calls Try.prog 78 #[ptr hb, o.val] w fun e w' => ∃ v, e = .returned (.tuple #[v, .int .i64 0]) ∧ w'.ownsRow w.heap.size 24 6 v (itemsL P o).length (obCells (itemsL P o)) ∧ Below w.heap.size w w' := by
      intro p cap er hcap hcall
      rw [hlen]
      have hsl := slice33 p (cellOf P o).it.length cap o.a.toNat (o.a.toNat + (lenO P o).toNat) (by omega) (by omega)
      rw [show o.a.toNat + (lenO P o).toNat - o.a.toNat = (lenO P o).toNat from by omega] at hsl
      refine items_walk87 hb (pb o.n.toNat) (cellOf P o).it.length cap o.a.toNat (lenO P o).toNat (o.a.toNat + (lenO P o).toNat) p o.k o.n o.a o.l o.x o.s _ _ w (by rw [h2, er]) (by rw [wrapi_in _ (by omega) (by omega)]; omega) (Lib.hid hf) hsl (Lib.hid fun wx kx => (hcall wx kx).mono ?_)
      rintro e w' ⟨v, rfl, q1, q2⟩
      exact ⟨v, rfl, q1.mono kx.size, q2⟩
    rcases hC.row.2 with ⟨er, hn0⟩ | ⟨g, cap, cur, er, _, hg, hcap, _, hsz, htk⟩
    · refine key none 0 (by rw [hn0]; exact er) (by omega) fun wx kx => ?_
      have e1 : o.a.toNat = 0 := by omega
      have e2 : (lenO P o).toNat = 0 := by omega
      have e3 : itemsL P o = [] := by
        apply List.eq_nil_of_length_eq_zero
        omega
      rw [e1, e2, e3]
      exact copyItems_none wx
    · refine key (some ⟨g, 0, none⟩) cap er hcap fun wx kx => ?_
      have hx : wx.ownsRow 0 24 6 (.slice (some ⟨g, 0, none⟩) (cellOf P o).it.length cap) (cellOf P o).it.length (obCells (cellOf P o).it) := by
        have := hC.row
        rw [er] at this
        exact owns_same this fun q _ hq => kx.block q hq
      have cell : ∀ j u, (obCells (itemsL P o))[j]? = some u → wx.cell? ⟨g, o.a.toNat * 6 + j, none⟩ = some u := by
        intro j u hu
        have hj : j < (obCells (itemsL P o)).length := (List.getElem?_eq_some_iff.1 hu).1
        rw [obCells_length, hlen] at hj
        rw [hx.cellAt _ (by omega)]
        exact obCells_mid hu
      by_cases hcl : cap = o.a.toNat
      · rw [if_pos hcl]
        refine copyItems_some ⟨g, 0, none⟩ (lenO P o).toNat _ (itemsL P o) wx hlen (by omega) fun j u hu => ?_
        have hj : j < (obCells (itemsL P o)).length := (List.getElem?_eq_some_iff.1 hu).1
        rw [obCells_length, hlen] at hj
        omega
      · rw [if_neg hcl]
        simp only [Option.map_some]
        refine copyItems_some _ (lenO P o).toNat _ (itemsL P o) wx hlen (by omega) fun j u hu => ?_
        rw [Addr.add_mid, Addr.add_mid, Nat.zero_add]
        exact cell j u hu
  · exact absurd (by rw [← b6]; exact hC.kind) hk

theorem lock_is (h : PH role c hb vc ivs pb rv P w) (o : Ob) (ho : okO P o = true) :
    Calls Try.prog 18 #[ptr hb, o.val] w fun e w' => e = .returned (.int .i64 0) ∧ PH role c hb vc ivs pb rv (lockP P o) w' ∧ Keep role c w role w' := by
  have hf := fun wx kx => find_ok (h.below (w' := wx) kx) o ho
  obtain ⟨b0, b1, b2, b3, _, _, b6, _⟩ := ok_bd ho
  have hc := cellOf_get (P := P) (o := o) b0 b1
  obtain ⟨g0, cap0, rfl, _, _, hp⟩ := h.ivAt hc
  have hp' := hp
  obtain ⟨iv, g1, g2, g3, g4⟩ := h.cell o.n.toNat _ hc
  have fin : ∀ wx w2, Below w.heap.size w wx → w2 = wx.setCell ⟨pb o.n.toNat, 1, none⟩ (.bool true) → PH role c hb (.slice (some ⟨g0, 0, none⟩) P.length cap0) ivs pb rv (lockP P o) w2 ∧ Keep role c w role w2 := by
    rintro wx w2 kx rfl
    have only := (Only.refl (pb o.n.toNat) wx).set 1 (.bool true)
    have rne : ∀ q, (rv o.n.toNat).ownBlock = some q → q ≠ pb o.n.toNat := fun q hq e => by
      have := g4 q hq
      rw [e, g3] at this
      simp at this
    refine ⟨h.change hc (by simp [Cel.size]) ?_ ?_, only.os.trans kx.os, only.tape.trans kx.tape, only.output.trans kx.output, by rw [only.size]; exact kx.size, fun k hk hcc => ?_, fun _ _ => rfl⟩
    · rcases hp'.later kx with ⟨eT, hx⟩ | ⟨eT, hx⟩
      · rw [eT]
        refine .inl ⟨rfl, hx.kind, hx.bs, ?_, owns_same hx.row fun q hq _ => only.block q (rne q hq)⟩
        rw [heap_setCell_same _ _ _ _ 160 _ hx.blk]
        rfl
      · rw [eT]
        refine .inr ⟨rfl, hx.kind, hx.it, ?_, rowB_same hx.row fun q hq _ => only.block q (rne q hq)⟩
        rw [heap_setCell_same _ _ _ _ 147 _ hx.blk]
        rfl
    · intro k hk hne _
      rw [only.block k hne]
      exact kx.block k hk
    · rw [only.block k (fun e => hcc (by rw [e, g3]))]
      exact kx.block k hk
  rcases hp with ⟨eT, hC⟩ | ⟨eT, hC⟩
  · have eT : celT (cellOf P o) = 156 := by injection eT
    rw [eT] at hf hp'
    refine lock_walk87 hb (pb o.n.toNat) o.k o.n o.a o.l o.a (lenO P o) o.x o.s _ w (Lib.hid hf) (Lib.hid fun wx kx => ?_)
    have hblk := (kx.block _ (blk_lt hC.blk)).trans hC.blk
    refine (lock_any (pb o.n.toNat) _ wx (by rw [cellAt hblk]; rfl) (freeAt hblk 1)).mono ?_
    rintro e w2 ⟨rfl, e2⟩
    exact ⟨rfl, fin wx w2 kx e2⟩
  · have eT : celT (cellOf P o) = 141 := by injection eT
    rw [eT] at hf hp'
    refine lock_walk95 hb (pb o.n.toNat) o.k o.n o.a o.l o.a (lenO P o) o.x o.s _ w (Lib.hid hf) (Lib.hid fun wx kx => ?_)
    have hblk := (kx.block _ (blk_lt hC.blk)).trans hC.blk
    refine (lock_any (pb o.n.toNat) _ wx (by rw [cellAt hblk]; rfl) (freeAt hblk 1)).mono ?_
    rintro e w2 ⟨rfl, e2⟩
    exact ⟨rfl, fin wx w2 kx e2⟩
end
end Go.Proofs.Ytmlkmgeddkpgiaa
