/- Get and Set of a whole heap. -/
import Derived.Test.YtmlkmgeddkpgiaaK18
namespace Go.Proofs.Ytmlkmgeddkpgiaa
open Go.RowKit
set_option linter.unusedVariables false

def itemAt (c : Cel) (j : Nat) : Ob := if c.k = 8 then Ob.num ((c.bs.getD j 0).toNat) else c.it.getD j Ob.zero
def putItem (c : Cel) (j : Nat) (x : Ob) : Cel := if c.k = 8 then { c with bs := c.bs.set j (UInt8.ofNat x.n.toNat) } else { c with it := c.it.set j x }
def getE (P : List Cel) (o : Ob) (i : Int) : Int := if okO P o then (if 0 ≤ i ∧ i < lenO P o then 0 else 12) else errO P o
def getO (P : List Cel) (o : Ob) (i : Int) : Ob := if getE P o i = 0 then itemAt (cellOf P o) (o.a + i).toNat else Ob.zero
def setE (P : List Cel) (o : Ob) (i : Int) (x : Ob) : Int :=
  if okO P o then (if 0 ≤ i ∧ i < lenO P o then (if (cellOf P o).lk then 1 else if o.k = 8 then (if x.k = 3 then (if x.n < 0 ∨ 255 < x.n then 2 else 0) else 6) else if mayH P x then 0 else 1) else 12) else errO P o
def setP (P : List Cel) (o : Ob) (i : Int) (x : Ob) : List Cel := if setE P o i x = 0 then P.set o.n.toNat (putItem (cellOf P o) (o.a + i).toNat x) else P

theorem ok_at {P : List Cel} {o : Ob} {i : Int} (ho : okO P o = true) (hi : 0 ≤ i ∧ i < lenO P o) : 0 ≤ o.a + i ∧ o.a + i < (cellOf P o).size := by
  obtain ⟨b0, b1, b2, b3, b4, b5, b6, b7, b8⟩ := ok_bd ho
  simp only [lenO, ho, if_true] at hi
  by_cases hk : o.k = 10
  · have := b8 hk
    simp only [hk, if_true] at hi
    omega
  · simp only [hk, if_false] at hi
    omega

theorem set_any_fr {w : World} {g i : Nat} {cs : Array Value} {t : TypeId} {fr : Nat × Nat} {v : Value} (hg : w.heap[g]? = some (.cells cs t fr)) : (w.setCell ⟨g, i, none⟩ v).heap[g]? = some (.cells (cs.setIfInBounds i v) t fr) := by
  rw [setCell_eq_setRow w g i cs t fr v hg]
  exact setRow_heap w g cs _ t _ hg
theorem rowB_set {w : World} {v : Value} {l : List UInt8} {g j n cap : Nat} {m : Int} (h : rowB w v l) (hv : v = .slice (some ⟨g, 0, none⟩) n cap) (hj : j < l.length) (h0 : 0 ≤ m) (h1 : m ≤ 255) : rowB (w.setCell ⟨g, j, none⟩ (.int .u8 m)) v (l.set j (UInt8.ofNat m.toNat)) := by
  rcases h with ⟨_, rfl⟩ | ⟨g', cap', cur, fr, rfl, hg, hf, hc, hs, ht⟩
  · simp at hj
  · simp only [Value.slice.injEq, Option.some.injEq, Addr.mk.injEq, and_true] at hv
    obtain ⟨rfl, rfl, rfl⟩ := hv
    refine .inr ⟨g', cap', cur.setIfInBounds j (.int .u8 m), fr, by simp, set_any_fr hg, by simpa using hf, by simpa using hc, by simpa using hs, ?_⟩
    rw [Array.toList_setIfInBounds, List.length_set, List.take_set, ht]
    have e : ((UInt8.ofNat m.toNat).toNat : Int) = m := by
      rw [UInt8.toNat_ofNat']
      omega
    simp only [byCells, List.map_set, e]

section
variable {role : Nat → Nat × Nat} {c hb : Nat} {vc : Value} {ivs : List Value} {pb : Nat → Nat} {rv : Nat → Value} {P : List Cel} {w w' : World}

theorem get_is (h : PH role c hb vc ivs pb rv P w) (o : Ob) (i : Int) : Calls Try.prog 67 #[ptr hb, o.val, .int .i64 i] w fun e w' => e = .returned (.tuple #[(getO P o i).val, .int .i64 (getE P o i)]) ∧ Below w.heap.size w w' := by
  cases ho : okO P o
  · have hE := errO_no ho
    have e1 : getE P o i = errO P o := by simp [getE, ho]
    have e2 : getO P o i = Ob.zero := by simp [getO, e1, hE]
    rw [e1, e2]
    exact get_err hb o.k o.n o.a o.l i (errO P o) o.x o.s w (by simpa using hE) (Lib.hid fun wx kx => find_no (h.below kx) o ho)
  · have hf := fun wx kx => find_ok (h.below (w' := wx) kx) o ho
    by_cases hi : 0 ≤ i ∧ i < lenO P o
    · have e1 : getE P o i = 0 := by simp only [getE, ho, hi, if_true, and_self]
      have e2 : getO P o i = itemAt (cellOf P o) (o.a + i).toNat := by simp [getO, e1]
      obtain ⟨a0, a1⟩ := ok_at ho hi
      obtain ⟨b0, b1, b2, b3, _⟩ := ok_bd ho
      have hc := cellOf_get (P := P) (o := o) b0 b1
      have hz := h.wf.size hc
      obtain ⟨g, cap, rfl, _, _, hp⟩ := h.ivAt hc
      rw [e1, e2]
      have hj : ((o.a + i).toNat : Int) = o.a + i := by omega
      have hp' := hp
      rcases hp with ⟨eT, hC⟩ | ⟨eT, hC⟩
      · have eT : celT (cellOf P o) = 156 := by injection eT
        have hs : (cellOf P o).size = (cellOf P o).it.length := by simp [Cel.size, hC.bs]
        have hk8 : (cellOf P o).k ≠ 8 := by have := hC.kind; omega
        have e3 : itemAt (cellOf P o) (o.a + i).toNat = (cellOf P o).it.getD (o.a + i).toNat Ob.zero := by simp [itemAt, hk8]
        have e4 : (cellOf P o).it[(o.a + i).toNat]? = some ((cellOf P o).it.getD (o.a + i).toNat Ob.zero) := by
          rw [List.getD_eq_getElem?_getD, List.getElem?_eq_getElem (by omega)]
          rfl
        rw [e3]
        rw [eT] at hf hp'
        refine get_walk87 hb (pb o.n.toNat) o.k o.n o.a o.l i o.a (lenO P o) (o.a + i) o.x o.s _ _ _ _ _ _ w (wrapi_in _ (by omega) (by omega)) (Lib.hid hf) (has_is _ _ _ _ _ true (decide_eq_true hi)) (Lib.hid fun wx kx => ?_)
        rcases hp'.later kx with ⟨_, hx⟩ | ⟨e, _⟩
        · rw [← hj]
          exact iget_any hx _ _ e4
        · cases e
      · have eT : celT (cellOf P o) = 141 := by injection eT
        have hs : (cellOf P o).size = (cellOf P o).bs.length := by simp [Cel.size, hC.it]
        have e3 : itemAt (cellOf P o) (o.a + i).toNat = Ob.num (((cellOf P o).bs.getD (o.a + i).toNat 0).toNat) := by simp [itemAt, hC.kind]
        have e4 : (cellOf P o).bs[(o.a + i).toNat]? = some ((cellOf P o).bs.getD (o.a + i).toNat 0) := by
          rw [List.getD_eq_getElem?_getD, List.getElem?_eq_getElem (by omega)]
          rfl
        rw [e3]
        rw [eT] at hf hp'
        refine get_walk95 hb (pb o.n.toNat) o.k o.n o.a o.l i o.a (lenO P o) (o.a + i) o.x o.s _ _ _ _ _ _ w (wrapi_in _ (by omega) (by omega)) (Lib.hid hf) (has_is _ _ _ _ _ true (decide_eq_true hi)) (Lib.hid fun wx kx => ?_)
        rcases hp'.later kx with ⟨e, _⟩ | ⟨_, hx⟩
        · cases e
        · rw [← hj]
          exact bget_any hx _ _ e4
    · have e1 : getE P o i = 12 := by simp only [getE, ho, hi, if_true, if_false]
      have e2 : getO P o i = Ob.zero := by simp [getO, e1]
      rw [e1, e2]
      exact get_index hb _ _ o.k o.n o.a o.l i o.a (lenO P o) o.x o.s w (Lib.hid hf) (has_is _ _ _ _ _ false (decide_eq_false hi))

theorem locked_is {iv : Value} {r : Nat} {row : Value} {cl : Cel} {T : TypeId} (h : PCell w (.iface T (ptr r)) r row cl) (b : Bool) (hb' : cl.lk = b) : Hid (∀ wx, Below w.heap.size w wx → Calls Try.prog 150 #[ptr r] wx fun e w' => e = .returned (.bool b) ∧ wx = w') := Lib.hid fun wx kx => by
  subst hb'
  rcases h.later kx with ⟨_, hx⟩ | ⟨_, hx⟩
  · exact isLocked_any r cl.lk wx (by rw [cellAt hx.blk]; rfl)
  · exact isLocked_any r cl.lk wx (by rw [cellAt hx.blk]; rfl)

theorem below_keep {role : Nat → Nat × Nat} {c : Nat} (k : Below w.heap.size w w') : Keep role c w role w' := Keep.of_below c k

theorem setE_err {P : List Cel} {o : Ob} {i : Int} {x : Ob} {E : Int} (h : setE P o i x = E) (hE : E ≠ 0) : setP P o i x = P := by
  unfold setP
  rw [h, if_neg hE]

theorem set_is (h : PH role c hb vc ivs pb rv P w) (o : Ob) (i : Int) (x : Ob) : Calls Try.prog 14 #[ptr hb, o.val, .int .i64 i, x.val] w fun e w' => e = .returned (.int .i64 (setE P o i x)) ∧ PH role c hb vc ivs pb rv (setP P o i x) w' ∧ Keep role c w role w' := by
  have done : ∀ E, setE P o i x = E → E ≠ 0 → Calls Try.prog 14 #[ptr hb, o.val, .int .i64 i, x.val] w (fun e w' => e = .returned (.int .i64 E) ∧ Below w.heap.size w w') → Calls Try.prog 14 #[ptr hb, o.val, .int .i64 i, x.val] w fun e w' => e = .returned (.int .i64 (setE P o i x)) ∧ PH role c hb vc ivs pb rv (setP P o i x) w' ∧ Keep role c w role w' := by
    intro E e1 e2 hc
    refine hc.mono ?_
    rintro e w' ⟨rfl, k⟩
    rw [setE_err e1 e2, e1]
    exact ⟨rfl, h.below k, below_keep k⟩
  cases ho : okO P o
  · have hE := errO_no ho
    exact done (errO P o) (by simp [setE, ho]) hE (set_err hb o.k o.n o.a o.l i (errO P o) o.x o.s x.k x.n x.a x.l x.x x.s w (by simpa using hE) (Lib.hid fun wx kx => find_no (h.below kx) o ho))
  · have hf := fun wx kx => find_ok (h.below (w' := wx) kx) o ho
    by_cases hi : 0 ≤ i ∧ i < lenO P o
    · obtain ⟨a0, a1⟩ := ok_at ho hi
      obtain ⟨b0, b1, b2, b3, _, _, b6, _⟩ := ok_bd ho
      have hc := cellOf_get (P := P) (o := o) b0 b1
      have hz := h.wf.size hc
      obtain ⟨g0, cap0, rfl, _, _, hp⟩ := h.ivAt hc
      have hj : ((o.a + i).toNat : Int) = o.a + i := by omega
      obtain ⟨iv, g1, g2, g3, g4⟩ := h.cell o.n.toNat _ hc
      have hp' := hp
      rcases hp with ⟨eT, hC⟩ | ⟨eT, hC⟩
      · have eT : celT (cellOf P o) = 156 := by injection eT
        have hs : (cellOf P o).size = (cellOf P o).it.length := by simp [Cel.size, hC.bs]
        have hk8 : (cellOf P o).k ≠ 8 := by have := hC.kind; omega
        have hk8' : o.k ≠ 8 := by rw [← b6]; exact hk8
        rw [eT] at hf hp'
        cases hlk : (cellOf P o).lk
        · cases hm : mayH P x
          · refine done 1 (by simp only [setE, ho, hi, hlk, hk8', hm, if_true, if_false, and_self]; simp) (by decide) ?_
            refine set_walk87 hb (pb o.n.toNat) o.k o.n o.a o.l i o.a (lenO P o) (o.a + i) o.x o.s x.k x.n x.a x.l x.x x.s w _ (wrapi_in _ (by omega) (by omega)) (Lib.hid hf) (has_is _ _ _ _ _ true (decide_eq_true hi)) (locked_is (iv := iv) hp' false hlk) (Lib.hid fun wx kx => ?_)
            refine (iset_no hb (pb o.n.toNat) (o.a + i) x.k x.n x.a x.l x.x x.s wx (Lib.hid fun wy ky => ?_)).mono ?_
            · have := mayH_is ((h.below kx).below ky) x
              rw [hm] at this
              exact this
            · rintro e wz ⟨rfl, kz⟩
              exact ⟨⟨_, rfl⟩, rfl, below_and kx kz⟩
          · have e0 : setE P o i x = 0 := by simp only [setE, ho, hi, hlk, hk8', hm, if_true, if_false, and_self]; simp
            have e5 : setP P o i x = P.set o.n.toNat (putItem (cellOf P o) (o.a + i).toNat x) := by simp [setP, e0]
            have e6 : putItem (cellOf P o) (o.a + i).toNat x = { cellOf P o with it := (cellOf P o).it.set (o.a + i).toNat x } := by simp [putItem, hk8]
            rw [e0, e5, e6]
            obtain ⟨gr, capr, er, _, _⟩ := hC.row.form (by omega)
            refine set_walk87 hb (pb o.n.toNat) o.k o.n o.a o.l i o.a (lenO P o) (o.a + i) o.x o.s x.k x.n x.a x.l x.x x.s w _ (wrapi_in _ (by omega) (by omega)) (Lib.hid hf) (has_is _ _ _ _ _ true (decide_eq_true hi)) (locked_is (iv := iv) hp' false hlk) (Lib.hid fun wx kx => ?_)
            have hx : ICell wx (pb o.n.toNat) (rv o.n.toNat) (cellOf P o) := by
              rcases hp'.later kx with ⟨_, hx⟩ | ⟨e, _⟩
              · exact hx
              · cases e
            have hxr := hx.row
            rw [er] at hxr
            rw [← hj]
            refine (iset_walk hb (pb o.n.toNat) gr (cellOf P o).it.length capr (o.a + i).toNat x.k x.n x.a x.l x.x x.s wx (Lib.hid fun wy ky => ?_) ?_ (by omega) (by omega) (Lib.hid fun wy ky => ?_)).mono ?_
            · have := mayH_is ((h.below kx).below ky) x
              rw [hm] at this
              exact this
            · rw [cellAt hx.blk, er]
              rfl
            · intro j hj6
              have hy : wy.ownsRow 0 24 6 (.slice (some ⟨gr, 0, none⟩) (cellOf P o).it.length capr) (cellOf P o).it.length (obCells (cellOf P o).it) := owns_same hxr fun g _ hg => ky.block g hg
              refine ⟨?_, hy.frozenAt _⟩
              rw [hy.cellAt _ (by omega), List.getElem?_eq_getElem (by rw [obCells_length]; omega)]
              rfl
            · rintro e wz ⟨rfl, w1, k1, rfl⟩
              have h1 : w1.ownsRow 0 24 6 (.slice (some ⟨gr, 0, none⟩) (cellOf P o).it.length capr) (cellOf P o).it.length (obCells (cellOf P o).it) := owns_same hxr fun g _ hg => k1.block g hg
              obtain ⟨q1, q2⟩ := owns_put [.int .i64 x.k, .bool x.x, .int .i64 x.n, .int .i64 x.a, .int .i64 x.l, .string x.s] ((o.a + i).toNat * 6) w1 _ h1
              have q3 := obCells_put x (cellOf P o).it (o.a + i).toNat (by omega)
              have hgr := g4 gr (by rw [er]; rfl)
              have hne : pb o.n.toNat ≠ gr := fun e => by
                rw [e, hgr] at g3
                simp at g3
              have kk := below_and kx k1
              have grl : gr < w.heap.size := hp'.row_lt (by rw [er]; rfl)
              refine ⟨⟨_, rfl⟩, rfl, h.change hc (by simp [Cel.size]) ?_ ?_, ?_⟩
              · rw [eT]
                refine .inl ⟨rfl, hx.kind, hx.bs, ?_, ?_⟩
                · rw [q2.block _ hne, k1.block _ (blk_lt hx.blk)]
                  exact hx.blk
                · rw [er]
                  show World.ownsRow _ _ _ _ _ (List.set _ (o.a + i).toNat _).length (obCells (List.set _ (o.a + i).toNat _))
                  rw [List.length_set, ← q3]
                  exact q1
              · intro k hk hne1 hne2
                rw [q2.block k (fun e => hne2 (by rw [er, e]; rfl))]
                exact kk.block k hk
              · refine ⟨q2.os.trans kk.os, q2.tape.trans kk.tape, q2.output.trans kk.output, by rw [q2.size]; exact kk.size, fun k hk hcc => ?_, fun _ _ => rfl⟩
                rw [q2.block k (fun e => hcc (by rw [e, hgr]))]
                exact kk.block k hk
        · exact done 1 (by simp only [setE, ho, hi, hlk, if_true, and_self]) (by decide) (set_locked87 hb (pb o.n.toNat) o.k o.n o.a o.l i o.a (lenO P o) o.x o.s x.k x.n x.a x.l x.x x.s w (Lib.hid hf) (has_is _ _ _ _ _ true (decide_eq_true hi)) (locked_is (iv := iv) hp' true hlk))
      · have eT : celT (cellOf P o) = 141 := by injection eT
        have hs : (cellOf P o).size = (cellOf P o).bs.length := by simp [Cel.size, hC.it]
        have hk8' : o.k = 8 := by rw [← b6]; exact hC.kind
        rw [eT] at hf hp'
        cases hlk : (cellOf P o).lk
        · by_cases hx3 : x.k = 3
          · by_cases hx2 : x.n < 0 ∨ 255 < x.n
            · refine done 2 (by simp only [setE, ho, hi, hlk, hk8', hx3, hx2, if_true, and_self]; simp) (by decide) ?_
              refine set_walk95 hb (pb o.n.toNat) o.k o.n o.a o.l i o.a (lenO P o) (o.a + i) o.x o.s x.k x.n x.a x.l x.x x.s w _ (wrapi_in _ (by omega) (by omega)) (Lib.hid hf) (has_is _ _ _ _ _ true (decide_eq_true hi)) (locked_is (iv := iv) hp' false hlk) (Lib.hid fun wx kx => ?_)
              rw [hx3]
              refine (bset_range hb (pb o.n.toNat) (o.a + i) x.n x.a x.l x.x x.s wx hx2).mono ?_
              rintro e wz ⟨rfl, kz⟩
              exact ⟨⟨_, rfl⟩, rfl, below_and kx kz⟩
            · have e0 : setE P o i x = 0 := by simp only [setE, ho, hi, hlk, hk8', hx3, hx2, if_true, if_false, and_self]; simp
              have e5 : setP P o i x = P.set o.n.toNat (putItem (cellOf P o) (o.a + i).toNat x) := by simp [setP, e0]
              have e6 : putItem (cellOf P o) (o.a + i).toNat x = { cellOf P o with bs := (cellOf P o).bs.set (o.a + i).toNat (UInt8.ofNat x.n.toNat) } := by simp [putItem, hC.kind]
              rw [e0, e5, e6]
              have hbl : (o.a + i).toNat < (cellOf P o).bs.length := by omega
              have e4 : (cellOf P o).bs[(o.a + i).toNat]? = some ((cellOf P o).bs[(o.a + i).toNat]) := List.getElem?_eq_getElem hbl
              obtain ⟨gr, capr, er, _, _⟩ := row_byte hC.row e4
              refine set_walk95 hb (pb o.n.toNat) o.k o.n o.a o.l i o.a (lenO P o) (o.a + i) o.x o.s x.k x.n x.a x.l x.x x.s w _ (wrapi_in _ (by omega) (by omega)) (Lib.hid hf) (has_is _ _ _ _ _ true (decide_eq_true hi)) (locked_is (iv := iv) hp' false hlk) (Lib.hid fun wx kx => ?_)
              have hx : BCell wx (pb o.n.toNat) (rv o.n.toNat) (cellOf P o) := by
                rcases hp'.later kx with ⟨e, _⟩ | ⟨_, hx⟩
                · cases e
                · exact hx
              obtain ⟨gr', capr', er', c0, f0⟩ := row_byte hx.row e4
              have : gr' = gr := by
                rw [er] at er'
                simp at er'
                exact er'.1.symm
              subst this
              rw [← hj, hx3]
              refine (bset_walk hb (pb o.n.toNat) gr' (cellOf P o).bs.length capr (o.a + i).toNat x.n x.a x.l x.x x.s _ wx (by omega) (by omega) ?_ (by omega) (by omega) c0 f0).mono ?_
              · rw [cellAt hx.blk, er]
                rfl
              · rintro e wz ⟨rfl, w1, k1, rfl⟩
                have h1 : rowB w1 (rv o.n.toNat) (cellOf P o).bs := rowB_same hx.row fun g _ hg => k1.block g hg
                have q1 := rowB_set h1 er hbl (m := x.n) (by omega) (by omega)
                have q2 := (Only.refl gr' w1).set (o.a + i).toNat (.int .u8 x.n)
                have hgr := g4 gr' (by rw [er]; rfl)
                have hne : pb o.n.toNat ≠ gr' := fun e => by
                  rw [e, hgr] at g3
                  simp at g3
                have kk := below_and kx k1
                refine ⟨⟨_, rfl⟩, rfl, h.change hc (by simp [Cel.size]) ?_ ?_, ?_⟩
                · rw [eT]
                  refine .inr ⟨rfl, hx.kind, hx.it, ?_, q1⟩
                  rw [q2.block _ hne, k1.block _ (blk_lt hx.blk)]
                  exact hx.blk
                · intro k hk hne1 hne2
                  rw [q2.block k (fun e => hne2 (by rw [er, e]; rfl))]
                  exact kk.block k hk
                · refine ⟨q2.os.trans kk.os, q2.tape.trans kk.tape, q2.output.trans kk.output, by rw [q2.size]; exact kk.size, fun k hk hcc => ?_, fun _ _ => rfl⟩
                  rw [q2.block k (fun e => hcc (by rw [e, hgr]))]
                  exact kk.block k hk
          · refine done 6 (by simp only [setE, ho, hi, hlk, hk8', hx3, if_true, if_false, and_self]; simp) (by decide) ?_
            refine set_walk95 hb (pb o.n.toNat) o.k o.n o.a o.l i o.a (lenO P o) (o.a + i) o.x o.s x.k x.n x.a x.l x.x x.s w _ (wrapi_in _ (by omega) (by omega)) (Lib.hid hf) (has_is _ _ _ _ _ true (decide_eq_true hi)) (locked_is (iv := iv) hp' false hlk) (Lib.hid fun wx kx => ?_)
            refine (bset_type hb (pb o.n.toNat) (o.a + i) x.k x.n x.a x.l x.x x.s wx (by simpa using hx3)).mono ?_
            rintro e wz ⟨rfl, kz⟩
            exact ⟨⟨_, rfl⟩, rfl, below_and kx kz⟩
        · exact done 1 (by simp only [setE, ho, hi, hlk, if_true, and_self]) (by decide) (set_locked95 hb (pb o.n.toNat) o.k o.n o.a o.l i o.a (lenO P o) o.x o.s x.k x.n x.a x.l x.x x.s w (Lib.hid hf) (has_is _ _ _ _ _ true (decide_eq_true hi)) (locked_is (iv := iv) hp' true hlk))
    · exact done 12 (by simp only [setE, ho, hi, if_true, if_false]) (by decide) (set_index hb _ _ o.k o.n o.a o.l i o.a (lenO P o) o.x o.s x.k x.n x.a x.l x.x x.s w (Lib.hid hf) (has_is _ _ _ _ _ false (decide_eq_false hi)))
end
end Go.Proofs.Ytmlkmgeddkpgiaa
