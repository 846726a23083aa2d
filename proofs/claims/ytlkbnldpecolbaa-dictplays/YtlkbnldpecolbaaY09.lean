/- Y09: K18, K19, K20, K21. -/
import Derived.Test.YtlkbnldpecolbaaY06
import Derived.Test.YtlkbnldpecolbaaY07
import Derived.Test.YtlkbnldpecolbaaY08
/- A heap in which one cell has changed; Get, Set, Part, May of a whole heap. -/
namespace Go.Proofs.Ytlkbnldpecolbaa
open Go.RowKit
set_option linter.unusedVariables false

/-- Written one behind the other. -/
def putAt (xs : List Value) : Nat → List Value → List Value
  | _, [] => xs
  | o, v :: vs => putAt (xs.set o v) (o + 1) vs
theorem putAt_append (ys : List Value) : ∀ (vs : List Value) (o : Nat) (xs : List Value), putAt (ys ++ xs) (ys.length + o) vs = ys ++ putAt xs o vs
  | [], _, _ => rfl
  | v :: vs, o, xs => by
    rw [putAt, putAt, List.set_append_right _ _ (by omega), show ys.length + o - ys.length = o from by omega]
    exact putAt_append ys vs (o + 1) _
theorem obCells_put (o : Ob) : ∀ (l : List Ob) (i : Nat), i < l.length → putAt (obCells l) (i * 6) o.cells = obCells (l.set i o)
  | [], i, h => by simp at h
  | p :: l, 0, h => by
    show putAt (p.cells ++ obCells l) 0 o.cells = o.cells ++ obCells l
    simp [putAt, Ob.cells]
  | p :: l, i + 1, h => by
    show putAt (p.cells ++ obCells l) ((i + 1) * 6) o.cells = p.cells ++ obCells (l.set i o)
    have := putAt_append p.cells o.cells (i * 6) (obCells l)
    rw [show (i + 1) * 6 = p.cells.length + i * 6 from by simp [Ob.cells]; omega, this, obCells_put o l i (by simpa using h)]
theorem owns_put {base e size g n cap : Nat} : ∀ (vs : List Value) (o : Nat) (w : World) (xs : List Value), w.ownsRow base e size (.slice (some ⟨g, 0, none⟩) n cap) n xs → (w.setCells g o vs).ownsRow base e size (.slice (some ⟨g, 0, none⟩) n cap) n (putAt xs o vs) ∧ Only g w (w.setCells g o vs)
  | [], o, w, xs, h => ⟨h, Only.refl _ _⟩
  | v :: vs, o, w, xs, h => by
    have h1 := h.stored o v
    obtain ⟨h2, h3⟩ := owns_put vs (o + 1) _ _ h1.1
    have h4 := (Only.refl g w).set o v
    exact ⟨h2, h3.os.trans h4.os, h3.tape.trans h4.tape, h3.output.trans h4.output, h3.size.trans h4.size, fun k hk => (h3.block k hk).trans (h4.block k hk)⟩

theorem used_set {P : List Cel} {i : Nat} {cl cl' : Cel} (hi : P[i]? = some cl) (hs : cl'.size = cl.size) : usedP (P.set i cl') = usedP P := by
  unfold usedP
  induction P generalizing i with
  | nil => simp at hi
  | cons d P ih =>
    cases i with
    | zero =>
      simp at hi
      subst hi
      simp [hs]
    | succ i =>
      simp at hi
      have := ih hi
      simp only [List.set_cons_succ, List.map_cons, List.sum_cons]
      omega

section
variable {role : Nat → Nat × Nat} {c hb : Nat} {vc : Value} {ivs : List Value} {pb : Nat → Nat} {rv : Nat → Value} {P : List Cel} {w w' : World}

/-- One cell has changed, its size has not. -/
theorem PH.change (h : PH role c hb vc ivs pb rv P w) {i : Nat} {cl cl' : Cel} (hi : P[i]? = some cl) (hs : cl'.size = cl.size) (hc : PCell w' (.iface (celT cl) (ptr (pb i))) (pb i) (rv i) cl')
    (hk : ∀ k, k < w.heap.size → k ≠ pb i → (rv i).ownBlock ≠ some k → w'.heap[k]? = w.heap[k]?) : PH role c hb vc ivs pb rv (P.set i cl') w' := by
  have hil := (List.getElem?_eq_some_iff.1 hi).1
  obtain ⟨iv, g1, g2, g3, g4⟩ := h.cell i cl hi
  have e := g2.iv
  subst e
  have far : ∀ k, k < w.heap.size → role k ≠ (c, 2 * i + 2) → role k ≠ (c, 2 * i + 3) → w'.heap[k]? = w.heap[k]? := fun k hk1 h0 h1 => hk k hk1 (fun e => h0 (by rw [e]; exact g3)) (fun e => h1 (g4 k e))
  have far0 := far hb (blk_lt h.hblk) (by rw [h.hrole]; simp) (by rw [h.hrole]; simp)
  refine ⟨⟨by simpa using h.wf.len, by rw [used_set hi hs]; exact h.wf.used, fun d hd => ?_⟩, h.hrole, ?_, ?_, h.crole, fun j d hj => ?_⟩
  · rcases List.mem_or_eq_of_mem_set hd with hd | rfl
    · exact h.wf.kind d hd
    · exact hc.bound
  · rw [far0, used_set hi hs]
    exact h.hblk
  · rw [List.length_set]
    refine owns_same h.crow fun g e hg => far g hg ?_ ?_
    · rw [h.crole g e]; simp
    · rw [h.crole g e]; simp
  · by_cases hji : j = i
    · subst hji
      rw [List.getElem?_set_self hil] at hj
      have : cl' = d := by simpa using hj
      subst this
      exact ⟨_, g1, hc, g3, g4⟩
    · rw [List.getElem?_set_ne (Ne.symm hji)] at hj
      obtain ⟨iv', h1, h2, h3, h4⟩ := h.cell j d hj
      refine ⟨iv', h1, h2.same (far _ h2.lt ?_ ?_) fun k e hk' => far k hk' ?_ ?_, h3, h4⟩
      · rw [h3]; simp; omega
      · rw [h3]; simp; omega
      · rw [h4 k e]; simp; omega
      · rw [h4 k e]; simp; omega

theorem mayH_is (h : PH role c hb vc ivs pb rv P w) (o : Ob) : Calls Try.prog 52 #[ptr hb, o.val] w fun e w' => e = .returned (.bool (mayH P o)) ∧ Below w.heap.size w w' := by
  cases hm : o.may
  · have : mayH P o = false := by simp [mayH, hm]
    rw [this]
    exact hmay_no hb o.k o.n o.a o.l o.x o.s w (may_is hm)
  · cases ho : okO P o
    · refine hmay_find hb o.k o.n o.a o.l 0 0 (errO P o) .nilIface o.x _ o.s w (Lib.hid ?_) (.inl rfl) (may_is hm) (Lib.hid fun wx kx => find_no (h.below kx) o ho)
      cases hk : comp o.k
      · simp [errO, mayH, hk, hm]
      · have : inCell P o = false := by simpa [okO, hk, hm] using ho
        simp [errO, mayH, hk, hm, ho, this]
    · refine hmay_find hb o.k o.n o.a o.l o.a (lenO P o) 0 (.iface (celT (cellOf P o)) (ptr (pb o.n.toNat))) o.x _ o.s w (Lib.hid ?_) (.inr ⟨_, _, rfl⟩) (may_is hm) (Lib.hid fun wx kx => find_ok (h.below kx) o ho)
      have := okO_iff.1 ho
      simp [mayH, this]

theorem lenO_bd (h : WfP P) (o : Ob) : 0 ≤ lenO P o ∧ lenO P o ≤ 40000 := by
  cases ho : okO P o
  · simp [lenO, ho]
  · obtain ⟨b0, b1, b2, b3, b4, b5, b6, b7, _⟩ := ok_bd ho
    have := h.size (cellOf_get (P := P) (o := o) b0 b1)
    simp only [lenO, ho, if_true]
    split <;> omega

theorem has_is (T r : Nat) (a n i : Int) (b : Bool) (hb' : decide (0 ≤ i ∧ i < n) = b) : Hid (∀ w, Calls Try.prog 85 #[pcV (.iface T (ptr r)) a n, .int .i64 i] w fun e w' => e = .returned (.bool b) ∧ Below w.heap.size w w') := Lib.hid fun w => by
  have := has_any T r a n i w
  rw [hb'] at this
  exact this
/-- What Part returns. -/
def partE (P : List Cel) (o : Ob) (i m : Int) : Int := if okO P o then (if o.k = 10 then 6 else if 0 ≤ i ∧ 0 ≤ m ∧ i + m ≤ lenO P o then 0 else 12) else errO P o
def partO (P : List Cel) (o : Ob) (i m : Int) : Ob := if partE P o i m = 0 then ⟨o.k, o.x, o.n, o.a + i, m, o.s⟩ else Ob.zero

end
end Go.Proofs.Ytlkbnldpecolbaa

/- Get and Set of a whole heap. -/
namespace Go.Proofs.Ytlkbnldpecolbaa
open Go.RowKit
set_option linter.unusedVariables false

def itemAt (c : Cel) (j : Nat) : Ob := if c.k = 8 then Ob.num ((c.bs.getD j 0).toNat) else c.it.getD j Ob.zero
def putItem (c : Cel) (j : Nat) (x : Ob) : Cel := if c.k = 8 then { c with bs := c.bs.set j (UInt8.ofNat x.n.toNat) } else { c with it := c.it.set j x }
def getE (P : List Cel) (o : Ob) (i : Int) : Int := if okO P o then (if 0 ≤ i ∧ i < lenO P o then 0 else 12) else errO P o
def getO (P : List Cel) (o : Ob) (i : Int) : Ob := if getE P o i = 0 then itemAt (cellOf P o) (o.a + i).toNat else Ob.zero
def setE (P : List Cel) (o : Ob) (i : Int) (x : Ob) : Int :=
  if okO P o then (if 0 ≤ i ∧ i < lenO P o then (if (cellOf P o).lk then 1 else if o.k = 8 then (if x.k = 3 then (if x.n < 0 ∨ 255 < x.n then 2 else 0) else 6) else if mayH P x then 0 else 1) else 12) else errO P o
def setP (P : List Cel) (o : Ob) (i : Int) (x : Ob) : List Cel := if setE P o i x = 0 then P.set o.n.toNat (putItem (cellOf P o) (o.a + i).toNat x) else P

theorem ok_at {P : List Cel} {o : Ob} {i : Int} (ho : okO P o = true) (hi : 0 ≤ i ∧ i < lenO P o) : 0 ≤ o.a + i ∧ o.a + i < (cellOf P o).size := by
  obtain ⟨b0, b1, b2, b3, b4, b5, b6, b7, b8⟩ := ok_bd ho
  simp only [lenO, ho, if_true] at hi
  by_cases hk : o.k = 10
  · have := b8 hk
    simp only [hk, if_true] at hi
    omega
  · simp only [hk, if_false] at hi
    omega

theorem set_any_fr {w : World} {g i : Nat} {cs : Array Value} {t : TypeId} {fr : Nat × Nat} {v : Value} (hg : w.heap[g]? = some (.cells cs t fr)) : (w.setCell ⟨g, i, none⟩ v).heap[g]? = some (.cells (cs.setIfInBounds i v) t fr) := by
  rw [setCell_eq_setRow w g i cs t fr v hg]
  exact setRow_heap w g cs _ t _ hg
theorem rowB_set {w : World} {v : Value} {l : List UInt8} {g j n cap : Nat} {m : Int} (h : rowB w v l) (hv : v = .slice (some ⟨g, 0, none⟩) n cap) (hj : j < l.length) (h0 : 0 ≤ m) (h1 : m ≤ 255) : rowB (w.setCell ⟨g, j, none⟩ (.int .u8 m)) v (l.set j (UInt8.ofNat m.toNat)) := by
  rcases h with ⟨_, rfl⟩ | ⟨g', cap', cur, fr, rfl, hg, hf, hc, hs, ht⟩
  · simp at hj
  · simp only [Value.slice.injEq, Option.some.injEq, Addr.mk.injEq, and_true] at hv
    obtain ⟨rfl, rfl, rfl⟩ := hv
    refine .inr ⟨g', cap', cur.setIfInBounds j (.int .u8 m), fr, by simp, set_any_fr hg, by simpa using hf, by simpa using hc, by simpa using hs, ?_⟩
    rw [Array.toList_setIfInBounds, List.length_set, List.take_set, ht]
    have e : ((UInt8.ofNat m.toNat).toNat : Int) = m := by
      rw [UInt8.toNat_ofNat']
      omega
    simp only [byCells, List.map_set, e]

section
variable {role : Nat → Nat × Nat} {c hb : Nat} {vc : Value} {ivs : List Value} {pb : Nat → Nat} {rv : Nat → Value} {P : List Cel} {w w' : World}

theorem get_is (h : PH role c hb vc ivs pb rv P w) (o : Ob) (i : Int) : Calls Try.prog 71 #[ptr hb, o.val, .int .i64 i] w fun e w' => e = .returned (.tuple #[(getO P o i).val, .int .i64 (getE P o i)]) ∧ Below w.heap.size w w' := by
  cases ho : okO P o
  · have hE := errO_no ho
    have e1 : getE P o i = errO P o := by simp [getE, ho]
    have e2 : getO P o i = Ob.zero := by simp [getO, e1, hE]
    rw [e1, e2]
    exact get_err hb o.k o.n o.a o.l i (errO P o) o.x o.s w (by simpa using hE) (Lib.hid fun wx kx => find_no (h.below kx) o ho)
  · have hf := fun wx kx => find_ok (h.below (w' := wx) kx) o ho
    by_cases hi : 0 ≤ i ∧ i < lenO P o
    · have e1 : getE P o i = 0 := by simp only [getE, ho, hi, if_true, and_self]
      have e2 : getO P o i = itemAt (cellOf P o) (o.a + i).toNat := by simp [getO, e1]
      obtain ⟨a0, a1⟩ := ok_at ho hi
      obtain ⟨b0, b1, b2, b3, _⟩ := ok_bd ho
      have hc := cellOf_get (P := P) (o := o) b0 b1
      have hz := h.wf.size hc
      obtain ⟨g, cap, rfl, _, _, hp⟩ := h.ivAt hc
      rw [e1, e2]
      have hj : ((o.a + i).toNat : Int) = o.a + i := by omega
      have hp' := hp
      rcases hp with ⟨eT, hC⟩ | ⟨eT, hC⟩
      · have eT : celT (cellOf P o) = 113 := by injection eT
        have hs : (cellOf P o).size = (cellOf P o).it.length := by simp [Cel.size, hC.bs]
        have hk8 : (cellOf P o).k ≠ 8 := by have := hC.kind; omega
        have e3 : itemAt (cellOf P o) (o.a + i).toNat = (cellOf P o).it.getD (o.a + i).toNat Ob.zero := by simp [itemAt, hk8]
        have e4 : (cellOf P o).it[(o.a + i).toNat]? = some ((cellOf P o).it.getD (o.a + i).toNat Ob.zero) := by
          rw [List.getD_eq_getElem?_getD, List.getElem?_eq_getElem (by omega)]
          rfl
        rw [e3]
        rw [eT] at hf hp'
        refine get_walk87 hb (pb o.n.toNat) o.k o.n o.a o.l i o.a (lenO P o) (o.a + i) o.x o.s _ _ _ _ _ _ w (wrapi_in _ (by omega) (by omega)) (Lib.hid hf) (has_is _ _ _ _ _ true (decide_eq_true hi)) (Lib.hid fun wx kx => ?_)
        rcases hp'.later kx with ⟨_, hx⟩ | ⟨e, _⟩
        · rw [← hj]
          exact iget_any hx _ _ e4
        · cases e
      · have eT : celT (cellOf P o) = 134 := by injection eT
        have hs : (cellOf P o).size = (cellOf P o).bs.length := by simp [Cel.size, hC.it]
        have e3 : itemAt (cellOf P o) (o.a + i).toNat = Ob.num (((cellOf P o).bs.getD (o.a + i).toNat 0).toNat) := by simp [itemAt, hC.kind]
        have e4 : (cellOf P o).bs[(o.a + i).toNat]? = some ((cellOf P o).bs.getD (o.a + i).toNat 0) := by
          rw [List.getD_eq_getElem?_getD, List.getElem?_eq_getElem (by omega)]
          rfl
        rw [e3]
        rw [eT] at hf hp'
        refine get_walk95 hb (pb o.n.toNat) o.k o.n o.a o.l i o.a (lenO P o) (o.a + i) o.x o.s _ _ _ _ _ _ w (wrapi_in _ (by omega) (by omega)) (Lib.hid hf) (has_is _ _ _ _ _ true (decide_eq_true hi)) (Lib.hid fun wx kx => ?_)
        rcases hp'.later kx with ⟨e, _⟩ | ⟨_, hx⟩
        · cases e
        · rw [← hj]
          exact bget_any hx _ _ e4
    · have e1 : getE P o i = 12 := by simp only [getE, ho, hi, if_true, if_false]
      have e2 : getO P o i = Ob.zero := by simp [getO, e1]
      rw [e1, e2]
      exact get_index hb _ _ o.k o.n o.a o.l i o.a (lenO P o) o.x o.s w (Lib.hid hf) (has_is _ _ _ _ _ false (decide_eq_false hi))

theorem locked_is {iv : Value} {r : Nat} {row : Value} {cl : Cel} {T : TypeId} (h : PCell w (.iface T (ptr r)) r row cl) (b : Bool) (hb' : cl.lk = b) : Hid (∀ wx, Below w.heap.size w wx → Calls Try.prog 126 #[ptr r] wx fun e w' => e = .returned (.bool b) ∧ wx = w') := Lib.hid fun wx kx => by
  subst hb'
  rcases h.later kx with ⟨_, hx⟩ | ⟨_, hx⟩
  · exact isLocked_any r cl.lk wx (by rw [cellAt hx.blk]; rfl)
  · exact isLocked_any r cl.lk wx (by rw [cellAt hx.blk]; rfl)

theorem below_keep {role : Nat → Nat × Nat} {c : Nat} (k : Below w.heap.size w w') : Keep role c w role w' := Keep.of_below c k

theorem setE_err {P : List Cel} {o : Ob} {i : Int} {x : Ob} {E : Int} (h : setE P o i x = E) (hE : E ≠ 0) : setP P o i x = P := by
  unfold setP
  rw [h, if_neg hE]

theorem set_is (h : PH role c hb vc ivs pb rv P w) (o : Ob) (i : Int) (x : Ob) : Calls Try.prog 55 #[ptr hb, o.val, .int .i64 i, x.val] w fun e w' => e = .returned (.int .i64 (setE P o i x)) ∧ PH role c hb vc ivs pb rv (setP P o i x) w' ∧ Keep role c w role w' := by
  have done : ∀ E, setE P o i x = E → E ≠ 0 → Calls Try.prog 55 #[ptr hb, o.val, .int .i64 i, x.val] w (fun e w' => e = .returned (.int .i64 E) ∧ Below w.heap.size w w') → Calls Try.prog 55 #[ptr hb, o.val, .int .i64 i, x.val] w fun e w' => e = .returned (.int .i64 (setE P o i x)) ∧ PH role c hb vc ivs pb rv (setP P o i x) w' ∧ Keep role c w role w' := by
    intro E e1 e2 hc
    refine hc.mono ?_
    rintro e w' ⟨rfl, k⟩
    rw [setE_err e1 e2, e1]
    exact ⟨rfl, h.below k, below_keep k⟩
  cases ho : okO P o
  · have hE := errO_no ho
    exact done (errO P o) (by simp [setE, ho]) hE (set_err hb o.k o.n o.a o.l i (errO P o) o.x o.s x.k x.n x.a x.l x.x x.s w (by simpa using hE) (Lib.hid fun wx kx => find_no (h.below kx) o ho))
  · have hf := fun wx kx => find_ok (h.below (w' := wx) kx) o ho
    by_cases hi : 0 ≤ i ∧ i < lenO P o
    · obtain ⟨a0, a1⟩ := ok_at ho hi
      obtain ⟨b0, b1, b2, b3, _, _, b6, _⟩ := ok_bd ho
      have hc := cellOf_get (P := P) (o := o) b0 b1
      have hz := h.wf.size hc
      obtain ⟨g0, cap0, rfl, _, _, hp⟩ := h.ivAt hc
      have hj : ((o.a + i).toNat : Int) = o.a + i := by omega
      obtain ⟨iv, g1, g2, g3, g4⟩ := h.cell o.n.toNat _ hc
      have hp' := hp
      rcases hp with ⟨eT, hC⟩ | ⟨eT, hC⟩
      · have eT : celT (cellOf P o) = 113 := by injection eT
        have hs : (cellOf P o).size = (cellOf P o).it.length := by simp [Cel.size, hC.bs]
        have hk8 : (cellOf P o).k ≠ 8 := by have := hC.kind; omega
        have hk8' : o.k ≠ 8 := by rw [← b6]; exact hk8
        rw [eT] at hf hp'
        cases hlk : (cellOf P o).lk
        · cases hm : mayH P x
          · refine done 1 (by simp only [setE, ho, hi, hlk, hk8', hm, if_true, if_false, and_self]; simp) (by decide) ?_
            refine set_walk87 hb (pb o.n.toNat) o.k o.n o.a o.l i o.a (lenO P o) (o.a + i) o.x o.s x.k x.n x.a x.l x.x x.s w _ (wrapi_in _ (by omega) (by omega)) (Lib.hid hf) (has_is _ _ _ _ _ true (decide_eq_true hi)) (locked_is (iv := iv) hp' false hlk) (Lib.hid fun wx kx => ?_)
            refine (iset_no hb (pb o.n.toNat) (o.a + i) x.k x.n x.a x.l x.x x.s wx (Lib.hid fun wy ky => ?_)).mono ?_
            · have := mayH_is ((h.below kx).below ky) x
              rw [hm] at this
              exact this
            · rintro e wz ⟨rfl, kz⟩
              exact ⟨⟨_, rfl⟩, rfl, below_and kx kz⟩
          · have e0 : setE P o i x = 0 := by simp only [setE, ho, hi, hlk, hk8', hm, if_true, if_false, and_self]; simp
            have e5 : setP P o i x = P.set o.n.toNat (putItem (cellOf P o) (o.a + i).toNat x) := by simp [setP, e0]
            have e6 : putItem (cellOf P o) (o.a + i).toNat x = { cellOf P o with it := (cellOf P o).it.set (o.a + i).toNat x } := by simp [putItem, hk8]
            rw [e0, e5, e6]
            obtain ⟨gr, capr, er, _, _⟩ := hC.row.form (by omega)
            refine set_walk87 hb (pb o.n.toNat) o.k o.n o.a o.l i o.a (lenO P o) (o.a + i) o.x o.s x.k x.n x.a x.l x.x x.s w _ (wrapi_in _ (by omega) (by omega)) (Lib.hid hf) (has_is _ _ _ _ _ true (decide_eq_true hi)) (locked_is (iv := iv) hp' false hlk) (Lib.hid fun wx kx => ?_)
            have hx : ICell wx (pb o.n.toNat) (rv o.n.toNat) (cellOf P o) := by
              rcases hp'.later kx with ⟨_, hx⟩ | ⟨e, _⟩
              · exact hx
              · cases e
            have hxr := hx.row
            rw [er] at hxr
            rw [← hj]
            refine (iset_walk hb (pb o.n.toNat) gr (cellOf P o).it.length capr (o.a + i).toNat x.k x.n x.a x.l x.x x.s wx (Lib.hid fun wy ky => ?_) ?_ (by omega) (by omega) (Lib.hid fun wy ky => ?_)).mono ?_
            · have := mayH_is ((h.below kx).below ky) x
              rw [hm] at this
              exact this
            · rw [cellAt hx.blk, er]
              rfl
            · intro j hj6
              have hy : wy.ownsRow 0 30 6 (.slice (some ⟨gr, 0, none⟩) (cellOf P o).it.length capr) (cellOf P o).it.length (obCells (cellOf P o).it) := owns_same hxr fun g _ hg => ky.block g hg
              refine ⟨?_, hy.frozenAt _⟩
              rw [hy.cellAt _ (by omega), List.getElem?_eq_getElem (by rw [obCells_length]; omega)]
              rfl
            · rintro e wz ⟨rfl, w1, k1, rfl⟩
              have h1 : w1.ownsRow 0 30 6 (.slice (some ⟨gr, 0, none⟩) (cellOf P o).it.length capr) (cellOf P o).it.length (obCells (cellOf P o).it) := owns_same hxr fun g _ hg => k1.block g hg
              obtain ⟨q1, q2⟩ := owns_put [.int .i64 x.k, .bool x.x, .int .i64 x.n, .int .i64 x.a, .int .i64 x.l, .string x.s] ((o.a + i).toNat * 6) w1 _ h1
              have q3 := obCells_put x (cellOf P o).it (o.a + i).toNat (by omega)
              have hgr := g4 gr (by rw [er]; rfl)
              have hne : pb o.n.toNat ≠ gr := fun e => by
                rw [e, hgr] at g3
                simp at g3
              have kk := below_and kx k1
              have grl : gr < w.heap.size := hp'.row_lt (by rw [er]; rfl)
              refine ⟨⟨_, rfl⟩, rfl, h.change hc (by simp [Cel.size]) ?_ ?_, ?_⟩
              · rw [eT]
                refine .inl ⟨rfl, hx.kind, hx.bs, ?_, ?_⟩
                · rw [q2.block _ hne, k1.block _ (blk_lt hx.blk)]
                  exact hx.blk
                · rw [er]
                  show World.ownsRow _ _ _ _ _ (List.set _ (o.a + i).toNat _).length (obCells (List.set _ (o.a + i).toNat _))
                  rw [List.length_set, ← q3]
                  exact q1
              · intro k hk hne1 hne2
                rw [q2.block k (fun e => hne2 (by rw [er, e]; rfl))]
                exact kk.block k hk
              · refine ⟨q2.os.trans kk.os, q2.tape.trans kk.tape, q2.output.trans kk.output, by rw [q2.size]; exact kk.size, fun k hk hcc => ?_, fun _ _ => rfl⟩
                rw [q2.block k (fun e => hcc (by rw [e, hgr]))]
                exact kk.block k hk
        · exact done 1 (by simp only [setE, ho, hi, hlk, if_true, and_self]) (by decide) (set_locked87 hb (pb o.n.toNat) o.k o.n o.a o.l i o.a (lenO P o) o.x o.s x.k x.n x.a x.l x.x x.s w (Lib.hid hf) (has_is _ _ _ _ _ true (decide_eq_true hi)) (locked_is (iv := iv) hp' true hlk))
      · have eT : celT (cellOf P o) = 134 := by injection eT
        have hs : (cellOf P o).size = (cellOf P o).bs.length := by simp [Cel.size, hC.it]
        have hk8' : o.k = 8 := by rw [← b6]; exact hC.kind
        rw [eT] at hf hp'
        cases hlk : (cellOf P o).lk
        · by_cases hx3 : x.k = 3
          · by_cases hx2 : x.n < 0 ∨ 255 < x.n
            · refine done 2 (by simp only [setE, ho, hi, hlk, hk8', hx3, hx2, if_true, and_self]; simp) (by decide) ?_
              refine set_walk95 hb (pb o.n.toNat) o.k o.n o.a o.l i o.a (lenO P o) (o.a + i) o.x o.s x.k x.n x.a x.l x.x x.s w _ (wrapi_in _ (by omega) (by omega)) (Lib.hid hf) (has_is _ _ _ _ _ true (decide_eq_true hi)) (locked_is (iv := iv) hp' false hlk) (Lib.hid fun wx kx => ?_)
              rw [hx3]
              refine (bset_range hb (pb o.n.toNat) (o.a + i) x.n x.a x.l x.x x.s wx hx2).mono ?_
              rintro e wz ⟨rfl, kz⟩
              exact ⟨⟨_, rfl⟩, rfl, below_and kx kz⟩
            · have e0 : setE P o i x = 0 := by simp only [setE, ho, hi, hlk, hk8', hx3, hx2, if_true, if_false, and_self]; simp
              have e5 : setP P o i x = P.set o.n.toNat (putItem (cellOf P o) (o.a + i).toNat x) := by simp [setP, e0]
              have e6 : putItem (cellOf P o) (o.a + i).toNat x = { cellOf P o with bs := (cellOf P o).bs.set (o.a + i).toNat (UInt8.ofNat x.n.toNat) } := by simp [putItem, hC.kind]
              rw [e0, e5, e6]
              have hbl : (o.a + i).toNat < (cellOf P o).bs.length := by omega
              have e4 : (cellOf P o).bs[(o.a + i).toNat]? = some ((cellOf P o).bs[(o.a + i).toNat]) := List.getElem?_eq_getElem hbl
              obtain ⟨gr, capr, er, _, _⟩ := row_byte hC.row e4
              refine set_walk95 hb (pb o.n.toNat) o.k o.n o.a o.l i o.a (lenO P o) (o.a + i) o.x o.s x.k x.n x.a x.l x.x x.s w _ (wrapi_in _ (by omega) (by omega)) (Lib.hid hf) (has_is _ _ _ _ _ true (decide_eq_true hi)) (locked_is (iv := iv) hp' false hlk) (Lib.hid fun wx kx => ?_)
              have hx : BCell wx (pb o.n.toNat) (rv o.n.toNat) (cellOf P o) := by
                rcases hp'.later kx with ⟨e, _⟩ | ⟨_, hx⟩
                · cases e
                · exact hx
              obtain ⟨gr', capr', er', c0, f0⟩ := row_byte hx.row e4
              have : gr' = gr := by
                rw [er] at er'
                simp at er'
                exact er'.1.symm
              subst this
              rw [← hj, hx3]
              refine (bset_walk hb (pb o.n.toNat) gr' (cellOf P o).bs.length capr (o.a + i).toNat x.n x.a x.l x.x x.s _ wx (by omega) (by omega) ?_ (by omega) (by omega) c0 f0).mono ?_
              · rw [cellAt hx.blk, er]
                rfl
              · rintro e wz ⟨rfl, w1, k1, rfl⟩
                have h1 : rowB w1 (rv o.n.toNat) (cellOf P o).bs := rowB_same hx.row fun g _ hg => k1.block g hg
                have q1 := rowB_set h1 er hbl (m := x.n) (by omega) (by omega)
                have q2 := (Only.refl gr' w1).set (o.a + i).toNat (.int .u8 x.n)
                have hgr := g4 gr' (by rw [er]; rfl)
                have hne : pb o.n.toNat ≠ gr' := fun e => by
                  rw [e, hgr] at g3
                  simp at g3
                have kk := below_and kx k1
                refine ⟨⟨_, rfl⟩, rfl, h.change hc (by simp [Cel.size]) ?_ ?_, ?_⟩
                · rw [eT]
                  refine .inr ⟨rfl, hx.kind, hx.it, ?_, q1⟩
                  rw [q2.block _ hne, k1.block _ (blk_lt hx.blk)]
                  exact hx.blk
                · intro k hk hne1 hne2
                  rw [q2.block k (fun e => hne2 (by rw [er, e]; rfl))]
                  exact kk.block k hk
                · refine ⟨q2.os.trans kk.os, q2.tape.trans kk.tape, q2.output.trans kk.output, by rw [q2.size]; exact kk.size, fun k hk hcc => ?_, fun _ _ => rfl⟩
                  rw [q2.block k (fun e => hcc (by rw [e, hgr]))]
                  exact kk.block k hk
          · refine done 6 (by simp only [setE, ho, hi, hlk, hk8', hx3, if_true, if_false, and_self]; simp) (by decide) ?_
            refine set_walk95 hb (pb o.n.toNat) o.k o.n o.a o.l i o.a (lenO P o) (o.a + i) o.x o.s x.k x.n x.a x.l x.x x.s w _ (wrapi_in _ (by omega) (by omega)) (Lib.hid hf) (has_is _ _ _ _ _ true (decide_eq_true hi)) (locked_is (iv := iv) hp' false hlk) (Lib.hid fun wx kx => ?_)
            refine (bset_type hb (pb o.n.toNat) (o.a + i) x.k x.n x.a x.l x.x x.s wx (by simpa using hx3)).mono ?_
            rintro e wz ⟨rfl, kz⟩
            exact ⟨⟨_, rfl⟩, rfl, below_and kx kz⟩
        · exact done 1 (by simp only [setE, ho, hi, hlk, if_true, and_self]) (by decide) (set_locked95 hb (pb o.n.toNat) o.k o.n o.a o.l i o.a (lenO P o) o.x o.s x.k x.n x.a x.l x.x x.s w (Lib.hid hf) (has_is _ _ _ _ _ true (decide_eq_true hi)) (locked_is (iv := iv) hp' true hlk))
    · exact done 12 (by simp only [setE, ho, hi, if_true, if_false]) (by decide) (set_index hb _ _ o.k o.n o.a o.l i o.a (lenO P o) o.x o.s x.k x.n x.a x.l x.x x.s w (Lib.hid hf) (has_is _ _ _ _ _ false (decide_eq_false hi)))
end
end Go.Proofs.Ytlkbnldpecolbaa

/- A heap beside blocks that it does not touch; the law's known case. -/
namespace Go.Proofs.Ytlkbnldpecolbaa
open Go.RowKit
set_option linter.unusedVariables false

/-- A heap; the blocks 'own' are none of its. -/
def Sep (own : Nat → Prop) (hb : Nat) (P : List Cel) (w : World) : Prop := ∃ role, PHeap role 1 hb P w ∧ ∀ b, own b → b < w.heap.size ∧ (role b).1 ≠ 1
structure Kept (own : Nat → Prop) (w w' : World) : Prop where
  os : w'.os = w.os
  tape : w'.tape = w.tape
  output : w'.output = w.output
  size : w.heap.size ≤ w'.heap.size
  block : ∀ b, own b → w'.heap[b]? = w.heap[b]?
theorem Kept.trans {own : Nat → Prop} {w w1 w2 : World} (h : Kept own w w1) (k : Kept own w1 w2) : Kept own w w2 := ⟨k.os.trans h.os, k.tape.trans h.tape, k.output.trans h.output, Nat.le_trans h.size k.size, fun b hb => (k.block b hb).trans (h.block b hb)⟩
theorem Kept.sub {own own' : Nat → Prop} {w w1 : World} (h : Kept own w w1) (k : ∀ b, own' b → own b) : Kept own' w w1 := ⟨h.os, h.tape, h.output, h.size, fun b hb => h.block b (k b hb)⟩
theorem Kept.below {w w' : World} {n : Nat} {own : Nat → Prop} (h : Kept own w w') (k : ∀ b, b < n → own b) : Below n w w' := ⟨h.os, h.tape, h.output, h.size, fun b hb => h.block b (k b hb)⟩
theorem Sep.sub {own own' : Nat → Prop} {hb : Nat} {P : List Cel} {w : World} (h : Sep own hb P w) (k : ∀ b, own' b → own b) : Sep own' hb P w := by
  obtain ⟨role, h1, h2⟩ := h
  exact ⟨role, h1, fun b hb => h2 b (k b hb)⟩
section
variable {own : Nat → Prop} {hb : Nat} {P P' : List Cel} {w w' : World}
theorem Sep.of_keep {role role' : Nat → Nat × Nat} (h2 : ∀ b, own b → b < w.heap.size ∧ (role b).1 ≠ 1) (h : PHeap role' 1 hb P' w') (k : Keep role 1 w role' w') : Sep own hb P' w' ∧ Kept own w w' :=
  ⟨⟨role', h, fun b hb => ⟨Nat.lt_of_lt_of_le (h2 b hb).1 k.size, by rw [k.same b (h2 b hb).1]; exact (h2 b hb).2⟩⟩, k.os, k.tape, k.output, k.size, fun b hb => k.block b (h2 b hb).1 (h2 b hb).2⟩
theorem Sep.below (h : Sep own hb P w) (k : Below w.heap.size w w') : Sep own hb P w' ∧ Kept own w w' := by
  obtain ⟨role, h1, h2⟩ := h
  exact Sep.of_keep h2 (h1.below k) (Keep.of_below 1 k)
theorem Sep.box (h : Sep own hb P w) (o : Obj) : Sep (fun b => own b ∨ b = w.heap.size) hb P (w.alloc o) := by
  obtain ⟨role, ⟨vc, ivs, pb, rv, h1⟩, h2⟩ := h
  refine ⟨paint role w.heap.size fun _ => (0, 0), ⟨vc, ivs, pb, rv, h1.paint (box_below _ _) _⟩, fun b hb => ?_⟩
  rcases hb with hb | rfl
  · have := h2 b hb
    rw [paint_old this.1]
    refine ⟨?_, this.2⟩
    have := this.1
    simp
    omega
  · rw [paint_new (Nat.le_refl _)]
    exact ⟨by simp, by simp⟩
theorem Sep.new (w : World) : Sep (fun b => b < w.heap.size) w.heap.size [] (w.alloc (.cells #[.slice none 0 0, .int .i64 0] 72)) :=
  ⟨_, newHeap (fun _ => (0, 0)) 1 w, fun b hb => ⟨by simp; omega, by rw [paint_old hb]; simp⟩⟩
/-- A new heap beside an older block of ours, or more. -/
theorem Sep.new_own (w : World) (own : Nat → Prop) (h : ∀ b, own b → b < w.heap.size) : Sep own w.heap.size [] (w.alloc (.cells #[.slice none 0 0, .int .i64 0] 72)) := (Sep.new w).sub h

theorem sString_ok (h : Sep own hb P w) (s : ByteArray) (hl : P.length < 2000) (hu : s.size + usedP P ≤ 40000) :
    Calls Try.prog 61 #[ptr hb, .string s] w fun e w' => e = .returned (.tuple #[obV 8 false P.length 0 s.size ⟨#[]⟩, .int .i64 0]) ∧ Sep own hb (P ++ [⟨8, false, [], s.data.toList⟩]) w' ∧ Kept own w w' := by
  obtain ⟨role, ⟨vc, ivs, pb, rv, h1⟩, h2⟩ := h
  refine (string_ok h1 s hl hu).mono ?_
  rintro e w' ⟨rfl, role', q1, q2⟩
  exact ⟨rfl, Sep.of_keep h2 q1 q2⟩
theorem sDict_limit (h : Sep own hb P w) (n : Int) (hn : 0 ≤ n) (hn' : n ≤ 1000) (hl : ¬ (P.length < 2000 ∧ 2 * n + 1 + usedP P ≤ 40000)) :
    Calls Try.prog 44 #[ptr hb, .int .i64 n] w fun e w' => e = .returned (.tuple #[zeroOb, .int .i64 5]) ∧ Sep own hb P w' ∧ Kept own w w' := by
  have h0 := h
  obtain ⟨role, ⟨vc, ivs, pb, rv, h1⟩, h2⟩ := h
  refine (dict_limit h1 n hn hn' hl).mono ?_
  rintro e w' ⟨rfl, k⟩
  exact ⟨rfl, h0.below k⟩
theorem sSet (h : Sep own hb P w) (o : Ob) (i : Int) (x : Ob) (E : Int) (P' : List Cel) (hE : setE P o i x = E) (hP : setP P o i x = P') :
    Calls Try.prog 55 #[ptr hb, o.val, .int .i64 i, x.val] w fun e w' => e = .returned (.int .i64 E) ∧ Sep own hb P' w' ∧ Kept own w w' := by
  obtain ⟨role, ⟨vc, ivs, pb, rv, h1⟩, h2⟩ := h
  refine (set_is h1 o i x).mono ?_
  rintro e w' ⟨rfl, q1, q2⟩
  rw [hE]
  rw [hP] at q1
  exact ⟨rfl, Sep.of_keep h2 ⟨vc, ivs, pb, rv, q1⟩ q2⟩
theorem sGet (h : Sep own hb P w) (o : Ob) (i : Int) (k : Int) (x : Bool) (n a l : Int) (s : ByteArray) (E : Int) (hE : getE P o i = E) (hO : getO P o i = ⟨k, x, n, a, l, s⟩) :
    Calls Try.prog 71 #[ptr hb, o.val, .int .i64 i] w fun e w' => e = .returned (.tuple #[obV k x n a l s, .int .i64 E]) ∧ Sep own hb P w' ∧ Kept own w w' := by
  have h0 := h
  obtain ⟨role, ⟨vc, ivs, pb, rv, h1⟩, h2⟩ := h
  refine (get_is h1 o i).mono ?_
  rintro e w' ⟨rfl, kk⟩
  rw [hE, hO]
  exact ⟨rfl, h0.below kk⟩
theorem sCells (h : Sep own hb P w) : Calls Try.prog 23 #[ptr hb] w fun e w' => e = .returned (.int .i64 P.length) ∧ w = w' := by
  obtain ⟨role, ⟨vc, ivs, pb, rv, h1⟩, h2⟩ := h
  obtain ⟨p, cap, rfl, h0⟩ := h1.cells
  exact cells_any hb p P.length cap w h0
theorem sUsed (h : Sep own hb P w) : Calls Try.prog 37 #[ptr hb] w fun e w' => e = .returned (.int .i64 (usedP P)) ∧ w = w' := by
  obtain ⟨role, ⟨vc, ivs, pb, rv, h1⟩, h2⟩ := h
  exact used_any hb (usedP P) w h1.used
end

abbrev obObj (k : Int) (x : Bool) (n a l : Int) (s : ByteArray) : Obj := .cells #[.int .i64 k, .bool x, .int .i64 n, .int .i64 a, .int .i64 l, .string s] 30 (0, 0)
theorem Sep.box_ob {own : Nat → Prop} {hb : Nat} {P : List Cel} {w : World} (h : Sep own hb P w) (k : Int) (x : Bool) (n a l : Int) (s : ByteArray) :
    ∃ w', w.alloc (.cells #[.int .i64 k, .bool x, .int .i64 n, .int .i64 a, .int .i64 l, .string s] 30) = w' ∧ Sep (fun b => own b ∨ b = w.heap.size) hb P w' ∧ Kept own w w' ∧ w'.heap[w.heap.size]? = some (obObj k x n a l s) :=
  ⟨_, rfl, h.box _, (h.below (box_below _ _)).2, heap_alloc_new _ _⟩
theorem ob_cells {w : World} {A : Nat} {k : Int} {x : Bool} {n a l : Int} {s : ByteArray} (h : w.heap[A]? = some (obObj k x n a l s)) : ObAt w A k x n a l s := (cells6 h).1

/-- The heap of the known case. -/
def kP1 : List Cel := [⟨9, false, [Ob.null, Ob.null], []⟩]
def kP2 : List Cel := [⟨9, false, [Ob.null, Ob.num 7], []⟩]
def kA : Ob := ⟨9, false, 0, 0, 2, ⟨#[]⟩⟩
def kB : Ob := ⟨9, false, 0, 1, 1, ⟨#[]⟩⟩
theorem k_part : partE kP1 kA 1 1 = 0 ∧ partO kP1 kA 1 1 = kB := ⟨by kernel_rfl, by kernel_rfl⟩
theorem k_set : setE kP1 kB 0 (Ob.num 7) = 0 ∧ setP kP1 kB 0 (Ob.num 7) = kP2 := ⟨by kernel_rfl, by kernel_rfl⟩
theorem k_get : getE kP2 kA 1 = 0 ∧ getO kP2 kA 1 = Ob.num 7 := ⟨by kernel_rfl, by kernel_rfl⟩

end Go.Proofs.Ytlkbnldpecolbaa

/- Walks of heap: copyItems, Items, Lock. -/
namespace Go.Proofs.Ytlkbnldpecolbaa
open Go.RowKit
set_option linter.unusedVariables false

theorem copyItems_some (ad : Addr) (m c : Nat) (l : List Ob) (w : World) (hl : l.length = m) (hm : m ≤ 40000) (hnews : ∀ j u, (obCells l)[j]? = some u → w.cell? (ad.add j) = some u) :
    Calls Try.prog 89 #[.slice (some ad) m c] w fun e w' => ∃ v, e = .returned v ∧ w'.ownsRow w.heap.size 30 6 v m (obCells l) ∧ Below w.heap.size w w' := by
  obtain ⟨i0, hi, hz0, hz1, hz2⟩ := info_parts info24
  have HN := Lib.hid hnews
  have HL := Lib.hid hl
  clear hnews hl
  go_enter Try.func89, Try.ntmps89
  go_wp2_with (first
    | (at_builtin; refine wpList_append_own w rfl _ _ 46 rfl w.heap.size 30 i0 (obV 0 false 0 0 0 ⟨#[]⟩) 6 56 Try.underlying46 hi hz0 hz1 hz2 rfl (by decide) (.slice none 0 0) 0 [] rfl (World.ownsRow_nil _ _ _ _) ad m c (obCells l) rfl (by rw [obCells_length, HL.out]) HN.out (obCells_one l) (by unfold maxLen; omega) (by omega) (Nat.le_refl _) ?_))
  intro v w1 hown hgrow _
  have K1 := Lib.hid hown
  have K2 : Hid (Below w.heap.size w w1) := Lib.hid ((Below.refl _ w).grown hgrow (Nat.le_refl _) (fun k e => by cases e))
  clear hown hgrow
  go_wp2
  go_ret
  exact ⟨v, rfl, by have := K1.out; simpa using this, K2.out⟩

theorem assert_87_87 (r : Nat) (w : World) : (Instr.typeAssert (.iface 113 (ptr r)) 110 113 true).run Try.prog w = .ok (.tuple #[ptr r, .bool true]) w := by kernel_rfl
theorem assert_95_87 (r : Nat) (w : World) : (Instr.typeAssert (.iface 134 (ptr r)) 110 113 true).run Try.prog w = .ok (.tuple #[.pointer none, .bool false]) w := by kernel_rfl
theorem assert_95_95 (r : Nat) (w : World) : (Instr.typeAssert (.iface 134 (ptr r)) 110 134 true).run Try.prog w = .ok (.tuple #[ptr r, .bool true]) w := by kernel_rfl
theorem assert_87_95 (r : Nat) (w : World) : (Instr.typeAssert (.iface 113 (ptr r)) 110 134 true).run Try.prog w = .ok (.tuple #[.pointer none, .bool false]) w := by kernel_rfl
/-- What Items and Bytes read of a cell's row and of the piece. -/
def Reads (w : World) (r C : Nat) (V : Value) (lo m : Int) : Prop := w.cell? ⟨r, 2, none⟩ = some V ∧ w.cell? ⟨C, 1, none⟩ = some (.int .i64 lo) ∧ w.cell? ⟨C, 2, none⟩ = some (.int .i64 m)
theorem Reads.later {w wx : World} {r C : Nat} {V : Value} {lo m : Int} (h : Reads w r C V lo m) (k : Below w.heap.size w wx) : Reads wx r C V lo m := ⟨cell_later k h.1, cell_later k h.2.1, cell_later k h.2.2⟩

set_option maxRecDepth 100000 in
theorem items_walk87 (hb r z cap lo m hi : Nat) (p : Option Addr) (k n a l : Int) (x : Bool) (s : ByteArray) (V : Value) (R : Value → World → Prop) (w : World)
    (h2 : w.cell? ⟨r, 2, none⟩ = some (.slice p z cap)) (e1 : IntKind.i64.wrap ((lo : Int) + m) = hi)
    (hf : Hid (∀ wx, Below w.heap.size w wx → Calls Try.prog 81 #[ptr hb, obV k x n a l s] wx fun e w' => e = .returned (.tuple #[pcV (.iface 113 (ptr r)) lo m, .int .i64 0]) ∧ Below wx.heap.size wx w'))
    (hsl : ∀ w : World, (Instr.slice 46 (.slice p z cap) (some (.int .i64 lo)) (some (.int .i64 hi)) none).run Try.prog w = .ok V w)
    (hc : Hid (∀ wx, Below w.heap.size w wx → Calls Try.prog 89 #[V] wx fun e w' => ∃ v, e = .returned v ∧ R v w' ∧ Below wx.heap.size wx w')) :
    Calls Try.prog 59 #[ptr hb, obV k x n a l s] w fun e w' => ∃ v, e = .returned (.tuple #[v, .int .i64 0]) ∧ R v w' ∧ Below w.heap.size w w' := by
  have ha := assert_87_87
  go_enter Try.func59, Try.ntmps59
  go_wp2_with fail
  obtain ⟨wb, eb, kb, zb, ob⟩ := ob_box w k n a l x s
  rw [eb]
  refine (hf.out _ kb).mono ?_
  rintro e wc ⟨rfl, kc⟩
  have KC := Lib.hid (below_and kb kc)
  clear eb kb zb kc ob
  go_upto_region 2 with fail
  obtain ⟨wd, ed, kd, zd, d0, d1, d2⟩ := pc_box wc (.iface 113 (ptr r)) lo m
  rw [ed]
  have kk := below_and KC.out kd
  have KD := Lib.hid kk
  replace h2 := cell_later kk h2
  clear ed kd zd kk
  go_wp2_with fail
  have gb := Lib.hid KD.out.drew
  have go : Hid (Reads wd.drew r wc.heap.size (.slice p z cap) lo m) := Lib.hid ⟨h2, d1, d2⟩
  go_region_held3 (fun wx => wx.cell? ⟨r, 2, none⟩ = some (.slice p z cap) ∧ wx.cell? ⟨wc.heap.size, 1, none⟩ = some (.int .i64 lo) ∧ wx.cell? ⟨wc.heap.size, 2, none⟩ = some (.int .i64 m))
    (first | exact go.out | go_keep)
    (first | (go_at_call 89; refine (hc.out _ gb.out).mono ?_; rintro e wy ⟨v, rfl, hR, ky⟩; replace gb := Lib.hid (below_and gb.out ky); replace go := Lib.hid (go.out.later ky); have HR := Lib.hid hR; clear hR))
  go_wp2
  go_ret2
  exact ⟨v, rfl, HR.out, gb.out⟩

theorem copyItems_none (w : World) : Calls Try.prog 89 #[.slice none 0 0] w fun e w' => ∃ v, e = .returned v ∧ w'.ownsRow w.heap.size 30 6 v 0 (obCells []) ∧ Below w.heap.size w w' := by
  obtain ⟨i0, hi, hz0, hz1, hz2⟩ := info_parts info24
  have hap := run_append_owned_none (P := Try.prog) w 0 46 46 30 i0 6 Try.underlying46 hi (.slice none 0 0) 0 [] (World.ownsRow_nil _ _ _ _)
  go_enter Try.func89, Try.ntmps89
  go_wp2
  go_ret
  exact ⟨_, rfl, World.ownsRow_nil _ _ _ _, Below.refl _ _⟩

theorem items_err (hb : Nat) (k n a l E : Int) (x : Bool) (s : ByteArray) (w : World) (hE : (E != 0) = true)
    (hf : Hid (∀ wx, Below w.heap.size w wx → Calls Try.prog 81 #[ptr hb, obV k x n a l s] wx fun e w' => e = .returned (.tuple #[pcV .nilIface 0 0, .int .i64 E]) ∧ Below wx.heap.size wx w')) :
    Calls Try.prog 59 #[ptr hb, obV k x n a l s] w fun e w' => e = .returned (.tuple #[.slice none 0 0, .int .i64 E]) ∧ Below w.heap.size w w' := by
  go_enter Try.func59, Try.ntmps59
  go_wp2_with fail
  obtain ⟨wb, eb, kb, zb, ob⟩ := ob_box w k n a l x s
  rw [eb]
  refine (hf.out _ kb).mono ?_
  rintro e wc ⟨rfl, kc⟩
  have KC := Lib.hid (below_and kb kc)
  clear eb kb zb kc ob
  go_upto_region 2 with fail
  obtain ⟨wd, ed, kd, zd, d0, d1, d2⟩ := pc_box wc .nilIface 0 0
  rw [ed]
  have KD := Lib.hid (below_and KC.out kd)
  clear ed kd zd
  go_wp2
  go_ret2
  exact ⟨rfl, KD.out⟩

theorem items_type (hb r : Nat) (k n a l u z : Int) (x : Bool) (s : ByteArray) (w : World)
    (hf : Hid (∀ wx, Below w.heap.size w wx → Calls Try.prog 81 #[ptr hb, obV k x n a l s] wx fun e w' => e = .returned (.tuple #[pcV (.iface 134 (ptr r)) u z, .int .i64 0]) ∧ Below wx.heap.size wx w')) :
    Calls Try.prog 59 #[ptr hb, obV k x n a l s] w fun e w' => e = .returned (.tuple #[.slice none 0 0, .int .i64 6]) ∧ Below w.heap.size w w' := by
  have ha := assert_95_87
  go_enter Try.func59, Try.ntmps59
  go_wp2_with fail
  obtain ⟨wb, eb, kb, zb, ob⟩ := ob_box w k n a l x s
  rw [eb]
  refine (hf.out _ kb).mono ?_
  rintro e wc ⟨rfl, kc⟩
  have KC := Lib.hid (below_and kb kc)
  clear eb kb zb kc ob
  go_upto_region 2 with fail
  obtain ⟨wd, ed, kd, zd, d0, d1, d2⟩ := pc_box wc (.iface 134 (ptr r)) u z
  rw [ed]
  have KD := Lib.hid (below_and KC.out kd)
  clear ed kd zd
  go_wp2
  go_ret2
  exact ⟨rfl, KD.out⟩

theorem lock_err (hb : Nat) (k n a l E : Int) (x : Bool) (s : ByteArray) (w : World) (hE : (E != 0) = true)
    (hf : Hid (∀ wx, Below w.heap.size w wx → Calls Try.prog 81 #[ptr hb, obV k x n a l s] wx fun e w' => e = .returned (.tuple #[pcV .nilIface 0 0, .int .i64 E]) ∧ Below wx.heap.size wx w')) :
    Calls Try.prog 75 #[ptr hb, obV k x n a l s] w fun e w' => e = .returned (.int .i64 E) ∧ Below w.heap.size w w' := by
  go_enter Try.func75, Try.ntmps75
  go_wp2_with fail
  obtain ⟨wb, eb, kb, zb, ob⟩ := ob_box w k n a l x s
  rw [eb]
  refine (hf.out _ kb).mono ?_
  rintro e wc ⟨rfl, kc⟩
  have KC := Lib.hid (below_and kb kc)
  clear eb kb zb kc ob
  go_upto_region 2 with fail
  obtain ⟨wd, ed, kd, zd, d0, d1, d2⟩ := pc_box wc .nilIface 0 0
  rw [ed]
  have KD := Lib.hid (below_and KC.out kd)
  clear ed kd zd
  go_wp2
  go_ret
  exact ⟨rfl, KD.out⟩

theorem method_lock87 (r : Nat) (w : World) : (method 270 113 (ptr r) "tympan/heap.lock").run Try.prog w = .ok (127, ptr r) w := by kernel_rfl
theorem lock_walk87 (hb r : Nat) (k n a l u z : Int) (x : Bool) (s : ByteArray) (R : World → Prop) (w : World)
    (hf : Hid (∀ wx, Below w.heap.size w wx → Calls Try.prog 81 #[ptr hb, obV k x n a l s] wx fun e w' => e = .returned (.tuple #[pcV (.iface 113 (ptr r)) u z, .int .i64 0]) ∧ Below wx.heap.size wx w'))
    (hl : Hid (∀ wx, Below w.heap.size w wx → Calls Try.prog 127 #[ptr r] wx fun e w' => e = .returned (.tuple #[]) ∧ R w')) :
    Calls Try.prog 75 #[ptr hb, obV k x n a l s] w fun e w' => e = .returned (.int .i64 0) ∧ R w' := by
  have hme := method_lock87
  go_enter Try.func75, Try.ntmps75
  go_wp2_with fail
  obtain ⟨wb, eb, kb, zb, ob⟩ := ob_box w k n a l x s
  rw [eb]
  refine (hf.out _ kb).mono ?_
  rintro e wc ⟨rfl, kc⟩
  have KC := Lib.hid (below_and kb kc)
  clear eb kb zb kc ob
  go_upto_region 2 with fail
  obtain ⟨wd, ed, kd, zd, d0, d1, d2⟩ := pc_box wc (.iface 113 (ptr r)) u z
  rw [ed]
  have KD := Lib.hid (below_and KC.out kd)
  clear ed kd zd
  go_wp2_with fail
  refine (hl.out _ KD.out).mono ?_
  rintro e we ⟨rfl, hR⟩
  have HR := Lib.hid hR
  clear hR d0 d1 d2
  go_wp2
  go_ret
  exact ⟨rfl, HR.out⟩

theorem method_lock95 (r : Nat) (w : World) : (method 270 134 (ptr r) "tympan/heap.lock").run Try.prog w = .ok (127, ptr r) w := by kernel_rfl
theorem lock_walk95 (hb r : Nat) (k n a l u z : Int) (x : Bool) (s : ByteArray) (R : World → Prop) (w : World)
    (hf : Hid (∀ wx, Below w.heap.size w wx → Calls Try.prog 81 #[ptr hb, obV k x n a l s] wx fun e w' => e = .returned (.tuple #[pcV (.iface 134 (ptr r)) u z, .int .i64 0]) ∧ Below wx.heap.size wx w'))
    (hl : Hid (∀ wx, Below w.heap.size w wx → Calls Try.prog 127 #[ptr r] wx fun e w' => e = .returned (.tuple #[]) ∧ R w')) :
    Calls Try.prog 75 #[ptr hb, obV k x n a l s] w fun e w' => e = .returned (.int .i64 0) ∧ R w' := by
  have hme := method_lock95
  go_enter Try.func75, Try.ntmps75
  go_wp2_with fail
  obtain ⟨wb, eb, kb, zb, ob⟩ := ob_box w k n a l x s
  rw [eb]
  refine (hf.out _ kb).mono ?_
  rintro e wc ⟨rfl, kc⟩
  have KC := Lib.hid (below_and kb kc)
  clear eb kb zb kc ob
  go_upto_region 2 with fail
  obtain ⟨wd, ed, kd, zd, d0, d1, d2⟩ := pc_box wc (.iface 134 (ptr r)) u z
  rw [ed]
  have KD := Lib.hid (below_and KC.out kd)
  clear ed kd zd
  go_wp2_with fail
  refine (hl.out _ KD.out).mono ?_
  rintro e we ⟨rfl, hR⟩
  have HR := Lib.hid hR
  clear hR d0 d1 d2
  go_wp2
  go_ret
  exact ⟨rfl, HR.out⟩

end Go.Proofs.Ytlkbnldpecolbaa
