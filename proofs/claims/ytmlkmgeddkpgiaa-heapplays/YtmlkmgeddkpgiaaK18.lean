/- A heap in which one cell has changed; Get, Set, Part, May of a whole heap. -/
import Derived.Test.YtmlkmgeddkpgiaaK8
import Derived.Test.YtmlkmgeddkpgiaaK13
import Derived.Test.YtmlkmgeddkpgiaaK15
import Derived.Test.YtmlkmgeddkpgiaaK16
import Derived.Test.YtmlkmgeddkpgiaaK17
namespace Go.Proofs.Ytmlkmgeddkpgiaa
open Go.RowKit
set_option linter.unusedVariables false

/-- Written one behind the other. -/
def putAt (xs : List Value) : Nat → List Value → List Value
  | _, [] => xs
  | o, v :: vs => putAt (xs.set o v) (o + 1) vs
theorem putAt_append (ys : List Value) : ∀ (vs : List Value) (o : Nat) (xs : List Value), putAt (ys ++ xs) (ys.length + o) vs = ys ++ putAt xs o vs
  | [], _, _ => rfl
  | v :: vs, o, xs => by
    rw [putAt, putAt, List.set_append_right _ _ (by omega), show ys.length + o - ys.length = o from by omega]
    exact putAt_append ys vs (o + 1) _
theorem obCells_put (o : Ob) : ∀ (l : List Ob) (i : Nat), i < l.length → putAt (obCells l) (i * 6) o.cells = obCells (l.set i o)
  | [], i, h => by simp at h
  | p :: l, 0, h => by
    show putAt (p.cells ++ obCells l) 0 o.cells = o.cells ++ obCells l
    simp [putAt, Ob.cells]
  | p :: l, i + 1, h => by
    show putAt (p.cells ++ obCells l) ((i + 1) * 6) o.cells = p.cells ++ obCells (l.set i o)
    have := putAt_append p.cells o.cells (i * 6) (obCells l)
    rw [show (i + 1) * 6 = p.cells.length + i * 6 from by simp [Ob.cells]; omega, this, obCells_put o l i (by simpa using h)]
theorem owns_put {base e size g n cap : Nat} : ∀ (vs : List Value) (o : Nat) (w : World) (xs : List Value), w.ownsRow base e size (.slice (some ⟨g, 0, none⟩) n cap) n xs → (w.setCells g o vs).ownsRow base e size (.slice (some ⟨g, 0, none⟩) n cap) n (putAt xs o vs) ∧ Only g w (w.setCells g o vs)
  | [], o, w, xs, h => ⟨h, Only.refl _ _⟩
  | v :: vs, o, w, xs, h => by
    have h1 := h.stored o v
    obtain ⟨h2, h3⟩ := owns_put vs (o + 1) _ _ h1.1
    have h4 := (Only.refl g w).set o v
    exact ⟨h2, h3.os.trans h4.os, h3.tape.trans h4.tape, h3.output.trans h4.output, h3.size.trans h4.size, fun k hk => (h3.block k hk).trans (h4.block k hk)⟩

theorem used_set {P : List Cel} {i : Nat} {cl cl' : Cel} (hi : P[i]? = some cl) (hs : cl'.size = cl.size) : usedP (P.set i cl') = usedP P := by
  unfold usedP
  induction P generalizing i with
  | nil => simp at hi
  | cons d P ih =>
    cases i with
    | zero =>
      simp at hi
      subst hi
      simp [hs]
    | succ i =>
      simp at hi
      have := ih hi
      simp only [List.set_cons_succ, List.map_cons, List.sum_cons]
      omega

section
variable {role : Nat → Nat × Nat} {c hb : Nat} {vc : Value} {ivs : List Value} {pb : Nat → Nat} {rv : Nat → Value} {P : List Cel} {w w' : World}

/-- One cell has changed, its size has not. -/
theorem PH.change (h : PH role c hb vc ivs pb rv P w) {i : Nat} {cl cl' : Cel} (hi : P[i]? = some cl) (hs : cl'.size = cl.size) (hc : PCell w' (.iface (celT cl) (ptr (pb i))) (pb i) (rv i) cl')
    (hk : ∀ k, k < w.heap.size → k ≠ pb i → (rv i).ownBlock ≠ some k → w'.heap[k]? = w.heap[k]?) : PH role c hb vc ivs pb rv (P.set i cl') w' := by
  have hil := (List.getElem?_eq_some_iff.1 hi).1
  obtain ⟨iv, g1, g2, g3, g4⟩ := h.cell i cl hi
  have e := g2.iv
  subst e
  have far : ∀ k, k < w.heap.size → role k ≠ (c, 2 * i + 2) → role k ≠ (c, 2 * i + 3) → w'.heap[k]? = w.heap[k]? := fun k hk1 h0 h1 => hk k hk1 (fun e => h0 (by rw [e]; exact g3)) (fun e => h1 (g4 k e))
  have far0 := far hb (blk_lt h.hblk) (by rw [h.hrole]; simp) (by rw [h.hrole]; simp)
  refine ⟨⟨by simpa using h.wf.len, by rw [used_set hi hs]; exact h.wf.used, fun d hd => ?_⟩, h.hrole, ?_, ?_, h.crole, fun j d hj => ?_⟩
  · rcases List.mem_or_eq_of_mem_set hd with hd | rfl
    · exact h.wf.kind d hd
    · exact hc.bound
  · rw [far0, used_set hi hs]
    exact h.hblk
  · rw [List.length_set]
    refine owns_same h.crow fun g e hg => far g hg ?_ ?_
    · rw [h.crole g e]; simp
    · rw [h.crole g e]; simp
  · by_cases hji : j = i
    · subst hji
      rw [List.getElem?_set_self hil] at hj
      have : cl' = d := by simpa using hj
      subst this
      exact ⟨_, g1, hc, g3, g4⟩
    · rw [List.getElem?_set_ne (Ne.symm hji)] at hj
      obtain ⟨iv', h1, h2, h3, h4⟩ := h.cell j d hj
      refine ⟨iv', h1, h2.same (far _ h2.lt ?_ ?_) fun k e hk' => far k hk' ?_ ?_, h3, h4⟩
      · rw [h3]; simp; omega
      · rw [h3]; simp; omega
      · rw [h4 k e]; simp; omega
      · rw [h4 k e]; simp; omega

theorem mayH_is (h : PH role c hb vc ivs pb rv P w) (o : Ob) : Calls Try.prog 81 #[ptr hb, o.val] w fun e w' => e = .returned (.bool (mayH P o)) ∧ Below w.heap.size w w' := by
  cases hm : o.may
  · have : mayH P o = false := by simp [mayH, hm]
    rw [this]
    exact hmay_no hb o.k o.n o.a o.l o.x o.s w (may_is hm)
  · cases ho : okO P o
    · refine hmay_find hb o.k o.n o.a o.l 0 0 (errO P o) .nilIface o.x _ o.s w (Lib.hid ?_) (.inl rfl) (may_is hm) (Lib.hid fun wx kx => find_no (h.below kx) o ho)
      cases hk : comp o.k
      · simp [errO, mayH, hk, hm]
      · have : inCell P o = false := by simpa [okO, hk, hm] using ho
        simp [errO, mayH, hk, hm, ho, this]
    · refine hmay_find hb o.k o.n o.a o.l o.a (lenO P o) 0 (.iface (celT (cellOf P o)) (ptr (pb o.n.toNat))) o.x _ o.s w (Lib.hid ?_) (.inr ⟨_, _, rfl⟩) (may_is hm) (Lib.hid fun wx kx => find_ok (h.below kx) o ho)
      have := okO_iff.1 ho
      simp [mayH, this]

theorem lenO_bd (h : WfP P) (o : Ob) : 0 ≤ lenO P o ∧ lenO P o ≤ 40000 := by
  cases ho : okO P o
  · simp [lenO, ho]
  · obtain ⟨b0, b1, b2, b3, b4, b5, b6, b7, _⟩ := ok_bd ho
    have := h.size (cellOf_get (P := P) (o := o) b0 b1)
    simp only [lenO, ho, if_true]
    split <;> omega

theorem has_is (T r : Nat) (a n i : Int) (b : Bool) (hb' : decide (0 ≤ i ∧ i < n) = b) : Hid (∀ w, Calls Try.prog 72 #[pcV (.iface T (ptr r)) a n, .int .i64 i] w fun e w' => e = .returned (.bool b) ∧ Below w.heap.size w w') := Lib.hid fun w => by
  have := has_any T r a n i w
  rw [hb'] at this
  exact this
theorem fits_is (T r : Nat) (a z i n : Int) (b : Bool) (hz : 0 ≤ z) (hz' : z ≤ 40000) (hi : i < 9223372036854775808) (hb' : decide (0 ≤ i ∧ 0 ≤ n ∧ i + n ≤ z) = b) : Hid (∀ w, Calls Try.prog 75 #[pcV (.iface T (ptr r)) a z, .int .i64 i, .int .i64 n] w fun e w' => e = .returned (.bool b) ∧ Below w.heap.size w w') := Lib.hid fun w => by
  have := fits_any T r a z i n w hz hz' hi
  rw [hb'] at this
  exact this

/-- What Part returns. -/
def partE (P : List Cel) (o : Ob) (i m : Int) : Int := if okO P o then (if o.k = 10 then 6 else if 0 ≤ i ∧ 0 ≤ m ∧ i + m ≤ lenO P o then 0 else 12) else errO P o
def partO (P : List Cel) (o : Ob) (i m : Int) : Ob := if partE P o i m = 0 then ⟨o.k, o.x, o.n, o.a + i, m, o.s⟩ else Ob.zero

theorem part_is (h : PH role c hb vc ivs pb rv P w) (o : Ob) (i m : Int) (hi : i < 9223372036854775808) : Calls Try.prog 66 #[ptr hb, o.val, .int .i64 i, .int .i64 m] w fun e w' => e = .returned (.tuple #[(partO P o i m).val, .int .i64 (partE P o i m)]) ∧ Below w.heap.size w w' := by
  obtain ⟨z0, z1⟩ := lenO_bd h.wf o
  cases ho : okO P o
  · have hE := errO_no ho
    have e1 : partE P o i m = errO P o := by simp [partE, ho]
    have e2 : partO P o i m = Ob.zero := by simp [partO, e1, hE]
    rw [e1, e2]
    exact part_err hb o.k o.n o.a o.l i m (errO P o) o.x o.s w (by simpa using hE) (Lib.hid fun wx kx => find_no (h.below kx) o ho)
  · have hf := fun wx kx => find_ok (h.below (w' := wx) kx) o ho
    by_cases hk : o.k = 10
    · have e1 : partE P o i m = 6 := by simp [partE, ho, hk]
      have e2 : partO P o i m = Ob.zero := by simp [partO, e1]
      rw [e1, e2]
      have := part_dict hb (celT (cellOf P o)) (pb o.n.toNat) o.n o.a o.l i m o.a (lenO P o) o.x o.s w (Lib.hid (by rw [← hk]; exact hf))
      rw [← hk] at this
      exact this
    · have hk' : (o.k == 10) = false := by simpa using hk
      by_cases hfit : 0 ≤ i ∧ 0 ≤ m ∧ i + m ≤ lenO P o
      · have e1 : partE P o i m = 0 := by simp [partE, ho, hk, hfit]
        have e2 : partO P o i m = ⟨o.k, o.x, o.n, o.a + i, m, o.s⟩ := by simp [partO, e1]
        obtain ⟨b0, b1, b2, b3, _⟩ := ok_bd ho
        rw [e1, e2]
        exact part_walk hb _ _ o.k o.n o.a o.l i m o.a (lenO P o) (o.a + i) o.x o.s w hk' (wrapi_in _ (by omega) (by omega)) (Lib.hid hf) (fits_is _ _ _ _ _ _ true z0 z1 hi (decide_eq_true hfit))
      · have e1 : partE P o i m = 12 := by simp only [partE, ho, hk, if_true, if_false, hfit]
        have e2 : partO P o i m = Ob.zero := by simp [partO, e1]
        rw [e1, e2]
        exact part_index hb _ _ o.k o.n o.a o.l i m o.a (lenO P o) o.x o.s w hk' (Lib.hid hf) (fits_is _ _ _ _ _ _ false z0 z1 hi (decide_eq_false hfit))
end
end Go.Proofs.Ytmlkmgeddkpgiaa
