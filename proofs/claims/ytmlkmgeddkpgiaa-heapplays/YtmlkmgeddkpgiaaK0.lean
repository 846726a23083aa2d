/- Plain answers of layer 11 (heap): cells of items and bytes, what objects refer to, what each call returns. -/
import Derived.Test.YtmlkmgeddkpgiaaM12
namespace Go.Proofs.Ytmlkmgeddkpgiaa
set_option linter.unusedVariables false
/-- An object. -/
structure Ob where
  k : Int
  x : Bool
  n : Int
  a : Int
  l : Int
  s : ByteArray
deriving DecidableEq
def Ob.zero : Ob := ⟨0, false, 0, 0, 0, ⟨#[]⟩⟩
def Ob.null : Ob := ⟨1, false, 0, 0, 0, ⟨#[]⟩⟩
def Ob.num (v : Int) : Ob := ⟨3, false, v, 0, 0, ⟨#[]⟩⟩
def Ob.may (o : Ob) : Bool := mayO o.k o.n o.a o.l o.s
/-- A cell: its kind, its lock, its items, its bytes. -/
structure Cel where
  k : Int
  lk : Bool
  it : List Ob
  bs : List UInt8
def Cel.none : Cel := ⟨0, false, [], []⟩
def Cel.size (c : Cel) : Nat := c.it.length + c.bs.length
def comp (k : Int) : Bool := decide (k = 9 ∨ k = 8 ∨ k = 10)
def cellOf (P : List Cel) (o : Ob) : Cel := P.getD o.n.toNat Cel.none
def inCell (P : List Cel) (o : Ob) : Bool := decide (o.n < P.length ∧ (cellOf P o).k = o.k ∧ o.a + o.l ≤ (cellOf P o).size)
def mayH (P : List Cel) (o : Ob) : Bool := o.may && (!comp o.k || inCell P o)
def okO (P : List Cel) (o : Ob) : Bool := comp o.k && (o.may && inCell P o)
def errO (P : List Cel) (o : Ob) : Int := if comp o.k then (if okO P o then 0 else 1) else 6
def atO (P : List Cel) (o : Ob) : Int := if okO P o then o.a else 0
def lenO (P : List Cel) (o : Ob) : Int := if okO P o then (if o.k = 10 then (cellOf P o).size else o.l) else 0
def usedP (P : List Cel) : Nat := (P.map Cel.size).sum
structure WfP (P : List Cel) : Prop where
  len : P.length ≤ 2000
  used : usedP P ≤ 40000
  kind : ∀ c ∈ P, (c.k = 8 ∧ c.it = []) ∨ ((c.k = 9 ∨ c.k = 10) ∧ c.bs = [])
theorem okO_iff {P : List Cel} {o : Ob} : okO P o = true ↔ comp o.k = true ∧ o.may = true ∧ inCell P o = true := by simp [okO]
theorem errO_ok {P : List Cel} {o : Ob} (h : okO P o = true) : errO P o = 0 := by
  have := (okO_iff.1 h).1
  simp [errO, h, this]
theorem errO_no {P : List Cel} {o : Ob} (h : okO P o = false) : errO P o ≠ 0 := by
  unfold errO
  rw [h]
  by_cases hc : comp o.k <;> simp [hc]
theorem ok_iff_err {P : List Cel} {o : Ob} : okO P o = true ↔ errO P o = 0 := by
  constructor
  · exact errO_ok
  · intro h
    cases hk : okO P o
    · exact absurd h (errO_no hk)
    · rfl
theorem comp_iff {k : Int} : comp k = true ↔ k = 9 ∨ k = 8 ∨ k = 10 := by simp [comp]
theorem ok_bd {P : List Cel} {o : Ob} (h : okO P o = true) : 0 ≤ o.n ∧ o.n < P.length ∧ 0 ≤ o.a ∧ o.a ≤ 40000 ∧ 0 ≤ o.l ∧ o.l ≤ 40000 ∧ (cellOf P o).k = o.k ∧ o.a + o.l ≤ (cellOf P o).size ∧ (o.k = 10 → o.a = 0 ∧ o.l = 0) := by
  obtain ⟨h1, h2, h3⟩ := okO_iff.1 h
  have hc := comp_iff.1 h1
  simp [inCell] at h3
  unfold Ob.may mayO at h2
  rcases hc with hc | hc | hc <;> simp [hc, pieceP, onlyP] at h2 ⊢ <;> omega
theorem cellOf_get {P : List Cel} {o : Ob} (h0 : 0 ≤ o.n) (h : o.n < P.length) : P[o.n.toNat]? = some (cellOf P o) := by
  unfold cellOf
  rw [List.getD_eq_getElem?_getD, List.getElem?_eq_getElem (by omega)]
  rfl
theorem sum_le_used {P : List Cel} {c : Cel} (h : c ∈ P) : c.size ≤ usedP P := by
  unfold usedP
  induction P with
  | nil => cases h
  | cons d P ih =>
    rcases List.mem_cons.1 h with rfl | h
    · simp
    · have := ih h
      simp only [List.map_cons, List.sum_cons]
      omega
theorem cell_mem {P : List Cel} {i : Nat} {c : Cel} (h : P[i]? = some c) : c ∈ P := List.mem_of_getElem? h
theorem WfP.size {P : List Cel} (h : WfP P) {i : Nat} {c : Cel} (hc : P[i]? = some c) : c.size ≤ 40000 := Nat.le_trans (sum_le_used (cell_mem hc)) h.used
end Go.Proofs.Ytmlkmgeddkpgiaa
