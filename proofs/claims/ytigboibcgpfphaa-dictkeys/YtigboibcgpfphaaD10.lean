/- dict: what Set and Drop make of a cell: plain answers. -/
import Derived.Test.YtigboibcgpfphaaD9
namespace Go.Proofs.Ytigboibcgpfphaa
open Go.RowKit Go.Maps
set_option linter.unusedVariables false

theorem cellOf_set {P : List Cel} {c : Cel} {o q : Ob} (hn : q.n.toNat < P.length) : cellOf (P.set q.n.toNat c) o = if o.n.toNat = q.n.toNat then c else cellOf P o := by
  unfold cellOf
  rw [List.getD_eq_getElem?_getD, List.getD_eq_getElem?_getD, List.getElem?_set]
  by_cases e : o.n.toNat = q.n.toNat
  · rw [if_pos e.symm, if_pos e, if_pos (by omega)]
    rfl
  · rw [if_neg (Ne.symm e), if_neg e]
theorem inCell_set {P : List Cel} {c : Cel} {o q : Ob} (hn : q.n.toNat < P.length) (hk : c.k = (cellOf P q).k) (hs : c.size = (cellOf P q).size) : inCell (P.set q.n.toNat c) o = inCell P o := by
  unfold inCell
  rw [cellOf_set hn, List.length_set]
  by_cases e : o.n.toNat = q.n.toNat
  · rw [if_pos e, hk, hs]
    have : cellOf P o = cellOf P q := by unfold cellOf; rw [e]
    rw [this]
  · rw [if_neg e]
theorem mayH_set {P : List Cel} {c : Cel} {o q : Ob} (hn : q.n.toNat < P.length) (hk : c.k = (cellOf P q).k) (hs : c.size = (cellOf P q).size) : mayH (P.set q.n.toNat c) o = mayH P o := by
  unfold mayH
  rw [inCell_set hn hk hs]
theorem okO_set {P : List Cel} {c : Cel} {o q : Ob} (hn : q.n.toNat < P.length) (hk : c.k = (cellOf P q).k) (hs : c.size = (cellOf P q).size) : okO (P.set q.n.toNat c) o = okO P o := by
  unfold okO
  rw [inCell_set hn hk hs]

/-- An unlocked cell of a dictionary with such items. -/
structure DictR (P : List Cel) (d : Ob) (its : List Ob) : Prop where
  ok : okO P d = true
  k : d.k = 10
  cell : cellOf P d = ⟨10, false, its, []⟩
theorem DictR.lt {P : List Cel} {d : Ob} {its : List Ob} (h : DictR P d its) : d.n.toNat < P.length := by
  have := ok_bd h.ok
  omega
theorem DictR.setAll {P : List Cel} {d : Ob} {its its' : List Ob} (h : DictR P d its) (hl : its'.length = its.length) : DictR (P.set d.n.toNat ⟨10, false, its', []⟩) d its' :=
  ⟨by rw [okO_set h.lt (by rw [h.cell]) (by rw [h.cell]; simp [Cel.size, hl])]; exact h.ok, h.k, by rw [cellOf_set h.lt, if_pos rfl]⟩
theorem DictR.may {P : List Cel} {d : Ob} {its its' : List Ob} (h : DictR P d its) (hl : its'.length = its.length) (x : Ob) : mayH (P.set d.n.toNat ⟨10, false, its', []⟩) x = mayH P x :=
  mayH_set h.lt (by rw [h.cell]) (by rw [h.cell]; simp [Cel.size, hl])
theorem DictR.put {P : List Cel} {d : Ob} {its : List Ob} (h : DictR P d its) {i : Nat} {x : Ob} (hi : i < its.length) (hx : mayH P x = true) : setE P d i x = 0 ∧ setP P d i x = P.set d.n.toNat ⟨10, false, its.set i x, []⟩ := by
  have hz : d.a = 0 := ((ok_bd h.ok).2.2.2.2.2.2.2.2 h.k).1
  have hl : lenO P d = its.length := by
    rw [lenO, h.ok, h.cell]
    simp [h.k, Cel.size]
  have e : setE P d i x = 0 := by
    rw [setE, h.ok, hl, h.cell, hx]
    simp [h.k]
    omega
  refine ⟨e, ?_⟩
  rw [setP, e, h.cell, hz]
  simp [putItem]
theorem DictR.set_set {P : List Cel} {d : Ob} {its its' its'' : List Ob} : (P.set d.n.toNat ⟨10, false, its', []⟩).set d.n.toNat ⟨10, false, its'', []⟩ = P.set d.n.toNat ⟨10, false, its'', []⟩ := List.set_set ..
theorem DictC.r {P : List Cel} {d : Ob} {ps : List (Ob × Ob)} {room : Nat} (h : DictC P d ps room false) : DictR P d (itemsD ps room) := ⟨h.ok, h.k, h.cell⟩
theorem DictR.c {P : List Cel} {d : Ob} {ps : List (Ob × Ob)} {room : Nat} (h : DictR P d (itemsD ps room)) (hl : ps.length ≤ room) (hr : room ≤ 1000) (hf : ∀ p ∈ ps, p.1.Fine) : DictC P d ps room false := ⟨h.ok, h.k, h.cell, hl, hr, hf⟩
theorem may_num (P : List Cel) (n : Nat) (h : n ≤ 2147483647) : mayH P (Ob.num n) = true := by
  simp [mayH, Ob.may, Ob.num, mayO, comp, onlyP]
  omega
/-- Whether the cell is locked is told by setting its first item to what it is. -/
theorem DictC.same {P : List Cel} {d : Ob} {ps : List (Ob × Ob)} {room : Nat} {lk : Bool} (h : DictC P d ps room lk) : setE P d 0 (Ob.num ps.length) = (if lk then 1 else 0) ∧ setP P d 0 (Ob.num ps.length) = P := by
  cases lk
  · have hi : 0 < (itemsD ps room).length := by rw [itemsD_length h.le]; omega
    obtain ⟨e1, e2⟩ := h.r.put hi (may_num P ps.length (by have := h.le; have := h.most; omega))
    refine ⟨e1, ?_⟩
    have q : (itemsD ps room).set 0 (Ob.num ps.length) = itemsD ps room := rfl
    rw [show ((0 : Nat) : Int) = 0 from rfl, q] at e2
    rw [e2, ← h.cell]
    have := cellOf_get (P := P) (o := d) (ok_bd h.ok).1 (ok_bd h.ok).2.1
    refine List.ext_getElem? fun j => ?_
    rw [List.getElem?_set]
    split
    · next e =>
      subst e
      rw [if_pos h.r.lt, this]
    · rfl
  · have e : setE P d 0 (Ob.num ps.length) = 1 := by
      rw [setE, h.ok, h.len, h.cell]
      simp
      omega
    exact ⟨e, setE_err e (by decide)⟩

theorem items_update {ps : List (Ob × Ob)} {room i : Nat} {p : Ob × Ob} {v : Ob} (hi : ps[i]? = some p) : (itemsD ps room).set (2 * i + 2) v = itemsD (ps.set i (p.1, v)) room := by
  have hl : i < ps.length := (List.getElem?_eq_some_iff.1 hi).1
  unfold itemsD
  rw [List.length_set, show 2 * i + 2 = (2 * i + 1) + 1 from rfl, List.set_cons_succ]
  congr 1
  rw [List.set_append_left _ _ (by rw [flatD_length]; omega)]
  congr 1
  induction ps generalizing i with
  | nil => simp at hl
  | cons q ps ih =>
    have e : flatD (q :: ps) = q.1 :: q.2 :: flatD ps := rfl
    cases i with
    | zero =>
      simp at hi
      subst hi
      rw [e]
      rfl
    | succ i =>
      have := ih (i := i) (by simpa using hi) (by simpa using hl)
      rw [e, show 2 * (i + 1) + 1 = (2 * i + 1) + 1 + 1 from by omega, List.set_cons_succ, List.set_cons_succ, this]
      rfl
theorem flatD_append (ps qs : List (Ob × Ob)) : flatD (ps ++ qs) = flatD ps ++ flatD qs := by simp [flatD]
theorem items_add {ps : List (Ob × Ob)} {room : Nat} {k v : Ob} (h : ps.length < room) : (((itemsD ps room).set (2 * ps.length + 1) k).set (2 * ps.length + 2) v).set 0 (Ob.num ((ps.length + 1 : Nat) : Int)) = itemsD (ps ++ [(k, v)]) room := by
  have e1 : List.replicate (2 * (room - ps.length)) Ob.null = Ob.null :: Ob.null :: List.replicate (2 * (room - (ps.length + 1))) Ob.null := by
    rw [show 2 * (room - ps.length) = 2 * (room - (ps.length + 1)) + 1 + 1 from by omega]
    rfl
  unfold itemsD
  rw [e1, List.set_cons_succ, show 2 * ps.length + 2 = 2 * ps.length + 1 + 1 from rfl, List.set_cons_succ, List.set_cons_zero, List.length_append, flatD_append]
  rw [List.set_append_right _ _ (by rw [flatD_length]; exact Nat.le_refl _), flatD_length, Nat.sub_self, List.set_cons_zero]
  rw [List.set_append_right _ _ (by rw [flatD_length]; omega), flatD_length, show 2 * ps.length + 1 - 2 * ps.length = 1 from by omega]
  simp [flatD]
theorem ixD_some {ps : List (Ob × Ob)} {k : Ob} : ∀ {j i : Nat}, ixD ps k j = some i → i < j ∧ ∃ p, ps[i]? = some p ∧ isKey k p.1
  | 0, i, h => by simp [ixD] at h
  | j + 1, i, h => by
    unfold ixD at h
    split at h
    · next q =>
      have : j = i := by simpa using h
      subst this
      exact ⟨Nat.lt_succ_self _, q⟩
    · obtain ⟨h1, h2⟩ := ixD_some h
      exact ⟨by omega, h2⟩

/-- What Set returns, and the pairs behind it. -/
def dsetE (P : List Cel) (ps : List (Ob × Ob)) (room : Nat) (lk : Bool) (k v : Ob) : Int :=
  if keyE P k = 0 then (if mayH P v = true ∧ lk = false then (match ixD ps (keyO P k) ps.length with | some _ => 0 | none => if ps.length = room then 20 else 0) else 1) else keyE P k
def dsetL (ps : List (Ob × Ob)) (k v : Ob) : List (Ob × Ob) := match ixD ps k ps.length with | some i => ps.set i ((ps.getD i (Ob.zero, Ob.zero)).1, v) | none => ps ++ [(k, v)]
end Go.Proofs.Ytigboibcgpfphaa
