/- Y24: D10, D11, D12, D13. -/
import Derived.Test.YtlkbnldpecolbaaY23
/- dict: what Set and Drop make of a cell: plain answers. -/
namespace Go.Proofs.Ytlkbnldpecolbaa
open Go.RowKit Go.Maps
set_option linter.unusedVariables false

theorem cellOf_set {P : List Cel} {c : Cel} {o q : Ob} (hn : q.n.toNat < P.length) : cellOf (P.set q.n.toNat c) o = if o.n.toNat = q.n.toNat then c else cellOf P o := by
  unfold cellOf
  rw [List.getD_eq_getElem?_getD, List.getD_eq_getElem?_getD, List.getElem?_set]
  by_cases e : o.n.toNat = q.n.toNat
  · rw [if_pos e.symm, if_pos e, if_pos (by omega)]
    rfl
  · rw [if_neg (Ne.symm e), if_neg e]
theorem inCell_set {P : List Cel} {c : Cel} {o q : Ob} (hn : q.n.toNat < P.length) (hk : c.k = (cellOf P q).k) (hs : c.size = (cellOf P q).size) : inCell (P.set q.n.toNat c) o = inCell P o := by
  unfold inCell
  rw [cellOf_set hn, List.length_set]
  by_cases e : o.n.toNat = q.n.toNat
  · rw [if_pos e, hk, hs]
    have : cellOf P o = cellOf P q := by unfold cellOf; rw [e]
    rw [this]
  · rw [if_neg e]
theorem mayH_set {P : List Cel} {c : Cel} {o q : Ob} (hn : q.n.toNat < P.length) (hk : c.k = (cellOf P q).k) (hs : c.size = (cellOf P q).size) : mayH (P.set q.n.toNat c) o = mayH P o := by
  unfold mayH
  rw [inCell_set hn hk hs]
theorem okO_set {P : List Cel} {c : Cel} {o q : Ob} (hn : q.n.toNat < P.length) (hk : c.k = (cellOf P q).k) (hs : c.size = (cellOf P q).size) : okO (P.set q.n.toNat c) o = okO P o := by
  unfold okO
  rw [inCell_set hn hk hs]

/-- An unlocked cell of a dictionary with such items. -/
structure DictR (P : List Cel) (d : Ob) (its : List Ob) : Prop where
  ok : okO P d = true
  k : d.k = 10
  cell : cellOf P d = ⟨10, false, its, []⟩
theorem DictR.lt {P : List Cel} {d : Ob} {its : List Ob} (h : DictR P d its) : d.n.toNat < P.length := by
  have := ok_bd h.ok
  omega
theorem DictR.setAll {P : List Cel} {d : Ob} {its its' : List Ob} (h : DictR P d its) (hl : its'.length = its.length) : DictR (P.set d.n.toNat ⟨10, false, its', []⟩) d its' :=
  ⟨by rw [okO_set h.lt (by rw [h.cell]) (by rw [h.cell]; simp [Cel.size, hl])]; exact h.ok, h.k, by rw [cellOf_set h.lt, if_pos rfl]⟩
theorem DictR.may {P : List Cel} {d : Ob} {its its' : List Ob} (h : DictR P d its) (hl : its'.length = its.length) (x : Ob) : mayH (P.set d.n.toNat ⟨10, false, its', []⟩) x = mayH P x :=
  mayH_set h.lt (by rw [h.cell]) (by rw [h.cell]; simp [Cel.size, hl])
theorem DictR.put {P : List Cel} {d : Ob} {its : List Ob} (h : DictR P d its) {i : Nat} {x : Ob} (hi : i < its.length) (hx : mayH P x = true) : setE P d i x = 0 ∧ setP P d i x = P.set d.n.toNat ⟨10, false, its.set i x, []⟩ := by
  have hz : d.a = 0 := ((ok_bd h.ok).2.2.2.2.2.2.2.2 h.k).1
  have hl : lenO P d = its.length := by
    rw [lenO, h.ok, h.cell]
    simp [h.k, Cel.size]
  have e : setE P d i x = 0 := by
    rw [setE, h.ok, hl, h.cell, hx]
    simp [h.k]
    omega
  refine ⟨e, ?_⟩
  rw [setP, e, h.cell, hz]
  simp [putItem]
theorem DictR.set_set {P : List Cel} {d : Ob} {its its' its'' : List Ob} : (P.set d.n.toNat ⟨10, false, its', []⟩).set d.n.toNat ⟨10, false, its'', []⟩ = P.set d.n.toNat ⟨10, false, its'', []⟩ := List.set_set ..
theorem DictC.r {P : List Cel} {d : Ob} {ps : List (Ob × Ob)} {room : Nat} (h : DictC P d ps room false) : DictR P d (itemsD ps room) := ⟨h.ok, h.k, h.cell⟩
theorem DictR.c {P : List Cel} {d : Ob} {ps : List (Ob × Ob)} {room : Nat} (h : DictR P d (itemsD ps room)) (hl : ps.length ≤ room) (hr : room ≤ 1000) (hf : ∀ p ∈ ps, p.1.Fine) : DictC P d ps room false := ⟨h.ok, h.k, h.cell, hl, hr, hf⟩
theorem may_num (P : List Cel) (n : Nat) (h : n ≤ 2147483647) : mayH P (Ob.num n) = true := by
  simp [mayH, Ob.may, Ob.num, mayO, comp, onlyP]
  omega
/-- Whether the cell is locked is told by setting its first item to what it is. -/
theorem DictC.same {P : List Cel} {d : Ob} {ps : List (Ob × Ob)} {room : Nat} {lk : Bool} (h : DictC P d ps room lk) : setE P d 0 (Ob.num ps.length) = (if lk then 1 else 0) ∧ setP P d 0 (Ob.num ps.length) = P := by
  cases lk
  · have hi : 0 < (itemsD ps room).length := by rw [itemsD_length h.le]; omega
    obtain ⟨e1, e2⟩ := h.r.put hi (may_num P ps.length (by have := h.le; have := h.most; omega))
    refine ⟨e1, ?_⟩
    have q : (itemsD ps room).set 0 (Ob.num ps.length) = itemsD ps room := rfl
    rw [show ((0 : Nat) : Int) = 0 from rfl, q] at e2
    rw [e2, ← h.cell]
    have := cellOf_get (P := P) (o := d) (ok_bd h.ok).1 (ok_bd h.ok).2.1
    refine List.ext_getElem? fun j => ?_
    rw [List.getElem?_set]
    split
    · next e =>
      subst e
      rw [if_pos h.r.lt, this]
    · rfl
  · have e : setE P d 0 (Ob.num ps.length) = 1 := by
      rw [setE, h.ok, h.len, h.cell]
      simp
      omega
    exact ⟨e, setE_err e (by decide)⟩

theorem items_update {ps : List (Ob × Ob)} {room i : Nat} {p : Ob × Ob} {v : Ob} (hi : ps[i]? = some p) : (itemsD ps room).set (2 * i + 2) v = itemsD (ps.set i (p.1, v)) room := by
  have hl : i < ps.length := (List.getElem?_eq_some_iff.1 hi).1
  unfold itemsD
  rw [List.length_set, show 2 * i + 2 = (2 * i + 1) + 1 from rfl, List.set_cons_succ]
  congr 1
  rw [List.set_append_left _ _ (by rw [flatD_length]; omega)]
  congr 1
  induction ps generalizing i with
  | nil => simp at hl
  | cons q ps ih =>
    have e : flatD (q :: ps) = q.1 :: q.2 :: flatD ps := rfl
    cases i with
    | zero =>
      simp at hi
      subst hi
      rw [e]
      rfl
    | succ i =>
      have := ih (i := i) (by simpa using hi) (by simpa using hl)
      rw [e, show 2 * (i + 1) + 1 = (2 * i + 1) + 1 + 1 from by omega, List.set_cons_succ, List.set_cons_succ, this]
      rfl
theorem flatD_append (ps qs : List (Ob × Ob)) : flatD (ps ++ qs) = flatD ps ++ flatD qs := by simp [flatD]
theorem items_add {ps : List (Ob × Ob)} {room : Nat} {k v : Ob} (h : ps.length < room) : (((itemsD ps room).set (2 * ps.length + 1) k).set (2 * ps.length + 2) v).set 0 (Ob.num ((ps.length + 1 : Nat) : Int)) = itemsD (ps ++ [(k, v)]) room := by
  have e1 : List.replicate (2 * (room - ps.length)) Ob.null = Ob.null :: Ob.null :: List.replicate (2 * (room - (ps.length + 1))) Ob.null := by
    rw [show 2 * (room - ps.length) = 2 * (room - (ps.length + 1)) + 1 + 1 from by omega]
    rfl
  unfold itemsD
  rw [e1, List.set_cons_succ, show 2 * ps.length + 2 = 2 * ps.length + 1 + 1 from rfl, List.set_cons_succ, List.set_cons_zero, List.length_append, flatD_append]
  rw [List.set_append_right _ _ (by rw [flatD_length]; exact Nat.le_refl _), flatD_length, Nat.sub_self, List.set_cons_zero]
  rw [List.set_append_right _ _ (by rw [flatD_length]; omega), flatD_length, show 2 * ps.length + 1 - 2 * ps.length = 1 from by omega]
  simp [flatD]
theorem ixD_some {ps : List (Ob × Ob)} {k : Ob} : ∀ {j i : Nat}, ixD ps k j = some i → i < j ∧ ∃ p, ps[i]? = some p ∧ isKey k p.1
  | 0, i, h => by simp [ixD] at h
  | j + 1, i, h => by
    unfold ixD at h
    split at h
    · next q =>
      have : j = i := by simpa using h
      subst this
      exact ⟨Nat.lt_succ_self _, q⟩
    · obtain ⟨h1, h2⟩ := ixD_some h
      exact ⟨by omega, h2⟩

/-- What Set returns, and the pairs behind it. -/
def dsetE (P : List Cel) (ps : List (Ob × Ob)) (room : Nat) (lk : Bool) (k v : Ob) : Int :=
  if keyE P k = 0 then (if mayH P v = true ∧ lk = false then (match ixD ps (keyO P k) ps.length with | some _ => 0 | none => if ps.length = room then 20 else 0) else 1) else keyE P k
def dsetL (ps : List (Ob × Ob)) (k v : Ob) : List (Ob × Ob) := match ixD ps k ps.length with | some i => ps.set i ((ps.getD i (Ob.zero, Ob.zero)).1, v) | none => ps ++ [(k, v)]
end Go.Proofs.Ytlkbnldpecolbaa

/- Walks of dict: isLocked, set, count, add beside blocks that the heap does not touch. -/
namespace Go.Proofs.Ytlkbnldpecolbaa
open Go.RowKit Go.Maps
set_option linter.unusedVariables false
section
variable {own : Nat → Prop} {hb : Nat} {P P' : List Cel} {w w' : World} {d : Ob} {ps : List (Ob × Ob)} {room : Nat} {lk : Bool}
theorem Sep.box_dc (h : Sep own hb P w) (hh : Nat) (k : Int) (x : Bool) (n a l : Int) (s : ByteArray) (p r : Int) :
    ∃ w', w.alloc (.cells #[ptr hh, .int .i64 k, .bool x, .int .i64 n, .int .i64 a, .int .i64 l, .string s, .int .i64 p, .int .i64 r] 86) = w' ∧ Sep (fun b => own b ∨ b = w.heap.size) hb P w' ∧ Kept own w w' ∧ w'.heap[w.heap.size]? = some (dcObj hh k x n a l s p r) :=
  ⟨_, rfl, h.box _, (h.below (box_below _ _)).2, heap_alloc_new _ _⟩

set_option maxRecDepth 100000 in
theorem locked_walk (hb : Nat) (k n a l p r E : Int) (x b : Bool) (s : ByteArray) (kc nc ac lc : Int) (xc : Bool) (sc : ByteArray) (w : World) (R : World → World → Prop) (hE : Hid ((E != 0) = b))
    (hg : Hid (∀ wx, Below w.heap.size w wx → Calls Try.prog 71 #[ptr hb, obV k x n a l s, .int .i64 0] wx fun e w' => e = .returned (.tuple #[obV kc xc nc ac lc sc, .int .i64 0]) ∧ Below wx.heap.size wx w'))
    (hs : Hid (∀ wx, Below w.heap.size w wx → Calls Try.prog 55 #[ptr hb, obV k x n a l s, .int .i64 0, obV kc xc nc ac lc sc] wx fun e w' => e = .returned (.int .i64 E) ∧ R wx w')) :
    Calls Try.prog 53 #[dcV hb k x n a l s p r] w fun e w' => e = .returned (.bool b) ∧ ∃ wx, Below w.heap.size w wx ∧ R wx w' := by
  go_enter Try.func53, Try.ntmps53
  go_wp2_with fail
  obtain ⟨wa, ea, ka, za, oa⟩ := dc_box w hb k x n a l s p r
  rw [ea]
  refine (hg.out wa ka).mono ?_
  rintro e w1 ⟨rfl, k1⟩
  have K1 := Lib.hid (below_and ka k1)
  have O1 := Lib.hid ((k1.block _ (blk_lt oa)).trans oa)
  clear ea ka za oa k1
  go_upto_region 2 with fail
  obtain ⟨w2, e2, k2, z2, o2⟩ := ob_box w1 kc nc ac lc xc sc
  rw [e2]
  have K2 := Lib.hid (below_and K1.out k2)
  obtain ⟨d0, d1, d2, d3, d4, d5, d6, d7, d8⟩ := dc_cells ((k2.block _ (blk_lt O1.out)).trans O1.out)
  obtain ⟨o0, o1, o2, o3, o4, o5⟩ := o2
  clear e2 k2 z2
  go_wp2_with fail
  refine (hs.out w2 K2.out).mono ?_
  rintro e w3 ⟨rfl, hR⟩
  have HR := Lib.hid hR
  clear hR d0 d1 d2 d3 d4 d5 d6 d7 d8 o0 o1 o2 o3 o4 o5
  have hb' := hE.out
  clear hE
  go_wp2
  go_ret
  exact ⟨rfl, w2, K2.out, HR.out⟩
theorem sLocked (h : Sep own hb P w) (D : DictC P d ps room lk) (p r : Int) : Calls Try.prog 53 #[dcV hb d.k d.x d.n d.a d.l d.s p r] w fun e w' => e = .returned (.bool lk) ∧ Sep own hb P w' ∧ Kept own w w' := by
  obtain ⟨role, ⟨vc, ivs, pb, rv, h1⟩, h2⟩ := h
  refine (locked_walk hb d.k d.n d.a d.l p r (if lk then 1 else 0) d.x lk d.s 3 ps.length 0 0 false ⟨#[]⟩ w (fun wx w' => PH role 1 hb vc ivs pb rv P w' ∧ Keep role 1 wx role w') (Lib.hid (by cases lk <;> rfl)) (Lib.hid fun wx kx => ?_) (Lib.hid fun wx kx => ?_)).mono ?_
  · exact dget_is (h1.below kx) D (i := 0) (o := Ob.num ps.length) rfl
  · have := set_is (h1.below kx) d 0 (Ob.num ps.length)
    rw [D.same.1, D.same.2] at this
    exact this
  · rintro e w' ⟨rfl, wx, kx, q1, q2⟩
    exact ⟨rfl, Sep.of_keep h2 ⟨vc, ivs, pb, rv, q1⟩ ((Keep.of_below 1 kx).trans q2)⟩

/-- A call that sets one item. -/
theorem sPutItem (h : Sep own hb P w) {its : List Ob} (D : DictR P d its) (p r : Int) (i : Nat) (o : Ob) (hi : i < its.length) (hx : mayH P o = true) :
    Calls Try.prog 86 #[dcV hb d.k d.x d.n d.a d.l d.s p r, .int .i64 i, o.val] w fun e w' => e = .returned (.tuple #[]) ∧ Sep own hb (P.set d.n.toNat ⟨10, false, its.set i o, []⟩) w' ∧ Kept own w w' := by
  obtain ⟨role, ⟨vc, ivs, pb, rv, h1⟩, h2⟩ := h
  refine (dset_any hb d.k d.n d.a d.l p r i d.x d.s o.k o.n o.a o.l o.x o.s w 0 (fun wx w' => PH role 1 hb vc ivs pb rv (P.set d.n.toNat ⟨10, false, its.set i o, []⟩) w' ∧ Keep role 1 wx role w') (Lib.hid fun wx kx => ?_)).mono ?_
  · have := set_is (h1.below kx) d i o
    rw [(D.put hi hx).1, (D.put hi hx).2] at this
    exact this
  · rintro e w' ⟨rfl, wx, kx, q1, q2⟩
    exact ⟨rfl, Sep.of_keep h2 ⟨vc, ivs, pb, rv, q1⟩ ((Keep.of_below 1 kx).trans q2)⟩

set_option maxRecDepth 100000 in
theorem sCount (h : Sep own hb P w) {its : List Ob} (D : DictR P d its) (p r : Int) (q : Nat) (hi : 0 < its.length) (hq : q ≤ 2147483647) :
    Calls Try.prog 87 #[dcV hb d.k d.x d.n d.a d.l d.s p r, .int .i64 q] w fun e w' => e = .returned (.tuple #[]) ∧ Sep own hb (P.set d.n.toNat ⟨10, false, its.set 0 (Ob.num q), []⟩) w' ∧ Kept own w w' := by
  have H := Lib.hid h
  have HD := Lib.hid D
  have HI := Lib.hid hi
  have HQ := Lib.hid hq
  clear h D hi hq
  obtain ⟨k, x, n, a, l, s⟩ := d
  go_enter Try.func87, Try.ntmps87
  go_wp2_with fail
  obtain ⟨wa, ea, sa, ka, oa⟩ := H.out.box_dc hb k x n a l s p r
  rw [ea]
  refine (sPutItem sa HD.out p r 0 (Ob.num q) HI.out (may_num P q HQ.out)).mono ?_
  rintro e w1 ⟨rfl, s1, k1⟩
  have S1 := Lib.hid (s1.sub fun b hb => Or.inl hb)
  have K1 := Lib.hid (ka.trans (k1.sub fun b hb => Or.inl hb))
  clear ea sa ka oa s1 k1
  go_wp2
  go_end0
  exact ⟨rfl, S1.out, K1.out⟩
end
end Go.Proofs.Ytlkbnldpecolbaa

/- Walks of dict: add. -/
namespace Go.Proofs.Ytlkbnldpecolbaa
open Go.RowKit Go.Maps
set_option linter.unusedVariables false

/-- A heap beside three boxes of ours. -/
structure AddAt (own : Nat → Prop) (hb : Nat) (P : List Cel) (w wx : World) (A hh : Nat) (d k v : Ob) (p r : Int) : Prop where
  sep : Sep (fun b => own b ∨ b = A ∨ b = A + 1 ∨ b = A + 2) hb P wx
  kept : Kept own w wx
  b0 : wx.heap[A]? = some (dcObj hh d.k d.x d.n d.a d.l d.s p r)
  b1 : wx.heap[A + 1]? = some (obObj k.k k.x k.n k.a k.l k.s)
  b2 : wx.heap[A + 2]? = some (obObj v.k v.x v.n v.a v.l v.s)
section
variable {own : Nat → Prop} {hb : Nat} {P P' : List Cel} {w wx wy : World} {A hh : Nat} {d k v : Ob} {p r : Int}
theorem AddAt.below (h : AddAt own hb P w wx A hh d k v p r) (kx : Below wx.heap.size wx wy) : AddAt own hb P w wy A hh d k v p r :=
  ⟨(h.sep.below kx).1, h.kept.trans ((h.sep.below kx).2.sub fun b hb => .inl hb), (kx.block _ (blk_lt h.b0)).trans h.b0, (kx.block _ (blk_lt h.b1)).trans h.b1, (kx.block _ (blk_lt h.b2)).trans h.b2⟩
theorem AddAt.put (h : AddAt own hb P w wx A hh d k v p r) (s : Sep (fun b => own b ∨ b = A ∨ b = A + 1 ∨ b = A + 2) hb P' wy) (kx : Kept (fun b => own b ∨ b = A ∨ b = A + 1 ∨ b = A + 2) wx wy) : AddAt own hb P' w wy A hh d k v p r :=
  ⟨s, h.kept.trans (kx.sub fun b hb => .inl hb), (kx.block _ (.inr (.inl rfl))).trans h.b0, (kx.block _ (.inr (.inr (.inl rfl)))).trans h.b1, (kx.block _ (.inr (.inr (.inr rfl)))).trans h.b2⟩
theorem AddAt.flat1 (h : AddAt own hb P w wx A hh d k v p r) : wx.cell? ⟨A, 0, none⟩ = some (ptr hh) ∧ wx.cell? ⟨A, 1, none⟩ = some (.int .i64 d.k) ∧ wx.cell? ⟨A, 2, none⟩ = some (.bool d.x) ∧ wx.cell? ⟨A, 3, none⟩ = some (.int .i64 d.n) ∧ wx.cell? ⟨A, 4, none⟩ = some (.int .i64 d.a) ∧ wx.cell? ⟨A, 5, none⟩ = some (.int .i64 d.l) ∧ wx.cell? ⟨A, 6, none⟩ = some (.string d.s) ∧ wx.cell? ⟨A, 7, none⟩ = some (.int .i64 p) ∧ wx.cell? ⟨A, 8, none⟩ = some (.int .i64 r) ∧ wx.cell? ⟨A + 1, 0, none⟩ = some (.int .i64 k.k) ∧ wx.cell? ⟨A + 1, 1, none⟩ = some (.bool k.x) ∧ wx.cell? ⟨A + 1, 2, none⟩ = some (.int .i64 k.n) ∧ wx.cell? ⟨A + 1, 3, none⟩ = some (.int .i64 k.a) ∧ wx.cell? ⟨A + 1, 4, none⟩ = some (.int .i64 k.l) ∧ wx.cell? ⟨A + 1, 5, none⟩ = some (.string k.s) :=
  ⟨cellAt h.b0 0, cellAt h.b0 1, cellAt h.b0 2, cellAt h.b0 3, cellAt h.b0 4, cellAt h.b0 5, cellAt h.b0 6, cellAt h.b0 7, cellAt h.b0 8, cellAt h.b1 0, cellAt h.b1 1, cellAt h.b1 2, cellAt h.b1 3, cellAt h.b1 4, cellAt h.b1 5⟩
theorem AddAt.flat2 (h : AddAt own hb P w wx A hh d k v p r) : wx.cell? ⟨A, 0, none⟩ = some (ptr hh) ∧ wx.cell? ⟨A, 1, none⟩ = some (.int .i64 d.k) ∧ wx.cell? ⟨A, 2, none⟩ = some (.bool d.x) ∧ wx.cell? ⟨A, 3, none⟩ = some (.int .i64 d.n) ∧ wx.cell? ⟨A, 4, none⟩ = some (.int .i64 d.a) ∧ wx.cell? ⟨A, 5, none⟩ = some (.int .i64 d.l) ∧ wx.cell? ⟨A, 6, none⟩ = some (.string d.s) ∧ wx.cell? ⟨A, 7, none⟩ = some (.int .i64 p) ∧ wx.cell? ⟨A, 8, none⟩ = some (.int .i64 r) ∧ wx.cell? ⟨A + 2, 0, none⟩ = some (.int .i64 v.k) ∧ wx.cell? ⟨A + 2, 1, none⟩ = some (.bool v.x) ∧ wx.cell? ⟨A + 2, 2, none⟩ = some (.int .i64 v.n) ∧ wx.cell? ⟨A + 2, 3, none⟩ = some (.int .i64 v.a) ∧ wx.cell? ⟨A + 2, 4, none⟩ = some (.int .i64 v.l) ∧ wx.cell? ⟨A + 2, 5, none⟩ = some (.string v.s) :=
  ⟨cellAt h.b0 0, cellAt h.b0 1, cellAt h.b0 2, cellAt h.b0 3, cellAt h.b0 4, cellAt h.b0 5, cellAt h.b0 6, cellAt h.b0 7, cellAt h.b0 8, cellAt h.b2 0, cellAt h.b2 1, cellAt h.b2 2, cellAt h.b2 3, cellAt h.b2 4, cellAt h.b2 5⟩
theorem AddAt.start (h : Sep own hb P w) (hh : Nat) (d k v : Ob) (p r : Int) :
    ∃ wb, (((w.alloc (.cells #[ptr hh, .int .i64 d.k, .bool d.x, .int .i64 d.n, .int .i64 d.a, .int .i64 d.l, .string d.s, .int .i64 p, .int .i64 r] 86)).alloc (.cells #[.int .i64 k.k, .bool k.x, .int .i64 k.n, .int .i64 k.a, .int .i64 k.l, .string k.s] 30)).alloc (.cells #[.int .i64 v.k, .bool v.x, .int .i64 v.n, .int .i64 v.a, .int .i64 v.l, .string v.s] 30)) = wb ∧ AddAt own hb P w wb w.heap.size hh d k v p r := by
  obtain ⟨w1, e1, s1, k1, o1⟩ := h.box_dc hh d.k d.x d.n d.a d.l d.s p r
  have z1 : w1.heap.size = w.heap.size + 1 := by rw [← e1]; simp
  obtain ⟨w2, e2, s2, k2, o2⟩ := s1.box_ob k.k k.x k.n k.a k.l k.s
  have z2 : w2.heap.size = w.heap.size + 2 := by rw [← e2]; simp [z1]
  obtain ⟨w3, e3, s3, k3, o3⟩ := s2.box_ob v.k v.x v.n v.a v.l v.s
  rw [e1, e2, e3]
  rw [z1] at s2 k3 o2 s3
  rw [z2] at o3 s3
  refine ⟨w3, rfl, s3.sub fun b hb => ?_, (k1.trans (k2.sub fun b hb => .inl hb)).trans (k3.sub fun b hb => .inl (.inl hb)), ?_, ?_, o3⟩
  · rcases hb with hb | hb | hb | hb
    · exact .inl (.inl (.inl hb))
    · exact .inl (.inl (.inr hb))
    · exact .inl (.inr hb)
    · exact .inr hb
  · rw [k3.block _ (.inl (.inr rfl)), k2.block _ (.inr rfl)]
    exact o1
  · rw [k3.block _ (.inr rfl)]
    exact o2

set_option maxHeartbeats 1000000 in
set_option maxRecDepth 100000 in
theorem sAdd (h : Sep own hb P w) {its : List Ob} (D : DictR P d its) (r : Int) (n q : Nat) (hq : q = 2 * n + 1) (hn : n ≤ 1000) (hl : q + 1 < its.length) (hk : mayH P k = true) (hv : mayH P v = true) :
    Calls Try.prog 56 #[dcV hb d.k d.x d.n d.a d.l d.s n r, k.val, v.val] w fun e w' => e = .returned (.tuple #[]) ∧ Sep own hb (P.set d.n.toNat ⟨10, false, ((its.set q k).set (q + 1) v).set 0 (Ob.num ((n + 1 : Nat) : Int)), []⟩) w' ∧ Kept own w w' := by
  have e1 : IntKind.i64.wrap ((q : Int) + 1) = ((q + 1 : Nat) : Int) := by rw [wrapi_in _ (by omega) (by omega)]; omega
  have e2 : IntKind.i64.wrap ((n : Int) + 1) = ((n + 1 : Nat) : Int) := by rw [wrapi_in _ (by omega) (by omega)]; omega
  have H := Lib.hid h
  have HD := Lib.hid D
  have D1 := Lib.hid (D.setAll (its' := its.set q k) (by simp))
  have D2 := Lib.hid (D.setAll (its' := (its.set q k).set (q + 1) v) (by simp))
  have M1 := Lib.hid (D.may (its' := its.set q k) (by simp) v)
  have HQ := Lib.hid hq
  have HN := Lib.hid hn
  have HL := Lib.hid hl
  have HK := Lib.hid hk
  have HV := Lib.hid hv
  clear h D hq hn hl hk hv
  show Calls Try.prog 56 #[dcV hb d.k d.x d.n d.a d.l d.s n r, obV k.k k.x k.n k.a k.l k.s, obV v.k v.x v.n v.a v.l v.s] w _
  go_enter Try.func56, Try.ntmps56
  go_upto_region 1 with fail
  obtain ⟨wb, eb, st⟩ := AddAt.start H.out hb d k v n r
  rw [eb]
  have go : Hid (AddAt own hb P w wb.drew w.heap.size hb d k v n r) := Lib.hid (st.below (Below.refl _ wb).drew)
  clear eb st
  go_region_held3 (fun wx => wx.cell? ⟨w.heap.size, 0, none⟩ = some (ptr hb) ∧ wx.cell? ⟨w.heap.size, 1, none⟩ = some (.int .i64 d.k) ∧ wx.cell? ⟨w.heap.size, 2, none⟩ = some (.bool d.x) ∧ wx.cell? ⟨w.heap.size, 3, none⟩ = some (.int .i64 d.n) ∧ wx.cell? ⟨w.heap.size, 4, none⟩ = some (.int .i64 d.a) ∧ wx.cell? ⟨w.heap.size, 5, none⟩ = some (.int .i64 d.l) ∧ wx.cell? ⟨w.heap.size, 6, none⟩ = some (.string d.s) ∧ wx.cell? ⟨w.heap.size, 7, none⟩ = some (.int .i64 n) ∧ wx.cell? ⟨w.heap.size, 8, none⟩ = some (.int .i64 r) ∧
      wx.cell? ⟨w.heap.size + 1, 0, none⟩ = some (.int .i64 k.k) ∧ wx.cell? ⟨w.heap.size + 1, 1, none⟩ = some (.bool k.x) ∧ wx.cell? ⟨w.heap.size + 1, 2, none⟩ = some (.int .i64 k.n) ∧ wx.cell? ⟨w.heap.size + 1, 3, none⟩ = some (.int .i64 k.a) ∧ wx.cell? ⟨w.heap.size + 1, 4, none⟩ = some (.int .i64 k.l) ∧ wx.cell? ⟨w.heap.size + 1, 5, none⟩ = some (.string k.s))
    (first | exact go.out.flat1 | go_keep)
    (first | (go_at_call 60; refine (end_is hb d.k d.n d.a d.l r d.x d.s n q HQ.out HN.out _).mono ?_; rintro e wc ⟨rfl, kc⟩; replace go := Lib.hid (go.out.below kc); clear kc) | (go_at_call 86; refine (sPutItem go.out.sep HD.out n r q k (by have := HL.out; omega) HK.out).mono ?_; rintro e wd ⟨rfl, sd, kd⟩; replace go := Lib.hid (go.out.put sd kd); clear sd kd))
  go_upto_region 2 with fail
  replace go := Lib.hid (go.out.below (Below.refl _ _).drew)
  go_region_held3 (fun wx => wx.cell? ⟨w.heap.size, 0, none⟩ = some (ptr hb) ∧ wx.cell? ⟨w.heap.size, 1, none⟩ = some (.int .i64 d.k) ∧ wx.cell? ⟨w.heap.size, 2, none⟩ = some (.bool d.x) ∧ wx.cell? ⟨w.heap.size, 3, none⟩ = some (.int .i64 d.n) ∧ wx.cell? ⟨w.heap.size, 4, none⟩ = some (.int .i64 d.a) ∧ wx.cell? ⟨w.heap.size, 5, none⟩ = some (.int .i64 d.l) ∧ wx.cell? ⟨w.heap.size, 6, none⟩ = some (.string d.s) ∧ wx.cell? ⟨w.heap.size, 7, none⟩ = some (.int .i64 n) ∧ wx.cell? ⟨w.heap.size, 8, none⟩ = some (.int .i64 r) ∧
      wx.cell? ⟨w.heap.size + 2, 0, none⟩ = some (.int .i64 v.k) ∧ wx.cell? ⟨w.heap.size + 2, 1, none⟩ = some (.bool v.x) ∧ wx.cell? ⟨w.heap.size + 2, 2, none⟩ = some (.int .i64 v.n) ∧ wx.cell? ⟨w.heap.size + 2, 3, none⟩ = some (.int .i64 v.a) ∧ wx.cell? ⟨w.heap.size + 2, 4, none⟩ = some (.int .i64 v.l) ∧ wx.cell? ⟨w.heap.size + 2, 5, none⟩ = some (.string v.s))
    (first | exact go.out.flat2 | go_keep)
    (first | (go_at_call 60; refine (end_is hb d.k d.n d.a d.l r d.x d.s n q HQ.out HN.out _).mono ?_; rintro e wc ⟨rfl, kc⟩; replace go := Lib.hid (go.out.below kc); clear kc) | (go_at_call 86; refine (sPutItem go.out.sep D1.out n r (q + 1) v (by rw [List.length_set]; exact HL.out) (by rw [M1.out]; exact HV.out)).mono ?_; rintro e wd ⟨rfl, sd, kd⟩; replace go := Lib.hid (go.out.put sd kd); clear sd kd))
  go_upto_region 3 with fail
  have st := go.out
  rw [List.set_set] at st
  have ST := Lib.hid st
  obtain ⟨c0, c1, c2, c3, c4, c5, c6, c7, c8, _⟩ := st.flat1
  clear st go
  go_wp2_with fail
  refine (sCount ST.out.sep D2.out n r (n + 1) (by rw [List.length_set, List.length_set]; have := HL.out; omega) (by have := HN.out; omega)).mono ?_
  rintro e wz ⟨rfl, sz, kz⟩
  rw [List.set_set] at sz
  have SZ := Lib.hid (sz.sub fun b hb => Or.inl hb)
  have KZ := Lib.hid (ST.out.kept.trans (kz.sub fun b hb => .inl hb))
  clear sz kz c0 c1 c2 c3 c4 c5 c6 c7 c8
  go_wp2
  go_end0
  exact ⟨rfl, SZ.out, KZ.out⟩
end
end Go.Proofs.Ytlkbnldpecolbaa

/- Walks of dict: Set. -/
namespace Go.Proofs.Ytlkbnldpecolbaa
open Go.RowKit Go.Maps
set_option linter.unusedVariables false

section
variable {role : Nat → Nat × Nat} {c hb : Nat} {vc : Value} {ivs : List Value} {pb : Nat → Nat} {rv : Nat → Value} {P : List Cel} {w w' : World} {d : Ob} {ps : List (Ob × Ob)} {room : Nat} {lk : Bool}
theorem open_is (h : PH role c hb vc ivs pb rv P w) (D : DictC P d ps room lk) : Calls Try.prog 58 #[ptr hb, d.val] w fun e w' => e = .returned (.tuple #[dcV hb d.k d.x d.n d.a d.l d.s ps.length room, .int .i64 0]) ∧ Below w.heap.size w w' := by
  have hv : d.val = obV 10 d.x d.n d.a d.l d.s := by
    rw [← D.k]
    rfl
  have hd : dcV hb d.k d.x d.n d.a d.l d.s ps.length room = dcV hb 10 d.x d.n d.a d.l d.s ps.length room := by rw [D.k]
  rw [hv, hd]
  refine open_walk hb (2 * room + 1) (2 * room) ps.length room d.n d.a d.l d.x d.s w rfl rfl D.le D.most (Lib.hid fun wx kx => ?_) (Lib.hid fun wx kx => ?_)
  · have := size_is (h.below kx) d
    rw [D.len, errO_ok D.ok, hv] at this
    exact this
  · have := dget_is (h.below kx) D (i := 0) (o := Ob.num ps.length) rfl
    rw [hv] at this
    exact this
theorem openFor_is (h : PH role c hb vc ivs pb rv P w) (D : DictC P d ps room lk) (k : Ob) (hk : keyE P k = 0) : Calls Try.prog 51 #[ptr hb, d.val, k.val] w fun e w' => e = .returned (.tuple #[dcV hb d.k d.x d.n d.a d.l d.s ps.length room, (keyO P k).val, .int .i64 0]) ∧ Below w.heap.size w w' := by
  refine openFor_ok hb d.k d.n d.a d.l ps.length room d.x d.s k.k k.n k.a k.l k.x k.s (keyO P k).k (keyO P k).n (keyO P k).a (keyO P k).l (keyO P k).x (keyO P k).s w (Lib.hid fun wx kx => open_is (h.below kx) D) (Lib.hid fun wx kx => ?_)
  have := key_is (h.below kx) k
  rw [hk] at this
  exact this
theorem openFor_no (h : PH role c hb vc ivs pb rv P w) (D : DictC P d ps room lk) (k : Ob) (hk : keyE P k ≠ 0) : Calls Try.prog 51 #[ptr hb, d.val, k.val] w fun e w' => e = .returned (.tuple #[zeroDcV, zeroOb, .int .i64 (keyE P k)]) ∧ Below w.heap.size w w' := by
  refine openFor_key hb d.k d.n d.a d.l ps.length room (keyE P k) d.x d.s k.k k.n k.a k.l k.x k.s w (by simpa using hk) (Lib.hid fun wx kx => open_is (h.below kx) D) (Lib.hid fun wx kx => ?_)
  have := key_is (h.below kx) k
  rw [show keyO P k = Ob.zero from by simp [keyO, hk]] at this
  exact this
end

/-- A heap beside boxes of ours: d, q, v, and the dictionary's cell. -/
structure SetAt (own : Nat → Prop) (hb : Nat) (P : List Cel) (w wx : World) (A C hh : Nat) (d q v : Ob) (dc : Obj) : Prop where
  sep : Sep (fun b => own b ∨ b = A ∨ b = A + 1 ∨ b = A + 2 ∨ b = C) hb P wx
  kept : Kept own w wx
  b0 : wx.heap[A]? = some (obObj d.k d.x d.n d.a d.l d.s)
  b1 : wx.heap[A + 1]? = some (obObj q.k q.x q.n q.a q.l q.s)
  b2 : wx.heap[A + 2]? = some (obObj v.k v.x v.n v.a v.l v.s)
  b3 : wx.heap[C]? = some dc
section
variable {own : Nat → Prop} {hb : Nat} {P P' : List Cel} {w wx wy : World} {A C hh : Nat} {d q k v : Ob} {dc : Obj}
theorem SetAt.below (h : SetAt own hb P w wx A C hh d q v dc) (kx : Below wx.heap.size wx wy) : SetAt own hb P w wy A C hh d q v dc :=
  ⟨(h.sep.below kx).1, h.kept.trans ((h.sep.below kx).2.sub fun b hb => .inl hb), (kx.block _ (blk_lt h.b0)).trans h.b0, (kx.block _ (blk_lt h.b1)).trans h.b1, (kx.block _ (blk_lt h.b2)).trans h.b2, (kx.block _ (blk_lt h.b3)).trans h.b3⟩
theorem SetAt.put (h : SetAt own hb P w wx A C hh d q v dc) (s : Sep (fun b => own b ∨ b = A ∨ b = A + 1 ∨ b = A + 2 ∨ b = C) hb P' wy) (kx : Kept (fun b => own b ∨ b = A ∨ b = A + 1 ∨ b = A + 2 ∨ b = C) wx wy) : SetAt own hb P' w wy A C hh d q v dc :=
  ⟨s, h.kept.trans (kx.sub fun b hb => .inl hb), (kx.block _ (.inr (.inl rfl))).trans h.b0, (kx.block _ (.inr (.inr (.inl rfl)))).trans h.b1, (kx.block _ (.inr (.inr (.inr (.inl rfl))))).trans h.b2, (kx.block _ (.inr (.inr (.inr (.inr rfl))))).trans h.b3⟩
/-- One block of ours has changed. -/
theorem Sep.only {own : Nat → Prop} (h : Sep own hb P wx) (hA : own A) (k : Only A wx wy) : Sep own hb P wy := by
  obtain ⟨role, h1, h2⟩ := h
  refine ⟨role, h1.only k (h2 A hA).2, fun b hb => ⟨by rw [k.size]; exact (h2 b hb).1, (h2 b hb).2⟩⟩
theorem Kept.only {own own' : Nat → Prop} (h : Kept own w wx) (k : Only A wx wy) (hA : ¬ own A) : Kept own w wy :=
  ⟨k.os.trans h.os, k.tape.trans h.tape, k.output.trans h.output, by rw [k.size]; exact h.size, fun b hb => (k.block b (fun e => hA (e ▸ hb))).trans (h.block b hb)⟩
/-- Three boxes of ours. -/
structure Box3 (own : Nat → Prop) (hb : Nat) (P : List Cel) (w wx : World) (A : Nat) (d k v : Ob) : Prop where
  sep : Sep (fun b => own b ∨ b = A ∨ b = A + 1 ∨ b = A + 2) hb P wx
  kept : Kept own w wx
  b0 : wx.heap[A]? = some (obObj d.k d.x d.n d.a d.l d.s)
  b1 : wx.heap[A + 1]? = some (obObj k.k k.x k.n k.a k.l k.s)
  b2 : wx.heap[A + 2]? = some (obObj v.k v.x v.n v.a v.l v.s)
theorem Box3.below (h : Box3 own hb P w wx A d k v) (kx : Below wx.heap.size wx wy) : Box3 own hb P w wy A d k v :=
  ⟨(h.sep.below kx).1, h.kept.trans ((h.sep.below kx).2.sub fun b hb => .inl hb), (kx.block _ (blk_lt h.b0)).trans h.b0, (kx.block _ (blk_lt h.b1)).trans h.b1, (kx.block _ (blk_lt h.b2)).trans h.b2⟩
theorem Box3.start (h : Sep own hb P w) (d k v : Ob) :
    ∃ wb, (((w.alloc (.cells #[.int .i64 d.k, .bool d.x, .int .i64 d.n, .int .i64 d.a, .int .i64 d.l, .string d.s] 30)).alloc (.cells #[.int .i64 k.k, .bool k.x, .int .i64 k.n, .int .i64 k.a, .int .i64 k.l, .string k.s] 30)).alloc (.cells #[.int .i64 v.k, .bool v.x, .int .i64 v.n, .int .i64 v.a, .int .i64 v.l, .string v.s] 30)) = wb ∧ Box3 own hb P w wb w.heap.size d k v := by
  obtain ⟨w1, e1, s1, k1, o1⟩ := h.box_ob d.k d.x d.n d.a d.l d.s
  have z1 : w1.heap.size = w.heap.size + 1 := by rw [← e1]; simp
  obtain ⟨w2, e2, s2, k2, o2⟩ := s1.box_ob k.k k.x k.n k.a k.l k.s
  have z2 : w2.heap.size = w.heap.size + 2 := by rw [← e2]; simp [z1]
  obtain ⟨w3, e3, s3, k3, o3⟩ := s2.box_ob v.k v.x v.n v.a v.l v.s
  rw [e1, e2, e3]
  rw [z1] at s2 k3 o2 s3
  rw [z2] at o3 s3
  refine ⟨w3, rfl, s3.sub fun b hb => ?_, (k1.trans (k2.sub fun b hb => .inl hb)).trans (k3.sub fun b hb => .inl (.inl hb)), ?_, ?_, o3⟩
  · rcases hb with hb | hb | hb | hb
    · exact .inl (.inl (.inl hb))
    · exact .inl (.inl (.inr hb))
    · exact .inl (.inr hb)
    · exact .inr hb
  · rw [k3.block _ (.inl (.inr rfl)), k2.block _ (.inr rfl)]
    exact o1
  · rw [k3.block _ (.inr rfl)]
    exact o2
/-- Behind openFor: the cell in a new box, the key in the place of k. -/
theorem Box3.opened (h : Box3 own hb P w wx A d k v) (hA : ∀ b, own b → b < A) (cs : Array Value) (q : Ob) : SetAt own hb P w (put6 (wx.alloc (.cells cs 86)) (A + 1) (.int .i64 q.k) (.bool q.x) (.int .i64 q.n) (.int .i64 q.a) (.int .i64 q.l) (.string q.s)) A wx.heap.size hh d q v (.cells cs 86 (0, 0)) := by
  have hx := h.sep.box (.cells cs 86)
  have on : Only (A + 1) (wx.alloc (.cells cs 86)) (put6 (wx.alloc (.cells cs 86)) (A + 1) (.int .i64 q.k) (.bool q.x) (.int .i64 q.n) (.int .i64 q.a) (.int .i64 q.l) (.string q.s)) := only6 _ _ _ _ _ _ _ _
  have kb := box_below wx (.cells cs 86)
  have l1 := blk_lt h.b1
  refine ⟨(hx.only (.inl (.inr (.inr (.inl rfl)))) on).sub fun b hb => ?_, (h.kept.trans ((h.sep.below kb).2.sub fun b hb => .inl hb)).only (own' := own) on (fun e => by have := hA _ e; omega), ?_, ?_, ?_, ?_⟩
  · rcases hb with hb | hb | hb | hb | hb
    · exact .inl (.inl hb)
    · exact .inl (.inr (.inl hb))
    · exact .inl (.inr (.inr (.inl hb)))
    · exact .inl (.inr (.inr (.inr hb)))
    · exact .inr hb
  · rw [on.block _ (by omega), kb.block _ (blk_lt h.b0)]
    exact h.b0
  · exact set6 ((kb.block _ l1).trans h.b1) _ _ _ _ _ _
  · rw [on.block _ (by omega), kb.block _ (blk_lt h.b2)]
    exact h.b2
  · rw [on.block _ (by omega)]
    exact heap_alloc_new _ _
end

section
variable {own : Nat → Prop} {hb : Nat} {P : List Cel} {w : World} {d k v : Ob} {ps : List (Ob × Ob)} {room : Nat} {lk : Bool}
set_option maxHeartbeats 1000000 in
set_option maxRecDepth 100000 in
theorem set_may (h : Sep own hb P w) (D : DictC P d ps room lk) (hA : ∀ b, own b → b < w.heap.size) (hk : keyE P k = 0) (hm : mayH P v = false) :
    Calls Try.prog 20 #[ptr hb, d.val, k.val, v.val] w fun e w' => e = .returned (.int .i64 1) ∧ Sep own hb P w' ∧ Kept own w w' := by
  show Calls Try.prog 20 #[ptr hb, obV d.k d.x d.n d.a d.l d.s, obV k.k k.x k.n k.a k.l k.s, obV v.k v.x v.n v.a v.l v.s] w _
  have H := Lib.hid h
  have HD := Lib.hid D
  have HA := Lib.hid hA
  have HK := Lib.hid hk
  have HM := Lib.hid hm
  clear h D hA hk hm
  go_enter Try.func20, Try.ntmps20
  go_upto_region 1 with fail
  obtain ⟨wb, eb, st⟩ := Box3.start H.out d k v
  rw [eb]
  have ST := Lib.hid st
  obtain ⟨o0, o1, o2, o3, o4, o5⟩ := ob_cells st.b0
  obtain ⟨p0, p1, p2, p3, p4, p5⟩ := ob_cells st.b1
  clear eb st
  go_wp2_with fail
  have hop : Calls Try.prog 51 #[ptr hb, d.val, k.val] wb fun e w' => e = .returned (.tuple #[dcV hb d.k d.x d.n d.a d.l d.s ps.length room, (keyO P k).val, .int .i64 0]) ∧ Below wb.heap.size wb w' := by
    obtain ⟨role, ⟨vc, ivs, pb, rv, h1⟩, h2⟩ := ST.out.sep
    exact openFor_is h1 HD.out k HK.out
  obtain ⟨q, hq⟩ : ∃ q, keyO P k = q := ⟨_, rfl⟩
  rw [hq] at hop
  have HQ := Lib.hid hq
  simp only [Ob.val] at hop
  clear hq
  refine hop.mono ?_
  rintro e w1 ⟨rfl, k1⟩
  have S1 := Lib.hid (ST.out.below k1)
  clear hop k1 o0 o1 o2 o3 o4 o5 p0 p1 p2 p3 p4 p5
  obtain ⟨⟨p0, p1, p2, p3, p4, p5⟩, f0, f1, f2, f3, f4, f5⟩ := later6 S1.out.b1
  go_upto_region 2 with fail
  obtain ⟨w3, e3⟩ : ∃ w3, put6 (w1.alloc (.cells #[ptr hb, .int .i64 d.k, .bool d.x, .int .i64 d.n, .int .i64 d.a, .int .i64 d.l, .string d.s, .int .i64 ps.length, .int .i64 room] 86)) (w.heap.size + 1) (.int .i64 q.k) (.bool q.x) (.int .i64 q.n) (.int .i64 q.a) (.int .i64 q.l) (.string q.s) = w3 := ⟨_, rfl⟩
  have go := S1.out.opened (hh := hb) HA.out #[ptr hb, .int .i64 d.k, .bool d.x, .int .i64 d.n, .int .i64 d.a, .int .i64 d.l, .string d.s, .int .i64 ps.length, .int .i64 room] q
  rw [e3] at go
  unfold put6 at e3
  rw [e3]
  have GO := Lib.hid go
  clear go e3 p0 p1 p2 p3 p4 p5 f0 f1 f2 f3 f4 f5
  obtain ⟨v0, v1, v2, v3, v4, v5⟩ := ob_cells GO.out.b2
  obtain ⟨d0, d1, d2, d3, d4, d5, d6, d7, d8⟩ := dc_cells GO.out.b3
  go_wp2_with fail
  have hmay : Calls Try.prog 52 #[ptr hb, v.val] w3 fun e w' => e = .returned (.bool false) ∧ Below w3.heap.size w3 w' := by
    obtain ⟨role, ⟨vc, ivs, pb, rv, h1⟩, h2⟩ := GO.out.sep
    have := mayH_is h1 v
    rw [HM.out] at this
    exact this
  refine hmay.mono ?_
  rintro e w4 ⟨rfl, k4⟩
  replace GO := Lib.hid (GO.out.below k4)
  clear hmay k4 v0 v1 v2 v3 v4 v5 d0 d1 d2 d3 d4 d5 d6 d7 d8
  go_wp2
  go_ret
  exact ⟨rfl, GO.out.sep.sub fun b hb => .inl hb, GO.out.kept⟩

set_option maxHeartbeats 1000000 in
set_option maxRecDepth 100000 in
theorem set_lock (h : Sep own hb P w) (D : DictC P d ps room lk) (hA : ∀ b, own b → b < w.heap.size) (hk : keyE P k = 0) (hm : mayH P v = true) (hl : lk = true) :
    Calls Try.prog 20 #[ptr hb, d.val, k.val, v.val] w fun e w' => e = .returned (.int .i64 1) ∧ Sep own hb P w' ∧ Kept own w w' := by
  show Calls Try.prog 20 #[ptr hb, obV d.k d.x d.n d.a d.l d.s, obV k.k k.x k.n k.a k.l k.s, obV v.k v.x v.n v.a v.l v.s] w _
  have H := Lib.hid h
  have HD := Lib.hid D
  have HA := Lib.hid hA
  subst hl
  have HK := Lib.hid hk
  have HM := Lib.hid hm
  clear h D hA hk hm
  go_enter Try.func20, Try.ntmps20
  go_upto_region 1 with fail
  obtain ⟨wb, eb, st⟩ := Box3.start H.out d k v
  rw [eb]
  have ST := Lib.hid st
  obtain ⟨o0, o1, o2, o3, o4, o5⟩ := ob_cells st.b0
  obtain ⟨p0, p1, p2, p3, p4, p5⟩ := ob_cells st.b1
  clear eb st
  go_wp2_with fail
  have hop : Calls Try.prog 51 #[ptr hb, d.val, k.val] wb fun e w' => e = .returned (.tuple #[dcV hb d.k d.x d.n d.a d.l d.s ps.length room, (keyO P k).val, .int .i64 0]) ∧ Below wb.heap.size wb w' := by
    obtain ⟨role, ⟨vc, ivs, pb, rv, h1⟩, h2⟩ := ST.out.sep
    exact openFor_is h1 HD.out k HK.out
  obtain ⟨q, hq⟩ : ∃ q, keyO P k = q := ⟨_, rfl⟩
  rw [hq] at hop
  have HQ := Lib.hid hq
  simp only [Ob.val] at hop
  clear hq
  refine hop.mono ?_
  rintro e w1 ⟨rfl, k1⟩
  have S1 := Lib.hid (ST.out.below k1)
  clear hop k1 o0 o1 o2 o3 o4 o5 p0 p1 p2 p3 p4 p5
  obtain ⟨⟨p0, p1, p2, p3, p4, p5⟩, f0, f1, f2, f3, f4, f5⟩ := later6 S1.out.b1
  go_upto_region 2 with fail
  obtain ⟨w3, e3⟩ : ∃ w3, put6 (w1.alloc (.cells #[ptr hb, .int .i64 d.k, .bool d.x, .int .i64 d.n, .int .i64 d.a, .int .i64 d.l, .string d.s, .int .i64 ps.length, .int .i64 room] 86)) (w.heap.size + 1) (.int .i64 q.k) (.bool q.x) (.int .i64 q.n) (.int .i64 q.a) (.int .i64 q.l) (.string q.s) = w3 := ⟨_, rfl⟩
  have go := S1.out.opened (hh := hb) HA.out #[ptr hb, .int .i64 d.k, .bool d.x, .int .i64 d.n, .int .i64 d.a, .int .i64 d.l, .string d.s, .int .i64 ps.length, .int .i64 room] q
  rw [e3] at go
  unfold put6 at e3
  rw [e3]
  have GO := Lib.hid go
  clear go e3 p0 p1 p2 p3 p4 p5 f0 f1 f2 f3 f4 f5
  obtain ⟨v0, v1, v2, v3, v4, v5⟩ := ob_cells GO.out.b2
  obtain ⟨d0, d1, d2, d3, d4, d5, d6, d7, d8⟩ := dc_cells GO.out.b3
  go_wp2_with fail
  have hmay : Calls Try.prog 52 #[ptr hb, v.val] w3 fun e w' => e = .returned (.bool true) ∧ Below w3.heap.size w3 w' := by
    obtain ⟨role, ⟨vc, ivs, pb, rv, h1⟩, h2⟩ := GO.out.sep
    have := mayH_is h1 v
    rw [HM.out] at this
    exact this
  refine hmay.mono ?_
  rintro e w4 ⟨rfl, k4⟩
  replace GO := Lib.hid (GO.out.below k4)
  clear hmay k4 v0 v1 v2 v3 v4 v5 d0 d1 d2 d3 d4 d5 d6 d7 d8
  obtain ⟨d0, d1, d2, d3, d4, d5, d6, d7, d8⟩ := dc_cells GO.out.b3
  go_wp2_with fail
  refine (sLocked GO.out.sep HD.out ps.length room).mono ?_
  rintro e w5 ⟨rfl, s5, k5⟩
  replace GO := Lib.hid (GO.out.put s5 k5)
  clear s5 k5 d0 d1 d2 d3 d4 d5 d6 d7 d8
  go_wp2
  go_ret
  exact ⟨rfl, GO.out.sep.sub fun b hb => .inl hb, GO.out.kept⟩

set_option maxHeartbeats 1000000 in
set_option maxRecDepth 100000 in
theorem set_full (h : Sep own hb P w) (D : DictC P d ps room lk) (hA : ∀ b, own b → b < w.heap.size) (hk : keyE P k = 0) (hm : mayH P v = true) (hl : lk = false) (hf : (keyO P k).Fine) (hi : ixD ps (keyO P k) ps.length = none) (hp : ps.length = room) :
    Calls Try.prog 20 #[ptr hb, d.val, k.val, v.val] w fun e w' => e = .returned (.int .i64 20) ∧ Sep own hb P w' ∧ Kept own w w' := by
  show Calls Try.prog 20 #[ptr hb, obV d.k d.x d.n d.a d.l d.s, obV k.k k.x k.n k.a k.l k.s, obV v.k v.x v.n v.a v.l v.s] w _
  have H := Lib.hid h
  have HD := Lib.hid D
  have HA := Lib.hid hA
  subst hl
  have HK := Lib.hid hk
  have HM := Lib.hid hm
  have HF := Lib.hid hf
  have HI := Lib.hid hi
  have HP : Hid (((ps.length : Int) == (room : Int)) = true) := Lib.hid (by rw [hp]; simp)
  clear h D hA hk hm hf hi hp
  go_enter Try.func20, Try.ntmps20
  go_upto_region 1 with fail
  obtain ⟨wb, eb, st⟩ := Box3.start H.out d k v
  rw [eb]
  have ST := Lib.hid st
  obtain ⟨o0, o1, o2, o3, o4, o5⟩ := ob_cells st.b0
  obtain ⟨p0, p1, p2, p3, p4, p5⟩ := ob_cells st.b1
  clear eb st
  go_wp2_with fail
  have hop : Calls Try.prog 51 #[ptr hb, d.val, k.val] wb fun e w' => e = .returned (.tuple #[dcV hb d.k d.x d.n d.a d.l d.s ps.length room, (keyO P k).val, .int .i64 0]) ∧ Below wb.heap.size wb w' := by
    obtain ⟨role, ⟨vc, ivs, pb, rv, h1⟩, h2⟩ := ST.out.sep
    exact openFor_is h1 HD.out k HK.out
  obtain ⟨q, hq⟩ : ∃ q, keyO P k = q := ⟨_, rfl⟩
  rw [hq] at hop
  have HQ := Lib.hid hq
  simp only [Ob.val] at hop
  clear hq
  refine hop.mono ?_
  rintro e w1 ⟨rfl, k1⟩
  have S1 := Lib.hid (ST.out.below k1)
  clear hop k1 o0 o1 o2 o3 o4 o5 p0 p1 p2 p3 p4 p5
  obtain ⟨⟨p0, p1, p2, p3, p4, p5⟩, f0, f1, f2, f3, f4, f5⟩ := later6 S1.out.b1
  go_upto_region 2 with fail
  obtain ⟨w3, e3⟩ : ∃ w3, put6 (w1.alloc (.cells #[ptr hb, .int .i64 d.k, .bool d.x, .int .i64 d.n, .int .i64 d.a, .int .i64 d.l, .string d.s, .int .i64 ps.length, .int .i64 room] 86)) (w.heap.size + 1) (.int .i64 q.k) (.bool q.x) (.int .i64 q.n) (.int .i64 q.a) (.int .i64 q.l) (.string q.s) = w3 := ⟨_, rfl⟩
  have go := S1.out.opened (hh := hb) HA.out #[ptr hb, .int .i64 d.k, .bool d.x, .int .i64 d.n, .int .i64 d.a, .int .i64 d.l, .string d.s, .int .i64 ps.length, .int .i64 room] q
  rw [e3] at go
  unfold put6 at e3
  rw [e3]
  have GO := Lib.hid go
  clear go e3 p0 p1 p2 p3 p4 p5 f0 f1 f2 f3 f4 f5
  obtain ⟨v0, v1, v2, v3, v4, v5⟩ := ob_cells GO.out.b2
  obtain ⟨d0, d1, d2, d3, d4, d5, d6, d7, d8⟩ := dc_cells GO.out.b3
  go_wp2_with fail
  have hmay : Calls Try.prog 52 #[ptr hb, v.val] w3 fun e w' => e = .returned (.bool true) ∧ Below w3.heap.size w3 w' := by
    obtain ⟨role, ⟨vc, ivs, pb, rv, h1⟩, h2⟩ := GO.out.sep
    have := mayH_is h1 v
    rw [HM.out] at this
    exact this
  refine hmay.mono ?_
  rintro e w4 ⟨rfl, k4⟩
  replace GO := Lib.hid (GO.out.below k4)
  clear hmay k4 v0 v1 v2 v3 v4 v5 d0 d1 d2 d3 d4 d5 d6 d7 d8
  obtain ⟨d0, d1, d2, d3, d4, d5, d6, d7, d8⟩ := dc_cells GO.out.b3
  go_wp2_with fail
  refine (sLocked GO.out.sep HD.out ps.length room).mono ?_
  rintro e w5 ⟨rfl, s5, k5⟩
  replace GO := Lib.hid (GO.out.put s5 k5)
  clear s5 k5 d0 d1 d2 d3 d4 d5 d6 d7 d8
  obtain ⟨d0, d1, d2, d3, d4, d5, d6, d7, d8⟩ := dc_cells GO.out.b3
  obtain ⟨q0, q1, q2, q3, q4, q5⟩ := ob_cells GO.out.b1
  go_wp2_with fail
  have hfind : Calls Try.prog 54 #[dcV hb d.k d.x d.n d.a d.l d.s ps.length room, q.val] w5 fun e w' => e = .returned (.tuple #[.int .i64 (atI (ixD ps q ps.length)), .bool (ixD ps q ps.length).isSome]) ∧ Below w5.heap.size w5 w' := by
    obtain ⟨role, ⟨vc, ivs, pb, rv, h1⟩, h2⟩ := GO.out.sep
    exact find_is h1 HD.out q (by rw [← HQ.out]; exact HF.out)
  rw [show ixD ps q ps.length = none from by rw [← HQ.out]; exact HI.out] at hfind
  refine hfind.mono ?_
  rintro e w6 ⟨rfl, k6⟩
  replace GO := Lib.hid (GO.out.below k6)
  clear hfind k6 d0 d1 d2 d3 d4 d5 d6 d7 d8 q0 q1 q2 q3 q4 q5
  obtain ⟨d0, d1, d2, d3, d4, d5, d6, d7, d8⟩ := dc_cells GO.out.b3
  have hpr := HP.out
  go_wp2
  go_ret
  exact ⟨rfl, GO.out.sep.sub fun b hb => .inl hb, GO.out.kept⟩

set_option maxHeartbeats 1000000 in
set_option maxRecDepth 100000 in
theorem set_add (h : Sep own hb P w) (D : DictC P d ps room lk) (hA : ∀ b, own b → b < w.heap.size) (hk : keyE P k = 0) (hm : mayH P v = true) (hl : lk = false) (hf : (keyO P k).Fine) (hi : ixD ps (keyO P k) ps.length = none) (hp : ps.length < room) (hmq : mayH P (keyO P k) = true) :
    Calls Try.prog 20 #[ptr hb, d.val, k.val, v.val] w fun e w' => e = .returned (.int .i64 0) ∧ Sep own hb (P.set d.n.toNat ⟨10, false, itemsD (ps ++ [(keyO P k, v)]) room, []⟩) w' ∧ Kept own w w' := by
  show Calls Try.prog 20 #[ptr hb, obV d.k d.x d.n d.a d.l d.s, obV k.k k.x k.n k.a k.l k.s, obV v.k v.x v.n v.a v.l v.s] w _
  have H := Lib.hid h
  have HD := Lib.hid D
  have HA := Lib.hid hA
  subst hl
  have HK := Lib.hid hk
  have HM := Lib.hid hm
  have HF := Lib.hid hf
  have HI := Lib.hid hi
  have HP : Hid (((ps.length : Int) == (room : Int)) = false) := Lib.hid (by simp; omega)
  have HR := Lib.hid hp
  have HMQ := Lib.hid hmq
  clear h D hA hk hm hf hi hp hmq
  go_enter Try.func20, Try.ntmps20
  go_upto_region 1 with fail
  obtain ⟨wb, eb, st⟩ := Box3.start H.out d k v
  rw [eb]
  have ST := Lib.hid st
  obtain ⟨o0, o1, o2, o3, o4, o5⟩ := ob_cells st.b0
  obtain ⟨p0, p1, p2, p3, p4, p5⟩ := ob_cells st.b1
  clear eb st
  go_wp2_with fail
  have hop : Calls Try.prog 51 #[ptr hb, d.val, k.val] wb fun e w' => e = .returned (.tuple #[dcV hb d.k d.x d.n d.a d.l d.s ps.length room, (keyO P k).val, .int .i64 0]) ∧ Below wb.heap.size wb w' := by
    obtain ⟨role, ⟨vc, ivs, pb, rv, h1⟩, h2⟩ := ST.out.sep
    exact openFor_is h1 HD.out k HK.out
  obtain ⟨q, hq⟩ : ∃ q, keyO P k = q := ⟨_, rfl⟩
  rw [hq] at hop
  have HQ := Lib.hid hq
  simp only [Ob.val] at hop
  clear hq
  refine hop.mono ?_
  rintro e w1 ⟨rfl, k1⟩
  have S1 := Lib.hid (ST.out.below k1)
  clear hop k1 o0 o1 o2 o3 o4 o5 p0 p1 p2 p3 p4 p5
  obtain ⟨⟨p0, p1, p2, p3, p4, p5⟩, f0, f1, f2, f3, f4, f5⟩ := later6 S1.out.b1
  go_upto_region 2 with fail
  obtain ⟨w3, e3⟩ : ∃ w3, put6 (w1.alloc (.cells #[ptr hb, .int .i64 d.k, .bool d.x, .int .i64 d.n, .int .i64 d.a, .int .i64 d.l, .string d.s, .int .i64 ps.length, .int .i64 room] 86)) (w.heap.size + 1) (.int .i64 q.k) (.bool q.x) (.int .i64 q.n) (.int .i64 q.a) (.int .i64 q.l) (.string q.s) = w3 := ⟨_, rfl⟩
  have go := S1.out.opened (hh := hb) HA.out #[ptr hb, .int .i64 d.k, .bool d.x, .int .i64 d.n, .int .i64 d.a, .int .i64 d.l, .string d.s, .int .i64 ps.length, .int .i64 room] q
  rw [e3] at go
  unfold put6 at e3
  rw [e3]
  have GO := Lib.hid go
  clear go e3 p0 p1 p2 p3 p4 p5 f0 f1 f2 f3 f4 f5
  obtain ⟨v0, v1, v2, v3, v4, v5⟩ := ob_cells GO.out.b2
  obtain ⟨d0, d1, d2, d3, d4, d5, d6, d7, d8⟩ := dc_cells GO.out.b3
  go_wp2_with fail
  have hmay : Calls Try.prog 52 #[ptr hb, v.val] w3 fun e w' => e = .returned (.bool true) ∧ Below w3.heap.size w3 w' := by
    obtain ⟨role, ⟨vc, ivs, pb, rv, h1⟩, h2⟩ := GO.out.sep
    have := mayH_is h1 v
    rw [HM.out] at this
    exact this
  refine hmay.mono ?_
  rintro e w4 ⟨rfl, k4⟩
  replace GO := Lib.hid (GO.out.below k4)
  clear hmay k4 v0 v1 v2 v3 v4 v5 d0 d1 d2 d3 d4 d5 d6 d7 d8
  obtain ⟨d0, d1, d2, d3, d4, d5, d6, d7, d8⟩ := dc_cells GO.out.b3
  go_wp2_with fail
  refine (sLocked GO.out.sep HD.out ps.length room).mono ?_
  rintro e w5 ⟨rfl, s5, k5⟩
  replace GO := Lib.hid (GO.out.put s5 k5)
  clear s5 k5 d0 d1 d2 d3 d4 d5 d6 d7 d8
  obtain ⟨d0, d1, d2, d3, d4, d5, d6, d7, d8⟩ := dc_cells GO.out.b3
  obtain ⟨q0, q1, q2, q3, q4, q5⟩ := ob_cells GO.out.b1
  go_wp2_with fail
  have hfind : Calls Try.prog 54 #[dcV hb d.k d.x d.n d.a d.l d.s ps.length room, q.val] w5 fun e w' => e = .returned (.tuple #[.int .i64 (atI (ixD ps q ps.length)), .bool (ixD ps q ps.length).isSome]) ∧ Below w5.heap.size w5 w' := by
    obtain ⟨role, ⟨vc, ivs, pb, rv, h1⟩, h2⟩ := GO.out.sep
    exact find_is h1 HD.out q (by rw [← HQ.out]; exact HF.out)
  rw [show ixD ps q ps.length = none from by rw [← HQ.out]; exact HI.out] at hfind
  refine hfind.mono ?_
  rintro e w6 ⟨rfl, k6⟩
  replace GO := Lib.hid (GO.out.below k6)
  clear hfind k6 d0 d1 d2 d3 d4 d5 d6 d7 d8 q0 q1 q2 q3 q4 q5
  obtain ⟨d0, d1, d2, d3, d4, d5, d6, d7, d8⟩ := dc_cells GO.out.b3
  obtain ⟨q0, q1, q2, q3, q4, q5⟩ := ob_cells GO.out.b1
  obtain ⟨v0, v1, v2, v3, v4, v5⟩ := ob_cells GO.out.b2
  have hpr := HP.out
  go_wp2_with fail
  refine (sAdd GO.out.sep HD.out.r room ps.length (2 * ps.length + 1) rfl (Nat.le_trans HD.out.le HD.out.most) (by rw [itemsD_length HD.out.le]; have := HR.out; omega) (by rw [← HQ.out]; exact HMQ.out) HM.out).mono ?_
  rintro e w7 ⟨rfl, s7, k7⟩
  rw [show 2 * ps.length + 1 + 1 = 2 * ps.length + 2 from rfl, items_add HR.out] at s7
  replace GO := Lib.hid (GO.out.put s7 k7)
  clear s7 k7 d0 d1 d2 d3 d4 d5 d6 d7 d8 q0 q1 q2 q3 q4 q5 v0 v1 v2 v3 v4 v5
  have HQ2 := HQ.out
  subst HQ2
  go_wp2
  go_ret
  exact ⟨rfl, GO.out.sep.sub fun b hb => .inl hb, GO.out.kept⟩

set_option maxHeartbeats 1000000 in
set_option maxRecDepth 100000 in
theorem set_have (h : Sep own hb P w) (D : DictC P d ps room lk) (hA : ∀ b, own b → b < w.heap.size) (hk : keyE P k = 0) (hm : mayH P v = true) (hl : lk = false) (hf : (keyO P k).Fine) (i A B : Nat) (hAA : A = 2 * i + 1) (hB : B = 2 * i + 2) (p : Ob × Ob) (hi : ixD ps (keyO P k) ps.length = some i) (hp : ps[i]? = some p) :
    Calls Try.prog 20 #[ptr hb, d.val, k.val, v.val] w fun e w' => e = .returned (.int .i64 0) ∧ Sep own hb (P.set d.n.toNat ⟨10, false, itemsD (ps.set i (p.1, v)) room, []⟩) w' ∧ Kept own w w' := by
  show Calls Try.prog 20 #[ptr hb, obV d.k d.x d.n d.a d.l d.s, obV k.k k.x k.n k.a k.l k.s, obV v.k v.x v.n v.a v.l v.s] w _
  have H := Lib.hid h
  have HD := Lib.hid D
  have HA := Lib.hid hA
  subst hl
  have HK := Lib.hid hk
  have HM := Lib.hid hm
  have HF := Lib.hid hf
  have HAA := Lib.hid hAA
  have HB := Lib.hid hB
  have HI := Lib.hid hi
  have HI2 : Hid (i < ps.length ∧ ps[i]? = some p) := Lib.hid ⟨(List.getElem?_eq_some_iff.1 hp).1, hp⟩
  have HW : Hid (IntKind.i64.wrap ((A : Int) + 1) = (B : Int)) := Lib.hid (by have := (List.getElem?_eq_some_iff.1 hp).1; have := D.le; have := D.most; rw [wrapi_in _ (by omega) (by omega)]; omega)
  clear h D hA hk hm hf hi hp hAA hB
  go_enter Try.func20, Try.ntmps20
  go_upto_region 1 with fail
  obtain ⟨wb, eb, st⟩ := Box3.start H.out d k v
  rw [eb]
  have ST := Lib.hid st
  obtain ⟨o0, o1, o2, o3, o4, o5⟩ := ob_cells st.b0
  obtain ⟨p0, p1, p2, p3, p4, p5⟩ := ob_cells st.b1
  clear eb st
  go_wp2_with fail
  have hop : Calls Try.prog 51 #[ptr hb, d.val, k.val] wb fun e w' => e = .returned (.tuple #[dcV hb d.k d.x d.n d.a d.l d.s ps.length room, (keyO P k).val, .int .i64 0]) ∧ Below wb.heap.size wb w' := by
    obtain ⟨role, ⟨vc, ivs, pb, rv, h1⟩, h2⟩ := ST.out.sep
    exact openFor_is h1 HD.out k HK.out
  obtain ⟨q, hq⟩ : ∃ q, keyO P k = q := ⟨_, rfl⟩
  rw [hq] at hop
  have HQ := Lib.hid hq
  simp only [Ob.val] at hop
  clear hq
  refine hop.mono ?_
  rintro e w1 ⟨rfl, k1⟩
  have S1 := Lib.hid (ST.out.below k1)
  clear hop k1 o0 o1 o2 o3 o4 o5 p0 p1 p2 p3 p4 p5
  obtain ⟨⟨p0, p1, p2, p3, p4, p5⟩, f0, f1, f2, f3, f4, f5⟩ := later6 S1.out.b1
  go_upto_region 2 with fail
  obtain ⟨w3, e3⟩ : ∃ w3, put6 (w1.alloc (.cells #[ptr hb, .int .i64 d.k, .bool d.x, .int .i64 d.n, .int .i64 d.a, .int .i64 d.l, .string d.s, .int .i64 ps.length, .int .i64 room] 86)) (w.heap.size + 1) (.int .i64 q.k) (.bool q.x) (.int .i64 q.n) (.int .i64 q.a) (.int .i64 q.l) (.string q.s) = w3 := ⟨_, rfl⟩
  have go := S1.out.opened (hh := hb) HA.out #[ptr hb, .int .i64 d.k, .bool d.x, .int .i64 d.n, .int .i64 d.a, .int .i64 d.l, .string d.s, .int .i64 ps.length, .int .i64 room] q
  rw [e3] at go
  unfold put6 at e3
  rw [e3]
  have GO := Lib.hid go
  clear go e3 p0 p1 p2 p3 p4 p5 f0 f1 f2 f3 f4 f5
  obtain ⟨v0, v1, v2, v3, v4, v5⟩ := ob_cells GO.out.b2
  obtain ⟨d0, d1, d2, d3, d4, d5, d6, d7, d8⟩ := dc_cells GO.out.b3
  go_wp2_with fail
  have hmay : Calls Try.prog 52 #[ptr hb, v.val] w3 fun e w' => e = .returned (.bool true) ∧ Below w3.heap.size w3 w' := by
    obtain ⟨role, ⟨vc, ivs, pb, rv, h1⟩, h2⟩ := GO.out.sep
    have := mayH_is h1 v
    rw [HM.out] at this
    exact this
  refine hmay.mono ?_
  rintro e w4 ⟨rfl, k4⟩
  replace GO := Lib.hid (GO.out.below k4)
  clear hmay k4 v0 v1 v2 v3 v4 v5 d0 d1 d2 d3 d4 d5 d6 d7 d8
  obtain ⟨d0, d1, d2, d3, d4, d5, d6, d7, d8⟩ := dc_cells GO.out.b3
  go_wp2_with fail
  refine (sLocked GO.out.sep HD.out ps.length room).mono ?_
  rintro e w5 ⟨rfl, s5, k5⟩
  replace GO := Lib.hid (GO.out.put s5 k5)
  clear s5 k5 d0 d1 d2 d3 d4 d5 d6 d7 d8
  obtain ⟨d0, d1, d2, d3, d4, d5, d6, d7, d8⟩ := dc_cells GO.out.b3
  obtain ⟨q0, q1, q2, q3, q4, q5⟩ := ob_cells GO.out.b1
  go_wp2_with fail
  have hfind : Calls Try.prog 54 #[dcV hb d.k d.x d.n d.a d.l d.s ps.length room, q.val] w5 fun e w' => e = .returned (.tuple #[.int .i64 (atI (ixD ps q ps.length)), .bool (ixD ps q ps.length).isSome]) ∧ Below w5.heap.size w5 w' := by
    obtain ⟨role, ⟨vc, ivs, pb, rv, h1⟩, h2⟩ := GO.out.sep
    exact find_is h1 HD.out q (by rw [← HQ.out]; exact HF.out)
  rw [show ixD ps q ps.length = some i from by rw [← HQ.out]; exact HI.out] at hfind
  rw [show atI (some i) = (A : Int) from by simp [atI, HAA.out]] at hfind
  refine hfind.mono ?_
  rintro e w6 ⟨rfl, k6⟩
  replace GO := Lib.hid (GO.out.below k6)
  clear hfind k6 d0 d1 d2 d3 d4 d5 d6 d7 d8 q0 q1 q2 q3 q4 q5
  obtain ⟨o0, o1, o2, o3, o4, o5⟩ := ob_cells GO.out.b0
  obtain ⟨v0, v1, v2, v3, v4, v5⟩ := ob_cells GO.out.b2
  have hw := HW.out
  go_wp2_with fail
  have hput := HD.out.r.put (i := B) (x := v) (by rw [itemsD_length HD.out.le]; have := HI2.out.1; have := HD.out.le; have := HB.out; omega) HM.out
  have hset := sSet GO.out.sep d (B : Int) v 0 _ hput.1 hput.2
  rw [HB.out, items_update HI2.out.2, ← HB.out] at hset
  refine hset.mono ?_
  rintro e w7 ⟨rfl, s7, k7⟩
  replace GO := Lib.hid (GO.out.put s7 k7)
  clear hset hput s7 k7 o0 o1 o2 o3 o4 o5 v0 v1 v2 v3 v4 v5
  go_wp2
  go_ret
  exact ⟨rfl, GO.out.sep.sub fun b hb => .inl hb, GO.out.kept⟩

set_option maxHeartbeats 1000000 in
set_option maxRecDepth 100000 in
theorem set_fail (h : Sep own hb P w) (D : DictC P d ps room lk) (hA : ∀ b, own b → b < w.heap.size) (E : Int) (hk : keyE P k = E) (hE : E ≠ 0) :
    Calls Try.prog 20 #[ptr hb, d.val, k.val, v.val] w fun e w' => e = .returned (.int .i64 E) ∧ Sep own hb P w' ∧ Kept own w w' := by
  show Calls Try.prog 20 #[ptr hb, obV d.k d.x d.n d.a d.l d.s, obV k.k k.x k.n k.a k.l k.s, obV v.k v.x v.n v.a v.l v.s] w _
  have H := Lib.hid h
  have HD := Lib.hid D
  have HA := Lib.hid hA
  have HK := Lib.hid hk
  have HE := Lib.hid hE
  have HE' : Hid ((E != 0) = true) := Lib.hid (by simpa using hE)
  clear h D hA hk hE
  go_enter Try.func20, Try.ntmps20
  go_upto_region 1 with fail
  obtain ⟨wb, eb, st⟩ := Box3.start H.out d k v
  rw [eb]
  have ST := Lib.hid st
  obtain ⟨o0, o1, o2, o3, o4, o5⟩ := ob_cells st.b0
  obtain ⟨p0, p1, p2, p3, p4, p5⟩ := ob_cells st.b1
  clear eb st
  go_wp2_with fail
  have hop : Calls Try.prog 51 #[ptr hb, d.val, k.val] wb fun e w' => e = .returned (.tuple #[zeroDcV, zeroOb, .int .i64 E]) ∧ Below wb.heap.size wb w' := by
    obtain ⟨role, ⟨vc, ivs, pb, rv, h1⟩, h2⟩ := ST.out.sep
    have := openFor_no h1 HD.out k (by rw [HK.out]; exact HE.out)
    rw [HK.out] at this
    exact this
  refine hop.mono ?_
  rintro e w1 ⟨rfl, k1⟩
  have S1 := Lib.hid (ST.out.below k1)
  clear hop k1 o0 o1 o2 o3 o4 o5 p0 p1 p2 p3 p4 p5
  obtain ⟨⟨p0, p1, p2, p3, p4, p5⟩, f0, f1, f2, f3, f4, f5⟩ := later6 S1.out.b1
  go_upto_region 2 with fail
  obtain ⟨w3, e3⟩ : ∃ w3, put6 (w1.alloc (.cells #[.pointer none, .int .i64 0, .bool false, .int .i64 0, .int .i64 0, .int .i64 0, .string ⟨#[]⟩, .int .i64 0, .int .i64 0] 86)) (w.heap.size + 1) (.int .i64 0) (.bool false) (.int .i64 0) (.int .i64 0) (.int .i64 0) (.string ⟨#[]⟩) = w3 := ⟨_, rfl⟩
  have go := S1.out.opened (hh := hb) HA.out #[.pointer none, .int .i64 0, .bool false, .int .i64 0, .int .i64 0, .int .i64 0, .string ⟨#[]⟩, .int .i64 0, .int .i64 0] Ob.zero
  replace go : SetAt own hb P w (put6 (w1.alloc (.cells #[.pointer none, .int .i64 0, .bool false, .int .i64 0, .int .i64 0, .int .i64 0, .string ⟨#[]⟩, .int .i64 0, .int .i64 0] 86)) (w.heap.size + 1) (.int .i64 0) (.bool false) (.int .i64 0) (.int .i64 0) (.int .i64 0) (.string ⟨#[]⟩)) w.heap.size w1.heap.size hb d Ob.zero v _ := go
  rw [e3] at go
  unfold put6 at e3
  rw [e3]
  have GO := Lib.hid go
  clear go e3 p0 p1 p2 p3 p4 p5 f0 f1 f2 f3 f4 f5
  have hE' := HE'.out
  go_wp2
  go_ret
  exact ⟨rfl, GO.out.sep.sub fun b hb => .inl hb, GO.out.kept⟩

/-- Set. -/
theorem sDictSet (h : Sep own hb P w) (D : DictC P d ps room lk) (hA : ∀ b, own b → b < w.heap.size) (hf : keyE P k = 0 → (keyO P k).Fine) (hmq : keyE P k = 0 → mayH P (keyO P k) = true) :
    Calls Try.prog 20 #[ptr hb, d.val, k.val, v.val] w fun e w' => e = .returned (.int .i64 (dsetE P ps room lk k v)) ∧ Sep own hb (if dsetE P ps room lk k v = 0 then P.set d.n.toNat ⟨10, false, itemsD (dsetL ps (keyO P k) v) room, []⟩ else P) w' ∧ Kept own w w' := by
  by_cases hk : keyE P k = 0
  · cases hm : mayH P v
    · have e : dsetE P ps room lk k v = 1 := by simp [dsetE, hk, hm]
      rw [e, if_neg (by decide)]
      exact set_may h D hA hk hm
    · cases lk
      · cases hi : ixD ps (keyO P k) ps.length with
        | none =>
          by_cases hp : ps.length = room
          · have e : dsetE P ps room false k v = 20 := by
              unfold dsetE
              rw [if_pos hk, if_pos ⟨hm, rfl⟩]
              simp only [hi]
              rw [if_pos hp]
            rw [e, if_neg (by decide)]
            exact set_full h D hA hk hm rfl (hf hk) hi hp
          · have e : dsetE P ps room false k v = 0 := by simp [dsetE, hk, hm, hi, hp]
            rw [e, if_pos rfl, show dsetL ps (keyO P k) v = ps ++ [(keyO P k, v)] from by simp [dsetL, hi]]
            exact set_add h D hA hk hm rfl (hf hk) hi (by have := D.le; omega) (hmq hk)
        | some i =>
          have e : dsetE P ps room false k v = 0 := by simp [dsetE, hk, hm, hi]
          obtain ⟨p, hp, _⟩ := (ixD_some hi).2
          rw [e, if_pos rfl, show dsetL ps (keyO P k) v = ps.set i (p.1, v) from by simp [dsetL, hi, List.getD_eq_getElem?_getD, hp]]
          exact set_have h D hA hk hm rfl (hf hk) i _ _ rfl rfl p hi hp
      · have e : dsetE P ps room true k v = 1 := by simp [dsetE, hk]
        rw [e, if_neg (by decide)]
        exact set_lock h D hA hk hm rfl
  · have e : dsetE P ps room lk k v = keyE P k := by simp [dsetE, hk]
    rw [e, if_neg hk]
    exact set_fail h D hA _ rfl hk
end
end Go.Proofs.Ytlkbnldpecolbaa
