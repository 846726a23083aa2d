/- dict: pairs in a cell, how keys are found: plain answers, and what a map of them says. -/
import Derived.Test.YtigboibcgpfphaaD1
import Derived.Maps.OwnSet
import Derived.Maps.OwnOps
import Derived.DeepKeys4
namespace Go.Proofs.Ytigboibcgpfphaa
open Go.RowKit Go.Maps
set_option linter.unusedVariables false

set_option maxRecDepth 100000 in
theorem laidOut : laidOutB Try.prog = true := by kernel_rfl
theorem law9 : Keyed Try.prog 9 := string_keyed Try.underlying9
theorem wide26 : (match Try.prog.underlying 26 with | some (.array _ _) | some (.struct _) => true | _ => false) = true := by rw [Try.underlying26]
set_option maxRecDepth 100000 in
theorem law26 : Keyed Try.prog 26 := Keyed.of_law (deep_law_laid laidOut (m := 2) (by omega) (of_decide_eq_true (by kernel_rfl)) (by kernel_rfl) wide26)

/-- Ints in their range, a string that can be. -/
structure Ob.Fine (o : Ob) : Prop where
  k : (Lit.int .i64 o.k).wf = true
  n : (Lit.int .i64 o.n).wf = true
  a : (Lit.int .i64 o.a).wf = true
  l : (Lit.int .i64 o.l).wf = true
  s : o.s.size ≤ maxLen
theorem key9 (o : Ob) (h : o.s.size ≤ maxLen) : keyOf Try.prog 9 (.string o.s) = some (.string o.s.data.toList) := WideMaps.keyOf_string_mk Try.underlying9 h
theorem key26 (o : Ob) (h : o.Fine) : ∃ kl, keyOf Try.prog 26 o.val = some kl := by
  have hk : Try.prog.keyType 26 = true := by kernel_rfl
  have hc : Try.prog.cellsOf 26 = 6 := by kernel_rfl
  have h3 : Try.prog.cellsOf 3 = 1 := by kernel_rfl
  have h4 : Try.prog.cellsOf 4 = 1 := by kernel_rfl
  have h9 : Try.prog.cellsOf 9 = 1 := by kernel_rfl
  have e3 : ∀ D v, (Lit.int .i64 v).wf = true → Try.prog.keyLits (D + 1) 3 [.int .i64 v] = some [.int .i64 v] := fun D v hv => by simp [Program.keyLits, Try.underlying3, hv]
  have e4 : ∀ D b, Try.prog.keyLits (D + 1) 4 [.bool b] = some [.bool b] := fun D v => by simp [Program.keyLits, Try.underlying4]
  have e9 : ∀ D (s : ByteArray), s.size ≤ maxLen → Try.prog.keyLits (D + 1) 9 [.string s] = some [.string s.data.toList] := fun D s hs => by simp [Program.keyLits, Try.underlying9, hs]
  obtain ⟨N, hN⟩ : ∃ N, Try.prog.types.size = N + 1 := ⟨166, by kernel_rfl⟩
  unfold keyOf
  rw [Try.underlying26]
  simp only [hk, hN, Value.formed, Ob.val, Try.underlying26, hc]
  unfold Program.keyLits
  simp [Try.underlying26, hc, h3, h4, h9, e3, e4, e9, h.k, h.n, h.a, h.l, h.s, Value.cells]
theorem val_inj {o q : Ob} (h : o.val = q.val) : o = q := by
  obtain ⟨k, x, n, a, l, s⟩ := o
  obtain ⟨k', x', n', a', l', s'⟩ := q
  simp [Ob.val] at h
  obtain ⟨rfl, rfl, rfl, rfl, rfl, rfl⟩ := h
  rfl

open Classical in
/-- The last of the first j keys that reads as kl. -/
noncomputable def ixL (ls : Nat → Option Lit) (kl : Lit) : Nat → Option Nat
  | 0 => none
  | j + 1 => if ls j = some kl then some j else ixL ls kl j
def atI (o : Option Nat) : Int := match o with | some i => 2 * i + 1 | none => 0
/-- A map tells of the first j keys. -/
def MapIs (D : DataW Unit) (j : Nat) (ls : Nat → Option Lit) : Prop := IsMap D ∧ ∀ kl, WideAt.IsKeyLit kl → Maps.has D kl = (ixL ls kl j).isSome ∧ D.atKey kl (.lit (.int .i64 0)) = .lit (.int .i64 (atI (ixL ls kl j)))
theorem MapIs.zero (ls : Nat → Option Lit) : MapIs (.map []) 0 ls := ⟨isMap_empty, fun kl _ => ⟨rfl, rfl⟩⟩
theorem MapIs.skip {D : DataW Unit} {j : Nat} {ls : Nat → Option Lit} (h : MapIs D j ls) (hn : ls j = none) : MapIs D (j + 1) ls :=
  ⟨h.1, fun kl hk => by
    have : ixL ls kl (j + 1) = ixL ls kl j := by simp [ixL, hn]
    rw [this]
    exact h.2 kl hk⟩
theorem MapIs.put {D : DataW Unit} {j : Nat} {ls : Nat → Option Lit} {kl : Lit} (h : MapIs D j ls) (hn : ls j = some kl) (hk : WideAt.IsKeyLit kl) : MapIs (D.put kl (.lit (.int .i64 (2 * j + 1)))) (j + 1) ls :=
  ⟨h.1.put _ _, fun k' hk' => by
    by_cases e : kl = k'
    · subst e
      have : ixL ls kl (j + 1) = some j := by simp [ixL, hn]
      rw [this]
      exact ⟨has_put_same h.1 hk _, atKey_put_same h.1 hk _ _⟩
    · have : ixL ls k' (j + 1) = ixL ls k' j := by simp [ixL, hn, e]
      rw [this]
      have q := h.2 k' hk'
      exact ⟨(has_put_other (Ne.symm e) _).trans q.1, (atKey_put_other (Ne.symm e) _ _).trans q.2⟩⟩

/-- Pairs one behind the other; the items of a dictionary's cell. -/
def flatD (ps : List (Ob × Ob)) : List Ob := ps.flatMap fun p => [p.1, p.2]
def itemsD (ps : List (Ob × Ob)) (room : Nat) : List Ob := Ob.num ps.length :: (flatD ps ++ List.replicate (2 * (room - ps.length)) Ob.null)
theorem flatD_length (ps : List (Ob × Ob)) : (flatD ps).length = 2 * ps.length := by
  induction ps with
  | nil => rfl
  | cons p ps ih =>
    show (p.1 :: p.2 :: flatD ps).length = _
    simp [ih]
    omega
theorem itemsD_length {ps : List (Ob × Ob)} {room : Nat} (h : ps.length ≤ room) : (itemsD ps room).length = 2 * room + 1 := by
  simp [itemsD, flatD_length]
  omega
theorem flatD_get (ps : List (Ob × Ob)) (j : Nat) : (flatD ps)[2 * j]? = ps[j]?.map (·.1) ∧ (flatD ps)[2 * j + 1]? = ps[j]?.map (·.2) := by
  induction ps generalizing j with
  | nil => simp [flatD]
  | cons p ps ih =>
    have e : flatD (p :: ps) = p.1 :: p.2 :: flatD ps := rfl
    cases j with
    | zero => simp [e]
    | succ j =>
      rw [e, show 2 * (j + 1) = 2 * j + 1 + 1 from by omega]
      simpa using ih j
theorem itemsD_key {ps : List (Ob × Ob)} {room j : Nat} {p : Ob × Ob} (h : ps[j]? = some p) : (itemsD ps room)[2 * j + 1]? = some p.1 ∧ (itemsD ps room)[2 * j + 2]? = some p.2 := by
  have hj := (List.getElem?_eq_some_iff.1 h).1
  have q := flatD_get ps j
  rw [h] at q
  unfold itemsD
  rw [List.getElem?_cons_succ, List.getElem?_append_left (by rw [flatD_length]; omega), show 2 * j + 2 = 2 * j + 1 + 1 from rfl, List.getElem?_cons_succ, List.getElem?_append_left (by rw [flatD_length]; omega)]
  simpa using q

/-- A dictionary of the heap P, with its pairs. -/
structure DictC (P : List Cel) (d : Ob) (ps : List (Ob × Ob)) (room : Nat) (lk : Bool) : Prop where
  ok : okO P d = true
  k : d.k = 10
  cell : cellOf P d = ⟨10, lk, itemsD ps room, []⟩
  le : ps.length ≤ room
  most : room ≤ 1000
  fine : ∀ p ∈ ps, p.1.Fine
theorem DictC.zeros {P : List Cel} {d : Ob} {ps : List (Ob × Ob)} {room : Nat} {lk : Bool} (h : DictC P d ps room lk) : d.a = 0 ∧ d.l = 0 := (ok_bd h.ok).2.2.2.2.2.2.2.2 h.k
theorem DictC.len {P : List Cel} {d : Ob} {ps : List (Ob × Ob)} {room : Nat} {lk : Bool} (h : DictC P d ps room lk) : lenO P d = ((2 * room + 1 : Nat) : Int) := by
  rw [lenO, h.ok, h.cell]
  simp [h.k, Cel.size, itemsD_length h.le]
theorem DictC.get {P : List Cel} {d : Ob} {ps : List (Ob × Ob)} {room : Nat} {lk : Bool} (h : DictC P d ps room lk) {i : Nat} {o : Ob} (hi : (itemsD ps room)[i]? = some o) : getE P d i = 0 ∧ getO P d i = o := by
  have hl := (List.getElem?_eq_some_iff.1 hi).1
  rw [itemsD_length h.le] at hl
  have e : getE P d i = 0 := by
    rw [getE, h.ok, h.len]
    simp
    omega
  refine ⟨e, ?_⟩
  rw [getO, e, h.cell, h.zeros.1]
  simp [itemAt, hi]
theorem DictC.size {P : List Cel} {d : Ob} {ps : List (Ob × Ob)} {room : Nat} {lk : Bool} (h : DictC P d ps room lk) : (cellOf P d).size = 2 * room + 1 := by
  rw [h.cell]
  simp [Cel.size, itemsD_length h.le]

def nameLit (ps : List (Ob × Ob)) (j : Nat) : Option Lit := (ps[j]?).bind fun p => if p.1.k = 5 then some (.string p.1.s.data.toList) else none
noncomputable def otherLit (ps : List (Ob × Ob)) (j : Nat) : Option Lit := (ps[j]?).bind fun p => if p.1.k = 5 then none else keyOf Try.prog 26 (plainO p.1).val
/-- Is the key p of a pair the key k that is looked for? -/
def isKey (k p : Ob) : Prop := if k.k = 5 then p.k = 5 ∧ p.s = k.s else p.k ≠ 5 ∧ plainO p = plainO k
instance (k p : Ob) : Decidable (isKey k p) := by unfold isKey; infer_instance
/-- The last of the first j pairs with the key k. -/
def ixD (ps : List (Ob × Ob)) (k : Ob) : Nat → Option Nat
  | 0 => none
  | j + 1 => if ∃ p, ps[j]? = some p ∧ isKey k p.1 then some j else ixD ps k j
theorem plain_fine {o : Ob} (h : o.Fine) : (plainO o).Fine := by
  unfold plainO
  split
  · next hq =>
    refine ⟨rfl, ?_, rfl, rfl, Nat.zero_le _⟩
    show (Lit.int .i64 (numV o.k o.n)).wf = true
    have hb : -2305843009213693952 < numV o.k o.n ∧ numV o.k o.n < 2305843009213693952 := by
      unfold numV gate numOk sizeO at *
      split <;> split <;> simp_all [mayF] <;> omega
    exact WalkArith.wf_i64 (by omega)
  · exact h
theorem ix_names {ps : List (Ob × Ob)} {k : Ob} (hk : k.k = 5) : ∀ j, ixL (nameLit ps) (.string k.s.data.toList) j = ixD ps k j
  | 0 => rfl
  | j + 1 => by
    have : nameLit ps j = some (.string k.s.data.toList) ↔ ∃ p, ps[j]? = some p ∧ isKey k p.1 := by
      unfold nameLit isKey
      cases e : ps[j]? with
      | none => simp
      | some p =>
        simp only [Option.bind_some, hk, if_true]
        constructor
        · intro h
          split at h
          · next h5 =>
            have : p.1.s.data.toList = k.s.data.toList := by simpa using h
            refine ⟨p, rfl, h5, ?_⟩
            have e2 := Array.toList_inj.1 this
            cases hs : p.1.s
            cases hs2 : k.s
            rw [hs, hs2] at e2
            simpa using e2
          · simp at h
        · rintro ⟨q, hq, h5, hs⟩
          have : p = q := by simpa using hq
          subst this
          rw [if_pos h5, hs]
    unfold ixL ixD
    rw [ix_names hk j]
    by_cases h : nameLit ps j = some (.string k.s.data.toList)
    · rw [if_pos h, if_pos (this.1 h)]
    · rw [if_neg h, if_neg (fun q => h (this.2 q))]
theorem ix_others {ps : List (Ob × Ob)} {k : Ob} (hk : k.k ≠ 5) {kl : Lit} (hl : keyOf Try.prog 26 (plainO k).val = some kl) : ∀ j, ixL (otherLit ps) kl j = ixD ps k j
  | 0 => rfl
  | j + 1 => by
    have : otherLit ps j = some kl ↔ ∃ p, ps[j]? = some p ∧ isKey k p.1 := by
      unfold otherLit isKey
      cases e : ps[j]? with
      | none => simp
      | some p =>
        simp only [Option.bind_some, hk, if_false]
        constructor
        · intro h
          split at h
          · simp at h
          · next h5 => exact ⟨p, rfl, h5, val_inj (law26.inj h hl)⟩
        · rintro ⟨q, hq, h5, hs⟩
          have : p = q := by simpa using hq
          subst this
          rw [if_neg h5, hs, hl]
    unfold ixL ixD
    rw [ix_others hk hl j]
    by_cases h : otherLit ps j = some kl
    · rw [if_pos h, if_pos (this.1 h)]
    · rw [if_neg h, if_neg (fun q => h (this.2 q))]
theorem owns_block {k : TypeId} {R : Value → Option (DataW Unit × List MemPlace)} {w w' : World} {b n : Nat} {D : DataW Unit} (h : w.ownsMap Try.prog k R b n D) (e : w'.heap[b]? = w.heap[b]?) : w'.ownsMap Try.prog k R b n D := by
  obtain ⟨es, clock, h1, h2⟩ := h
  exact ⟨es, clock, e.trans h1, h2⟩
end Go.Proofs.Ytigboibcgpfphaa
