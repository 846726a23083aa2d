/- X16: P1, P2, P0, K27. -/
import Derived.Test.YtlkbnldpecolbaaX15
import Derived.RangeFuncNested
import Derived.RangeFuncBound
import Derived.RangeFuncCalls
import Derived.RangeFuncLeaves
import Derived.OwnWalkIn
import Derived.OrdersHeld
import Derived.Deep.RegionHeld
import Derived.Test.YtlkbnldpecolbaaX10
import Derived.Deep.RegionHeldLaw
import Derived.Deep.RegionHeld3
/- Plain: heaps all of whose cells are dictionaries. -/
namespace Go.Proofs.Ytlkbnldpecolbaa
set_option linter.unusedVariables false
set_option linter.unusedSimpArgs false

/-- A dictionary: its pairs, its room, its lock. -/
structure Dc where
  ps : List (Ob × Ob)
  rm : Nat
  lk : Bool
def Dc.cel (c : Dc) : Cel := ⟨10, c.lk, itemsD c.ps c.rm, []⟩
def HD (ds : List Dc) : List Cel := ds.map Dc.cel
/-- Each has no more pairs than room; each key can be a key of a map. -/
def DsOk (ds : List Dc) : Prop := ∀ c ∈ ds, c.ps.length ≤ c.rm ∧ c.rm ≤ 1000 ∧ ∀ p ∈ c.ps, p.1.Fine
/-- One of n dictionaries. -/
def IsD (n : Nat) (d : Ob) : Prop := d.k = 10 ∧ 0 ≤ d.n ∧ d.n ≤ 40000 ∧ d.n < n ∧ d.a = 0 ∧ d.l = 0 ∧ d.s = ⟨#[]⟩
theorem IsD.lt {n : Nat} {d : Ob} (h : IsD n d) : d.n.toNat < n := by
  have := h.2.1
  have := h.2.2.2.1
  omega
theorem IsD.more {n m : Nat} {d : Ob} (h : IsD n d) (k : n ≤ m) : IsD m d := ⟨h.1, h.2.1, h.2.2.1, by have := h.2.2.2.1; omega, h.2.2.2.2⟩
section
variable {ds : List Dc} {d k v : Ob} {c : Dc}
theorem hd_length : (HD ds).length = ds.length := by simp [HD]
theorem hd_cell (h : ds[d.n.toNat]? = some c) : cellOf (HD ds) d = c.cel := by
  rw [cellOf, List.getD_eq_getElem?_getD, HD, List.getElem?_map, h]
  rfl
theorem okO_hd (h : IsD ds.length d) : okO (HD ds) d = true := by
  obtain ⟨c, hc⟩ : ∃ c, ds[d.n.toNat]? = some c := ⟨_, List.getElem?_eq_getElem h.lt⟩
  obtain ⟨h1, h2, h3, h4, h5, h6, h7⟩ := h
  refine okO_iff.2 ⟨by rw [h1]; decide, ?_, ?_⟩
  · simp [Ob.may, mayO, h1, onlyP, h5, h6, h7, h2, h3]
  · rw [inCell, hd_cell hc, hd_length, h5, h6, h1]
    simp [Dc.cel, h4]
theorem isD_of (h : okO (HD ds) d = true) (hk : d.k = 10) : IsD ds.length d := by
  obtain ⟨h1, h2, h3⟩ := okO_iff.1 h
  simp [Ob.may, mayO, hk, onlyP] at h2
  have := (ok_bd h).2.1
  rw [hd_length] at this
  exact ⟨hk, h2.1, h2.2.1, this, h2.2.2⟩
theorem IsD.dc (h : IsD ds.length d) (ok : DsOk ds) (hc : ds[d.n.toNat]? = some c) : DictC (HD ds) d c.ps c.rm c.lk :=
  ⟨okO_hd h, h.1, hd_cell hc, (ok c (List.mem_of_getElem? hc)).1, (ok c (List.mem_of_getElem? hc)).2.1, (ok c (List.mem_of_getElem? hc)).2.2⟩
theorem hd_set (i : Nat) (c : Dc) : (HD ds).set i c.cel = HD (ds.set i c) := by simp [HD, List.map_set]
theorem hd_add (c : Dc) : HD ds ++ [c.cel] = HD (ds ++ [c]) := by simp [HD]
theorem DsOk.set (h : DsOk ds) (i : Nat) (hc : c.ps.length ≤ c.rm ∧ c.rm ≤ 1000 ∧ ∀ p ∈ c.ps, p.1.Fine) : DsOk (ds.set i c) := fun q hq => by
  rcases List.mem_or_eq_of_mem_set hq with hq | rfl
  · exact h q hq
  · exact hc
theorem DsOk.add (h : DsOk ds) (hc : c.ps.length ≤ c.rm ∧ c.rm ≤ 1000 ∧ ∀ p ∈ c.ps, p.1.Fine) : DsOk (ds ++ [c]) := fun q hq => by
  rcases List.mem_append.1 hq with hq | hq
  · exact h q hq
  · obtain rfl : q = c := by simpa using hq
    exact hc
theorem wf_of {v : Int} (h1 : -9223372036854775808 ≤ v) (h2 : v ≤ 9223372036854775807) : (Lit.int .i64 v).wf = true := WalkArith.wf_i64 ⟨h1, h2⟩
/-- What may be is fine. -/
theorem fine_may {o : Ob} (h : o.may = true) : o.Fine := by
  have hx : -9223372036854775808 ≤ o.k ∧ o.k ≤ 9223372036854775807 ∧ -9223372036854775808 ≤ o.n ∧ o.n ≤ 9223372036854775807 ∧ 0 ≤ o.a ∧ o.a ≤ 40000 ∧ 0 ≤ o.l ∧ o.l ≤ 40000 ∧ o.s.size ≤ 100 := by
    unfold Ob.may mayO at h
    by_cases h5 : o.k = 5
    · simp [h5, nameP] at h
      omega
    · have hs : o.s = ⟨#[]⟩ → o.s.size = 0 := fun e => by rw [e]; rfl
      split at h <;> (try simp only [onlyP, nameP, pieceP, decide_eq_true_eq] at h)
      · have := hs h.2.2.2.2
        omega
      split at h <;> (try simp only [onlyP, nameP, pieceP, decide_eq_true_eq] at h)
      · have := hs h.2.2.2.2
        omega
      split at h <;> (try simp only [onlyP, nameP, pieceP, decide_eq_true_eq] at h)
      · have := hs h.2.2.2.2
        omega
      split at h <;> (try simp only [onlyP, nameP, pieceP, decide_eq_true_eq] at h)
      · have := hs h.2.2.2.2
        omega
      split at h <;> (try simp only [onlyP, nameP, pieceP, decide_eq_true_eq] at h)
      · have := hs h.2.2.2.2
        omega
      split at h <;> (try simp only [onlyP, nameP, pieceP, decide_eq_true_eq] at h)
      · have := hs h.2.2.2.2
        omega
      split at h <;> (try simp only [onlyP, nameP, pieceP, decide_eq_true_eq] at h)
      · have := hs h.2.2.2.2.2.2
        omega
      split at h <;> (try simp only [onlyP, nameP, pieceP, decide_eq_true_eq] at h)
      · have := hs h.2.2.2.2.2.2
        omega
      split at h <;> (try simp only [onlyP, nameP, pieceP, decide_eq_true_eq] at h)
      · have := hs h.2.2.2.2
        omega
      split at h <;> (try simp only [onlyP, nameP, pieceP, decide_eq_true_eq] at h)
      · have := hs h.2.2.2.2
        omega
      cases h
  exact ⟨wf_of hx.1 hx.2.1, wf_of hx.2.2.1 hx.2.2.2.1, wf_of (by omega) (by omega), wf_of (by omega) (by omega), Nat.le_trans hx.2.2.2.2.2.2.2.2 (by decide)⟩
theorem may_of_mayH {P : List Cel} {o : Ob} (h : mayH P o = true) : o.may = true := by
  rw [mayH, Bool.and_eq_true] at h
  exact h.1
/-- A key is fine, and may be. -/
theorem key_may {P : List Cel} {o : Ob} (h : keyE P o = 0) : mayH P (keyO P o) = true := by
  have h0 := h
  rw [keyO, if_pos h]
  unfold keyE at h
  split at h
  · cases h
  split at h
  case isFalse => cases h
  rename_i h1 h2
  split
  · rename_i h8
    rw [if_pos h8] at h
    split at h
    case isFalse => cases h
    rename_i hl
    have hs : (⟨(bytesL P o).toArray⟩ : ByteArray).size ≤ 100 := by
      show (bytesL P o).toArray.size ≤ 100
      simpa using hl
    simp [mayH, Ob.may, mayO, nameP, comp, hs]
  · simpa [mayH, Ob.may, inCell, cellOf] using h2
theorem key_fine {P : List Cel} {o : Ob} (h : keyE P o = 0) : (keyO P o).Fine := fine_may (may_of_mayH (key_may h))
/-- A name. -/
def nmO (s : ByteArray) : Ob := ⟨5, false, 0, 0, 0, s⟩
theorem nm_key {P : List Cel} {s : ByteArray} (h : s.size ≤ 100) : keyE P (nmO s) = 0 ∧ keyO P (nmO s) = nmO s := by
  have e : keyE P (nmO s) = 0 := by simp [keyE, nmO, mayH, Ob.may, mayO, nameP, comp, h]
  exact ⟨e, by rw [keyO, if_pos e]; simp [nmO]⟩
theorem nm_is {s : ByteArray} {p : Ob} : isKey (nmO s) p ↔ p.k = 5 ∧ p.s = s := by simp [isKey, nmO]
theorem dsetL_length (ps : List (Ob × Ob)) (k v : Ob) : (dsetL ps k v).length ≤ ps.length + 1 := by
  unfold dsetL
  split <;> simp
theorem dset_ok {P : List Cel} {ps : List (Ob × Ob)} {rm : Nat} {lk : Bool} (h1 : ps.length ≤ rm) (h3 : ∀ p ∈ ps, p.1.Fine) (hE : dsetE P ps rm lk k v = 0) : (dsetL ps (keyO P k) v).length ≤ rm ∧ (∀ p ∈ dsetL ps (keyO P k) v, p.1.Fine) ∧ lk = false := by
  unfold dsetE at hE
  split at hE
  case isFalse h => exact absurd hE h
  rename_i hk
  have hkf := key_fine hk
  split at hE
  case isFalse => cases hE
  rename_i hm
  refine ⟨?_, ?_, hm.2⟩
  · unfold dsetL
    cases hi : ixD ps (keyO P k) ps.length with
    | some i => simpa using h1
    | none =>
      rw [hi] at hE
      simp only at hE
      split at hE
      · cases hE
      · simp
        omega
  · intro p hp
    unfold dsetL at hp
    cases hi : ixD ps (keyO P k) ps.length with
    | some i =>
      rw [hi] at hp
      simp only at hp
      rcases List.mem_or_eq_of_mem_set hp with hp | rfl
      · exact h3 p hp
      · have hlt := (ixD_some hi).1
        show ((ps.getD i (Ob.zero, Ob.zero)).1).Fine
        rw [List.getD_eq_getElem?_getD, List.getElem?_eq_getElem hlt]
        exact h3 _ (List.getElem_mem hlt)
    | none =>
      rw [hi] at hp
      simp only at hp
      rcases List.mem_append.1 hp with hp | hp
      · exact h3 p hp
      · obtain rfl : p = (keyO P k, v) := by simpa using hp
        exact hkf
end
end Go.Proofs.Ytlkbnldpecolbaa

/- What dict's calls do to a heap of dictionaries. -/
namespace Go.Proofs.Ytlkbnldpecolbaa
open Go.RowKit Go.Maps
set_option linter.unusedVariables false

def newD (n : Nat) : Dc := ⟨[], n, false⟩
theorem newD_cel (n : Nat) : (⟨10, false, emptyD n, []⟩ : Cel) = (newD n).cel := by simp [newD, Dc.cel, itemsD, flatD, emptyD]
theorem newD_ok (n : Nat) (h : n ≤ 1000) : (newD n).ps.length ≤ (newD n).rm ∧ (newD n).rm ≤ 1000 ∧ ∀ p ∈ (newD n).ps, p.1.Fine := ⟨Nat.zero_le _, h, fun p hp => by simp [newD] at hp⟩
/-- The dictionaries behind Set. -/
def setD (ds : List Dc) (c : Dc) (d k v : Ob) : List Dc := if dsetE (HD ds) c.ps c.rm c.lk k v = 0 then ds.set d.n.toNat ⟨dsetL c.ps (keyO (HD ds) k) v, c.rm, false⟩ else ds
section
variable {own : Nat → Prop} {hb : Nat} {ds : List Dc} {c : Dc} {d : Ob} {w : World}
theorem setD_length (k v : Ob) : (setD ds c d k v).length = ds.length := by
  unfold setD
  split <;> simp
theorem setD_ok (ok : DsOk ds) (hc : ds[d.n.toNat]? = some c) (k v : Ob) : DsOk (setD ds c d k v) := by
  unfold setD
  split
  · rename_i h
    have h0 := ok c (List.mem_of_getElem? hc)
    have h1 := dset_ok h0.1 h0.2.2 h
    exact ok.set _ ⟨h1.1, h0.2.1, h1.2.1⟩
  · exact ok
theorem hNew (h : Sep own hb (HD ds) w) (n : Nat) (hn : n ≤ 1000) (hl : ds.length < 2000) (hu : 2 * n + 1 + usedP (HD ds) ≤ 40000) :
    Calls Try.prog 12 #[ptr hb, .int .i64 n] w fun e w' => e = .returned (.tuple #[obV 10 false ds.length 0 0 ⟨#[]⟩, .int .i64 0]) ∧ Sep own hb (HD (ds ++ [newD n])) w' ∧ Kept own w w' := by
  have := sNewDict h h.lt n hn (by rw [hd_length]; exact hl) hu
  rw [hd_length, newD_cel, hd_add] at this
  exact this
theorem hKey (h : Sep own hb (HD ds) w) (k : Ob) : Calls Try.prog 27 #[ptr hb, k.val] w fun e w' => e = .returned (.tuple #[(keyO (HD ds) k).val, .int .i64 (keyE (HD ds) k)]) ∧ Below w.heap.size w w' := by
  obtain ⟨role, ⟨vc, ivs, pb, rv, h1⟩, h2⟩ := h
  exact key_is h1 k
theorem hGet (h : Sep own hb (HD ds) w) (ok : DsOk ds) (hd : IsD ds.length d) (hc : ds[d.n.toNat]? = some c) (k : Ob) : Calls Try.prog 31 #[ptr hb, d.val, k.val] w fun e w' => e = .returned (.tuple #[(dgetO (HD ds) c.ps k).val, .int .i64 (dgetE (HD ds) c.ps k)]) ∧ Below w.heap.size w w' := by
  obtain ⟨role, ⟨vc, ivs, pb, rv, h1⟩, h2⟩ := h
  exact dictGet_is h1 (hd.dc ok hc) k key_fine
theorem hSet (h : Sep own hb (HD ds) w) (ok : DsOk ds) (hd : IsD ds.length d) (hc : ds[d.n.toNat]? = some c) (k v : Ob) :
    Calls Try.prog 20 #[ptr hb, d.val, k.val, v.val] w fun e w' => e = .returned (.int .i64 (dsetE (HD ds) c.ps c.rm c.lk k v)) ∧ Sep own hb (HD (setD ds c d k v)) w' ∧ Kept own w w' := by
  have := sDictSet h (hd.dc ok hc) h.lt key_fine key_may (k := k) (v := v)
  rw [show (if dsetE (HD ds) c.ps c.rm c.lk k v = 0 then (HD ds).set d.n.toNat ⟨10, false, itemsD (dsetL c.ps (keyO (HD ds) k) v) c.rm, []⟩ else HD ds) = HD (setD ds c d k v) from by
    unfold setD
    split
    · exact hd_set _ ⟨dsetL c.ps (keyO (HD ds) k) v, c.rm, false⟩
    · rfl] at this
  exact this
theorem hPairs (h : Sep own hb (HD ds) w) (ok : DsOk ds) (hd : IsD ds.length d) (hc : ds[d.n.toNat]? = some c) (q : Nat) (hq : q = 2 * c.ps.length + 1) :
    Calls Try.prog 22 #[ptr hb, d.val] w fun e w' => ∃ g cap ad, e = .returned (.tuple #[.slice ad (q - 1) (cap - 1), .int .i64 0]) ∧ (0 < c.ps.length → ad = some ⟨g, 6, none⟩) ∧ w.heap.size ≤ g ∧ w'.ownsRow 0 30 6 (.slice (some ⟨g, 0, none⟩) (2 * c.rm + 1) cap) (2 * c.rm + 1) (obCells (itemsD c.ps c.rm)) ∧ Below w.heap.size w w' := by
  obtain ⟨role, ⟨vc, ivs, pb, rv, h1⟩, h2⟩ := h
  exact pairs_is h1 (hd.dc ok hc) q hq
theorem hDropLock (h : Sep own hb (HD ds) w) (ok : DsOk ds) (hd : IsD ds.length d) (hc : ds[d.n.toNat]? = some c) (hl : c.lk = true) (k : Ob) (hk : keyE (HD ds) k = 0) {i : Nat} (hi : ixD c.ps (keyO (HD ds) k) c.ps.length = some i) :
    Calls Try.prog 21 #[ptr hb, d.val, k.val] w fun e w' => e = .returned (.int .i64 1) ∧ Sep own hb (HD ds) w' ∧ Kept own w w' := by
  exact drop_lock h (hd.dc ok hc) hl hk (key_fine hk) i _ rfl hi
theorem hMay (h : Sep own hb (HD ds) w) (o : Ob) : Calls Try.prog 52 #[ptr hb, o.val] w fun e w' => e = .returned (.bool (mayH (HD ds) o)) ∧ Below w.heap.size w w' := by
  obtain ⟨role, ⟨vc, ivs, pb, rv, h1⟩, h2⟩ := h
  exact mayH_is h1 o
end
end Go.Proofs.Ytlkbnldpecolbaa

/- A range over a function value that bears arguments ahead of yield; a region that draws its order, in such a round. -/
namespace Go.Proofs.Ytlkbnldpecolbaa
open Go Go.RowKit
set_option linter.unusedVariables false

/-- What runs without a fence runs in a round at the wide one, if it defers nothing. -/
theorem upon_round {P : Program} {o : Oper} {a : Act} {next next' : Act → World → Prop} {Q : Exit → Act → World → Prop} {l n : Nat} (hn : ∀ a w, next a w → next' a w) : ∀ r : Result Next, o.upon P a next Q r → o.uponIn (Fence.wide.inRound l) n P a next' Q r
  | .ok (.value v) w', h => hn _ _ h
  | .ok .skip w', h => hn _ _ h
  | .ok (.defer d) w', h => hn _ _ h
  | .ok (.enter f args) w', h => by
    rw [Oper.uponIn_enter]
    refine ⟨fun e => (by cases e), CallsIn.inRound l (callsIn_wide.2 (Calls.mono h ?_))⟩
    rintro e w2 he
    cases e with
    | returned v => exact hn _ _ he
    | panicked c => exact he
    | outgrown => exact he
  | .ok (.row row args) w', h => by
    rw [Oper.uponIn_row]
    refine ⟨fun e => (by cases e), fun c cs _ => ?_⟩
    obtain ⟨v, w2, q, s⟩ := h c cs
    exact ⟨v, w2, hn _ _ q, stepsIn_wide.2 s⟩
  | .ok (.round _ _ _ _ _) w', h => h.elim
  | .halt x w', h => by
    cases x <;> first | exact h | exact h.elim
/-- No operation is a defer statement. -/
def noDefer (ops : Array Oper) : Bool := ops.toList.all fun o => match o.op with | .defer _ => false | _ => true
theorem noDefer_spec {ops : Array Oper} (h : noDefer ops = true) {i : Nat} {o : Oper} (hi : ops[i]? = some o) : ∀ c, o.op ≠ .defer c := fun c e => by
  have := List.all_eq_true.1 h o (by simpa using Array.mem_of_getElem? hi)
  rw [e] at this
  cases this
theorem ops_round {P : Program} {ops : Array Oper} {Q : Exit → Act → World → Prop} {l n : Nat} (hd : noDefer ops = true) (hL : ¬ LetsOut Q) : ∀ (is : List Nat) (a : Act) (w : World), wpOps P ops Q is a w → wpOpsIn (Fence.wide.inRound l) n P ops Q is a w := by
  intro is
  induction is with
  | nil => exact fun a w h => h
  | cons i rest ih =>
    intro a w h
    unfold wpOps at h
    unfold wpOpsIn
    cases ho : ops[i]? with
    | none =>
      rw [ho] at h
      exact ih _ _ h
    | some o =>
      rw [ho] at h
      simp only at h ⊢
      by_cases hw : Region.wanted o (yielded ops a.tmps) = true
      · rw [if_pos hw] at h ⊢
        rcases h with h | h
        · refine ⟨fun _ _ => trivial, ?_⟩
          rw [Oper.semAt_eq _ _ _ (noDefer_spec hd ho)]
          exact upon_round ih _ h
        · exact absurd h.2 hL
      · rw [if_neg hw] at h ⊢
        exact ⟨fun _ _ => trivial, ih _ _ h⟩
theorem region_round {P : Program} {ops : Array Oper} {Q : Exit → Act → World → Prop} {l n id : Nat} {a : Act} {w : World} {S : World → Prop} (hd : noDefer ops = true) (hL : ¬ LetsOut Q) (hm : P.follows .mixedOrders = true) (hS : S w.drew)
    (h : S w.drew → wpAnyH P .any ops Q S ops.size (Array.replicate ops.size false) a w.drew) : (Code.region id ops true).wpIn (Fence.wide.inRound l) n P Q a w :=
  wpIn_region_draw fun t => by
    simp only [Region.schedule, hm, Bool.true_or, if_true]
    exact ops_round hd hL _ _ _ (wpAny_sound ops.size t _ a _ (wpAny_of_held _ _ _ _ (h hS)))

/-- How a round is left: it goes on, or it returns. -/
def LeftP {α : Type} (B n₀ : Nat) (I Ix : List α → World → Prop) (xs : List α) (W : World) : Exit → Act → World → Prop
  | .normal, _, W' => KeepsFrom B W W' ∧ Below n₀ W W' ∧ I xs W'
  | .ret, _, W' => KeepsFrom B W W' ∧ Ix xs W'
  | _, _, _ => False
theorem left_lets {α : Type} {B n₀ : Nat} {I Ix : List α → World → Prop} {xs : List α} {W : World} : ¬ LetsOut (LeftP B n₀ I Ix xs W) := fun ⟨_, _, h⟩ => h
theorem range_any {α : Type} {P : Program} {n gf N n₀ : Nat} {g : Operand} {ps : Array Tmp} {assign body : Code} {Q : Exit → Act → World → Prop} {a : Act} {w : World} {pb lb : Array Value} (hg : a.eval g = .func (.func gf) pb lb)
    (eg : ∀ args w, (callFunc gf args).run P w = .ok (.enter gf args) w) (hn₀ : n₀ ≤ w.heap.size) {encs : α → Array Value} (hps : ∀ x, (encs x).size = ps.size) {S Sp : List α → Prop} (h1 : 1 ≤ n)
    (hit : ∀ (l : Nat) (J Jx : List α → World → Prop) (W : World), Below w.heap.size w W →
      (∀ pre x W1, J pre W1 → pre.length < N → YieldAt Fence.wide (n - 1 - 1) P l (encs x) W1 fun e W' => (e = .returned (.bool true) ∧ J (pre ++ [x]) W' ∧ Below n₀ W1 W') ∨ (e = .returned (.bool false) ∧ Jx (pre ++ [x]) W')) →
      J [] W → CallsIn Fence.wide (n - 1) P gf (pb ++ #[.func (.yield l) #[] #[]] ++ lb) W fun e W' => (∃ v, e = .returned v) ∧ ((∃ xs, S xs ∧ J xs W') ∨ ∃ pre, Sp pre ∧ Jx pre W'))
    (I Ix : List α → World → Prop) (hI : OwnFrom w.heap.size I) (hIx : OwnFrom w.heap.size Ix) (h0 : I [] w) (Ax : α → Act → World → Prop) (hAx : ∀ x a', OwnFrom w.heap.size fun (_ : Unit) W => Ax x a' W)
    (hassign : ∀ (l : Nat) (pre : List α) (x : α) (W : World) (K : Act → World → Prop), I pre W → (∀ a' W', KeepsFrom w.heap.size W W' → Below n₀ W W' → I pre W' → Ax x a' W' → K a' W') →
      assign.wpIn (Fence.wide.inRound l) (n - 1 - 1) P (Exit.then K fun _ _ _ => False) { tmps := (ps.zip (encs x)).foldl (fun t (p, v) => t.setIfInBounds p v) a.tmps, defers := [] } W)
    (hbody : ∀ (l : Nat) (pre : List α) (x : α) (a' : Act) (W : World), I pre W → Ax x a' W → pre.length < N → body.wpIn (Fence.wide.inRound l) (n - 1 - 1) P (LeftP w.heap.size n₀ I Ix (pre ++ [x]) W) a' W)
    (hdone : ∀ (D : Nat) (xs : List α) (W : World), w.heap.size ≤ D → S xs → I xs W → W.heap[D]? = some (.deferred (some [])) → Q .normal { a with defers := { target := .collected D, args := #[] } :: a.defers } W)
    (hstop : ∀ (D : Nat) (pre : List α) (W : World), w.heap.size ≤ D → Sp pre → Ix pre W → W.heap[D]? = some (.deferred (some [])) → Code.ret.wpIn Fence.wide n P Q { a with defers := { target := .collected D, args := #[] } :: a.defers } W) :
    (Code.rangeFunc g ps assign body).wpIn Fence.wide n P Q a w := by
  refine wpIn_rangeFunc fun fn _ => ?_
  -- the loop's record, and what is known of both blocks
  have ⟨rc, hrc⟩ : ∃ rc : LoopState → Option Code → Loop, rc = fun st pe => { state := st, pending := pe, fn := fn, tmps := a.tmps, params := ps, assign := assign, body := body, defers := w.heap.size } := ⟨_, rfl⟩
  have ⟨Bk, hBk⟩ : ∃ Bk : LoopState → Option Code → World → Prop, Bk = fun st pe W => W.heap[w.heap.size + 1]? = some (.loop (rc st pe)) ∧ W.heap[w.heap.size]? = some (.deferred (some [])) := ⟨_, rfl⟩
  have bkPut : ∀ {st st' pe pe' W}, Bk st pe W → Bk st' pe' (W.putObj (w.heap.size + 1) (.loop (rc st' pe'))) := fun {st st' pe pe' W} h => by
    rw [hBk] at h ⊢
    exact ⟨World.putObj_heap_same (Array.getElem?_eq_some_iff.1 h.1).1, (World.putObj_heap_other (by omega)).trans h.2⟩
  have bkKeep : ∀ {st pe W W'}, Bk st pe W → KeepsFrom w.heap.size W W' → Bk st pe W' := fun {st pe W W'} h k => by
    rw [hBk] at h ⊢
    exact ⟨k.same _ _ (by omega) h.1 rfl, k.same _ _ (Nat.le_refl _) h.2 rfl⟩
  have bkBelow : ∀ {st pe W} (o : Obj), Bk st pe W → Below n₀ W (W.putObj (w.heap.size + 1) o) := fun {st pe W} o h => by
    rw [hBk] at h
    exact belowK_b hn₀ _ _ _ _ (by omega) h.1 rfl rfl
  have iPut : ∀ {pre st pe W} (o : Obj), Bk st pe W → I pre W → I pre (W.putObj (w.heap.size + 1) o) := fun {pre st pe W} o h hi => by
    rw [hBk] at h
    exact hI.putObj _ hi (by omega) h.1 rfl
  have xPut : ∀ {pre st pe W} (o : Obj), Bk st pe W → Ix pre W → Ix pre (W.putObj (w.heap.size + 1) o) := fun {pre st pe W} o h hi => by
    rw [hBk] at h
    exact hIx.putObj _ hi (by omega) h.1 rfl
  have ⟨W1, e1, i1, b1, k1⟩ : ∃ W1, (w.alloc (.deferred (some []))).alloc (.loop (rc .ready none)) = W1 ∧ I [] W1 ∧ Bk .ready none W1 ∧ Below w.heap.size w W1 := by
    refine ⟨_, rfl, hI.alloc _ (hI.alloc _ h0), ?_, ((Below.refl _ w).alloc (Nat.le_refl _) _).alloc (by simp) _⟩
    rw [hBk]
    refine ⟨?_, (Below.heap_alloc _ _ _ (by simp)).trans (World.alloc_heap_new w _)⟩
    have := World.alloc_heap_new (w.alloc (.deferred (some []))) (.loop (rc .ready none))
    rwa [World.size_alloc] at this
  refine ⟨w.heap.size + 1, [{ target := .collected w.heap.size, args := #[] }], W1, { target := .fn (.func gf) lb, args := pb ++ #[.func (.yield (w.heap.size + 1)) #[] #[]] }, W1, gf, pb ++ #[.func (.yield (w.heap.size + 1)) #[] #[]] ++ lb, W1, ?_, ?_, fun _ _ => trivial, ?_, fun e => (by cases e), ?_⟩
  · rw [← e1, hrc]
    exact run_enterLoop_outer _ _ _ _ _
  · simp only [resolve, hg]
    simp [go_sem]
  · simp [invoke, go_sem, eg]
  refine (hit (w.heap.size + 1) (fun pre W => I pre W ∧ Bk .ready none W) (fun pre W => Ix pre W ∧ Bk .done (some .ret) W) W1 k1 ?_ ⟨i1, b1⟩).mono ?_
  · rintro pre x W ⟨hi, hb⟩ hlen
    have hl := hb
    rw [hBk] at hl
    have hy := run_yield (P := P) (args := encs x) hl.1 (by rw [hrc]; exact hps x)
    rw [hrc] at hy
    refine ⟨fn, _, assign, body, hy, roundIn_of_wpIn trivial (hassign _ pre x W _ hi ?_)⟩
    intro a' Wa ka ba ia xa
    have hba := bkKeep hb ka
    have hla := hba
    rw [hBk] at hla
    have hbeg : (Instr.beginRound (w.heap.size + 1)).run P Wa = .ok () (Wa.putObj (w.heap.size + 1) (.loop (rc .busy none))) := by
      have := run_beginRound (P := P) hla.1 (by rw [hrc])
      rw [hrc] at this ⊢
      exact this
    have hw2 := bkPut (st' := .busy) (pe' := none) hba
    refine ⟨_, hbeg, ?_⟩
    refine wpIn_mono (hbody _ pre x a' _ (iPut _ hba ia) ((hAx x a').putObj (s := ()) _ xa (by omega) hla.1 rfl) hlen) ?_
    rintro e a3 W3 hp
    cases e with
    | normal =>
      obtain ⟨k3, q3, i3⟩ := hp
      have h3 := bkKeep hw2 k3
      have hl3 := h3
      rw [hBk] at hl3
      have hr : (Instr.endRound (w.heap.size + 1) none).run P W3 = .ok (.bool true) (W3.putObj (w.heap.size + 1) (.loop (rc .ready none))) := by
        have := run_endRound (P := P) none hl3.1
        rw [hrc] at this ⊢
        exact this
      exact ⟨_, _, hr, .inl ⟨rfl, ⟨iPut _ h3 i3, bkPut h3⟩, ((ba.trans (bkBelow _ hba)).trans q3).trans (bkBelow _ h3)⟩⟩
    | ret =>
      obtain ⟨k3, i3⟩ := hp
      have h3 := bkKeep hw2 k3
      have hl3 := h3
      rw [hBk] at hl3
      have hr : (Instr.endRound (w.heap.size + 1) (some .ret)).run P W3 = .ok (.bool false) (W3.putObj (w.heap.size + 1) (.loop (rc .done (some .ret)))) := by
        have := run_endRound (P := P) (some .ret) hl3.1
        rw [hrc] at this ⊢
        exact this
      exact ⟨_, _, hr, .inr ⟨rfl, xPut _ h3 i3, bkPut h3⟩⟩
    | exit id => exact hp.elim
    | goto t => exact hp.elim
    | panic c => exact hp.elim
    | outgrown => exact hp.elim
  · rintro e W2 ⟨⟨v, rfl⟩, ⟨xs, hS, hi, hb⟩ | ⟨pre, hS, hi, hb⟩⟩
    · have hl := hb
      rw [hBk] at hl
      have hr := run_endLoop (P := P) hl.1 (by rw [hrc]; simp)
      rw [hrc] at hr
      exact ⟨none, _, hr, hdone _ xs _ (Nat.le_refl _) hS (iPut _ hb hi) ((World.putObj_heap_other (by omega)).trans hl.2)⟩
    · have hl := hb
      rw [hBk] at hl
      have hr := run_endLoop (P := P) hl.1 (by rw [hrc]; simp)
      rw [hrc] at hr
      exact ⟨some .ret, _, hr, hstop _ pre _ (Nat.le_refl _) hS (xPut _ hb hi) ((World.putObj_heap_other (by omega)).trans hl.2)⟩
end Go.Proofs.Ytlkbnldpecolbaa

/- Walks of heap: twin. -/
namespace Go.Proofs.Ytlkbnldpecolbaa
open Go.RowKit
set_option linter.unusedVariables false

/-- The three cells of a cell's block. -/
def Tri (w : World) (pb : Nat) (a b c : Value) : Prop := w.cell? ⟨pb, 0, none⟩ = some a ∧ w.cell? ⟨pb, 1, none⟩ = some b ∧ w.cell? ⟨pb, 2, none⟩ = some c
theorem Tri.later {w wx : World} {pb : Nat} {a b c : Value} (h : Tri w pb a b c) (k : Below w.heap.size w wx) : Tri wx pb a b c := ⟨cell_later k h.1, cell_later k h.2.1, cell_later k h.2.2⟩

set_option maxRecDepth 100000 in
theorem itwin_walk (pb m z cap : Nat) (p : Option Addr) (kk : Int) (lk : Bool) (l : List Ob) (w : World) (c0 : w.cell? ⟨pb, 0, none⟩ = some (.int .i64 kk)) (c1 : w.cell? ⟨pb, 1, none⟩ = some (.bool lk)) (c2 : w.cell? ⟨pb, 2, none⟩ = some (.slice p z cap))
    (hc : Hid (∀ wx, Below w.heap.size w wx → Calls Try.prog 89 #[.slice p z cap] wx fun e w' => ∃ v, e = .returned v ∧ w'.ownsRow wx.heap.size 30 6 v m (obCells l) ∧ Below wx.heap.size wx w')) :
    Calls Try.prog 131 #[ptr pb] w fun e w' => ∃ v w1, e = .returned (.iface 113 (ptr w1.heap.size)) ∧ w1.ownsRow w.heap.size 30 6 v m (obCells l) ∧ Below w.heap.size w w1 ∧ w' = w1.alloc (.cells #[.int .i64 kk, .bool lk, v] 118) := by
  go_enter Try.func131, Try.ntmps131
  go_wp2_with fail
  have gb : Hid (Below w.heap.size w w.drew) := Lib.hid (Below.refl _ w).drew
  have go : Hid (Tri w.drew pb (.int .i64 kk) (.bool lk) (.slice p z cap)) := Lib.hid ⟨c0, c1, c2⟩
  go_region_held3 (fun wx => wx.cell? ⟨pb, 0, none⟩ = some (.int .i64 kk) ∧ wx.cell? ⟨pb, 1, none⟩ = some (.bool lk) ∧ wx.cell? ⟨pb, 2, none⟩ = some (.slice p z cap))
    (first | exact go.out | exact (go.out.later (box_below _ _)) | go_keep)
    (first | (go_at_call 89; refine (hc.out _ gb.out).mono ?_; rintro e wy ⟨v, rfl, hv, ky⟩; have HV := Lib.hid (hv.mono gb.out.size); have KY := Lib.hid (below_and gb.out ky); replace go := Lib.hid (go.out.later ky); obtain ⟨p1, cap1, rfl⟩ := owns_form (hv.mono (Nat.zero_le _)); clear hv ky))
  go_wp2
  go_ret
  exact ⟨_, _, rfl, HV.out, KY.out, rfl⟩

theorem info5 : (Try.prog.info? 5).map (fun i => (i.zero, i.size, i.bytes)) = some (some (.int .u8 0), 1, 1) := by kernel_rfl
set_option maxRecDepth 100000 in
theorem btwin_walk (pb m cap : Nat) (ad : Addr) (kk : Int) (lk : Bool) (l : List UInt8) (w : World) (hl : l.length = m) (hm0 : 0 < m) (hm : m ≤ 40000) (c0 : w.cell? ⟨pb, 0, none⟩ = some (.int .i64 kk)) (c1 : w.cell? ⟨pb, 1, none⟩ = some (.bool lk)) (c2 : w.cell? ⟨pb, 2, none⟩ = some (.slice (some ad) m cap))
    (hnews : ∀ j u, (byCells l)[j]? = some u → w.cell? (ad.add j) = some u) :
    Calls Try.prog 137 #[ptr pb] w fun e w' => ∃ v w1, e = .returned (.iface 134 (ptr w1.heap.size)) ∧ w1.ownsRow w.heap.size 5 1 v m (byCells l) ∧ Below w.heap.size w w1 ∧ w' = w1.alloc (.cells #[.int .i64 kk, .bool lk, v] 144) := by
  obtain ⟨i0, hi, hz0, hz1, hz2⟩ := info_parts info5
  have HN := Lib.hid hnews
  have HL := Lib.hid hl
  have HM : Hid (0 < m ∧ m ≤ 40000) := Lib.hid ⟨hm0, hm⟩
  clear hnews hl hm0 hm
  go_enter Try.func137, Try.ntmps137
  go_wp2_with fail
  have go : Hid (Tri w.drew pb (.int .i64 kk) (.bool lk) (.slice (some ad) m cap)) := Lib.hid ⟨c0, c1, c2⟩
  go_region_held_law (fun wx => wx.cell? ⟨pb, 0, none⟩ = some (.int .i64 kk) ∧ wx.cell? ⟨pb, 1, none⟩ = some (.bool lk) ∧ wx.cell? ⟨pb, 2, none⟩ = some (.slice (some ad) m cap))
    (first | exact go.out | exact (go.out.later (box_below _ _)) | go_keep)
    (first | (refine step_append_lies _ rfl _ _ 100 rfl w.heap.size 5 i0 (.int .u8 0) 1 1 Try.underlying100 hi hz0 hz1 hz2 rfl (by decide) (.slice none 0 0) 0 [] rfl (World.ownsRow_nil _ _ _ _) ad m cap (byCells l) rfl (by rw [byCells_length, HL.out]; omega) HN.out (byCells_one l) HM.out.1 (by unfold maxLen; have := HM.out; omega) (by have := HM.out; omega) (Nat.le_refl _) w.heap.size rfl ?_; intro g cp w1 hown hgrow hat hlt; have HV : Hid (w1.ownsRow w.heap.size 5 1 (.slice (some ⟨g, 0, none⟩) (0 + m) cp) (0 + m) (byCells l)) := Lib.hid (by simpa using hown); have K1 : Hid (Below w.drew.heap.size w.drew w1) := Lib.hid ((Below.refl _ w.drew).grown hgrow (Nat.le_refl _) (fun k e => by cases e)); replace go := Lib.hid (go.out.later K1.out); clear hown hgrow hat hlt))
  go_wp2
  go_ret
  rw [Nat.zero_add] at HV
  exact ⟨_, w1, rfl, HV.out, (Below.refl _ w).drew.trans K1.out, rfl⟩

theorem step_append_run {P : Program} {w : World} {ops : Array Oper} {o : Oper} {a : Act} {K : Act → World → Prop} {Q : Exit → Act → World → Prop} {E : Prop} (hgd : o.guard = none) (s x : Operand) (t : TypeId)
    (ho : o.op = .call { callee := .builtin .append, args := #[s, x], argTypes := #[t, t] }) (V1 V2 : Value) (hs : a.eval s = V1) (hx : a.eval x = V2) (v : Value) (w' : World) (hrun : (Builtin.append_ #[t, t] o.type #[V1, V2]).run P w = .ok v w')
    (h : K (a.put o.dst v) w') : if Region.wanted o (yielded ops a.tmps) = true then Oper.wp P o a w K Q else E := by
  have hw : Region.wanted o (yielded ops a.tmps) = true := by simp [Region.wanted, hgd]
  rw [if_pos hw]
  unfold Oper.wp execOp
  simp only [ho, resolve, invoke, builtin, Sem.run_bind, Sem.run_pure, Result.andThen_ok, List.map_toArray, List.map_cons, List.map_nil, hs, hx, hrun]
  exact h

set_option maxRecDepth 100000 in
theorem btwin_nil (pb z : Nat) (p : Option Addr) (cap : Nat) (kk : Int) (lk : Bool) (w : World) (c0 : w.cell? ⟨pb, 0, none⟩ = some (.int .i64 kk)) (c1 : w.cell? ⟨pb, 1, none⟩ = some (.bool lk)) (c2 : w.cell? ⟨pb, 2, none⟩ = some (.slice p 0 cap))
    (hap : ∀ wx : World, (Builtin.append_ #[100, 100] 100 #[.slice none 0 0, .slice p 0 cap]).run Try.prog wx = .ok (.slice none 0 0) wx) :
    Calls Try.prog 137 #[ptr pb] w fun e w' => e = .returned (.iface 134 (ptr w.heap.size)) ∧ w' = w.drew.alloc (.cells #[.int .i64 kk, .bool lk, .slice none 0 0] 144) := by
  go_enter Try.func137, Try.ntmps137
  go_wp2_with fail
  have go : Hid (Tri w.drew pb (.int .i64 kk) (.bool lk) (.slice p 0 cap)) := Lib.hid ⟨c0, c1, c2⟩
  go_region_held_law (fun wx => wx.cell? ⟨pb, 0, none⟩ = some (.int .i64 kk) ∧ wx.cell? ⟨pb, 1, none⟩ = some (.bool lk) ∧ wx.cell? ⟨pb, 2, none⟩ = some (.slice p 0 cap))
    (first | exact go.out | exact (go.out.later (box_below _ _)) | go_keep)
    (first | (refine step_append_run rfl _ _ 100 rfl (.slice none 0 0) (.slice p 0 cap) rfl rfl (.slice none 0 0) _ (hap _) ?_))
  go_wp2
  go_ret
  exact ⟨rfl, rfl⟩

theorem append0 (p : Option Addr) (cap : Nat) (wx : World) : (Builtin.append_ #[100, 100] 100 #[.slice none 0 0, .slice p 0 cap]).run Try.prog wx = .ok (.slice none 0 0) wx := by
  obtain ⟨i0, hi, hz0, hz1, hz2⟩ := info_parts info5
  cases p <;> simp [Builtin.append_, run_underlying Try.underlying100, sizeOf, typeInfo, hi, Builtin.lenOf, Builtin.firstCells, loadCells, loadCellsFrom]
theorem rowB_of_owns {w : World} {base : Nat} {v : Value} {l : List UInt8} {m : Nat} (h : w.ownsRow base 5 1 v m (byCells l)) (hl : l.length = m) : rowB w v l := by
  subst hl
  rcases h.2 with ⟨rfl, h0⟩ | ⟨g, cap, cur, rfl, hb, hg, hn, hm, hs, ht⟩
  · exact .inl ⟨rfl, List.eq_nil_of_length_eq_zero h0⟩
  · exact .inr ⟨g, cap, cur, (0, 0), rfl, hg, .inl rfl, hn, by rw [hs]; omega, by simpa using ht⟩

/-- A cell's twin: new blocks that hold the same. -/
theorem twin_any {w : World} {iv row : Value} {pb : Nat} {c : Cel} (h : PCell w iv pb row c) (hz : c.size ≤ 40000) :
    Calls Try.prog (if celT c = 113 then 131 else 137) #[ptr pb] w fun e w' => ∃ b v, e = .returned (.iface (celT c) (ptr b)) ∧ w.heap.size ≤ b ∧ PCell w' (.iface (celT c) (ptr b)) b v c ∧ (∀ g, v.ownBlock = some g → w.heap.size ≤ g ∧ g ≠ b) ∧ Below w.heap.size w w' := by
  rcases h with ⟨e, h⟩ | ⟨e, h⟩
  · have eT : celT c = 113 := by
      rcases h.kind with q | q <;> simp [celT, q]
    rw [if_pos eT, eT]
    have hs : c.size = c.it.length := by simp [Cel.size, h.bs]
    obtain ⟨p, cap, ev⟩ := owns_form h.row
    have hrow := h.row
    have hb := h.blk
    rw [ev] at hb hrow
    refine (itwin_walk pb c.it.length c.it.length cap p c.k c.lk c.it w (cellAt hb 0) (cellAt hb 1) (cellAt hb 2) (Lib.hid fun wx kx => ?_)).mono ?_
    · rcases hrow.2 with ⟨q, h0⟩ | ⟨g, cap', cur, q, _⟩
      · have e0 : c.it = [] := List.eq_nil_of_length_eq_zero h0
        injection q with q1 q2 q3
        rw [q1, q3, e0]
        exact copyItems_none wx
      · injection q with q1 q2 q3
        subst q1
        refine copyItems_some ⟨g, 0, none⟩ c.it.length cap c.it wx rfl (by omega) fun j u hj => ?_
        exact cell_later kx (hrow.cells rfl j u hj)
    · rintro e w' ⟨v, w1, rfl, hv, k1, rfl⟩
      refine ⟨w1.heap.size, v, rfl, k1.size, .inl ⟨rfl, h.kind, h.bs, heap_alloc_new _ _, (hv.mono (Nat.zero_le _)).alloc _⟩, fun g e => ?_, k1.alloc k1.size _⟩
      have := hv.lt g e
      omega
  · have eT : celT c = 134 := by simp [celT, h.kind]
    rw [if_neg (by rw [eT]; decide), eT]
    have hs : c.size = c.bs.length := by simp [Cel.size, h.it]
    have hb := h.blk
    rcases h.row with ⟨ev, hnil⟩ | ⟨g, cap, cur, fr, ev, hg, hfr, hcap, hsz, htk⟩
    · rw [ev] at hb
      refine (btwin_nil pb 0 none 0 c.k c.lk w (cellAt hb 0) (cellAt hb 1) (cellAt hb 2) (append0 _ _)).mono ?_
      rintro e w' ⟨rfl, rfl⟩
      refine ⟨w.heap.size, .slice none 0 0, rfl, Nat.le_refl _, .inr ⟨rfl, h.kind, h.it, heap_alloc_new _ _, .inl ⟨rfl, hnil⟩⟩, fun g e => (by cases e), (Below.refl _ w).drew.alloc (Nat.le_refl _) _⟩
    · have hrow := h.row
      rw [ev] at hb hrow
      by_cases h0 : c.bs.length = 0
      · rw [h0] at hb
        refine (btwin_nil pb 0 _ cap c.k c.lk w (cellAt hb 0) (cellAt hb 1) (cellAt hb 2) (append0 _ _)).mono ?_
        rintro e w' ⟨rfl, rfl⟩
        refine ⟨w.heap.size, .slice none 0 0, rfl, Nat.le_refl _, .inr ⟨rfl, h.kind, h.it, heap_alloc_new _ _, .inl ⟨rfl, List.eq_nil_of_length_eq_zero h0⟩⟩, fun g e => (by cases e), (Below.refl _ w).drew.alloc (Nat.le_refl _) _⟩
      refine (btwin_walk pb c.bs.length cap ⟨g, 0, none⟩ c.k c.lk c.bs w rfl (by omega) (by omega) (cellAt hb 0) (cellAt hb 1) (cellAt hb 2) fun j u hj => ?_).mono ?_
      · rw [Addr.add_mid, Nat.zero_add]
        exact (rowB_cell hrow hj).1
      · rintro e w' ⟨v, w1, rfl, hv, k1, rfl⟩
        have hr := rowB_of_owns (hv.mono (Nat.zero_le _)) rfl
        refine ⟨w1.heap.size, v, rfl, k1.size, .inr ⟨rfl, h.kind, h.it, heap_alloc_new _ _, rowB_same hr fun q _ hq => Below.heap_alloc _ _ _ hq⟩, fun g e => ?_, k1.alloc k1.size _⟩
        have := hv.lt g e
        omega
end Go.Proofs.Ytlkbnldpecolbaa
