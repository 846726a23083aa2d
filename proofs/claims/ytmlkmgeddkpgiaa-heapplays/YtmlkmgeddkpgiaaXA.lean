/- XA: Q1, Q2, Q3, Q4, Q5, S1, S2, S3, S4. -/
import Derived.Test.YtmlkmgeddkpgiaaK31
import Derived.Deep.MidRow
import Derived.Deep.RegionHeld3
import Derived.Deep.RegionHeldLaw
import Derived.StillTailTactics
/- tympanref11: Composite, the size of a cell. -/
namespace Go.Proofs.Ytmlkmgeddkpgiaa
open Go.RowKit
set_option linter.unusedVariables false

def compP (k : Int) : Bool := decide (k = 9 ∨ k = 8 ∨ k = 10)
theorem rcomp_part (k n a l : Int) (x b1 b2 b3 p : Bool) (s : ByteArray) (w : World) (h1 : (k == 9) = b1) (h2 : (k == 8) = b2) (h3 : (k == 10) = b3) (hp : Hid ((b1 || (b2 || b3)) = p)) :
    Calls Try.prog 101 #[obV k x n a l s] w fun e w' => e = .returned (.bool p) ∧ Below w.heap.size w w' := by
  cases b1 <;> cases b2 <;> cases b3 <;>
  · go_enter Try.func101, Try.ntmps101
    go_upto_region 1 with fail
    obtain ⟨wb, eb, kb, zb, c0, c1, c2, c3, c4, c5⟩ := ob_box w k n a l x s
    rw [eb]
    go_wp2
    go_ret
    exact ⟨ret_bool (by have := hp.out; simpa using this), kb⟩
theorem rcomp_any (k n a l : Int) (x : Bool) (s : ByteArray) (w : World) : Calls Try.prog 101 #[obV k x n a l s] w fun e w' => e = .returned (.bool (compP k)) ∧ Below w.heap.size w w' :=
  rcomp_part k n a l x _ _ _ _ s w rfl rfl rfl (Lib.hid (by unfold compP; rw [Bool.eq_iff_iff]; simp))
/-- A cell of the reference's heap: its value. -/
abbrev rcV (k : Int) (it bs : Value) (lk : Bool) : Value := .agg #[.int .i64 k, it, bs, .bool lk]
theorem rc_box (w : World) (k : Int) (it bs : Value) (lk : Bool) : ∃ wb, w.alloc (.cells #[.int .i64 k, it, bs, .bool lk] 110) = wb ∧ Below w.heap.size w wb ∧ wb.heap.size = w.heap.size + 1 ∧
    wb.cell? ⟨w.heap.size, 0, none⟩ = some (.int .i64 k) ∧ wb.cell? ⟨w.heap.size, 1, none⟩ = some it ∧ wb.cell? ⟨w.heap.size, 2, none⟩ = some bs ∧ wb.cell? ⟨w.heap.size, 3, none⟩ = some (.bool lk) :=
  ⟨_, rfl, box_below _ _, by simp, by simp, by simp, by simp, by simp⟩
theorem rcsize_any (k : Int) (p q : Option Addr) (n c m d t : Nat) (lk : Bool) (w : World) (e : IntKind.i64.wrap ((n : Int) + (m : Int)) = t) :
    Calls Try.prog 82 #[rcV k (.slice p n c) (.slice q m d) lk] w fun e w' => e = .returned (.int .i64 t) ∧ Below w.heap.size w w' := by
  go_enter Try.func82, Try.ntmps82
  go_upto_region 1 with fail
  obtain ⟨wb, eb, kb, zb, c0, c1, c2, c3⟩ := rc_box w k (.slice p n c) (.slice q m d) lk
  rw [eb]
  go_wp2
  go_ret
  exact ⟨rfl, kb⟩
end Go.Proofs.Ytmlkmgeddkpgiaa

/- How the reference's heap lies in memory: its block, the row of its cells (written in place), the rows of items and bytes (never written again). -/
namespace Go.Proofs.Ytmlkmgeddkpgiaa
open Go.RowKit
set_option linter.unusedVariables false

/-- A slice whose cells are known; its block is one of I. -/
def rowC (w : World) (I : Nat → Prop) (v : Value) (n : Nat) (cs : List Value) : Prop :=
  (v = .slice none 0 0 ∧ n = 0 ∧ cs = []) ∨ ∃ g cap, v = .slice (some ⟨g, 0, none⟩) n cap ∧ n ≤ cap ∧ I g ∧ g < w.heap.size ∧ ∀ j u, cs[j]? = some u → w.cell? ⟨g, j, none⟩ = some u
theorem rowC.same {w w' : World} {I I' : Nat → Prop} {v : Value} {n : Nat} {cs : List Value} (h : rowC w I v n cs) (hs : w.heap.size ≤ w'.heap.size) (k : ∀ g, I g → g < w.heap.size → I' g ∧ w'.heap[g]? = w.heap[g]?) : rowC w' I' v n cs := by
  rcases h with h | ⟨g, cap, h1, h2, h3, h4, h5⟩
  · exact .inl h
  · refine .inr ⟨g, cap, h1, h2, (k g h3 h4).1, Nat.lt_of_lt_of_le h4 hs, fun j u hj => ?_⟩
    rw [World.cell?_of_block (w := w) (a := ⟨g, j, none⟩) (k g h3 h4).2]
    exact h5 j u hj
/-- A cell of the reference's heap, with the slices that it holds. -/
structure RC where
  c : Cel
  it : Value
  bs : Value
abbrev rcL (r : RC) : List Value := [.int .i64 r.c.k, r.it, r.bs, .bool r.c.lk]
def rcCells (R : List RC) : List Value := R.flatMap rcL
def cels (R : List RC) : List Cel := R.map RC.c
theorem rcCells_length (R : List RC) : (rcCells R).length = R.length * 4 := by
  induction R with
  | nil => rfl
  | cons r R ih =>
    show (rcL r ++ rcCells R).length = _
    rw [List.length_append, ih]
    simp
    omega
theorem rcCells_get {R : List RC} {i j : Nat} {r : RC} (h : R[i]? = some r) (hj : j < 4) : (rcCells R)[i * 4 + j]? = (rcL r)[j]? := by
  induction R generalizing i with
  | nil => simp at h
  | cons p R ih =>
    show (rcL p ++ rcCells R)[_]? = _
    have h4 : (rcL p).length = 4 := rfl
    cases i with
    | zero =>
      simp at h
      subst h
      rw [List.getElem?_append_left (by omega)]
      simp
    | succ i =>
      simp at h
      rw [List.getElem?_append_right (by omega), h4, show (i + 1) * 4 + j - 4 = i * 4 + j from by omega]
      exact ih h
/-- Blocks of ours that are neither the heap's own nor the row of its cells. -/
def Im (own : Nat → Prop) (rb : Nat) (v : Value) (b : Nat) : Prop := own b ∧ b ≠ rb ∧ v.ownBlock ≠ some b
structure RH (own : Nat → Prop) (rb : Nat) (v : Value) (R : List RC) (w : World) : Prop where
  hdr : w.heap[rb]? = some (.cells #[v] 31 (0, 0))
  mine : own rb
  row : rowC w (fun b => own b ∧ b ≠ rb) v R.length (rcCells R)
  sub : ∀ (i : Nat) (r : RC), R[i]? = some r → rowC w (Im own rb v) r.it r.c.it.length (obCells r.c.it) ∧ rowC w (Im own rb v) r.bs r.c.bs.length (byCells r.c.bs)
  wf : WfP (cels R)
  free : ∀ g, v.ownBlock = some g → ∀ j, w.frozen? ⟨g, j, none⟩ = false
theorem RH.kept {own own' : Nat → Prop} {rb : Nat} {v : Value} {R : List RC} {w w' : World} (h : RH own rb v R w) (ho : ∀ b, own b → own' b) (hs : w.heap.size ≤ w'.heap.size) (k : ∀ b, own b → b < w.heap.size → w'.heap[b]? = w.heap[b]?) : RH own' rb v R w' :=
  ⟨(k rb h.mine (blk_lt h.hdr)).trans h.hdr, ho _ h.mine, h.row.same hs fun g q hg => ⟨⟨ho _ q.1, q.2⟩, k g q.1 hg⟩, fun i r hr => ⟨(h.sub i r hr).1.same hs fun g q hg => ⟨⟨ho _ q.1, q.2⟩, k g q.1 hg⟩, (h.sub i r hr).2.same hs fun g q hg => ⟨⟨ho _ q.1, q.2⟩, k g q.1 hg⟩⟩, h.wf, fun g e j => by
    rcases h.row with ⟨rfl, _⟩ | ⟨g', cap', rfl, _, q, hg, _⟩
    · cases e
    · have : g' = g := by simpa [Value.ownBlock] using e
      subst this
      rw [World.frozen?_of_block (w := w) (a := ⟨g', j, none⟩) (k g' q.1 hg)]
      exact h.free g' e j⟩
theorem RH.below {own : Nat → Prop} {rb : Nat} {v : Value} {R : List RC} {w w' : World} (h : RH own rb v R w) (k : Below w.heap.size w w') : RH own rb v R w' := h.kept (fun _ h => h) k.size fun b _ hb => k.block b hb
theorem rowC.form {w : World} {I : Nat → Prop} {v : Value} {n : Nat} {cs : List Value} (h : rowC w I v n cs) : ∃ p cap, v = .slice p n cap ∧ n ≤ cap := by
  rcases h with ⟨rfl, rfl, _⟩ | ⟨g, cap, rfl, hn, _⟩
  · exact ⟨none, 0, rfl, Nat.le_refl _⟩
  · exact ⟨_, _, rfl, hn⟩
section
variable {own : Nat → Prop} {rb : Nat} {v : Value} {R : List RC} {w : World}
theorem cels_length (R : List RC) : (cels R).length = R.length := by simp [cels]
theorem cels_get {i : Nat} {r : RC} (h : R[i]? = some r) : (cels R)[i]? = some r.c := by simp [cels, h]
/-- The cells of the i-th. -/
theorem RH.at (h : RH own rb v R w) {i : Nat} {r : RC} (hi : R[i]? = some r) : ∃ g cap, v = .slice (some ⟨g, 0, none⟩) R.length cap ∧ own g ∧ g ≠ rb ∧ g < w.heap.size ∧ w.cell? ⟨g, i * 4, none⟩ = some (.int .i64 r.c.k) ∧ w.cell? ⟨g, i * 4 + 1, none⟩ = some r.it ∧ w.cell? ⟨g, i * 4 + 2, none⟩ = some r.bs ∧ w.cell? ⟨g, i * 4 + 3, none⟩ = some (.bool r.c.lk) := by
  have hl := (List.getElem?_eq_some_iff.1 hi).1
  rcases h.row with ⟨_, h0, _⟩ | ⟨g, cap, h1, h2, h3, h4, h5⟩
  · omega
  · have c : ∀ j, j < 4 → w.cell? ⟨g, i * 4 + j, none⟩ = (rcL r)[j]? := fun j hj => by
      obtain ⟨u, hu⟩ : ∃ u, (rcL r)[j]? = some u := ⟨_, List.getElem?_eq_getElem (by simpa using hj)⟩
      rw [hu]
      exact h5 _ u (by rw [rcCells_get hi hj, hu])
    exact ⟨g, cap, h1, h3.1, h3.2, h4, c 0 (by decide), c 1 (by decide), c 2 (by decide), c 3 (by decide)⟩
theorem RH.hcell (h : RH own rb v R w) : w.cell? ⟨rb, 0, none⟩ = some v := by
  rw [cellAt h.hdr]
  rfl
theorem RH.cellOf (h : RH own rb v R w) {o : Ob} {r : RC} (hi : R[o.n.toNat]? = some r) : cellOf (cels R) o = r.c := by
  unfold Go.Proofs.Ytmlkmgeddkpgiaa.cellOf
  rw [List.getD_eq_getElem?_getD, cels_get hi]
  rfl
/-- The sizes of a cell's two slices. -/
theorem RH.size (h : RH own rb v R w) {i : Nat} {r : RC} (hi : R[i]? = some r) : ∃ p q c d, r.it = .slice p r.c.it.length c ∧ r.bs = .slice q r.c.bs.length d ∧ r.c.size ≤ 40000 := by
  obtain ⟨p, c, e1, _⟩ := (h.sub i r hi).1.form
  obtain ⟨q, d, e2, _⟩ := (h.sub i r hi).2.form
  exact ⟨p, q, c, d, e1, e2, h.wf.size (cels_get hi)⟩
end
end Go.Proofs.Ytmlkmgeddkpgiaa

/- Walks of tympanref11: May. -/
namespace Go.Proofs.Ytmlkmgeddkpgiaa
open Go.RowKit
set_option linter.unusedVariables false
set_option maxHeartbeats 1000000
set_option maxRecDepth 100000

theorem rmayH_no (rb : Nat) (k n a l : Int) (x : Bool) (s : ByteArray) (w : World)
    (h1 : Hid (∀ wx, Calls Try.prog 110 #[obV k x n a l s] wx fun e w' => e = .returned (.bool false) ∧ Below wx.heap.size wx w')) :
    Calls Try.prog 74 #[ptr rb, obV k x n a l s] w fun e w' => e = .returned (.bool false) ∧ Below w.heap.size w w' := by
  go_enter Try.func74, Try.ntmps74
  go_upto_region 1 with fail
  obtain ⟨wb, eb, kb, zb, c0, c1, c2, c3, c4, c5⟩ := ob_box w k n a l x s
  rw [eb]
  go_wp2_with fail
  refine (h1.out _).mono ?_
  rintro e wc ⟨rfl, kc⟩
  have KC := Lib.hid (below_and kb kc)
  clear eb kb kc c0 c1 c2 c3 c4 c5
  go_wp2
  go_ret
  exact ⟨rfl, KC.out⟩
theorem rmayH_plain (rb : Nat) (k n a l : Int) (x : Bool) (s : ByteArray) (w : World)
    (h1 : Hid (∀ wx, Calls Try.prog 110 #[obV k x n a l s] wx fun e w' => e = .returned (.bool true) ∧ Below wx.heap.size wx w'))
    (h2 : Hid (∀ wx, Calls Try.prog 101 #[obV k x n a l s] wx fun e w' => e = .returned (.bool false) ∧ Below wx.heap.size wx w')) :
    Calls Try.prog 74 #[ptr rb, obV k x n a l s] w fun e w' => e = .returned (.bool true) ∧ Below w.heap.size w w' := by
  go_enter Try.func74, Try.ntmps74
  go_upto_region 1 with fail
  obtain ⟨wb, eb, kb, zb, oa⟩ := ob_box w k n a l x s
  rw [eb]
  have OA := Lib.hid oa
  obtain ⟨c0, c1, c2, c3, c4, c5⟩ := oa
  go_wp2_with fail
  refine (h1.out _).mono ?_
  rintro e wc ⟨rfl, kc⟩
  have KC := Lib.hid (below_and kb kc)
  have OC := OA.out.later kc
  clear eb kb kc c0 c1 c2 c3 c4 c5
  obtain ⟨c0, c1, c2, c3, c4, c5⟩ := OC
  go_wp2_with fail
  refine (h2.out _).mono ?_
  rintro e wd ⟨rfl, kd⟩
  have KD := Lib.hid (below_and KC.out kd)
  clear kd c0 c1 c2 c3 c4 c5
  go_wp2
  go_ret
  exact ⟨rfl, KD.out⟩
/-- A cell, up to the test of it. -/
def MayAt (w : World) (rb A : Nat) (p : Option Addr) (z cap : Nat) (k : Int) (x : Bool) (n a l : Int) (s : ByteArray) : Prop := w.cell? ⟨rb, 0, none⟩ = some (.slice p z cap) ∧ ObAt w A k x n a l s
theorem MayAt.later {w wx : World} {rb A : Nat} {p : Option Addr} {z cap : Nat} {k : Int} {x : Bool} {n a l : Int} {s : ByteArray} (h : MayAt w rb A p z cap k x n a l s) (kc : Below w.heap.size w wx) : MayAt wx rb A p z cap k x n a l s := ⟨cell_later kc h.1, h.2.later kc⟩
theorem rmayH_far (rb z cap : Nat) (p : Option Addr) (k n a l : Int) (x : Bool) (s : ByteArray) (w : World) (hn : ¬ (n < z)) (h0 : w.cell? ⟨rb, 0, none⟩ = some (.slice p z cap))
    (h1 : Hid (∀ wx, Calls Try.prog 110 #[obV k x n a l s] wx fun e w' => e = .returned (.bool true) ∧ Below wx.heap.size wx w'))
    (h2 : Hid (∀ wx, Calls Try.prog 101 #[obV k x n a l s] wx fun e w' => e = .returned (.bool true) ∧ Below wx.heap.size wx w')) :
    Calls Try.prog 74 #[ptr rb, obV k x n a l s] w fun e w' => e = .returned (.bool false) ∧ Below w.heap.size w w' := by
  have hn' : decide (n < (z : Int)) = false := decide_eq_false hn
  go_enter Try.func74, Try.ntmps74
  go_upto_region 1 with fail
  obtain ⟨wb, eb, kb, zb, oa⟩ := ob_box w k n a l x s
  rw [eb]
  have OA : Hid (MayAt wb rb w.heap.size p z cap k x n a l s) := Lib.hid ⟨cell_later kb h0, oa⟩
  obtain ⟨c0, c1, c2, c3, c4, c5⟩ := oa
  go_wp2_with fail
  refine (h1.out _).mono ?_
  rintro e wc ⟨rfl, kc⟩
  have KC := Lib.hid (below_and kb kc)
  have OC := Lib.hid (OA.out.later kc)
  clear eb kb kc c0 c1 c2 c3 c4 c5 h0
  obtain ⟨h0, c0, c1, c2, c3, c4, c5⟩ := OC.out
  go_wp2_with fail
  refine (h2.out _).mono ?_
  rintro e wd ⟨rfl, kd⟩
  have KD := Lib.hid (below_and KC.out kd)
  have OD := OC.out.later kd
  clear kd c0 c1 c2 c3 c4 c5 h0
  obtain ⟨h0, c0, c1, c2, c3, c4, c5⟩ := OD
  go_wp2_with fail
  go_quiet (fail)
  go_wp2
  go_ret
  exact ⟨rfl, below_and KD.out (below_drewN _ _)⟩
/-- .. and a cell of the heap besides. -/
def MayCl (w : World) (rb A g z cap i : Nat) (k' : Int) (it bs : Value) (lk : Bool) (k : Int) (x : Bool) (a l : Int) (s : ByteArray) : Prop := MayAt w rb A (some ⟨g, 0, none⟩) z cap k x i a l s ∧
  w.cell? ⟨g, i * 4, none⟩ = some (.int .i64 k') ∧ w.cell? ⟨g, i * 4 + 1, none⟩ = some it ∧ w.cell? ⟨g, i * 4 + 2, none⟩ = some bs ∧ w.cell? ⟨g, i * 4 + 3, none⟩ = some (.bool lk)
theorem MayCl.later {w wx : World} {rb A g z cap i : Nat} {k' : Int} {it bs : Value} {lk : Bool} {k : Int} {x : Bool} {a l : Int} {s : ByteArray} (h : MayCl w rb A g z cap i k' it bs lk k x a l s) (kc : Below w.heap.size w wx) : MayCl wx rb A g z cap i k' it bs lk k x a l s :=
  ⟨h.1.later kc, cell_later kc h.2.1, cell_later kc h.2.2.1, cell_later kc h.2.2.2.1, cell_later kc h.2.2.2.2⟩
theorem rmayH_kind (rb g z cap i : Nat) (k' : Int) (it bs : Value) (lk : Bool) (k a l : Int) (x : Bool) (s : ByteArray) (w : World) (hi : i < z) (h0 : w.cell? ⟨rb, 0, none⟩ = some (.slice (some ⟨g, 0, none⟩) z cap))
    (d0 : w.cell? ⟨g, i * 4, none⟩ = some (.int .i64 k')) (d1 : w.cell? ⟨g, i * 4 + 1, none⟩ = some it) (d2 : w.cell? ⟨g, i * 4 + 2, none⟩ = some bs) (d3 : w.cell? ⟨g, i * 4 + 3, none⟩ = some (.bool lk))
    (h1 : Hid (∀ wx, Calls Try.prog 110 #[obV k x i a l s] wx fun e w' => e = .returned (.bool true) ∧ Below wx.heap.size wx w'))
    (h2 : Hid (∀ wx, Calls Try.prog 101 #[obV k x i a l s] wx fun e w' => e = .returned (.bool true) ∧ Below wx.heap.size wx w')) (hk : (k' == k) = false) :
    Calls Try.prog 74 #[ptr rb, obV k x i a l s] w fun e w' => e = .returned (.bool false) ∧ Below w.heap.size w w' := by
  have t0 : (0 : Int) ≤ i := by omega
  have t1 : (i : Int) < z := by omega
  go_enter Try.func74, Try.ntmps74
  go_upto_region 1 with fail
  obtain ⟨wb, eb, kb, zb, oa⟩ := ob_box w k i a l x s
  rw [eb]
  have OA : Hid (MayCl wb rb w.heap.size g z cap i k' it bs lk k x a l s) := Lib.hid ⟨⟨cell_later kb h0, oa⟩, cell_later kb d0, cell_later kb d1, cell_later kb d2, cell_later kb d3⟩
  obtain ⟨c0, c1, c2, c3, c4, c5⟩ := oa
  clear d0 d1 d2 d3
  go_wp2_with fail
  refine (h1.out _).mono ?_
  rintro e wc ⟨rfl, kc⟩
  have KC := Lib.hid (below_and kb kc)
  have OC := Lib.hid (OA.out.later kc)
  clear eb kb kc c0 c1 c2 c3 c4 c5 h0
  obtain ⟨⟨h0, c0, c1, c2, c3, c4, c5⟩, d0, d1, d2, d3⟩ := OC.out
  go_wp2_with fail
  refine (h2.out _).mono ?_
  rintro e wd ⟨rfl, kd⟩
  have KD := Lib.hid (below_and KC.out kd)
  have OD := Lib.hid (OC.out.later kd)
  clear kd c0 c1 c2 c3 c4 c5 h0 d0 d1 d2 d3
  obtain ⟨⟨h0, c0, c1, c2, c3, c4, c5⟩, d0, d1, d2, d3⟩ := OD.out
  go_wp2_with fail
  go_quiet (fail)
  go_wp2
  go_ret
  exact ⟨rfl, below_and KD.out (below_drewN _ _)⟩
theorem rmayH_cell (rb g z cap i : Nat) (k' : Int) (it bs : Value) (lk : Bool) (k a l : Int) (x : Bool) (s : ByteArray) (w : World) (hi : i < z) (h0 : w.cell? ⟨rb, 0, none⟩ = some (.slice (some ⟨g, 0, none⟩) z cap))
    (d0 : w.cell? ⟨g, i * 4, none⟩ = some (.int .i64 k')) (d1 : w.cell? ⟨g, i * 4 + 1, none⟩ = some it) (d2 : w.cell? ⟨g, i * 4 + 2, none⟩ = some bs) (d3 : w.cell? ⟨g, i * 4 + 3, none⟩ = some (.bool lk))
    (h1 : Hid (∀ wx, Calls Try.prog 110 #[obV k x i a l s] wx fun e w' => e = .returned (.bool true) ∧ Below wx.heap.size wx w'))
    (h2 : Hid (∀ wx, Calls Try.prog 101 #[obV k x i a l s] wx fun e w' => e = .returned (.bool true) ∧ Below wx.heap.size wx w')) (hk : (k' == k) = true) (m : Nat) (r : Bool) (ea : IntKind.i64.wrap (a + l) = a + l) (hr : decide (a + l ≤ (m : Int)) = r)
    (h3 : Hid (∀ wx, Calls Try.prog 82 #[rcV k' it bs lk] wx fun e w' => e = .returned (.int .i64 m) ∧ Below wx.heap.size wx w')) :
    Calls Try.prog 74 #[ptr rb, obV k x i a l s] w fun e w' => e = .returned (.bool r) ∧ Below w.heap.size w w' := by
  have t0 : (0 : Int) ≤ i := by omega
  have t1 : (i : Int) < z := by omega
  go_enter Try.func74, Try.ntmps74
  go_upto_region 1 with fail
  obtain ⟨wb, eb, kb, zb, oa⟩ := ob_box w k i a l x s
  rw [eb]
  have OA : Hid (MayCl wb rb w.heap.size g z cap i k' it bs lk k x a l s) := Lib.hid ⟨⟨cell_later kb h0, oa⟩, cell_later kb d0, cell_later kb d1, cell_later kb d2, cell_later kb d3⟩
  obtain ⟨c0, c1, c2, c3, c4, c5⟩ := oa
  clear d0 d1 d2 d3
  go_wp2_with fail
  refine (h1.out _).mono ?_
  rintro e wc ⟨rfl, kc⟩
  have KC := Lib.hid (below_and kb kc)
  have OC := Lib.hid (OA.out.later kc)
  clear eb kb kc c0 c1 c2 c3 c4 c5 h0
  obtain ⟨⟨h0, c0, c1, c2, c3, c4, c5⟩, d0, d1, d2, d3⟩ := OC.out
  go_wp2_with fail
  refine (h2.out _).mono ?_
  rintro e wd ⟨rfl, kd⟩
  have KD := Lib.hid (below_and KC.out kd)
  have OD := Lib.hid (OC.out.later kd)
  clear kd c0 c1 c2 c3 c4 c5 h0 d0 d1 d2 d3
  obtain ⟨⟨h0, c0, c1, c2, c3, c4, c5⟩, d0, d1, d2, d3⟩ := OD.out
  go_wp2_with fail
  have gb : Hid (Below w.heap.size w wd.drew) := Lib.hid KD.out.drew
  have go : Hid (MayCl wd.drew rb w.heap.size g z cap i k' it bs lk k x a l s) := Lib.hid OD.out
  go_region_held3 (fun wx => (wx.cell? ⟨rb, 0, none⟩ = some (.slice (some ⟨g, 0, none⟩) z cap) ∧ wx.cell? ⟨w.heap.size, 0, none⟩ = some (.int .i64 k) ∧ wx.cell? ⟨w.heap.size, 1, none⟩ = some (.bool x) ∧ wx.cell? ⟨w.heap.size, 2, none⟩ = some (.int .i64 i) ∧ wx.cell? ⟨w.heap.size, 3, none⟩ = some (.int .i64 a) ∧ wx.cell? ⟨w.heap.size, 4, none⟩ = some (.int .i64 l) ∧ wx.cell? ⟨w.heap.size, 5, none⟩ = some (.string s)) ∧
      wx.cell? ⟨g, i * 4, none⟩ = some (.int .i64 k') ∧ wx.cell? ⟨g, i * 4 + 1, none⟩ = some it ∧ wx.cell? ⟨g, i * 4 + 2, none⟩ = some bs ∧ wx.cell? ⟨g, i * 4 + 3, none⟩ = some (.bool lk))
    (first | exact go.out | go_keep)
    (first | (go_at_call 82; refine (h3.out _).mono ?_; rintro e we ⟨rfl, ke⟩; replace gb := Lib.hid (below_and gb.out ke); replace go := Lib.hid (go.out.later ke); clear ke))
  go_wp2
  go_ret
  exact ⟨rfl, gb.out⟩
end Go.Proofs.Ytmlkmgeddkpgiaa

/- tympanref11: May; the place of an object. -/
namespace Go.Proofs.Ytmlkmgeddkpgiaa
open Go.RowKit
set_option linter.unusedVariables false
section
variable {own : Nat → Prop} {rb : Nat} {v : Value} {R : List RC} {w : World}
theorem may_piece {o : Ob} (h : o.may = true) (hc : comp o.k = true) : 0 ≤ o.n ∧ 0 ≤ o.a ∧ o.a ≤ 40000 ∧ 0 ≤ o.l ∧ o.l ≤ 40000 := by
  rw [comp_iff] at hc
  unfold Ob.may mayO at h
  rcases hc with hc | hc | hc <;> simp [hc, pieceP, onlyP] at h ⊢ <;> omega
theorem rmayH_any (h : RH own rb v R w) (o : Ob) : Calls Try.prog 74 #[ptr rb, o.val] w fun e w' => e = .returned (.bool (mayH (cels R) o)) ∧ Below w.heap.size w w' := by
  have q1 := Lib.hid (fun wx => rmayO_any o.k o.n o.a o.l o.x o.s wx)
  have q2 := Lib.hid (fun wx => rcomp_any o.k o.n o.a o.l o.x o.s wx)
  cases hm : o.may
  · rw [show mayO o.k o.n o.a o.l o.s = false from hm] at q1
    rw [show mayH (cels R) o = false from by simp [mayH, hm]]
    exact rmayH_no rb o.k o.n o.a o.l o.x o.s w q1
  rw [show mayO o.k o.n o.a o.l o.s = true from hm] at q1
  cases hc : comp o.k
  · rw [show compP o.k = false from hc] at q2
    rw [show mayH (cels R) o = true from by simp [mayH, hm, hc]]
    exact rmayH_plain rb o.k o.n o.a o.l o.x o.s w q1 q2
  rw [show compP o.k = true from hc] at q2
  have hp := may_piece hm hc
  have h0 := h.hcell
  by_cases hn : o.n < R.length
  · obtain ⟨r, hr⟩ : ∃ r, R[o.n.toNat]? = some r := ⟨_, List.getElem?_eq_getElem (by omega)⟩
    obtain ⟨g, cap, ev, _, _, _, d0, d1, d2, d3⟩ := h.at hr
    rw [ev] at h0
    obtain ⟨p, q, c, d, e1, e2, hz⟩ := h.size hr
    have en : ((o.n.toNat : Nat) : Int) = o.n := by omega
    have hv : o.val = obV o.k o.x (o.n.toNat : Nat) o.a o.l o.s := by rw [en]; rfl
    rw [hv]
    rw [← en] at q1 q2
    have hin : inCell (cels R) o = ((r.c.k == o.k) && decide (o.a + o.l ≤ (r.c.size : Int))) := by
      rw [inCell, h.cellOf hr, cels_length]
      simp [hn]
      by_cases e : r.c.k = o.k <;> simp [e]
    rw [show mayH (cels R) o = ((r.c.k == o.k) && decide (o.a + o.l ≤ (r.c.size : Int))) from by simp [mayH, hm, hc, hin]]
    cases hk : r.c.k == o.k
    · exact rmayH_kind rb g R.length cap o.n.toNat r.c.k r.it r.bs r.c.lk o.k o.a o.l o.x o.s w (by omega) h0 d0 d1 d2 d3 q1 q2 hk
    · refine rmayH_cell rb g R.length cap o.n.toNat r.c.k r.it r.bs r.c.lk o.k o.a o.l o.x o.s w (by omega) h0 d0 d1 d2 d3 q1 q2 hk r.c.size _ (IntWalk.i64_in _ (by omega)) (by rw [Bool.true_and]) (Lib.hid fun wx => ?_)
      rw [e1, e2]
      refine rcsize_any r.c.k p q r.c.it.length c r.c.bs.length d r.c.size r.c.lk wx ?_
      unfold Cel.size at hz ⊢
      rw [IntWalk.i64_in _ (by omega)]
      omega
  · obtain ⟨p, cap, ev, _⟩ := h.row.form
    rw [ev] at h0
    rw [show mayH (cels R) o = false from by simp [mayH, hm, hc, inCell, cels_length]; omega]
    exact rmayH_far rb R.length cap p o.k o.n o.a o.l o.x o.s w hn h0 q1 q2
end
end Go.Proofs.Ytmlkmgeddkpgiaa

/- Walks of tympanref11: room, Size, Used. -/
namespace Go.Proofs.Ytmlkmgeddkpgiaa
open Go.RowKit
set_option linter.unusedVariables false
set_option maxHeartbeats 1000000
set_option maxRecDepth 100000

theorem room_type (rb : Nat) (k n a l : Int) (x : Bool) (s : ByteArray) (w : World)
    (h2 : Hid (∀ wx, Calls Try.prog 101 #[obV k x n a l s] wx fun e w' => e = .returned (.bool false) ∧ Below wx.heap.size wx w')) :
    Calls Try.prog 73 #[ptr rb, obV k x n a l s] w fun e w' => e = .returned (.tuple #[.int .i64 0, .int .i64 0, .int .i64 6]) ∧ Below w.heap.size w w' := by
  go_enter Try.func73, Try.ntmps73
  go_upto_region 1 with fail
  obtain ⟨wb, eb, kb, zb, c0, c1, c2, c3, c4, c5⟩ := ob_box w k n a l x s
  rw [eb]
  go_wp2_with fail
  refine (h2.out _).mono ?_
  rintro e wc ⟨rfl, kc⟩
  have KC := Lib.hid (below_and kb kc)
  clear eb kb kc c0 c1 c2 c3 c4 c5
  go_wp2
  go_ret3
  exact ⟨rfl, KC.out⟩
theorem room_arg (rb : Nat) (k n a l : Int) (x : Bool) (s : ByteArray) (w : World)
    (h2 : Hid (∀ wx, Calls Try.prog 101 #[obV k x n a l s] wx fun e w' => e = .returned (.bool true) ∧ Below wx.heap.size wx w'))
    (h1 : Hid (∀ wx, Below w.heap.size w wx → Calls Try.prog 74 #[ptr rb, obV k x n a l s] wx fun e w' => e = .returned (.bool false) ∧ Below wx.heap.size wx w')) :
    Calls Try.prog 73 #[ptr rb, obV k x n a l s] w fun e w' => e = .returned (.tuple #[.int .i64 0, .int .i64 0, .int .i64 1]) ∧ Below w.heap.size w w' := by
  go_enter Try.func73, Try.ntmps73
  go_upto_region 1 with fail
  obtain ⟨wb, eb, kb, zb, oa⟩ := ob_box w k n a l x s
  rw [eb]
  have OA := Lib.hid oa
  obtain ⟨c0, c1, c2, c3, c4, c5⟩ := oa
  go_wp2_with fail
  refine (h2.out _).mono ?_
  rintro e wc ⟨rfl, kc⟩
  have KC := Lib.hid (below_and kb kc)
  have OC := OA.out.later kc
  clear eb kb kc c0 c1 c2 c3 c4 c5
  obtain ⟨c0, c1, c2, c3, c4, c5⟩ := OC
  go_wp2_with fail
  refine (h1.out _ KC.out).mono ?_
  rintro e wd ⟨rfl, kd⟩
  have KD := Lib.hid (below_and KC.out kd)
  clear kd c0 c1 c2 c3 c4 c5
  go_wp2
  go_ret3
  exact ⟨rfl, KD.out⟩
theorem room_plain (rb : Nat) (k n a l : Int) (x : Bool) (s : ByteArray) (w : World) (hk : (k == 10) = false)
    (h2 : Hid (∀ wx, Calls Try.prog 101 #[obV k x n a l s] wx fun e w' => e = .returned (.bool true) ∧ Below wx.heap.size wx w'))
    (h1 : Hid (∀ wx, Below w.heap.size w wx → Calls Try.prog 74 #[ptr rb, obV k x n a l s] wx fun e w' => e = .returned (.bool true) ∧ Below wx.heap.size wx w')) :
    Calls Try.prog 73 #[ptr rb, obV k x n a l s] w fun e w' => e = .returned (.tuple #[.int .i64 a, .int .i64 l, .int .i64 0]) ∧ Below w.heap.size w w' := by
  go_enter Try.func73, Try.ntmps73
  go_upto_region 1 with fail
  obtain ⟨wb, eb, kb, zb, oa⟩ := ob_box w k n a l x s
  rw [eb]
  have OA := Lib.hid oa
  obtain ⟨c0, c1, c2, c3, c4, c5⟩ := oa
  go_wp2_with fail
  refine (h2.out _).mono ?_
  rintro e wc ⟨rfl, kc⟩
  have KC := Lib.hid (below_and kb kc)
  have OC := Lib.hid (OA.out.later kc)
  clear eb kb kc c0 c1 c2 c3 c4 c5
  obtain ⟨c0, c1, c2, c3, c4, c5⟩ := OC.out
  go_wp2_with fail
  refine (h1.out _ KC.out).mono ?_
  rintro e wd ⟨rfl, kd⟩
  have KD := Lib.hid (below_and KC.out kd)
  have OD := OC.out.later kd
  clear kd c0 c1 c2 c3 c4 c5
  obtain ⟨c0, c1, c2, c3, c4, c5⟩ := OD
  go_wp2_with fail
  go_quiet (fail)
  go_wp2
  go_ret3
  exact ⟨rfl, below_and KD.out (below_drewN _ _)⟩
theorem room_dict (rb g z cap i m c : Nat) (p : Option Addr) (a l : Int) (x : Bool) (s : ByteArray) (w : World) (hi : i < z) (h0 : w.cell? ⟨rb, 0, none⟩ = some (.slice (some ⟨g, 0, none⟩) z cap)) (d1 : w.cell? ⟨g, i * 4 + 1, none⟩ = some (.slice p m c))
    (h2 : Hid (∀ wx, Calls Try.prog 101 #[obV 10 x i a l s] wx fun e w' => e = .returned (.bool true) ∧ Below wx.heap.size wx w'))
    (h1 : Hid (∀ wx, Below w.heap.size w wx → Calls Try.prog 74 #[ptr rb, obV 10 x i a l s] wx fun e w' => e = .returned (.bool true) ∧ Below wx.heap.size wx w')) :
    Calls Try.prog 73 #[ptr rb, obV 10 x i a l s] w fun e w' => e = .returned (.tuple #[.int .i64 0, .int .i64 m, .int .i64 0]) ∧ Below w.heap.size w w' := by
  have t0 : (0 : Int) ≤ i := by omega
  have t1 : (i : Int) < z := by omega
  have DD : Hid (w.cell? ⟨rb, 0, none⟩ = some (.slice (some ⟨g, 0, none⟩) z cap) ∧ w.cell? ⟨g, i * 4 + 1, none⟩ = some (.slice p m c)) := Lib.hid ⟨h0, d1⟩
  clear h0 d1
  go_enter Try.func73, Try.ntmps73
  go_upto_region 1 with fail
  obtain ⟨wb, eb, kb, zb, oa⟩ := ob_box w 10 i a l x s
  rw [eb]
  have OA := Lib.hid oa
  obtain ⟨c0, c1, c2, c3, c4, c5⟩ := oa
  go_wp2_with fail
  refine (h2.out _).mono ?_
  rintro e wc ⟨rfl, kc⟩
  have KC := Lib.hid (below_and kb kc)
  have OC := Lib.hid (OA.out.later kc)
  clear eb kb kc c0 c1 c2 c3 c4 c5
  obtain ⟨c0, c1, c2, c3, c4, c5⟩ := OC.out
  go_wp2_with fail
  refine (h1.out _ KC.out).mono ?_
  rintro e wd ⟨rfl, kd⟩
  have KD := Lib.hid (below_and KC.out kd)
  have OD := OC.out.later kd
  have h0 := cell_later KD.out DD.out.1
  have d1 := cell_later KD.out DD.out.2
  clear kd c0 c1 c2 c3 c4 c5
  obtain ⟨c0, c1, c2, c3, c4, c5⟩ := OD
  go_wp2_with fail
  go_quiet (fail)
  go_wp2
  go_ret3
  exact ⟨rfl, below_and KD.out (below_drewN _ _)⟩
section
variable {own : Nat → Prop} {rb : Nat} {v : Value} {R : List RC} {w : World}
theorem rroom_any (h : RH own rb v R w) (o : Ob) : Calls Try.prog 73 #[ptr rb, o.val] w fun e w' => e = .returned (.tuple #[.int .i64 (atO (cels R) o), .int .i64 (lenO (cels R) o), .int .i64 (errO (cels R) o)]) ∧ Below w.heap.size w w' := by
  have q2 := Lib.hid (fun wx => rcomp_any o.k o.n o.a o.l o.x o.s wx)
  have q1 : Hid (∀ wx, Below w.heap.size w wx → Calls Try.prog 74 #[ptr rb, o.val] wx fun e w' => e = .returned (.bool (mayH (cels R) o)) ∧ Below wx.heap.size wx w') := Lib.hid fun wx kx => rmayH_any (h.below kx) o
  cases hc : comp o.k
  · rw [show compP o.k = false from hc] at q2
    rw [show atO (cels R) o = 0 from by simp [atO, okO, hc], show lenO (cels R) o = 0 from by simp [lenO, okO, hc], show errO (cels R) o = 6 from by simp [errO, hc]]
    exact room_type rb o.k o.n o.a o.l o.x o.s w q2
  rw [show compP o.k = true from hc] at q2
  have hmo : mayH (cels R) o = okO (cels R) o := by simp [mayH, okO, hc]
  rw [hmo] at q1
  cases ho : okO (cels R) o
  · rw [ho] at q1
    rw [show atO (cels R) o = 0 from by simp [atO, ho], show lenO (cels R) o = 0 from by simp [lenO, ho], show errO (cels R) o = 1 from by simp [errO, hc, ho]]
    exact room_arg rb o.k o.n o.a o.l o.x o.s w q2 q1
  rw [ho] at q1
  obtain ⟨b0, b1, b2, b3, b4, b5, b6, b7, b8⟩ := ok_bd ho
  rw [errO_ok ho, show atO (cels R) o = o.a from by simp [atO, ho]]
  by_cases hk : o.k = 10
  · rw [cels_length] at b1
    obtain ⟨r, hr⟩ : ∃ r, R[o.n.toNat]? = some r := ⟨_, List.getElem?_eq_getElem (by omega)⟩
    obtain ⟨g, cap, ev, _, _, _, d0, d1, d2, d3⟩ := h.at hr
    have h0 := h.hcell
    rw [ev] at h0
    obtain ⟨p, q, c, d, e1, e2, hz⟩ := h.size hr
    rw [e1] at d1
    have en : ((o.n.toNat : Nat) : Int) = o.n := by omega
    have hv : o.val = obV 10 o.x (o.n.toNat : Nat) o.a o.l o.s := by rw [en, ← hk]; rfl
    rw [hv] at q1 ⊢
    rw [hk, ← en] at q2
    rw [h.cellOf hr, hk] at b6
    have hbs : r.c.bs = [] := by
      rcases h.wf.kind r.c (cell_mem (cels_get hr)) with ⟨q, _⟩ | ⟨_, q⟩
      · omega
      · exact q
    rw [(b8 hk).1, show lenO (cels R) o = (r.c.it.length : Int) from by simp [lenO, ho, hk, h.cellOf hr, Cel.size, hbs]]
    have := room_dict rb g R.length cap o.n.toNat r.c.it.length c p o.a o.l o.x o.s w (by omega) h0 d1 q2 q1
    rw [(b8 hk).1] at this
    exact this
  · rw [show lenO (cels R) o = o.l from by simp [lenO, ho, hk]]
    exact room_plain rb o.k o.n o.a o.l o.x o.s w (by simpa using hk) q2 q1
end
/-- The sizes of the first j cells. -/
def usedTo (R : List RC) (j : Nat) : Nat := usedP ((cels R).take j)
theorem usedTo_all (R : List RC) : usedTo R R.length = usedP (cels R) := by
  rw [usedTo, List.take_of_length_le (by rw [cels_length]; exact Nat.le_refl _)]
theorem usedTo_succ {R : List RC} {j : Nat} {r : RC} (h : R[j]? = some r) : usedTo R (j + 1) = usedTo R j + r.c.size := by
  unfold usedTo usedP
  rw [List.take_add_one, cels_get h]
  simp
theorem usedTo_le (R : List RC) (j : Nat) : usedTo R j ≤ usedP (cels R) := by
  have : usedP (cels R) = usedP ((cels R).take j) + usedP ((cels R).drop j) := by
    unfold usedP
    rw [← List.sum_append, ← List.map_append, List.take_append_drop]
  unfold usedTo
  omega
theorem rused_any {own : Nat → Prop} {rb : Nat} {v : Value} {R : List RC} {w : World} (h : RH own rb v R w) : Calls Try.prog 25 #[ptr rb] w fun e w' => e = .returned (.int .i64 (usedP (cels R))) ∧ Below w.heap.size w w' := by
  have H := Lib.hid h
  have HL : Hid (R.length ≤ 2000) := Lib.hid (by have := h.wf.len; rw [cels_length] at this; exact this)
  obtain ⟨p, cap, rfl, _⟩ := h.row.form
  clear h
  go_enter Try.func25, Try.ntmps25
  go_wp2
  go_loopw [3, 4] (fun n i wr => ∃ j : Nat, j ≤ R.length ∧ i = .int .i64 j ∧ n = .int .i64 (usedTo R j) ∧ Below w.heap.size w wr) (fun _ i _ => R.length - (intOf i).toNat)
  case atStart => exact ⟨0, Nat.zero_le _, rfl, rfl, Below.refl _ _⟩
  case round =>
    obtain ⟨j, hj, rfl, rfl, hb⟩ := hrel
    have HB := Lib.hid hb
    have h0 := (H.out.below hb).hcell
    clear hb
    by_cases hlt : j < R.length
    · obtain ⟨r, hr⟩ : ∃ r, R[j]? = some r := ⟨_, List.getElem?_eq_getElem hlt⟩
      obtain ⟨g, cap', ev, _, _, _, d0, d1, d2, d3⟩ := (H.out.below HB.out).at hr
      obtain ⟨rfl, rfl⟩ : p = some ⟨g, 0, none⟩ ∧ cap = cap' := by simpa using ev
      obtain ⟨p1, p2, c1, c2, e1, e2, hz⟩ := H.out.size hr
      have HR := Lib.hid hr
      have HT := Lib.hid hlt
      have t1 : (j : Int) < R.length := by omega
      have t0 : (0 : Int) ≤ j := by omega
      have hu := usedTo_succ hr
      have hu2 := usedTo_le R (j + 1)
      have hu3 := H.out.wf.used
      have e3 : IntKind.i64.wrap ((usedTo R j : Int) + (r.c.size : Int)) = ((usedTo R (j + 1) : Nat) : Int) := by rw [IntWalk.i64_in _ (by omega)]; omega
      have E3 := Lib.hid e3
      have hsz : IntKind.i64.wrap ((r.c.it.length : Int) + (r.c.bs.length : Int)) = (r.c.size : Nat) := by unfold Cel.size at hz ⊢; rw [IntWalk.i64_in _ (by omega)]; omega
      have HC := Lib.hid (fun wx => rcsize_any r.c.k p1 p2 r.c.it.length c1 r.c.bs.length c2 r.c.size r.c.lk wx hsz)
      rw [e1] at d1
      rw [e2] at d2
      clear hr hlt ev hu hu2 hu3 e3 hsz hz e1 e2
      go_wp2_with fail
      refine (HC.out _).mono ?_
      rintro e wb ⟨rfl, kb⟩
      have KB := Lib.hid (below_and HB.out kb)
      have e3 := E3.out
      clear kb h0 d0 d1 d2 d3
      go_wp2
      go_roundw
      case rel => exact ⟨j + 1, HT.out, congrArg (Value.int .i64) (wrap64_step j HL.out HT.out), by first | rfl | exact congrArg (Value.int .i64) E3.out, KB.out⟩
      case measure => exact measure_up R.length j _ (wrap64_step j HL.out HT.out) HT.out
    · have e : j = R.length := by omega
      subst e
      have t1 : ¬ ((R.length : Int) < R.length) := by omega
      rw [usedTo_all]
      go_wp2
      go_ret
      exact ⟨rfl, HB.out⟩
end Go.Proofs.Ytmlkmgeddkpgiaa

/- How the saves of layer 13 lie in memory, beside a heap and its copies. -/
namespace Go.Proofs.Ytmlkmgeddkpgiaa
open Go.RowKit
set_option linter.unusedVariables false

/-- An open save: its number, the block of its copy, the copy's cells. -/
structure Sv where
  n : Nat
  g : Nat
  q : List Cel
def svOb (n : Nat) : Ob := ⟨11, false, n, 0, 0, ⟨#[]⟩⟩
abbrev svC (n : Int) (g : Nat) : List Value := [.int .i64 11, .bool false, .int .i64 n, .int .i64 0, .int .i64 0, .string ⟨#[]⟩, ptr g]
def svG (L : List Sv) : List (Nat × List Cel) := L.map fun s => (s.g, s.q)
structure SAt (w : World) (sb : Nat) (L : List Sv) (last : Nat) : Prop where
  len : L.length ≤ 10
  there : w.there sb 0 72
  ents : ∀ (i : Nat) (s : Sv), L[i]? = some s → w.rangeAt sb (i * 7) (svC s.n s.g)
  count : w.cell? ⟨sb, 70, none⟩ = some (.int .i64 L.length)
  last : w.cell? ⟨sb, 71, none⟩ = some (.int .i64 last)
  lt : sb < w.heap.size
section
variable {own : Nat → Prop} {hb sb last : Nat} {P P' : List Cel} {L : List Sv} {w w' : World}
theorem SAt.same (h : SAt w sb L last) (k : w'.heap[sb]? = w.heap[sb]?) (hs : w.heap.size ≤ w'.heap.size) : SAt w' sb L last := by
  have c : ∀ j, w'.cell? ⟨sb, j, none⟩ = w.cell? ⟨sb, j, none⟩ := fun j => World.cell?_of_block (w := w) k
  have f : ∀ j, w'.frozen? ⟨sb, j, none⟩ = w.frozen? ⟨sb, j, none⟩ := fun j => World.frozen?_of_block (w := w) k
  refine ⟨h.len, fun j hj => ?_, fun i s hi j v hv => ?_, ?_, ?_, Nat.lt_of_lt_of_le h.lt hs⟩
  · rw [c, f]
    exact h.there j hj
  · rw [c]
    exact h.ents i s hi j v hv
  · rw [c]
    exact h.count
  · rw [c]
    exact h.last
theorem SAt.drew (h : SAt w sb L last) : SAt w.drew sb L last := h.same rfl (Nat.le_refl _)
/-- The heap, the copies of its open saves, the saves; the blocks 'own' are none of theirs. -/
structure SH (own : Nat → Prop) (hb : Nat) (P : List Cel) (sb : Nat) (L : List Sv) (last : Nat) (w : World) : Prop where
  many : Many (fun b => own b ∨ b = sb) hb P (svG L) w
  sat : SAt w sb L last
  nown : ¬ own sb
theorem SH.sub {own' : Nat → Prop} (h : SH own hb P sb L last w) (k : ∀ b, own' b → own b) : SH own' hb P sb L last w :=
  ⟨h.many.sub fun b q => q.imp (k b) id, h.sat, fun q => h.nown (k _ q)⟩
theorem SH.below (h : SH own hb P sb L last w) (k : Below w.heap.size w w') : SH own hb P sb L last w' ∧ Kept own w w' := by
  obtain ⟨m, q⟩ := h.many.below k
  exact ⟨⟨m, h.sat.same (k.block _ h.sat.lt) k.size, h.nown⟩, q.sub fun b => .inl⟩
theorem SH.box (h : SH own hb P sb L last w) (o : Obj) : SH (fun b => own b ∨ b = w.heap.size) hb P sb L last (w.alloc o) := by
  refine ⟨(h.many.box o).sub fun b q => ?_, h.sat.same ((box_below w o).block _ h.sat.lt) (box_below w o).size, fun q => ?_⟩
  · rcases q with (q | q) | q
    · exact .inl (.inl q)
    · exact .inr q
    · exact .inl (.inr q)
  · rcases q with q | q
    · exact h.nown q
    · have := h.sat.lt
      omega
theorem SH.box_ob (h : SH own hb P sb L last w) (k : Int) (x : Bool) (n a l : Int) (s : ByteArray) :
    ∃ w', w.alloc (.cells #[.int .i64 k, .bool x, .int .i64 n, .int .i64 a, .int .i64 l, .string s] 24) = w' ∧ SH (fun b => own b ∨ b = w.heap.size) hb P sb L last w' ∧ Kept own w w' ∧ w'.heap[w.heap.size]? = some (obObj k x n a l s) :=
  ⟨_, rfl, h.box _, (h.below (box_below _ _)).2, heap_alloc_new _ _⟩
/-- Whatever is said of the heap by Sep and Kept holds beside its saves. -/
theorem SH.lift (h : SH own hb P sb L last w) : ∃ own' : Nat → Prop, Sep own' hb P w ∧ (∀ b, own b → own' b) ∧ ∀ P' w', Sep own' hb P' w' → Kept own' w w' → SH own hb P' sb L last w' := by
  obtain ⟨own', s, ho, hl⟩ := h.many.lift
  exact ⟨own', s, fun b q => ho b (.inl q), fun P' w' s' k => ⟨hl P' w' s' k, h.sat.same (k.block _ (ho _ (.inr rfl))) k.size, h.nown⟩⟩
theorem SH.lt (h : SH own hb P sb L last w) {b : Nat} (q : own b) : b < w.heap.size := by
  obtain ⟨role, _, _, h3⟩ := h.many
  exact (h3 b (.inl q)).1

theorem svG_get {i : Nat} {s : Sv} (h : L[i]? = some s) : (svG L)[i]? = some (s.g, s.q) := by simp [svG, h]
theorem svG_append (s : Sv) : svG (L ++ [s]) = svG L ++ [(s.g, s.q)] := by simp [svG]
theorem svG_take (n : Nat) : svG (L.take n) = (svG L).take n := by simp [svG, List.map_take]

/-- Which open save an object is. -/
def atS (L : List Sv) (o : Ob) : Option Nat := L.findIdx? fun s => sameO 11 s.n 0 0 ⟨#[]⟩ o.k o.n o.a o.l o.s
theorem same_sv (n : Nat) (o : Ob) : sameO 11 n 0 0 ⟨#[]⟩ o.k o.n o.a o.l o.s = decide (o.k = 11 ∧ o.n = n ∧ o.a = 0 ∧ o.l = 0 ∧ o.s = ⟨#[]⟩) := by
  have : numO 11 n 0 0 ⟨#[]⟩ = false := by simp [numO]
  unfold sameO
  rw [this]
  simp only [Bool.false_eq_true, false_and, if_false]
  apply decide_eq_decide.2
  constructor <;> (rintro ⟨h1, h2, h3, h4, h5⟩; exact ⟨h1.symm, h2.symm, h3.symm, h4.symm, h5.symm⟩)
end
theorem only_cells (b : Nat) : ∀ (vs : List Value) (o : Nat) (w : World), Only b w (w.setCells b o vs)
  | [], _, w => Only.refl b w
  | v :: vs, o, w => by
    have q := only_cells b vs (o + 1) (w.setCell ⟨b, o, none⟩ v)
    have r := (Only.refl b w).set o v
    exact ⟨q.os.trans r.os, q.tape.trans r.tape, q.output.trans r.output, q.size.trans r.size, fun k hk => (q.block k hk).trans (r.block k hk)⟩
theorem Only.trans {b : Nat} {w0 w1 w2 : World} (r : Only b w0 w1) (q : Only b w1 w2) : Only b w0 w2 := ⟨q.os.trans r.os, q.tape.trans r.tape, q.output.trans r.output, q.size.trans r.size, fun k hk => (q.block k hk).trans (r.block k hk)⟩
theorem Many.only {own : Nat → Prop} {hb A : Nat} {P : List Cel} {gs : List (Nat × List Cel)} {w w' : World} (h : Many own hb P gs w) (hA : own A) (k : Only A w w') : Many own hb P gs w' := by
  obtain ⟨role, h1, h2, h3⟩ := h
  refine ⟨role, h1.only k (by rw [(h3 A hA).2]; decide), fun i g hg => (h2 i g hg).only k (by rw [(h3 A hA).2]; simp), fun b hb => ⟨by rw [k.size]; exact (h3 b hb).1, (h3 b hb).2⟩⟩
theorem kept_only {own : Nat → Prop} {A : Nat} {w w' : World} (k : Only A w w') (hA : ¬ own A) : Kept own w w' :=
  ⟨k.os, k.tape, k.output, by rw [k.size]; exact Nat.le_refl _, fun b hb => k.block b fun e => hA (e ▸ hb)⟩
section
variable {sb last : Nat} {L : List Sv} {w : World}
theorem SAt.put70 (h : SAt w sb L last) (M : List Sv) (hM : M.length ≤ 10) (he : ∀ i s, M[i]? = some s → w.rangeAt sb (i * 7) (svC s.n s.g)) : SAt (w.setCell ⟨sb, 70, none⟩ (.int .i64 M.length)) sb M last := by
  have on : Only sb w (w.setCell ⟨sb, 70, none⟩ (.int .i64 M.length)) := (Only.refl sb w).set 70 _
  refine ⟨hM, World.there_setCells h.there sb 70 [_], fun i s hi => ?_, World.cell?_setCell_same _ _ _ h.count, ?_, by rw [on.size]; exact h.lt⟩
  · have hl := (List.getElem?_eq_some_iff.1 hi).1
    exact World.rangeAt_setCells_apart (he i s hi) sb 70 [.int .i64 M.length] (.inr (.inl (by show i * 7 + 7 ≤ 70; omega)))
  · rw [World.cell?_setCell_other _ _ _ _ (by simp)]
    exact h.last
theorem SAt.put71 (h : SAt w sb L last) (m : Nat) : SAt (w.setCell ⟨sb, 71, none⟩ (.int .i64 m)) sb L m := by
  have on : Only sb w (w.setCell ⟨sb, 71, none⟩ (.int .i64 m)) := (Only.refl sb w).set 71 _
  refine ⟨h.len, World.there_setCells h.there sb 71 [_], fun i s hi => ?_, ?_, World.cell?_setCell_same _ _ _ h.last, by rw [on.size]; exact h.lt⟩
  · have hl := (List.getElem?_eq_some_iff.1 hi).1
    have := h.len
    exact World.rangeAt_setCells_apart (h.ents i s hi) sb 71 [.int .i64 m] (.inr (.inl (by show i * 7 + 7 ≤ 71; omega)))
  · rw [World.cell?_setCell_other _ _ _ _ (by simp)]
    exact h.count
/-- Other cells of the entries from the a-th on. -/
theorem SAt.putE (h : SAt w sb L last) (a : Nat) (vs : List Value) (hv : a * 7 + vs.length ≤ 70) :
    (w.setCells sb (a * 7) vs).there sb 0 72 ∧ (∀ i s, i < a → L[i]? = some s → (w.setCells sb (a * 7) vs).rangeAt sb (i * 7) (svC s.n s.g)) ∧ (w.setCells sb (a * 7) vs).cell? ⟨sb, 70, none⟩ = some (.int .i64 L.length) ∧ (w.setCells sb (a * 7) vs).cell? ⟨sb, 71, none⟩ = some (.int .i64 last) ∧ sb < (w.setCells sb (a * 7) vs).heap.size := by
  refine ⟨World.there_setCells h.there sb _ _, fun i s hi hs => World.rangeAt_setCells_apart (h.ents i s hs) sb _ _ (.inr (.inl (by show i * 7 + 7 ≤ a * 7; omega))), ?_, ?_, by rw [(only_cells sb vs (a * 7) w).size]; exact h.lt⟩
  · rw [World.cell?_setCells_out sb vs _ w _ (fun _ _ => .inr (by show a * 7 + vs.length ≤ 70; omega))]
    exact h.count
  · rw [World.cell?_setCells_out sb vs _ w _ (fun _ _ => .inr (by show a * 7 + vs.length ≤ 71; omega))]
    exact h.last
theorem SAt.push (h : SAt w sb L last) (hl : L.length < 10) (n g : Nat) (q : List Cel) : SAt ((w.setCells sb (L.length * 7) (svC n g)).setCell ⟨sb, 70, none⟩ (.int .i64 ((L.length + 1 : Nat) : Int))) sb (L ++ [⟨n, g, q⟩]) last := by
  obtain ⟨h1, h2, h3, h4, h5⟩ := h.putE L.length (svC n g) (by show L.length * 7 + 7 ≤ 70; omega)
  have hM : (L ++ [(⟨n, g, q⟩ : Sv)]).length = L.length + 1 := by simp
  have := SAt.put70 (L := L) ⟨h.len, h1, fun i s hs => h2 i s (List.getElem?_eq_some_iff.1 hs).1 hs, h3, h4, h5⟩ (L ++ [⟨n, g, q⟩]) (by omega) (fun i s hs => ?_)
  · rw [hM] at this
    exact this
  · rw [List.getElem?_append] at hs
    split at hs
    · next hi => exact h2 i s hi hs
    · next hi =>
      have hi' : i = L.length := by
        have := (List.getElem?_eq_some_iff.1 hs).1
        simp at this
        omega
      subst hi'
      obtain rfl : (⟨n, g, q⟩ : Sv) = s := by simpa using hs
      exact World.rangeAt_setCells_same w sb _ _ fun j hj => by
        have := h.there (L.length * 7 + j) (by simp at hj; omega)
        simpa using this
theorem SAt.cut (h : SAt w sb L last) (a : Nat) (ha : a ≤ L.length) (vs : List Value) (hv : a * 7 + vs.length ≤ 70) : SAt ((w.setCells sb (a * 7) vs).setCell ⟨sb, 70, none⟩ (.int .i64 a)) sb (L.take a) last := by
  obtain ⟨h1, h2, h3, h4, h5⟩ := h.putE a vs hv
  have hM : (L.take a).length = a := by rw [List.length_take]; omega
  have h' : SAt ((w.setCells sb (a * 7) vs).setCell ⟨sb, 70, none⟩ (.int .i64 (L.take a).length)) sb (L.take a) last := by
    have on : Only sb (w.setCells sb (a * 7) vs) ((w.setCells sb (a * 7) vs).setCell ⟨sb, 70, none⟩ (.int .i64 (L.take a).length)) := (Only.refl sb _).set 70 _
    refine ⟨by have := h.len; omega, World.there_setCells h1 sb 70 [_], fun i s hi => ?_, World.cell?_setCell_same _ _ _ h3, ?_, by rw [on.size]; exact h5⟩
    · have hl := (List.getElem?_eq_some_iff.1 hi).1
      rw [List.getElem?_take_of_lt (by omega)] at hi
      exact World.rangeAt_setCells_apart (h2 i s (by omega) hi) sb 70 [.int .i64 (L.take a).length] (.inr (.inl (by show i * 7 + 7 ≤ 70; have := h.len; omega)))
    · rw [World.cell?_setCell_other _ _ _ _ (by simp)]
      exact h4
  rw [hM] at h'
  exact h'
end
end Go.Proofs.Ytmlkmgeddkpgiaa

/- Walks of save: New, Len, find. -/
namespace Go.Proofs.Ytmlkmgeddkpgiaa
open Go.RowKit
set_option linter.unusedVariables false

section
variable {L : List Sv} {o : Ob}
theorem atS_none (h : ∀ (i : Nat) (s : Sv), L[i]? = some s → sameO 11 s.n 0 0 ⟨#[]⟩ o.k o.n o.a o.l o.s = false) : atS L o = none := by
  rw [atS, List.findIdx?_eq_none_iff]
  intro s hs
  obtain ⟨i, hi⟩ := List.mem_iff_getElem?.1 hs
  exact h i s hi
theorem atS_some {j : Nat} {s : Sv} (hj : L[j]? = some s) (hs : sameO 11 s.n 0 0 ⟨#[]⟩ o.k o.n o.a o.l o.s = true) (h : ∀ (i : Nat) (s : Sv), i < j → L[i]? = some s → sameO 11 s.n 0 0 ⟨#[]⟩ o.k o.n o.a o.l o.s = false) : atS L o = some j := by
  rw [atS, List.findIdx?_eq_some_iff_getElem]
  obtain ⟨hl, he⟩ := List.getElem?_eq_some_iff.1 hj
  refine ⟨hl, by rw [he]; exact hs, fun i hi => ?_⟩
  rw [h i L[i] hi (List.getElem?_eq_getElem (by omega))]
  decide
theorem atS_lt {j : Nat} (h : atS L o = some j) : j < L.length := by
  rw [atS, List.findIdx?_eq_some_iff_getElem] at h
  exact h.1
end

structure FindSt (L : List Sv) (sb last A : Nat) (o : Ob) (w wr : World) (j : Nat) : Prop where
  le : j ≤ L.length
  no : ∀ (i : Nat) (s : Sv), i < j → L[i]? = some s → sameO 11 s.n 0 0 ⟨#[]⟩ o.k o.n o.a o.l o.s = false
  sat : SAt wr sb L last
  ob : ObAt wr A o.k o.x o.n o.a o.l o.s
  below : Below w.heap.size w wr

theorem sv_box (w : World) (n : Int) (g : Nat) : ∃ wb, w.alloc (.cells #[.int .i64 11, .bool false, .int .i64 n, .int .i64 0, .int .i64 0, .string ⟨#[]⟩, ptr g] 132) = wb ∧ Below w.heap.size w wb ∧ wb.heap.size = w.heap.size + 1 ∧ ObAt wb w.heap.size 11 false n 0 0 ⟨#[]⟩ :=
  ⟨_, rfl, (Below.refl _ w).alloc (Nat.le_refl _) _, by simp, by simp [ObAt]⟩
theorem ent_cells {w : World} {sb last : Nat} {L : List Sv} (h : SAt w sb L last) {i : Nat} {s : Sv} (hi : L[i]? = some s) :
    w.cell? ⟨sb, i * 7, none⟩ = some (.int .i64 11) ∧ w.cell? ⟨sb, i * 7 + 1, none⟩ = some (.bool false) ∧ w.cell? ⟨sb, i * 7 + 2, none⟩ = some (.int .i64 s.n) ∧ w.cell? ⟨sb, i * 7 + 3, none⟩ = some (.int .i64 0) ∧ w.cell? ⟨sb, i * 7 + 4, none⟩ = some (.int .i64 0) ∧ w.cell? ⟨sb, i * 7 + 5, none⟩ = some (.string ⟨#[]⟩) ∧ w.cell? ⟨sb, i * 7 + 6, none⟩ = some (ptr s.g) :=
  ⟨h.ents i s hi 0 _ rfl, h.ents i s hi 1 _ rfl, h.ents i s hi 2 _ rfl, h.ents i s hi 3 _ rfl, h.ents i s hi 4 _ rfl, h.ents i s hi 5 _ rfl, h.ents i s hi 6 _ rfl⟩

set_option maxHeartbeats 1000000 in
set_option maxRecDepth 100000 in
theorem svfind_walk (sb last : Nat) (L : List Sv) (k : Int) (x : Bool) (n a l : Int) (s : ByteArray) (w : World) (h : Hid (SAt w sb L last)) :
    Calls Try.prog 96 #[ptr sb, obV k x n a l s] w fun e w' => e = .returned (.tuple #[.int .i64 ((atS L ⟨k, x, n, a, l, s⟩).getD 0 : Nat), .bool (atS L ⟨k, x, n, a, l, s⟩).isSome]) ∧ Below w.heap.size w w' := by
  go_enter Try.func96, Try.ntmps96
  go_wp2_with fail
  obtain ⟨wb, eb, kb, zb, ob⟩ := ob_box w k n a l x s
  rw [eb]
  have h1 := h.out.same (kb.block _ h.out.lt) kb.size
  have c70 := h1.count
  have hle : (L.length : Int) ≤ 10 := by have := h1.len; omega
  have hge : (0 : Int) ≤ L.length := by omega
  have F0 : Hid (FindSt L sb last w.heap.size ⟨k, x, n, a, l, s⟩ w wb 0) := Lib.hid ⟨Nat.zero_le _, fun i s hi => by omega, h1, ob, kb⟩
  clear eb kb zb ob h1
  go_quiet (fail)
  have F1 : Hid (FindSt L sb last w.heap.size ⟨k, x, n, a, l, s⟩ w (wb.drewN nq) 0) := Lib.hid ⟨F0.out.le, F0.out.no, F0.out.sat.same rfl (Nat.le_refl _), F0.out.ob, below_and F0.out.below (below_drewN _ _)⟩
  generalize wb.drewN nq = wq at F1
  clear F0 c70
  go_wp2
  go_loopw [19] (fun i wr => ∃ j : Nat, i = .int .i64 j ∧ FindSt L sb last w.heap.size ⟨k, x, n, a, l, s⟩ w wr j) (fun i _ => L.length - (intOf i).toNat)
  case atStart => exact ⟨0, rfl, F1.out⟩
  case round =>
    obtain ⟨j, rfl, fj⟩ := hrel
    have FJ := Lib.hid fj
    clear fj F1 hle hge
    by_cases hlt : j < L.length
    · obtain ⟨t, ht⟩ : ∃ t, L[j]? = some t := ⟨_, List.getElem?_eq_getElem hlt⟩
      have HT := Lib.hid ht
      have HL := Lib.hid hlt
      obtain ⟨c0, c1, c2, c3, c4, c5, c6⟩ := ent_cells FJ.out.sat ht
      obtain ⟨d0, d1, d2, d3, d4, d5⟩ := FJ.out.ob
      have h1 : (j : Int) < L.length := by omega
      have h2 : (0 : Int) ≤ j := by omega
      clear ht
      go_upto_region 6 with fail
      obtain ⟨wc, ec, kc, zc, oc⟩ := sv_box wr t.n t.g
      rw [ec]
      have FC : Hid (FindSt L sb last w.heap.size ⟨k, x, n, a, l, s⟩ w wc j) := Lib.hid ⟨FJ.out.le, FJ.out.no, FJ.out.sat.same (kc.block _ FJ.out.sat.lt) kc.size, FJ.out.ob.later kc, below_and FJ.out.below kc⟩
      clear c0 c1 c2 c3 c4 c5 c6 d0 d1 d2 d3 d4 d5 ec kc zc
      obtain ⟨c0, c1, c2, c3, c4, c5⟩ := oc
      obtain ⟨d0, d1, d2, d3, d4, d5⟩ := FC.out.ob
      obtain ⟨r, hr⟩ : ∃ r, sameO 11 t.n 0 0 ⟨#[]⟩ k n a l s = r := ⟨_, rfl⟩
      have HR := Lib.hid hr
      clear hr
      cases r
      · go_wp2_with fail
        refine (same_any 11 t.n 0 0 k n a l false x ⟨#[]⟩ s wc).mono ?_
        rintro e wd ⟨rfl, kd⟩
        rw [HR.out]
        have FD : Hid (FindSt L sb last w.heap.size ⟨k, x, n, a, l, s⟩ w wd (j + 1)) := Lib.hid ⟨HL.out, fun i s' hi hs => by
          by_cases e : i = j
          · subst e
            rw [HT.out] at hs
            obtain rfl : t = s' := by simpa using hs
            exact HR.out
          · exact FC.out.no i s' (by omega) hs, FC.out.sat.same (kd.block _ FC.out.sat.lt) kd.size, FC.out.ob.later kd, below_and FC.out.below kd⟩
        have e1 : IntKind.i64.wrap ((j : Int) + 1) = ((j + 1 : Nat) : Int) := by rw [IntWalk.i64_in _ (by have := FC.out.sat.len; have := HL.out; omega)]; omega
        clear kd c0 c1 c2 c3 c4 c5 d0 d1 d2 d3 d4 d5
        go_wp2
        go_roundw
        case rel => exact ⟨j + 1, by congr 1, FD.out⟩
        case measure => exact measure_up L.length j _ rfl HL.out
      · go_wp2_with fail
        refine (same_any 11 t.n 0 0 k n a l false x ⟨#[]⟩ s wc).mono ?_
        rintro e wd ⟨rfl, kd⟩
        rw [HR.out]
        have KD := Lib.hid (below_and FC.out.below kd)
        clear kd c0 c1 c2 c3 c4 c5 d0 d1 d2 d3 d4 d5
        go_wp2
        have ha : atS L ⟨k, x, n, a, l, s⟩ = some j := atS_some HT.out HR.out FC.out.no
        go_ret2
        exact ⟨by rw [ha]; rfl, KD.out⟩
    · have ha : atS L ⟨k, x, n, a, l, s⟩ = none := atS_none fun i s' hs => FJ.out.no i s' (by have := (List.getElem?_eq_some_iff.1 hs).1; omega) hs
      have h1 : ¬ ((j : Int) < L.length) := by omega
      go_wp2
      go_ret2
      exact ⟨rfl, FJ.out.below⟩
end Go.Proofs.Ytmlkmgeddkpgiaa

/- Walks of save: New, Len, Newer. -/
namespace Go.Proofs.Ytmlkmgeddkpgiaa
open Go.RowKit
set_option linter.unusedVariables false

theorem svLen {w : World} {sb last : Nat} {L : List Sv} (h : SAt w sb L last) : Calls Try.prog 55 #[ptr sb] w fun e w' => e = .returned (.int .i64 L.length) ∧ w = w' := by
  have c := h.count
  go_enter Try.func55, Try.ntmps55
  go_wp2
  go_ret
  exact ⟨rfl, rfl⟩
set_option maxRecDepth 100000 in
theorem svNew_any (w : World) : Calls Try.prog 44 #[] w fun e w' => e = .returned (ptr w.heap.size) ∧ ∃ C : Array Value, w' = w.alloc (.cells C 135) ∧ C.size = 72 ∧ C[70]? = some (.int .i64 0) ∧ C[71]? = some (.int .i64 0) := by
  go_enter Try.func44, Try.ntmps44
  go_wp2
  go_ret
  exact ⟨rfl, _, rfl, by kernel_rfl, by kernel_rfl, by kernel_rfl⟩
theorem SH.start {own : Nat → Prop} {hb : Nat} {P : List Cel} {w : World} (h : Sep own hb P w) (C : Array Value) (h1 : C.size = 72) (h2 : C[70]? = some (.int .i64 0)) (h3 : C[71]? = some (.int .i64 0)) :
    SH own hb P w.heap.size [] 0 (w.alloc (.cells C 135)) ∧ Kept own w (w.alloc (.cells C 135)) := by
  have hb' := heap_alloc_new w (.cells C 135)
  have hn : ¬ own w.heap.size := fun q => by
    obtain ⟨role, _, h2⟩ := h
    have := (h2 _ q).1
    omega
  refine ⟨⟨(Many.of_sep h).box _, ⟨by simp, fun j hj => ⟨?_, ?_⟩, fun i s hi => by simp at hi, ?_, ?_, by simp⟩, hn⟩, ((Many.of_sep h).below (box_below _ _)).2⟩
  · rw [cellAt hb', Array.getElem?_eq_getElem (by omega)]
    rfl
  · rw [freeAt hb']
  · rw [cellAt hb', h2]
    rfl
  · rw [cellAt hb', h3]
    rfl
theorem svNew {own : Nat → Prop} {hb : Nat} {P : List Cel} {w : World} (h : Sep own hb P w) : Calls Try.prog 44 #[] w fun e w' => e = .returned (ptr w.heap.size) ∧ SH own hb P w.heap.size [] 0 w' ∧ Kept own w w' := by
  refine (svNew_any w).mono ?_
  rintro e w' ⟨rfl, C, rfl, h1, h2, h3⟩
  have := SH.start h C h1 h2 h3
  exact ⟨rfl, this.1, this.2⟩

/-- Newer. -/
def newS (L : List Sv) (o x : Ob) : Bool :=
  match atS L o with
  | none => false
  | some i => if x.k = 9 ∨ x.k = 8 ∨ x.k = 10 then decide ((((L[i]?.map fun s => s.q.length).getD 0 : Nat) : Int) ≤ x.n) else decide (x.k = 11 ∧ o.n ≤ x.n)
set_option maxHeartbeats 1000000 in
set_option maxRecDepth 100000 in
theorem newer_none (sb : Nat) (k n a l k' n' a' l' : Int) (x x' : Bool) (s s' : ByteArray) (w : World)
    (hf : Hid (∀ wx, Below w.heap.size w wx → Calls Try.prog 96 #[ptr sb, obV k x n a l s] wx fun e w' => e = .returned (.tuple #[.int .i64 0, .bool false]) ∧ Below wx.heap.size wx w')) :
    Calls Try.prog 53 #[ptr sb, obV k x n a l s, obV k' x' n' a' l' s'] w fun e w' => e = .returned (.bool false) ∧ Below w.heap.size w w' := by
  go_enter Try.func53, Try.ntmps53
  go_upto_region 1 with fail
  obtain ⟨wb, eb, kb, ⟨c0, c1, c2, c3, c4, c5⟩, o2⟩ := two_box w k n a l k' n' a' l' x x' s s'
  rw [eb]
  go_wp2_with fail
  refine (hf.out _ kb).mono ?_
  rintro e wc ⟨rfl, kc⟩
  have KC := Lib.hid (below_and kb kc)
  clear eb kb kc c0 c1 c2 c3 c4 c5 o2
  go_wp2
  go_ret
  exact ⟨rfl, KC.out⟩
set_option maxHeartbeats 1000000 in
set_option maxRecDepth 100000 in
theorem newer_some (sb i g m : Nat) (k n a l k' n' a' l' : Int) (x x' b1 b2 b3 b4 p q r : Bool) (s s' : ByteArray) (w : World) (hi : i < 10) (h1 : (k' == 9) = b1) (h2 : (k' == 8) = b2) (h3 : (k' == 10) = b3) (h4 : (k' == 11) = b4)
    (h5 : decide ((m : Int) ≤ n') = p) (h6 : decide (n ≤ n') = q) (hr : Hid ((if b1 || (b2 || b3) then p else b4 && q) = r)) (hc : w.cell? ⟨sb, i * 7 + 6, none⟩ = some (ptr g))
    (hf : Hid (∀ wx, Below w.heap.size w wx → Calls Try.prog 96 #[ptr sb, obV k x n a l s] wx fun e w' => e = .returned (.tuple #[.int .i64 i, .bool true]) ∧ Below wx.heap.size wx w'))
    (hg : Hid (∀ wx, Below w.heap.size w wx → Calls Try.prog 23 #[ptr g] wx fun e w' => e = .returned (.int .i64 m) ∧ wx = w')) :
    Calls Try.prog 53 #[ptr sb, obV k x n a l s, obV k' x' n' a' l' s'] w fun e w' => e = .returned (.bool r) ∧ Below w.heap.size w w' := by
  go_enter Try.func53, Try.ntmps53
  go_upto_region 1 with fail
  obtain ⟨wb, eb, kb, ⟨c0, c1, c2, c3, c4, c5⟩, o2⟩ := two_box w k n a l k' n' a' l' x x' s s'
  rw [eb]
  go_wp2_with fail
  refine (hf.out _ kb).mono ?_
  rintro e wc ⟨rfl, kc⟩
  have KC := Lib.hid (below_and kb kc)
  obtain ⟨d0, d1, d2, d3, d4, d5⟩ := o2.later kc
  replace c2 := cell_later kc c2
  have e6 := cell_later (below_and kb kc) hc
  have i1 : (i : Int) < 10 := by omega
  have i0 : (0 : Int) ≤ i := by omega
  clear eb kb kc c0 c1 c3 c4 c5 o2 hc
  cases b1
  · cases b2
    · cases b3
      · cases b4
        · go_wp2
          go_ret
          exact ⟨ret_bool (by have := hr.out; simpa using this), KC.out⟩
        · go_wp2
          go_ret
          exact ⟨ret_bool (by have := hr.out; simpa [h6] using this), KC.out⟩
      · go_wp2_with fail
        go_quiet (first | (go_at_call 23; exact Calls.quiet_of_same ((hg.out _ (by first | exact KC.out | exact KC.out.drew | exact below_and KC.out (below_drewN _ _))).mono fun _ _ h => ⟨h.1, h.2.symm⟩)))
        go_wp2
        go_ret
        exact ⟨ret_bool (by have := hr.out; simpa [h5] using this), below_and KC.out (below_drewN _ _)⟩
    · go_wp2_with fail
      go_quiet (first | (go_at_call 23; exact Calls.quiet_of_same ((hg.out _ (by first | exact KC.out | exact KC.out.drew | exact below_and KC.out (below_drewN _ _))).mono fun _ _ h => ⟨h.1, h.2.symm⟩)))
      go_wp2
      go_ret
      exact ⟨ret_bool (by have := hr.out; simpa [h5] using this), below_and KC.out (below_drewN _ _)⟩
  · go_wp2_with fail
    go_quiet (first | (go_at_call 23; exact Calls.quiet_of_same ((hg.out _ (by first | exact KC.out | exact KC.out.drew | exact below_and KC.out (below_drewN _ _))).mono fun _ _ h => ⟨h.1, h.2.symm⟩)))
    go_wp2
    go_ret
    exact ⟨ret_bool (by have := hr.out; simpa [h5] using this), below_and KC.out (below_drewN _ _)⟩
section
variable {own : Nat → Prop} {hb sb last : Nat} {P : List Cel} {L : List Sv} {w : World}
theorem svFind (h : SAt w sb L last) (o : Ob) {r : Option Nat} (hr : atS L o = r) :
    Calls Try.prog 96 #[ptr sb, o.val] w fun e w' => e = .returned (.tuple #[.int .i64 (r.getD 0 : Nat), .bool r.isSome]) ∧ Below w.heap.size w w' := by
  have := svfind_walk sb last L o.k o.x o.n o.a o.l o.s w (Lib.hid h)
  rw [hr] at this
  exact this
theorem svNewer (h : SH own hb P sb L last w) (o x : Ob) : Calls Try.prog 53 #[ptr sb, o.val, x.val] w fun e w' => e = .returned (.bool (newS L o x)) ∧ SH own hb P sb L last w' ∧ Kept own w w' := by
  cases ha : atS L o with
  | none =>
    refine (newer_none sb o.k o.n o.a o.l x.k x.n x.a x.l o.x x.x o.s x.s w (Lib.hid fun wx kx => svFind (h.below kx).1.sat o ha)).mono ?_
    rintro e w' ⟨rfl, k⟩
    exact ⟨by simp [newS, ha], h.below k⟩
  | some i =>
    have hl := atS_lt ha
    have ht : L[i]? = some L[i] := List.getElem?_eq_getElem hl
    have := h.sat.len
    refine (newer_some sb i L[i].g L[i].q.length o.k o.n o.a o.l x.k x.n x.a x.l o.x x.x _ _ _ _ _ _ (newS L o x) o.s x.s w (by omega) rfl rfl rfl rfl rfl rfl (Lib.hid ?_) (ent_cells h.sat ht).2.2.2.2.2.2 (Lib.hid fun wx kx => svFind (h.below kx).1.sat o ha) (Lib.hid fun wx kx => manyCells (h.below kx).1.many (svG_get ht))).mono ?_
    · simp only [newS, ha, ht, Option.map_some, Option.getD_some]
      by_cases q9 : x.k = 9
      · simp [q9]
      by_cases q8 : x.k = 8
      · simp [q8]
      by_cases q10 : x.k = 10
      · simp [q10]
      by_cases q11 : x.k = 11 <;> simp [q9, q8, q10, q11]
    · rintro e w' ⟨rfl, k⟩
      exact ⟨rfl, h.below k⟩
end
end Go.Proofs.Ytmlkmgeddkpgiaa

/- Walks of save: Save. -/
namespace Go.Proofs.Ytmlkmgeddkpgiaa
open Go.RowKit
set_option linter.unusedVariables false
set_option linter.unusedSimpArgs false

theorem svC_one (n : Int) (g : Nat) : ∀ v ∈ svC n g, v.oneCell' = true := by
  intro v hv
  simp only [svC, List.mem_cons, List.not_mem_nil, or_false] at hv
  rcases hv with rfl | rfl | rfl | rfl | rfl | rfl | rfl <;> rfl
theorem no_panic {Q : Exit → Act → World → Prop} {a : Act} {w : World} (h : Q .normal a w) : NoPanic Q .normal a w := h
theorem kept_drew {own : Nat → Prop} {w w' : World} (h : Kept own w.drew w') : Kept own w w' := ⟨h.os, h.tape, h.output, h.size, h.block⟩
theorem SH.zero {own : Nat → Prop} {hb sb last : Nat} {P : List Cel} {L : List Sv} {w : World} (h : SH own hb P sb L last w) :
    ∃ w', w.alloc (.cells #[.int .i64 0, .bool false, .int .i64 0, .int .i64 0, .int .i64 0, .string ⟨#[]⟩] 24) = w' ∧ SH (fun b => own b ∨ b = w.heap.size) hb P sb L last w' ∧ Kept own w w' ∧ w'.heap[w.heap.size]? = some emptyOb := h.box_ob _ _ _ _ _ _
section
variable {own : Nat → Prop} {hb sb last last' A : Nat} {P : List Cel} {L L' : List Sv} {w w1 : World}
theorem SH.only (h : SH own hb P sb L last w) (k : Only sb w w1) (s : SAt w1 sb L' last') (hg : svG L' = svG L) : SH own hb P sb L' last' w1 ∧ Kept own w w1 :=
  ⟨⟨by rw [hg]; exact h.many.only (.inr rfl) k, s, h.nown⟩, kept_only k h.nown⟩
theorem SH.put (h : SH own hb P sb L last w) (hA : own A) (k : Only A w w1) : SH own hb P sb L last w1 :=
  ⟨h.many.only (.inl hA) k, h.sat.same (k.block _ fun e => h.nown (e ▸ hA)) (by rw [k.size]; exact Nat.le_refl _), h.nown⟩
end
/-- What the statement that stores an entry reads. -/
def SaveS (w : World) (sb A n : Nat) (m : Int) : Prop :=
  w.cell? ⟨sb, 70, none⟩ = some (.int .i64 n) ∧ w.cell? ⟨A, 0, none⟩ = some (.int .i64 11) ∧ w.cell? ⟨A, 1, none⟩ = some (.bool false) ∧ w.cell? ⟨A, 2, none⟩ = some (.int .i64 m) ∧ w.cell? ⟨A, 3, none⟩ = some (.int .i64 0) ∧ w.cell? ⟨A, 4, none⟩ = some (.int .i64 0) ∧ w.cell? ⟨A, 5, none⟩ = some (.string ⟨#[]⟩)
theorem SaveS.same {w w' : World} {sb A n : Nat} {m : Int} (h : SaveS w sb A n m) (h1 : w'.heap[sb]? = w.heap[sb]?) (h2 : w'.heap[A]? = w.heap[A]?) : SaveS w' sb A n m := by
  have c : ∀ j, w'.cell? ⟨sb, j, none⟩ = w.cell? ⟨sb, j, none⟩ := fun j => World.cell?_of_block (w := w) h1
  have d : ∀ j, w'.cell? ⟨A, j, none⟩ = w.cell? ⟨A, j, none⟩ := fun j => World.cell?_of_block (w := w) h2
  simp only [SaveS, c, d]
  exact h
theorem SaveS.put {w : World} {sb A n : Nat} {m : Int} (h : SaveS w sb A n m) (hA : A ≠ sb) (hn : n < 10) (vs : List Value) (hv : vs.length = 7) : SaveS (w.setCells sb (n * 7) vs) sb A n m := by
  have d : ∀ j, (w.setCells sb (n * 7) vs).cell? ⟨A, j, none⟩ = w.cell? ⟨A, j, none⟩ := fun j => World.cell?_setCells_out sb vs _ w _ (fun e _ => absurd e hA)
  have c : (w.setCells sb (n * 7) vs).cell? ⟨sb, 70, none⟩ = w.cell? ⟨sb, 70, none⟩ := World.cell?_setCells_out sb vs _ w _ (fun _ _ => .inr (by show n * 7 + vs.length ≤ 70; omega))
  simp only [SaveS, c, d]
  exact h
theorem SAt.room {w : World} {sb last : Nat} {L : List Sv} (h : SAt w sb L last) (hl : L.length < 10) : ∃ v0 v1 v2 v3 v4 v5 v6, (w.cell? ⟨sb, L.length * 7, none⟩ = some v0 ∧ w.cell? ⟨sb, L.length * 7 + 1, none⟩ = some v1 ∧ w.cell? ⟨sb, L.length * 7 + 2, none⟩ = some v2 ∧ w.cell? ⟨sb, L.length * 7 + 3, none⟩ = some v3 ∧ w.cell? ⟨sb, L.length * 7 + 4, none⟩ = some v4 ∧ w.cell? ⟨sb, L.length * 7 + 5, none⟩ = some v5 ∧ w.cell? ⟨sb, L.length * 7 + 6, none⟩ = some v6) ∧
    w.frozen? ⟨sb, L.length * 7, none⟩ = false ∧ w.frozen? ⟨sb, L.length * 7 + 1, none⟩ = false ∧ w.frozen? ⟨sb, L.length * 7 + 2, none⟩ = false ∧ w.frozen? ⟨sb, L.length * 7 + 3, none⟩ = false ∧ w.frozen? ⟨sb, L.length * 7 + 4, none⟩ = false ∧ w.frozen? ⟨sb, L.length * 7 + 5, none⟩ = false ∧ w.frozen? ⟨sb, L.length * 7 + 6, none⟩ = false := by
  have c : ∀ j, j < 7 → ∃ v, w.cell? ⟨sb, L.length * 7 + j, none⟩ = some v := fun j hj => by
    have := (h.there (L.length * 7 + j) (by omega)).1
    rw [Nat.zero_add] at this
    exact Option.isSome_iff_exists.1 this
  have f : ∀ j, j < 7 → w.frozen? ⟨sb, L.length * 7 + j, none⟩ = false := fun j hj => by
    have := (h.there (L.length * 7 + j) (by omega)).2
    rw [Nat.zero_add] at this
    exact this
  obtain ⟨v0, c0⟩ := c 0 (by decide)
  obtain ⟨v1, c1⟩ := c 1 (by decide)
  obtain ⟨v2, c2⟩ := c 2 (by decide)
  obtain ⟨v3, c3⟩ := c 3 (by decide)
  obtain ⟨v4, c4⟩ := c 4 (by decide)
  obtain ⟨v5, c5⟩ := c 5 (by decide)
  obtain ⟨v6, c6⟩ := c 6 (by decide)
  exact ⟨v0, v1, v2, v3, v4, v5, v6, ⟨c0, c1, c2, c3, c4, c5, c6⟩, f 0 (by decide), f 1 (by decide), f 2 (by decide), f 3 (by decide), f 4 (by decide), f 5 (by decide), f 6 (by decide)⟩
set_option maxHeartbeats 1000000 in
set_option maxRecDepth 100000 in
theorem svSave_ok {own : Nat → Prop} {hb sb last : Nat} {P : List Cel} {L : List Sv} {w : World} (h : SH own hb P sb L last w) (hl : L.length < 10) (hL : last < 4611686018427387904) :
    Calls Try.prog 45 #[ptr sb, ptr hb] w fun e w' => e = .returned (.tuple #[obV 11 false ((last + 1 : Nat) : Int) 0 0 ⟨#[]⟩, .int .i64 0]) ∧ (∃ g, SH own hb P sb (L ++ [⟨last + 1, g, P⟩]) (last + 1) w') ∧ Kept own w w' := by
  have H := Lib.hid h
  have HL := Lib.hid hl
  have e1 : IntKind.i64.wrap ((last : Int) + 1) = ((last + 1 : Nat) : Int) := by rw [IntWalk.i64_in _ (by omega)]; omega
  have e2 : IntKind.i64.wrap ((L.length : Int) + 1) = ((L.length + 1 : Nat) : Int) := by rw [IntWalk.i64_in _ (by omega)]; omega
  have hn : ¬ ((L.length : Int) = 10) := by omega
  clear h hl hL
  go_enter Try.func45, Try.ntmps45
  go_upto_region 1 with fail
  obtain ⟨wa, ea, sa, ka, oa⟩ := H.out.zero
  rw [ea]
  have SA := Lib.hid sa
  have KA := Lib.hid ka
  have OA := Lib.hid oa
  have c70 := sa.sat.count
  have c71 := sa.sat.last
  have f71 := (sa.sat.there 71 (by decide)).2
  simp only [Nat.zero_add] at f71
  obtain ⟨⟨o0, o1, o2, o3, o4, o5⟩, g0, g1, g2, g3, g4, g5⟩ := cells6 oa
  clear ea sa ka oa
  go_upto_region 6 with fail
  obtain ⟨w1, ew1⟩ : ∃ w1, wa.setCell ⟨sb, 71, none⟩ (.int .i64 ((last : Int) + 1)) = w1 := ⟨_, rfl⟩
  rw [ew1]
  have q1 := SA.out.only (last' := last + 1) (w1 := w1) (by rw [← ew1]; exact (Only.refl _ _).set 71 _) (by rw [← ew1]; exact SA.out.sat.put71 (last + 1)) rfl
  have S1 := Lib.hid q1.1
  have K1 := Lib.hid (KA.out.trans (q1.2.sub fun _ h => .inl h))
  have o1 := (q1.2.block _ (.inr rfl)).trans OA.out
  have O1 := Lib.hid o1
  clear c70 c71 f71 o0 o1 o2 o3 o4 o5 g0 g1 g2 g3 g4 g5 q1 ew1
  have c71 : w1.cell? ⟨sb, 71, none⟩ = some (.int .i64 ((last : Int) + 1)) := S1.out.sat.last
  obtain ⟨⟨o0, o1, o2, o3, o4, o5⟩, g0, g1, g2, g3, g4, g5⟩ := cells6 O1.out
  go_upto_region 7 with fail
  obtain ⟨w2, ew2⟩ : ∃ w2, w1.setCells w.heap.size 0 [.int .i64 11, .bool false, .int .i64 ((last : Int) + 1), .int .i64 0, .int .i64 0, .string ⟨#[]⟩] = w2 := ⟨_, rfl⟩
  have on2 : Only w.heap.size w1 w2 := by rw [← ew2]; exact only_cells _ _ _ _
  have o2b : w2.heap[w.heap.size]? = some (obObj 11 false ((last : Int) + 1) 0 0 ⟨#[]⟩) := by rw [← ew2]; exact set6 O1.out _ _ _ _ _ _
  change Code.wp _ _ _ _ (w1.setCells w.heap.size 0 [.int .i64 11, .bool false, .int .i64 ((last : Int) + 1), .int .i64 0, .int .i64 0, .string ⟨#[]⟩])
  rw [ew2]
  have S2 := Lib.hid (S1.out.put (.inr rfl) on2)
  have K2 := Lib.hid (K1.out.trans (kept_only on2 (fun q => by have := H.out.lt q; omega)))
  have O2 := Lib.hid o2b
  clear c71 o0 o1 o2 o3 o4 o5 g0 g1 g2 g3 g4 g5 ew2 on2 o2b
  have GO : Hid (SaveS w2.drew sb w.heap.size L.length ((last : Int) + 1)) := Lib.hid (by obtain ⟨o0, o1, o2, o3, o4, o5⟩ := ob_cells O2.out; exact ⟨S2.out.sat.count, o0, o1, o2, o3, o4, o5⟩)
  have hc := Lib.hid (fun wx (kx : Below w2.heap.size w2 wx) => manyCopy (S2.out.below kx).1.many)
  have i1 : (L.length : Int) < 10 := by have := HL.out; omega
  have i0 : (0 : Int) ≤ L.length := by omega
  have NA : Hid (w.heap.size ≠ sb) := Lib.hid (by have := H.out.sat.lt; omega)
  refine wp_region_noPanic ?_
  refine wp_region_held_drew (S := fun wx => SaveS wx sb w.heap.size L.length ((last : Int) + 1)) (by kernel_rfl) GO.out (fun _ => ?_)
  refine wpAnyH_take (i := 0) (v := ptr sb) rfl (by kernel_rfl) (by kernel_rfl) (by kernel_rfl) (fun _ _ _ h => h) (Or.inl ⟨by rfl, fun wx ⟨q0, q1, q2, q3, q4, q5, q6⟩ => ?_⟩) GO.out ?_
  · go_simp
  simp only [Act.put, List.setIfInBounds_toArray, List.set_cons_zero, List.set_cons_succ]
  refine wpAnyH_take (i := 1) (v := ptr sb) rfl (by kernel_rfl) (by kernel_rfl) (by kernel_rfl) (fun _ _ _ h => h) (Or.inl ⟨by rfl, fun wx ⟨q0, q1, q2, q3, q4, q5, q6⟩ => ?_⟩) GO.out ?_
  · go_simp
  simp only [Act.put, List.setIfInBounds_toArray, List.set_cons_zero, List.set_cons_succ]
  refine wpAnyH_take (i := 2) (v := ptr sb) rfl (by kernel_rfl) (by kernel_rfl) (by kernel_rfl) (fun _ _ _ h => h) (Or.inl ⟨by rfl, fun wx ⟨q0, q1, q2, q3, q4, q5, q6⟩ => ?_⟩) GO.out ?_
  · go_simp
  simp only [Act.put, List.setIfInBounds_toArray, List.set_cons_zero, List.set_cons_succ]
  refine wpAnyH_take (i := 3) (v := .pointer (some ⟨sb, 70, none⟩)) rfl (by kernel_rfl) (by kernel_rfl) (by kernel_rfl) (fun _ _ _ h => h) (Or.inl ⟨by rfl, fun wx ⟨q0, q1, q2, q3, q4, q5, q6⟩ => ?_⟩) GO.out ?_
  · go_simp
  simp only [Act.put, List.setIfInBounds_toArray, List.set_cons_zero, List.set_cons_succ]
  refine wpAnyH_take (i := 4) (v := .int .i64 L.length) rfl (by kernel_rfl) (by kernel_rfl) (by kernel_rfl) (fun _ _ _ h => h) (Or.inl ⟨by rfl, fun wx ⟨q0, q1, q2, q3, q4, q5, q6⟩ => ?_⟩) GO.out ?_
  · go_simp
  simp only [Act.put, List.setIfInBounds_toArray, List.set_cons_zero, List.set_cons_succ]
  refine wpAnyH_take (i := 5) (v := obV 11 false ((last : Int) + 1) 0 0 ⟨#[]⟩) rfl (by kernel_rfl) (by kernel_rfl) (by kernel_rfl) (fun _ _ _ h => h) (Or.inl ⟨by rfl, fun wx ⟨q0, q1, q2, q3, q4, q5, q6⟩ => ?_⟩) GO.out ?_
  · go_simp
  simp only [Act.put, List.setIfInBounds_toArray, List.set_cons_zero, List.set_cons_succ]
  refine wpAnyH_take (i := 6) (v := ptr hb) rfl (by kernel_rfl) (by kernel_rfl) (by kernel_rfl) (fun _ _ _ h => h) (Or.inl ⟨by rfl, fun wx ⟨q0, q1, q2, q3, q4, q5, q6⟩ => ?_⟩) GO.out ?_
  · go_simp
  simp only [Act.put, List.setIfInBounds_toArray, List.set_cons_zero, List.set_cons_succ]
  refine wpAnyH_take (i := 9) (v := ptr sb) rfl (by kernel_rfl) (by kernel_rfl) (by kernel_rfl) (fun _ _ _ h => h) (Or.inl ⟨by rfl, fun wx ⟨q0, q1, q2, q3, q4, q5, q6⟩ => ?_⟩) GO.out ?_
  · go_simp
  simp only [Act.put, List.setIfInBounds_toArray, List.set_cons_zero, List.set_cons_succ]
  refine wpAnyH_take (i := 10) (v := .pointer (some ⟨sb, 0, none⟩)) rfl (by kernel_rfl) (by kernel_rfl) (by kernel_rfl) (fun _ _ _ h => h) (Or.inl ⟨by rfl, fun wx ⟨q0, q1, q2, q3, q4, q5, q6⟩ => ?_⟩) GO.out ?_
  · go_simp
  simp only [Act.put, List.setIfInBounds_toArray, List.set_cons_zero, List.set_cons_succ]
  refine wpAnyH_ready (rs := [7]) (by kernel_rfl) (by simp) ?_
  refine AllReadyH.cons rfl (fun K hK => ?_) AllReadyH.nil
  go_simp
  refine (hc.out _ ((Below.refl _ w2).drew)).mono ?_
  rintro e w3 ⟨gb, rfl, m3, k3⟩
  have T3 := Lib.hid (S2.out.sat.same (w' := w3) (k3.block _ (.inr rfl)) k3.size)
  have M3 := Lib.hid m3
  have G3 : Hid (SaveS w3 sb w.heap.size L.length ((last : Int) + 1)) := Lib.hid (GO.out.same (k3.block _ (.inr rfl)) (k3.block _ (.inl (.inr rfl))))
  have K3 := Lib.hid (K2.out.trans (kept_drew (k3.sub fun _ h => .inl (.inl h))))
  have O3 := Lib.hid ((k3.block _ (.inl (.inr rfl))).trans O2.out)
  clear m3 k3
  refine hK.out _ _ G3.out (fun _ => ?_)
  clear hK
  try simp only [Act.put, List.setIfInBounds_toArray, List.set_cons_zero, List.set_cons_succ]
  refine wpAnyH_take (i := 8) (v := .agg #[.int .i64 11, .bool false, .int .i64 ((last : Int) + 1), .int .i64 0, .int .i64 0, .string ⟨#[]⟩, ptr gb]) rfl (by kernel_rfl) (by kernel_rfl) (by kernel_rfl) (fun _ _ _ h => h) (Or.inl ⟨by rfl, fun wx ⟨q0, q1, q2, q3, q4, q5, q6⟩ => ?_⟩) G3.out ?_
  · go_simp
  simp only [Act.put, List.setIfInBounds_toArray, List.set_cons_zero, List.set_cons_succ]
  refine wpAnyH_take (i := 11) (v := .pointer (some ⟨sb, L.length * 7, none⟩)) rfl (by kernel_rfl) (by kernel_rfl) (by kernel_rfl) (fun _ _ _ h => h) (Or.inl ⟨by rfl, fun wx ⟨q0, q1, q2, q3, q4, q5, q6⟩ => ?_⟩) G3.out ?_
  · go_simp
  simp only [Act.put, List.setIfInBounds_toArray, List.set_cons_zero, List.set_cons_succ]
  refine wpAnyH_ready (rs := [12]) (by kernel_rfl) (by simp) ?_
  refine AllReadyH.cons rfl (fun K hK => ?_) AllReadyH.nil
  rw [if_pos (by rfl)]
  refine wp_store_mid _ _ _ rfl sb (L.length * 7) (svC ((last : Int) + 1) gb).toArray rfl rfl (fun j hj => ?_) (by kernel_rfl) (all_oneCell_toArray (svC_one _ _)) ?_
  · have := T3.out.there (L.length * 7 + j) (by have := HL.out; simp at hj; omega)
    simpa using this
  refine hK.out _ _ (G3.out.put NA.out HL.out _ rfl) (fun _ => ?_)
  clear hK
  refine wpAnyH_done (by kernel_rfl) ?_ _
  refine no_panic ?_
  simp only [Act.put, List.getElem_toArray, List.getElem_cons_succ, List.getElem_cons_zero, List.setIfInBounds_toArray, List.set_cons_zero, List.set_cons_succ]
  obtain ⟨w4, ew4⟩ : ∃ w4, w3.setCells sb (L.length * 7) (svC ((last : Int) + 1) gb) = w4 := ⟨_, rfl⟩
  have on4 : Only sb w3 w4 := by rw [← ew4]; exact only_cells _ _ _ _
  have pe := T3.out.putE L.length (svC ((last : Int) + 1) gb) (by have := HL.out; show L.length * 7 + 7 ≤ 70; omega)
  have pu := T3.out.push HL.out (last + 1) gb P
  rw [show svC (((last + 1 : Nat) : Int)) gb = svC ((last : Int) + 1) gb from rfl] at pu
  rw [ew4] at pe pu ⊢
  have c70 : w4.cell? ⟨sb, 70, none⟩ = some (.int .i64 L.length) := pe.2.2.1
  have f70 : w4.frozen? ⟨sb, 70, none⟩ = false := by
    have := (pe.1 70 (by decide)).2
    simpa using this
  have PU := Lib.hid pu
  have ON := Lib.hid on4
  clear ew4 on4 pe pu GO G3
  simp only [Exit.then]
  go_upto_region 9 with fail
  obtain ⟨w5, ew5⟩ : ∃ w5, w4.setCell ⟨sb, 70, none⟩ (.int .i64 (((L.length + 1 : Nat)) : Int)) = w5 := ⟨_, rfl⟩
  have on5 : Only sb w3 w5 := by rw [← ew5]; exact ON.out.set 70 _
  have pu := PU.out
  rw [ew5] at pu
  change Code.wp _ _ _ _ (w4.setCell ⟨sb, 70, none⟩ (.int .i64 (((L.length + 1 : Nat)) : Int)))
  rw [ew5]
  have S5 : Hid (SH (fun b => own b ∨ b = w.heap.size) hb P sb (L ++ [⟨last + 1, gb, P⟩]) (last + 1) w5) := Lib.hid ⟨by rw [svG_append]; exact M3.out.only (.inr rfl) on5, pu, S2.out.nown⟩
  have K5 := Lib.hid (K3.out.trans (kept_only on5 H.out.nown))
  have O5 := Lib.hid ((on5.block _ NA.out).trans O3.out)
  clear c70 f70 ew5 on5 pu o1
  obtain ⟨⟨o0, o1, o2, o3, o4, o5⟩, g0, g1, g2, g3, g4, g5⟩ := cells6 O5.out
  go_wp2
  (try simp only [Exit.inBlock, Exit.then])
  have on6 := only6 w.heap.size w5 (.int .i64 11) (.bool false) (.int .i64 ((last : Int) + 1)) (.int .i64 0) (.int .i64 0) (.string ⟨#[]⟩)
  refine bodyPost_ret (ret_cell rfl _ _ _ _ _ _ _ _ rfl rfl (set6 O5.out _ _ _ _ _ _) Try.underlying24 rfl (by kernel_rfl)) rfl ⟨rfl, ⟨gb, (S5.out.put (.inr rfl) on6).sub fun _ h => .inl h⟩, K5.out.trans (kept_only on6 fun q => by have := H.out.lt q; omega)⟩
set_option maxHeartbeats 1000000 in
set_option maxRecDepth 100000 in
theorem svSave_full {own : Nat → Prop} {hb sb last : Nat} {P : List Cel} {L : List Sv} {w : World} (h : SH own hb P sb L last w) (hl : L.length = 10) :
    Calls Try.prog 45 #[ptr sb, ptr hb] w fun e w' => e = .returned (.tuple #[zeroOb, .int .i64 5]) ∧ SH own hb P sb L last w' ∧ Kept own w w' := by
  have H := Lib.hid h
  have c70 := h.sat.count
  rw [hl] at c70
  clear h
  go_enter Try.func45, Try.ntmps45
  go_upto_region 1 with fail
  obtain ⟨wa, ea, sa, ka, oa⟩ := H.out.zero
  rw [ea]
  have SA := Lib.hid sa
  have KA := Lib.hid ka
  have OA := Lib.hid oa
  have d70 : wa.cell? ⟨sb, 70, none⟩ = some (.int .i64 10) := by
    have := sa.sat.count
    rw [hl] at this
    exact this
  obtain ⟨⟨o0, o1, o2, o3, o4, o5⟩, g0, g1, g2, g3, g4, g5⟩ := cells6 oa
  clear ea sa ka oa c70
  go_wp2
  (try simp only [Exit.inBlock, Exit.then])
  have on6 := only6 w.heap.size wa (.int .i64 0) (.bool false) (.int .i64 0) (.int .i64 0) (.int .i64 0) (.string ⟨#[]⟩)
  refine bodyPost_ret (ret_cell rfl _ _ _ _ _ _ _ _ rfl rfl (set6 OA.out _ _ _ _ _ _) Try.underlying24 rfl (by kernel_rfl)) rfl ⟨rfl, (SA.out.put (.inr rfl) on6).sub fun _ h => .inl h, KA.out.trans (kept_only on6 fun q => by have := H.out.lt q; omega)⟩
end Go.Proofs.Ytmlkmgeddkpgiaa
