/- X18: Q2, Q3, Q4, Q5. -/
import Derived.Test.YtlkbnldpecolbaaX17
import Derived.Deep.MidRow
import Derived.Deep.RegionHeld3
import Derived.Deep.RegionHeldLaw
/- How the reference's heap lies in memory: its block, the row of its cells (written in place), the rows of items and bytes (never written again). -/
namespace Go.Proofs.Ytlkbnldpecolbaa
open Go.RowKit
set_option linter.unusedVariables false

/-- A slice whose cells are known; its block is one of I. -/
def rowC (w : World) (I : Nat → Prop) (v : Value) (n : Nat) (cs : List Value) : Prop :=
  (v = .slice none 0 0 ∧ n = 0 ∧ cs = []) ∨ ∃ g cap, v = .slice (some ⟨g, 0, none⟩) n cap ∧ n ≤ cap ∧ I g ∧ g < w.heap.size ∧ ∀ j u, cs[j]? = some u → w.cell? ⟨g, j, none⟩ = some u
theorem rowC.same {w w' : World} {I I' : Nat → Prop} {v : Value} {n : Nat} {cs : List Value} (h : rowC w I v n cs) (hs : w.heap.size ≤ w'.heap.size) (k : ∀ g, I g → g < w.heap.size → I' g ∧ w'.heap[g]? = w.heap[g]?) : rowC w' I' v n cs := by
  rcases h with h | ⟨g, cap, h1, h2, h3, h4, h5⟩
  · exact .inl h
  · refine .inr ⟨g, cap, h1, h2, (k g h3 h4).1, Nat.lt_of_lt_of_le h4 hs, fun j u hj => ?_⟩
    rw [World.cell?_of_block (w := w) (a := ⟨g, j, none⟩) (k g h3 h4).2]
    exact h5 j u hj
/-- A cell of the reference's heap, with the slices that it holds. -/
structure RC where
  c : Cel
  it : Value
  bs : Value
abbrev rcL (r : RC) : List Value := [.int .i64 r.c.k, r.it, r.bs, .bool r.c.lk]
def rcCells (R : List RC) : List Value := R.flatMap rcL
def cels (R : List RC) : List Cel := R.map RC.c
theorem rcCells_length (R : List RC) : (rcCells R).length = R.length * 4 := by
  induction R with
  | nil => rfl
  | cons r R ih =>
    show (rcL r ++ rcCells R).length = _
    rw [List.length_append, ih]
    simp
    omega
theorem rcCells_get {R : List RC} {i j : Nat} {r : RC} (h : R[i]? = some r) (hj : j < 4) : (rcCells R)[i * 4 + j]? = (rcL r)[j]? := by
  induction R generalizing i with
  | nil => simp at h
  | cons p R ih =>
    show (rcL p ++ rcCells R)[_]? = _
    have h4 : (rcL p).length = 4 := rfl
    cases i with
    | zero =>
      simp at h
      subst h
      rw [List.getElem?_append_left (by omega)]
      simp
    | succ i =>
      simp at h
      rw [List.getElem?_append_right (by omega), h4, show (i + 1) * 4 + j - 4 = i * 4 + j from by omega]
      exact ih h
/-- Blocks of ours that are neither the heap's own nor the row of its cells. -/
def Im (own : Nat → Prop) (rb : Nat) (v : Value) (b : Nat) : Prop := own b ∧ b ≠ rb ∧ v.ownBlock ≠ some b
structure RH (own : Nat → Prop) (rb : Nat) (v : Value) (R : List RC) (w : World) : Prop where
  hdr : w.heap[rb]? = some (.cells #[v] 54 (0, 0))
  mine : own rb
  row : rowC w (fun b => own b ∧ b ≠ rb) v R.length (rcCells R)
  sub : ∀ (i : Nat) (r : RC), R[i]? = some r → rowC w (Im own rb v) r.it r.c.it.length (obCells r.c.it) ∧ rowC w (Im own rb v) r.bs r.c.bs.length (byCells r.c.bs)
  wf : WfP (cels R)
  free : ∀ g, v.ownBlock = some g → ∀ j, w.frozen? ⟨g, j, none⟩ = false
theorem RH.kept {own own' : Nat → Prop} {rb : Nat} {v : Value} {R : List RC} {w w' : World} (h : RH own rb v R w) (ho : ∀ b, own b → own' b) (hs : w.heap.size ≤ w'.heap.size) (k : ∀ b, own b → b < w.heap.size → w'.heap[b]? = w.heap[b]?) : RH own' rb v R w' :=
  ⟨(k rb h.mine (blk_lt h.hdr)).trans h.hdr, ho _ h.mine, h.row.same hs fun g q hg => ⟨⟨ho _ q.1, q.2⟩, k g q.1 hg⟩, fun i r hr => ⟨(h.sub i r hr).1.same hs fun g q hg => ⟨⟨ho _ q.1, q.2⟩, k g q.1 hg⟩, (h.sub i r hr).2.same hs fun g q hg => ⟨⟨ho _ q.1, q.2⟩, k g q.1 hg⟩⟩, h.wf, fun g e j => by
    rcases h.row with ⟨rfl, _⟩ | ⟨g', cap', rfl, _, q, hg, _⟩
    · cases e
    · have : g' = g := by simpa [Value.ownBlock] using e
      subst this
      rw [World.frozen?_of_block (w := w) (a := ⟨g', j, none⟩) (k g' q.1 hg)]
      exact h.free g' e j⟩
theorem RH.below {own : Nat → Prop} {rb : Nat} {v : Value} {R : List RC} {w w' : World} (h : RH own rb v R w) (k : Below w.heap.size w w') : RH own rb v R w' := h.kept (fun _ h => h) k.size fun b _ hb => k.block b hb
theorem rowC.form {w : World} {I : Nat → Prop} {v : Value} {n : Nat} {cs : List Value} (h : rowC w I v n cs) : ∃ p cap, v = .slice p n cap ∧ n ≤ cap := by
  rcases h with ⟨rfl, rfl, _⟩ | ⟨g, cap, rfl, hn, _⟩
  · exact ⟨none, 0, rfl, Nat.le_refl _⟩
  · exact ⟨_, _, rfl, hn⟩
section
variable {own : Nat → Prop} {rb : Nat} {v : Value} {R : List RC} {w : World}
theorem cels_length (R : List RC) : (cels R).length = R.length := by simp [cels]
theorem cels_get {i : Nat} {r : RC} (h : R[i]? = some r) : (cels R)[i]? = some r.c := by simp [cels, h]
/-- The cells of the i-th. -/
theorem RH.at (h : RH own rb v R w) {i : Nat} {r : RC} (hi : R[i]? = some r) : ∃ g cap, v = .slice (some ⟨g, 0, none⟩) R.length cap ∧ own g ∧ g ≠ rb ∧ g < w.heap.size ∧ w.cell? ⟨g, i * 4, none⟩ = some (.int .i64 r.c.k) ∧ w.cell? ⟨g, i * 4 + 1, none⟩ = some r.it ∧ w.cell? ⟨g, i * 4 + 2, none⟩ = some r.bs ∧ w.cell? ⟨g, i * 4 + 3, none⟩ = some (.bool r.c.lk) := by
  have hl := (List.getElem?_eq_some_iff.1 hi).1
  rcases h.row with ⟨_, h0, _⟩ | ⟨g, cap, h1, h2, h3, h4, h5⟩
  · omega
  · have c : ∀ j, j < 4 → w.cell? ⟨g, i * 4 + j, none⟩ = (rcL r)[j]? := fun j hj => by
      obtain ⟨u, hu⟩ : ∃ u, (rcL r)[j]? = some u := ⟨_, List.getElem?_eq_getElem (by simpa using hj)⟩
      rw [hu]
      exact h5 _ u (by rw [rcCells_get hi hj, hu])
    exact ⟨g, cap, h1, h3.1, h3.2, h4, c 0 (by decide), c 1 (by decide), c 2 (by decide), c 3 (by decide)⟩
theorem RH.hcell (h : RH own rb v R w) : w.cell? ⟨rb, 0, none⟩ = some v := by
  rw [cellAt h.hdr]
  rfl
theorem RH.cellOf (h : RH own rb v R w) {o : Ob} {r : RC} (hi : R[o.n.toNat]? = some r) : cellOf (cels R) o = r.c := by
  unfold Go.Proofs.Ytlkbnldpecolbaa.cellOf
  rw [List.getD_eq_getElem?_getD, cels_get hi]
  rfl
/-- The sizes of a cell's two slices. -/
theorem RH.size (h : RH own rb v R w) {i : Nat} {r : RC} (hi : R[i]? = some r) : ∃ p q c d, r.it = .slice p r.c.it.length c ∧ r.bs = .slice q r.c.bs.length d ∧ r.c.size ≤ 40000 := by
  obtain ⟨p, c, e1, _⟩ := (h.sub i r hi).1.form
  obtain ⟨q, d, e2, _⟩ := (h.sub i r hi).2.form
  exact ⟨p, q, c, d, e1, e2, h.wf.size (cels_get hi)⟩
end
end Go.Proofs.Ytlkbnldpecolbaa

/- Walks of tympanref11: May. -/
namespace Go.Proofs.Ytlkbnldpecolbaa
open Go.RowKit
set_option linter.unusedVariables false
set_option maxHeartbeats 1000000
set_option maxRecDepth 100000

theorem rmayH_no (rb : Nat) (k n a l : Int) (x : Bool) (s : ByteArray) (w : World)
    (h1 : Hid (∀ wx, Calls Try.prog 92 #[obV k x n a l s] wx fun e w' => e = .returned (.bool false) ∧ Below wx.heap.size wx w')) :
    Calls Try.prog 65 #[ptr rb, obV k x n a l s] w fun e w' => e = .returned (.bool false) ∧ Below w.heap.size w w' := by
  go_enter Try.func65, Try.ntmps65
  go_upto_region 1 with fail
  obtain ⟨wb, eb, kb, zb, c0, c1, c2, c3, c4, c5⟩ := ob_box w k n a l x s
  rw [eb]
  go_wp2_with fail
  refine (h1.out _).mono ?_
  rintro e wc ⟨rfl, kc⟩
  have KC := Lib.hid (below_and kb kc)
  clear eb kb kc c0 c1 c2 c3 c4 c5
  go_wp2
  go_ret
  exact ⟨rfl, KC.out⟩
theorem rmayH_plain (rb : Nat) (k n a l : Int) (x : Bool) (s : ByteArray) (w : World)
    (h1 : Hid (∀ wx, Calls Try.prog 92 #[obV k x n a l s] wx fun e w' => e = .returned (.bool true) ∧ Below wx.heap.size wx w'))
    (h2 : Hid (∀ wx, Calls Try.prog 93 #[obV k x n a l s] wx fun e w' => e = .returned (.bool false) ∧ Below wx.heap.size wx w')) :
    Calls Try.prog 65 #[ptr rb, obV k x n a l s] w fun e w' => e = .returned (.bool true) ∧ Below w.heap.size w w' := by
  go_enter Try.func65, Try.ntmps65
  go_upto_region 1 with fail
  obtain ⟨wb, eb, kb, zb, oa⟩ := ob_box w k n a l x s
  rw [eb]
  have OA := Lib.hid oa
  obtain ⟨c0, c1, c2, c3, c4, c5⟩ := oa
  go_wp2_with fail
  refine (h1.out _).mono ?_
  rintro e wc ⟨rfl, kc⟩
  have KC := Lib.hid (below_and kb kc)
  have OC := OA.out.later kc
  clear eb kb kc c0 c1 c2 c3 c4 c5
  obtain ⟨c0, c1, c2, c3, c4, c5⟩ := OC
  go_wp2_with fail
  refine (h2.out _).mono ?_
  rintro e wd ⟨rfl, kd⟩
  have KD := Lib.hid (below_and KC.out kd)
  clear kd c0 c1 c2 c3 c4 c5
  go_wp2
  go_ret
  exact ⟨rfl, KD.out⟩
/-- A cell, up to the test of it. -/
def MayAt (w : World) (rb A : Nat) (p : Option Addr) (z cap : Nat) (k : Int) (x : Bool) (n a l : Int) (s : ByteArray) : Prop := w.cell? ⟨rb, 0, none⟩ = some (.slice p z cap) ∧ ObAt w A k x n a l s
theorem MayAt.later {w wx : World} {rb A : Nat} {p : Option Addr} {z cap : Nat} {k : Int} {x : Bool} {n a l : Int} {s : ByteArray} (h : MayAt w rb A p z cap k x n a l s) (kc : Below w.heap.size w wx) : MayAt wx rb A p z cap k x n a l s := ⟨cell_later kc h.1, h.2.later kc⟩
theorem rmayH_far (rb z cap : Nat) (p : Option Addr) (k n a l : Int) (x : Bool) (s : ByteArray) (w : World) (hn : ¬ (n < z)) (h0 : w.cell? ⟨rb, 0, none⟩ = some (.slice p z cap))
    (h1 : Hid (∀ wx, Calls Try.prog 92 #[obV k x n a l s] wx fun e w' => e = .returned (.bool true) ∧ Below wx.heap.size wx w'))
    (h2 : Hid (∀ wx, Calls Try.prog 93 #[obV k x n a l s] wx fun e w' => e = .returned (.bool true) ∧ Below wx.heap.size wx w')) :
    Calls Try.prog 65 #[ptr rb, obV k x n a l s] w fun e w' => e = .returned (.bool false) ∧ Below w.heap.size w w' := by
  have hn' : decide (n < (z : Int)) = false := decide_eq_false hn
  go_enter Try.func65, Try.ntmps65
  go_upto_region 1 with fail
  obtain ⟨wb, eb, kb, zb, oa⟩ := ob_box w k n a l x s
  rw [eb]
  have OA : Hid (MayAt wb rb w.heap.size p z cap k x n a l s) := Lib.hid ⟨cell_later kb h0, oa⟩
  obtain ⟨c0, c1, c2, c3, c4, c5⟩ := oa
  go_wp2_with fail
  refine (h1.out _).mono ?_
  rintro e wc ⟨rfl, kc⟩
  have KC := Lib.hid (below_and kb kc)
  have OC := Lib.hid (OA.out.later kc)
  clear eb kb kc c0 c1 c2 c3 c4 c5 h0
  obtain ⟨h0, c0, c1, c2, c3, c4, c5⟩ := OC.out
  go_wp2_with fail
  refine (h2.out _).mono ?_
  rintro e wd ⟨rfl, kd⟩
  have KD := Lib.hid (below_and KC.out kd)
  have OD := OC.out.later kd
  clear kd c0 c1 c2 c3 c4 c5 h0
  obtain ⟨h0, c0, c1, c2, c3, c4, c5⟩ := OD
  go_wp2_with fail
  go_quiet (fail)
  go_wp2
  go_ret
  exact ⟨rfl, below_and KD.out (below_drewN _ _)⟩
/-- .. and a cell of the heap besides. -/
def MayCl (w : World) (rb A g z cap i : Nat) (k' : Int) (it bs : Value) (lk : Bool) (k : Int) (x : Bool) (a l : Int) (s : ByteArray) : Prop := MayAt w rb A (some ⟨g, 0, none⟩) z cap k x i a l s ∧
  w.cell? ⟨g, i * 4, none⟩ = some (.int .i64 k') ∧ w.cell? ⟨g, i * 4 + 1, none⟩ = some it ∧ w.cell? ⟨g, i * 4 + 2, none⟩ = some bs ∧ w.cell? ⟨g, i * 4 + 3, none⟩ = some (.bool lk)
theorem MayCl.later {w wx : World} {rb A g z cap i : Nat} {k' : Int} {it bs : Value} {lk : Bool} {k : Int} {x : Bool} {a l : Int} {s : ByteArray} (h : MayCl w rb A g z cap i k' it bs lk k x a l s) (kc : Below w.heap.size w wx) : MayCl wx rb A g z cap i k' it bs lk k x a l s :=
  ⟨h.1.later kc, cell_later kc h.2.1, cell_later kc h.2.2.1, cell_later kc h.2.2.2.1, cell_later kc h.2.2.2.2⟩
theorem rmayH_kind (rb g z cap i : Nat) (k' : Int) (it bs : Value) (lk : Bool) (k a l : Int) (x : Bool) (s : ByteArray) (w : World) (hi : i < z) (h0 : w.cell? ⟨rb, 0, none⟩ = some (.slice (some ⟨g, 0, none⟩) z cap))
    (d0 : w.cell? ⟨g, i * 4, none⟩ = some (.int .i64 k')) (d1 : w.cell? ⟨g, i * 4 + 1, none⟩ = some it) (d2 : w.cell? ⟨g, i * 4 + 2, none⟩ = some bs) (d3 : w.cell? ⟨g, i * 4 + 3, none⟩ = some (.bool lk))
    (h1 : Hid (∀ wx, Calls Try.prog 92 #[obV k x i a l s] wx fun e w' => e = .returned (.bool true) ∧ Below wx.heap.size wx w'))
    (h2 : Hid (∀ wx, Calls Try.prog 93 #[obV k x i a l s] wx fun e w' => e = .returned (.bool true) ∧ Below wx.heap.size wx w')) (hk : (k' == k) = false) :
    Calls Try.prog 65 #[ptr rb, obV k x i a l s] w fun e w' => e = .returned (.bool false) ∧ Below w.heap.size w w' := by
  have t0 : (0 : Int) ≤ i := by omega
  have t1 : (i : Int) < z := by omega
  go_enter Try.func65, Try.ntmps65
  go_upto_region 1 with fail
  obtain ⟨wb, eb, kb, zb, oa⟩ := ob_box w k i a l x s
  rw [eb]
  have OA : Hid (MayCl wb rb w.heap.size g z cap i k' it bs lk k x a l s) := Lib.hid ⟨⟨cell_later kb h0, oa⟩, cell_later kb d0, cell_later kb d1, cell_later kb d2, cell_later kb d3⟩
  obtain ⟨c0, c1, c2, c3, c4, c5⟩ := oa
  clear d0 d1 d2 d3
  go_wp2_with fail
  refine (h1.out _).mono ?_
  rintro e wc ⟨rfl, kc⟩
  have KC := Lib.hid (below_and kb kc)
  have OC := Lib.hid (OA.out.later kc)
  clear eb kb kc c0 c1 c2 c3 c4 c5 h0
  obtain ⟨⟨h0, c0, c1, c2, c3, c4, c5⟩, d0, d1, d2, d3⟩ := OC.out
  go_wp2_with fail
  refine (h2.out _).mono ?_
  rintro e wd ⟨rfl, kd⟩
  have KD := Lib.hid (below_and KC.out kd)
  have OD := Lib.hid (OC.out.later kd)
  clear kd c0 c1 c2 c3 c4 c5 h0 d0 d1 d2 d3
  obtain ⟨⟨h0, c0, c1, c2, c3, c4, c5⟩, d0, d1, d2, d3⟩ := OD.out
  go_wp2_with fail
  go_quiet (fail)
  go_wp2
  go_ret
  exact ⟨rfl, below_and KD.out (below_drewN _ _)⟩
theorem rmayH_cell (rb g z cap i : Nat) (k' : Int) (it bs : Value) (lk : Bool) (k a l : Int) (x : Bool) (s : ByteArray) (w : World) (hi : i < z) (h0 : w.cell? ⟨rb, 0, none⟩ = some (.slice (some ⟨g, 0, none⟩) z cap))
    (d0 : w.cell? ⟨g, i * 4, none⟩ = some (.int .i64 k')) (d1 : w.cell? ⟨g, i * 4 + 1, none⟩ = some it) (d2 : w.cell? ⟨g, i * 4 + 2, none⟩ = some bs) (d3 : w.cell? ⟨g, i * 4 + 3, none⟩ = some (.bool lk))
    (h1 : Hid (∀ wx, Calls Try.prog 92 #[obV k x i a l s] wx fun e w' => e = .returned (.bool true) ∧ Below wx.heap.size wx w'))
    (h2 : Hid (∀ wx, Calls Try.prog 93 #[obV k x i a l s] wx fun e w' => e = .returned (.bool true) ∧ Below wx.heap.size wx w')) (hk : (k' == k) = true) (m : Nat) (r : Bool) (ea : IntKind.i64.wrap (a + l) = a + l) (hr : decide (a + l ≤ (m : Int)) = r)
    (h3 : Hid (∀ wx, Calls Try.prog 74 #[rcV k' it bs lk] wx fun e w' => e = .returned (.int .i64 m) ∧ Below wx.heap.size wx w')) :
    Calls Try.prog 65 #[ptr rb, obV k x i a l s] w fun e w' => e = .returned (.bool r) ∧ Below w.heap.size w w' := by
  have t0 : (0 : Int) ≤ i := by omega
  have t1 : (i : Int) < z := by omega
  go_enter Try.func65, Try.ntmps65
  go_upto_region 1 with fail
  obtain ⟨wb, eb, kb, zb, oa⟩ := ob_box w k i a l x s
  rw [eb]
  have OA : Hid (MayCl wb rb w.heap.size g z cap i k' it bs lk k x a l s) := Lib.hid ⟨⟨cell_later kb h0, oa⟩, cell_later kb d0, cell_later kb d1, cell_later kb d2, cell_later kb d3⟩
  obtain ⟨c0, c1, c2, c3, c4, c5⟩ := oa
  clear d0 d1 d2 d3
  go_wp2_with fail
  refine (h1.out _).mono ?_
  rintro e wc ⟨rfl, kc⟩
  have KC := Lib.hid (below_and kb kc)
  have OC := Lib.hid (OA.out.later kc)
  clear eb kb kc c0 c1 c2 c3 c4 c5 h0
  obtain ⟨⟨h0, c0, c1, c2, c3, c4, c5⟩, d0, d1, d2, d3⟩ := OC.out
  go_wp2_with fail
  refine (h2.out _).mono ?_
  rintro e wd ⟨rfl, kd⟩
  have KD := Lib.hid (below_and KC.out kd)
  have OD := Lib.hid (OC.out.later kd)
  clear kd c0 c1 c2 c3 c4 c5 h0 d0 d1 d2 d3
  obtain ⟨⟨h0, c0, c1, c2, c3, c4, c5⟩, d0, d1, d2, d3⟩ := OD.out
  go_wp2_with fail
  have gb : Hid (Below w.heap.size w wd.drew) := Lib.hid KD.out.drew
  have go : Hid (MayCl wd.drew rb w.heap.size g z cap i k' it bs lk k x a l s) := Lib.hid OD.out
  go_region_held3 (fun wx => (wx.cell? ⟨rb, 0, none⟩ = some (.slice (some ⟨g, 0, none⟩) z cap) ∧ wx.cell? ⟨w.heap.size, 0, none⟩ = some (.int .i64 k) ∧ wx.cell? ⟨w.heap.size, 1, none⟩ = some (.bool x) ∧ wx.cell? ⟨w.heap.size, 2, none⟩ = some (.int .i64 i) ∧ wx.cell? ⟨w.heap.size, 3, none⟩ = some (.int .i64 a) ∧ wx.cell? ⟨w.heap.size, 4, none⟩ = some (.int .i64 l) ∧ wx.cell? ⟨w.heap.size, 5, none⟩ = some (.string s)) ∧
      wx.cell? ⟨g, i * 4, none⟩ = some (.int .i64 k') ∧ wx.cell? ⟨g, i * 4 + 1, none⟩ = some it ∧ wx.cell? ⟨g, i * 4 + 2, none⟩ = some bs ∧ wx.cell? ⟨g, i * 4 + 3, none⟩ = some (.bool lk))
    (first | exact go.out | go_keep)
    (first | (go_at_call 74; refine (h3.out _).mono ?_; rintro e we ⟨rfl, ke⟩; replace gb := Lib.hid (below_and gb.out ke); replace go := Lib.hid (go.out.later ke); clear ke))
  go_wp2
  go_ret
  exact ⟨rfl, gb.out⟩
end Go.Proofs.Ytlkbnldpecolbaa

/- tympanref11: May; the place of an object. -/
namespace Go.Proofs.Ytlkbnldpecolbaa
open Go.RowKit
set_option linter.unusedVariables false
section
variable {own : Nat → Prop} {rb : Nat} {v : Value} {R : List RC} {w : World}
theorem may_piece {o : Ob} (h : o.may = true) (hc : comp o.k = true) : 0 ≤ o.n ∧ 0 ≤ o.a ∧ o.a ≤ 40000 ∧ 0 ≤ o.l ∧ o.l ≤ 40000 := by
  rw [comp_iff] at hc
  unfold Ob.may mayO at h
  rcases hc with hc | hc | hc <;> simp [hc, pieceP, onlyP] at h ⊢ <;> omega
theorem rmayH_any (h : RH own rb v R w) (o : Ob) : Calls Try.prog 65 #[ptr rb, o.val] w fun e w' => e = .returned (.bool (mayH (cels R) o)) ∧ Below w.heap.size w w' := by
  have q1 := Lib.hid (fun wx => rmayO_any o.k o.n o.a o.l o.x o.s wx)
  have q2 := Lib.hid (fun wx => rcomp_any o.k o.n o.a o.l o.x o.s wx)
  cases hm : o.may
  · rw [show mayO o.k o.n o.a o.l o.s = false from hm] at q1
    rw [show mayH (cels R) o = false from by simp [mayH, hm]]
    exact rmayH_no rb o.k o.n o.a o.l o.x o.s w q1
  rw [show mayO o.k o.n o.a o.l o.s = true from hm] at q1
  cases hc : comp o.k
  · rw [show compP o.k = false from hc] at q2
    rw [show mayH (cels R) o = true from by simp [mayH, hm, hc]]
    exact rmayH_plain rb o.k o.n o.a o.l o.x o.s w q1 q2
  rw [show compP o.k = true from hc] at q2
  have hp := may_piece hm hc
  have h0 := h.hcell
  by_cases hn : o.n < R.length
  · obtain ⟨r, hr⟩ : ∃ r, R[o.n.toNat]? = some r := ⟨_, List.getElem?_eq_getElem (by omega)⟩
    obtain ⟨g, cap, ev, _, _, _, d0, d1, d2, d3⟩ := h.at hr
    rw [ev] at h0
    obtain ⟨p, q, c, d, e1, e2, hz⟩ := h.size hr
    have en : ((o.n.toNat : Nat) : Int) = o.n := by omega
    have hv : o.val = obV o.k o.x (o.n.toNat : Nat) o.a o.l o.s := by rw [en]; rfl
    rw [hv]
    rw [← en] at q1 q2
    have hin : inCell (cels R) o = ((r.c.k == o.k) && decide (o.a + o.l ≤ (r.c.size : Int))) := by
      rw [inCell, h.cellOf hr, cels_length]
      simp [hn]
      by_cases e : r.c.k = o.k <;> simp [e]
    rw [show mayH (cels R) o = ((r.c.k == o.k) && decide (o.a + o.l ≤ (r.c.size : Int))) from by simp [mayH, hm, hc, hin]]
    cases hk : r.c.k == o.k
    · exact rmayH_kind rb g R.length cap o.n.toNat r.c.k r.it r.bs r.c.lk o.k o.a o.l o.x o.s w (by omega) h0 d0 d1 d2 d3 q1 q2 hk
    · refine rmayH_cell rb g R.length cap o.n.toNat r.c.k r.it r.bs r.c.lk o.k o.a o.l o.x o.s w (by omega) h0 d0 d1 d2 d3 q1 q2 hk r.c.size _ (IntWalk.i64_in _ (by omega)) (by rw [Bool.true_and]) (Lib.hid fun wx => ?_)
      rw [e1, e2]
      refine rcsize_any r.c.k p q r.c.it.length c r.c.bs.length d r.c.size r.c.lk wx ?_
      unfold Cel.size at hz ⊢
      rw [IntWalk.i64_in _ (by omega)]
      omega
  · obtain ⟨p, cap, ev, _⟩ := h.row.form
    rw [ev] at h0
    rw [show mayH (cels R) o = false from by simp [mayH, hm, hc, inCell, cels_length]; omega]
    exact rmayH_far rb R.length cap p o.k o.n o.a o.l o.x o.s w hn h0 q1 q2
end
end Go.Proofs.Ytlkbnldpecolbaa

/- Walks of tympanref11: room, Size, Used. -/
namespace Go.Proofs.Ytlkbnldpecolbaa
open Go.RowKit
set_option linter.unusedVariables false
set_option maxHeartbeats 1000000
set_option maxRecDepth 100000

theorem room_type (rb : Nat) (k n a l : Int) (x : Bool) (s : ByteArray) (w : World)
    (h2 : Hid (∀ wx, Calls Try.prog 93 #[obV k x n a l s] wx fun e w' => e = .returned (.bool false) ∧ Below wx.heap.size wx w')) :
    Calls Try.prog 94 #[ptr rb, obV k x n a l s] w fun e w' => e = .returned (.tuple #[.int .i64 0, .int .i64 0, .int .i64 6]) ∧ Below w.heap.size w w' := by
  go_enter Try.func94, Try.ntmps94
  go_upto_region 1 with fail
  obtain ⟨wb, eb, kb, zb, c0, c1, c2, c3, c4, c5⟩ := ob_box w k n a l x s
  rw [eb]
  go_wp2_with fail
  refine (h2.out _).mono ?_
  rintro e wc ⟨rfl, kc⟩
  have KC := Lib.hid (below_and kb kc)
  clear eb kb kc c0 c1 c2 c3 c4 c5
  go_wp2
  go_ret3
  exact ⟨rfl, KC.out⟩
theorem room_arg (rb : Nat) (k n a l : Int) (x : Bool) (s : ByteArray) (w : World)
    (h2 : Hid (∀ wx, Calls Try.prog 93 #[obV k x n a l s] wx fun e w' => e = .returned (.bool true) ∧ Below wx.heap.size wx w'))
    (h1 : Hid (∀ wx, Below w.heap.size w wx → Calls Try.prog 65 #[ptr rb, obV k x n a l s] wx fun e w' => e = .returned (.bool false) ∧ Below wx.heap.size wx w')) :
    Calls Try.prog 94 #[ptr rb, obV k x n a l s] w fun e w' => e = .returned (.tuple #[.int .i64 0, .int .i64 0, .int .i64 1]) ∧ Below w.heap.size w w' := by
  go_enter Try.func94, Try.ntmps94
  go_upto_region 1 with fail
  obtain ⟨wb, eb, kb, zb, oa⟩ := ob_box w k n a l x s
  rw [eb]
  have OA := Lib.hid oa
  obtain ⟨c0, c1, c2, c3, c4, c5⟩ := oa
  go_wp2_with fail
  refine (h2.out _).mono ?_
  rintro e wc ⟨rfl, kc⟩
  have KC := Lib.hid (below_and kb kc)
  have OC := OA.out.later kc
  clear eb kb kc c0 c1 c2 c3 c4 c5
  obtain ⟨c0, c1, c2, c3, c4, c5⟩ := OC
  go_wp2_with fail
  refine (h1.out _ KC.out).mono ?_
  rintro e wd ⟨rfl, kd⟩
  have KD := Lib.hid (below_and KC.out kd)
  clear kd c0 c1 c2 c3 c4 c5
  go_wp2
  go_ret3
  exact ⟨rfl, KD.out⟩
theorem room_plain (rb : Nat) (k n a l : Int) (x : Bool) (s : ByteArray) (w : World) (hk : (k == 10) = false)
    (h2 : Hid (∀ wx, Calls Try.prog 93 #[obV k x n a l s] wx fun e w' => e = .returned (.bool true) ∧ Below wx.heap.size wx w'))
    (h1 : Hid (∀ wx, Below w.heap.size w wx → Calls Try.prog 65 #[ptr rb, obV k x n a l s] wx fun e w' => e = .returned (.bool true) ∧ Below wx.heap.size wx w')) :
    Calls Try.prog 94 #[ptr rb, obV k x n a l s] w fun e w' => e = .returned (.tuple #[.int .i64 a, .int .i64 l, .int .i64 0]) ∧ Below w.heap.size w w' := by
  go_enter Try.func94, Try.ntmps94
  go_upto_region 1 with fail
  obtain ⟨wb, eb, kb, zb, oa⟩ := ob_box w k n a l x s
  rw [eb]
  have OA := Lib.hid oa
  obtain ⟨c0, c1, c2, c3, c4, c5⟩ := oa
  go_wp2_with fail
  refine (h2.out _).mono ?_
  rintro e wc ⟨rfl, kc⟩
  have KC := Lib.hid (below_and kb kc)
  have OC := Lib.hid (OA.out.later kc)
  clear eb kb kc c0 c1 c2 c3 c4 c5
  obtain ⟨c0, c1, c2, c3, c4, c5⟩ := OC.out
  go_wp2_with fail
  refine (h1.out _ KC.out).mono ?_
  rintro e wd ⟨rfl, kd⟩
  have KD := Lib.hid (below_and KC.out kd)
  have OD := OC.out.later kd
  clear kd c0 c1 c2 c3 c4 c5
  obtain ⟨c0, c1, c2, c3, c4, c5⟩ := OD
  go_wp2_with fail
  go_quiet (fail)
  go_wp2
  go_ret3
  exact ⟨rfl, below_and KD.out (below_drewN _ _)⟩
theorem room_dict (rb g z cap i m c : Nat) (p : Option Addr) (a l : Int) (x : Bool) (s : ByteArray) (w : World) (hi : i < z) (h0 : w.cell? ⟨rb, 0, none⟩ = some (.slice (some ⟨g, 0, none⟩) z cap)) (d1 : w.cell? ⟨g, i * 4 + 1, none⟩ = some (.slice p m c))
    (h2 : Hid (∀ wx, Calls Try.prog 93 #[obV 10 x i a l s] wx fun e w' => e = .returned (.bool true) ∧ Below wx.heap.size wx w'))
    (h1 : Hid (∀ wx, Below w.heap.size w wx → Calls Try.prog 65 #[ptr rb, obV 10 x i a l s] wx fun e w' => e = .returned (.bool true) ∧ Below wx.heap.size wx w')) :
    Calls Try.prog 94 #[ptr rb, obV 10 x i a l s] w fun e w' => e = .returned (.tuple #[.int .i64 0, .int .i64 m, .int .i64 0]) ∧ Below w.heap.size w w' := by
  have t0 : (0 : Int) ≤ i := by omega
  have t1 : (i : Int) < z := by omega
  have DD : Hid (w.cell? ⟨rb, 0, none⟩ = some (.slice (some ⟨g, 0, none⟩) z cap) ∧ w.cell? ⟨g, i * 4 + 1, none⟩ = some (.slice p m c)) := Lib.hid ⟨h0, d1⟩
  clear h0 d1
  go_enter Try.func94, Try.ntmps94
  go_upto_region 1 with fail
  obtain ⟨wb, eb, kb, zb, oa⟩ := ob_box w 10 i a l x s
  rw [eb]
  have OA := Lib.hid oa
  obtain ⟨c0, c1, c2, c3, c4, c5⟩ := oa
  go_wp2_with fail
  refine (h2.out _).mono ?_
  rintro e wc ⟨rfl, kc⟩
  have KC := Lib.hid (below_and kb kc)
  have OC := Lib.hid (OA.out.later kc)
  clear eb kb kc c0 c1 c2 c3 c4 c5
  obtain ⟨c0, c1, c2, c3, c4, c5⟩ := OC.out
  go_wp2_with fail
  refine (h1.out _ KC.out).mono ?_
  rintro e wd ⟨rfl, kd⟩
  have KD := Lib.hid (below_and KC.out kd)
  have OD := OC.out.later kd
  have h0 := cell_later KD.out DD.out.1
  have d1 := cell_later KD.out DD.out.2
  clear kd c0 c1 c2 c3 c4 c5
  obtain ⟨c0, c1, c2, c3, c4, c5⟩ := OD
  go_wp2_with fail
  go_quiet (fail)
  go_wp2
  go_ret3
  exact ⟨rfl, below_and KD.out (below_drewN _ _)⟩
section
variable {own : Nat → Prop} {rb : Nat} {v : Value} {R : List RC} {w : World}
theorem rroom_any (h : RH own rb v R w) (o : Ob) : Calls Try.prog 94 #[ptr rb, o.val] w fun e w' => e = .returned (.tuple #[.int .i64 (atO (cels R) o), .int .i64 (lenO (cels R) o), .int .i64 (errO (cels R) o)]) ∧ Below w.heap.size w w' := by
  have q2 := Lib.hid (fun wx => rcomp_any o.k o.n o.a o.l o.x o.s wx)
  have q1 : Hid (∀ wx, Below w.heap.size w wx → Calls Try.prog 65 #[ptr rb, o.val] wx fun e w' => e = .returned (.bool (mayH (cels R) o)) ∧ Below wx.heap.size wx w') := Lib.hid fun wx kx => rmayH_any (h.below kx) o
  cases hc : comp o.k
  · rw [show compP o.k = false from hc] at q2
    rw [show atO (cels R) o = 0 from by simp [atO, okO, hc], show lenO (cels R) o = 0 from by simp [lenO, okO, hc], show errO (cels R) o = 6 from by simp [errO, hc]]
    exact room_type rb o.k o.n o.a o.l o.x o.s w q2
  rw [show compP o.k = true from hc] at q2
  have hmo : mayH (cels R) o = okO (cels R) o := by simp [mayH, okO, hc]
  rw [hmo] at q1
  cases ho : okO (cels R) o
  · rw [ho] at q1
    rw [show atO (cels R) o = 0 from by simp [atO, ho], show lenO (cels R) o = 0 from by simp [lenO, ho], show errO (cels R) o = 1 from by simp [errO, hc, ho]]
    exact room_arg rb o.k o.n o.a o.l o.x o.s w q2 q1
  rw [ho] at q1
  obtain ⟨b0, b1, b2, b3, b4, b5, b6, b7, b8⟩ := ok_bd ho
  rw [errO_ok ho, show atO (cels R) o = o.a from by simp [atO, ho]]
  by_cases hk : o.k = 10
  · rw [cels_length] at b1
    obtain ⟨r, hr⟩ : ∃ r, R[o.n.toNat]? = some r := ⟨_, List.getElem?_eq_getElem (by omega)⟩
    obtain ⟨g, cap, ev, _, _, _, d0, d1, d2, d3⟩ := h.at hr
    have h0 := h.hcell
    rw [ev] at h0
    obtain ⟨p, q, c, d, e1, e2, hz⟩ := h.size hr
    rw [e1] at d1
    have en : ((o.n.toNat : Nat) : Int) = o.n := by omega
    have hv : o.val = obV 10 o.x (o.n.toNat : Nat) o.a o.l o.s := by rw [en, ← hk]; rfl
    rw [hv] at q1 ⊢
    rw [hk, ← en] at q2
    rw [h.cellOf hr, hk] at b6
    have hbs : r.c.bs = [] := by
      rcases h.wf.kind r.c (cell_mem (cels_get hr)) with ⟨q, _⟩ | ⟨_, q⟩
      · omega
      · exact q
    rw [(b8 hk).1, show lenO (cels R) o = (r.c.it.length : Int) from by simp [lenO, ho, hk, h.cellOf hr, Cel.size, hbs]]
    have := room_dict rb g R.length cap o.n.toNat r.c.it.length c p o.a o.l o.x o.s w (by omega) h0 d1 q2 q1
    rw [(b8 hk).1] at this
    exact this
  · rw [show lenO (cels R) o = o.l from by simp [lenO, ho, hk]]
    exact room_plain rb o.k o.n o.a o.l o.x o.s w (by simpa using hk) q2 q1
end
/-- The sizes of the first j cells. -/
def usedTo (R : List RC) (j : Nat) : Nat := usedP ((cels R).take j)
theorem usedTo_all (R : List RC) : usedTo R R.length = usedP (cels R) := by
  rw [usedTo, List.take_of_length_le (by rw [cels_length]; exact Nat.le_refl _)]
theorem usedTo_succ {R : List RC} {j : Nat} {r : RC} (h : R[j]? = some r) : usedTo R (j + 1) = usedTo R j + r.c.size := by
  unfold usedTo usedP
  rw [List.take_add_one, cels_get h]
  simp
theorem usedTo_le (R : List RC) (j : Nat) : usedTo R j ≤ usedP (cels R) := by
  have : usedP (cels R) = usedP ((cels R).take j) + usedP ((cels R).drop j) := by
    unfold usedP
    rw [← List.sum_append, ← List.map_append, List.take_append_drop]
  unfold usedTo
  omega
theorem rused_any {own : Nat → Prop} {rb : Nat} {v : Value} {R : List RC} {w : World} (h : RH own rb v R w) : Calls Try.prog 38 #[ptr rb] w fun e w' => e = .returned (.int .i64 (usedP (cels R))) ∧ Below w.heap.size w w' := by
  have H := Lib.hid h
  have HL : Hid (R.length ≤ 2000) := Lib.hid (by have := h.wf.len; rw [cels_length] at this; exact this)
  obtain ⟨p, cap, rfl, _⟩ := h.row.form
  clear h
  go_enter Try.func38, Try.ntmps38
  go_wp2
  go_loopw [3, 4] (fun n i wr => ∃ j : Nat, j ≤ R.length ∧ i = .int .i64 j ∧ n = .int .i64 (usedTo R j) ∧ Below w.heap.size w wr) (fun _ i _ => R.length - (intOf i).toNat)
  case atStart => exact ⟨0, Nat.zero_le _, rfl, rfl, Below.refl _ _⟩
  case round =>
    obtain ⟨j, hj, rfl, rfl, hb⟩ := hrel
    have HB := Lib.hid hb
    have h0 := (H.out.below hb).hcell
    clear hb
    by_cases hlt : j < R.length
    · obtain ⟨r, hr⟩ : ∃ r, R[j]? = some r := ⟨_, List.getElem?_eq_getElem hlt⟩
      obtain ⟨g, cap', ev, _, _, _, d0, d1, d2, d3⟩ := (H.out.below HB.out).at hr
      obtain ⟨rfl, rfl⟩ : p = some ⟨g, 0, none⟩ ∧ cap = cap' := by simpa using ev
      obtain ⟨p1, p2, c1, c2, e1, e2, hz⟩ := H.out.size hr
      have HR := Lib.hid hr
      have HT := Lib.hid hlt
      have t1 : (j : Int) < R.length := by omega
      have t0 : (0 : Int) ≤ j := by omega
      have hu := usedTo_succ hr
      have hu2 := usedTo_le R (j + 1)
      have hu3 := H.out.wf.used
      have e3 : IntKind.i64.wrap ((usedTo R j : Int) + (r.c.size : Int)) = ((usedTo R (j + 1) : Nat) : Int) := by rw [IntWalk.i64_in _ (by omega)]; omega
      have E3 := Lib.hid e3
      have hsz : IntKind.i64.wrap ((r.c.it.length : Int) + (r.c.bs.length : Int)) = (r.c.size : Nat) := by unfold Cel.size at hz ⊢; rw [IntWalk.i64_in _ (by omega)]; omega
      have HC := Lib.hid (fun wx => rcsize_any r.c.k p1 p2 r.c.it.length c1 r.c.bs.length c2 r.c.size r.c.lk wx hsz)
      rw [e1] at d1
      rw [e2] at d2
      clear hr hlt ev hu hu2 hu3 e3 hsz hz e1 e2
      go_wp2_with fail
      refine (HC.out _).mono ?_
      rintro e wb ⟨rfl, kb⟩
      have KB := Lib.hid (below_and HB.out kb)
      have e3 := E3.out
      clear kb h0 d0 d1 d2 d3
      go_wp2
      go_roundw
      case rel => exact ⟨j + 1, HT.out, congrArg (Value.int .i64) (wrap64_step j HL.out HT.out), by first | rfl | exact congrArg (Value.int .i64) E3.out, KB.out⟩
      case measure => exact measure_up R.length j _ (wrap64_step j HL.out HT.out) HT.out
    · have e : j = R.length := by omega
      subst e
      have t1 : ¬ ((R.length : Int) < R.length) := by omega
      rw [usedTo_all]
      go_wp2
      go_ret
      exact ⟨rfl, HB.out⟩
end Go.Proofs.Ytlkbnldpecolbaa
