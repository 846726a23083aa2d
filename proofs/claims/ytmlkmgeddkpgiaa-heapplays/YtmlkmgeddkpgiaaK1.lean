/- How a heap of layer 11 lies in memory: its cells' blocks, told apart by a role that each block has. -/
import Derived.Test.YtmlkmgeddkpgiaaK0
import Derived.Test.YtmlkmgeddkpgiaaO7
import Derived.Deep.AppendLies
namespace Go.Proofs.Ytmlkmgeddkpgiaa
open Go.RowKit
set_option linter.unusedVariables false

def Ob.cells (o : Ob) : List Value := [.int .i64 o.k, .bool o.x, .int .i64 o.n, .int .i64 o.a, .int .i64 o.l, .string o.s]
abbrev obV (k : Int) (x : Bool) (n a l : Int) (s : ByteArray) : Value := .agg #[.int .i64 k, .bool x, .int .i64 n, .int .i64 a, .int .i64 l, .string s]
def Ob.val (o : Ob) : Value := obV o.k o.x o.n o.a o.l o.s
def obCells (l : List Ob) : List Value := l.flatMap Ob.cells
def byCells (l : List UInt8) : List Value := l.map fun c => .int .u8 c.toNat
abbrev ptr (b : Nat) : Value := .pointer (some ⟨b, 0, none⟩)

theorem obCells_length (l : List Ob) : (obCells l).length = l.length * 6 := by
  induction l with
  | nil => rfl
  | cons o l ih =>
    show (Ob.cells o ++ obCells l).length = _
    rw [List.length_append, ih]
    simp [Ob.cells]
    omega
theorem obCells_append (l m : List Ob) : obCells (l ++ m) = obCells l ++ obCells m := by simp [obCells]
theorem byCells_length (l : List UInt8) : (byCells l).length = l.length := by simp [byCells]
theorem byCells_append (l m : List UInt8) : byCells (l ++ m) = byCells l ++ byCells m := by simp [byCells]
theorem obCells_get {l : List Ob} {i j : Nat} {o : Ob} (h : l[i]? = some o) (hj : j < 6) : (obCells l)[i * 6 + j]? = o.cells[j]? := by
  induction l generalizing i with
  | nil => simp at h
  | cons p l ih =>
    show (Ob.cells p ++ obCells l)[_]? = _
    have h6 : (Ob.cells p).length = 6 := rfl
    cases i with
    | zero =>
      simp at h
      subst h
      rw [List.getElem?_append_left (by omega)]
      simp
    | succ i =>
      simp at h
      rw [List.getElem?_append_right (by omega), h6, show (i + 1) * 6 + j - 6 = i * 6 + j from by omega]
      exact ih h
theorem obCells_one (l : List Ob) : ∀ u ∈ obCells l, u.oneCell' = true := by
  intro u hu
  obtain ⟨o, _, ho⟩ := List.mem_flatMap.1 hu
  simp [Ob.cells] at ho
  rcases ho with rfl | rfl | rfl | rfl | rfl | rfl <;> rfl
theorem byCells_one (l : List UInt8) : ∀ u ∈ byCells l, u.oneCell' = true := by
  intro u hu
  obtain ⟨c, _, rfl⟩ := List.mem_map.1 hu
  rfl

/-- The blocks of colour c may have changed, the others have not; no old block has another role. -/
structure Keep (role : Nat → Nat × Nat) (c : Nat) (w : World) (role' : Nat → Nat × Nat) (w' : World) : Prop where
  os : w'.os = w.os
  tape : w'.tape = w.tape
  output : w'.output = w.output
  size : w.heap.size ≤ w'.heap.size
  block : ∀ k, k < w.heap.size → (role k).1 ≠ c → w'.heap[k]? = w.heap[k]?
  same : ∀ k, k < w.heap.size → role' k = role k
theorem Keep.refl (role : Nat → Nat × Nat) (c : Nat) (w : World) : Keep role c w role w := ⟨rfl, rfl, rfl, Nat.le_refl _, fun _ _ _ => rfl, fun _ _ => rfl⟩
theorem Keep.trans {r0 r1 r2 : Nat → Nat × Nat} {c : Nat} {w0 w1 w2 : World} (h : Keep r0 c w0 r1 w1) (k : Keep r1 c w1 r2 w2) : Keep r0 c w0 r2 w2 :=
  ⟨k.os.trans h.os, k.tape.trans h.tape, k.output.trans h.output, Nat.le_trans h.size k.size,
   fun i hi hc => (k.block i (Nat.lt_of_lt_of_le hi h.size) (by rw [h.same i hi]; exact hc)).trans (h.block i hi hc),
   fun i hi => (k.same i (Nat.lt_of_lt_of_le hi h.size)).trans (h.same i hi)⟩
theorem Keep.of_below {role : Nat → Nat × Nat} (c : Nat) {w w' : World} (h : Below w.heap.size w w') : Keep role c w role w' := ⟨h.os, h.tape, h.output, h.size, fun k hk _ => h.block k hk, fun _ _ => rfl⟩

/-- New roles from block n on. -/
def paint (role : Nat → Nat × Nat) (n : Nat) (f : Nat → Nat × Nat) : Nat → Nat × Nat := fun k => if k < n then role k else f k
theorem paint_old {role : Nat → Nat × Nat} {n : Nat} {f : Nat → Nat × Nat} {k : Nat} (h : k < n) : paint role n f k = role k := by simp [paint, h]
theorem paint_new {role : Nat → Nat × Nat} {n : Nat} {f : Nat → Nat × Nat} {k : Nat} (h : n ≤ k) : paint role n f k = f k := by simp [paint, Nat.not_lt.2 h]

/-- A cell of items. -/
structure ICell (w : World) (pb : Nat) (row : Value) (c : Cel) : Prop where
  kind : c.k = 9 ∨ c.k = 10
  bs : c.bs = []
  blk : w.heap[pb]? = some (.cells #[.int .i64 c.k, .bool c.lk, row] 160 (0, 0))
  row : w.ownsRow 0 24 6 row c.it.length (obCells c.it)
/-- A row of bytes (the row that a string's conversion makes bears a mark behind its end). -/
def rowB (w : World) (v : Value) (xs : List UInt8) : Prop :=
  (v = .slice none 0 0 ∧ xs = []) ∨ ∃ g cap cur fr, v = .slice (some ⟨g, 0, none⟩) xs.length cap ∧ w.heap[g]? = some (.cells cur 5 fr) ∧ (fr = (0, 0) ∨ fr = (cur.size, cur.size + 1)) ∧ xs.length ≤ cap ∧ cur.size = cap ∧ cur.toList.take xs.length = byCells xs
/-- A cell of bytes. -/
structure BCell (w : World) (pb : Nat) (row : Value) (c : Cel) : Prop where
  kind : c.k = 8
  it : c.it = []
  blk : w.heap[pb]? = some (.cells #[.int .i64 c.k, .bool c.lk, row] 147 (0, 0))
  row : rowB w row c.bs
def PCell (w : World) (iv : Value) (pb : Nat) (row : Value) (c : Cel) : Prop := (iv = .iface 156 (ptr pb) ∧ ICell w pb row c) ∨ (iv = .iface 141 (ptr pb) ∧ BCell w pb row c)

/-- A heap: its block, the row of its cells, each cell's block and row. -/
structure PH (role : Nat → Nat × Nat) (c : Nat) (hb : Nat) (vc : Value) (ivs : List Value) (pb : Nat → Nat) (rv : Nat → Value) (P : List Cel) (w : World) : Prop where
  wf : WfP P
  hrole : role hb = (c, 0)
  hblk : w.heap[hb]? = some (.cells #[vc, .int .i64 (usedP P)] 97 (0, 0))
  crow : w.ownsRow 0 99 1 vc P.length ivs
  crole : ∀ g, vc.ownBlock = some g → role g = (c, 1)
  cell : ∀ i cl, P[i]? = some cl → ∃ iv, ivs[i]? = some iv ∧ PCell w iv (pb i) (rv i) cl ∧ role (pb i) = (c, 2 * i + 2) ∧ ∀ g, (rv i).ownBlock = some g → role g = (c, 2 * i + 3)
def PHeap (role : Nat → Nat × Nat) (c : Nat) (hb : Nat) (P : List Cel) (w : World) : Prop := ∃ vc ivs pb rv, PH role c hb vc ivs pb rv P w

theorem blk_lt {w : World} {b : Nat} {o : Obj} (h : w.heap[b]? = some o) : b < w.heap.size := (Array.getElem?_eq_some_iff.1 h).1
theorem owns_same {w w' : World} {e : TypeId} {size : Nat} {v : Value} {n : Nat} {xs : List Value} (h : w.ownsRow 0 e size v n xs) (k : ∀ g, v.ownBlock = some g → g < w.heap.size → w'.heap[g]? = w.heap[g]?) : w'.ownsRow 0 e size v n xs := by
  refine ⟨h.1, ?_⟩
  rcases h.2 with hn | ⟨g, cap, cur, rfl, hb, hg, rest⟩
  · exact .inl hn
  · exact .inr ⟨g, cap, cur, rfl, hb, (k g rfl (blk_lt hg)).trans hg, rest⟩
theorem rowB_same {w w' : World} {v : Value} {xs : List UInt8} (h : rowB w v xs) (k : ∀ g, v.ownBlock = some g → g < w.heap.size → w'.heap[g]? = w.heap[g]?) : rowB w' v xs := by
  rcases h with hn | ⟨g, cap, cur, fr, rfl, hg, rest⟩
  · exact .inl hn
  · exact .inr ⟨g, cap, cur, fr, rfl, (k g rfl (blk_lt hg)).trans hg, rest⟩
theorem rowB_lt {w : World} {v : Value} {xs : List UInt8} (h : rowB w v xs) {g : Nat} (e : v.ownBlock = some g) : g < w.heap.size := by
  rcases h with ⟨rfl, _⟩ | ⟨g', cap, cur, fr, rfl, hg, rest⟩
  · cases e
  · have : g' = g := by simpa [Value.ownBlock] using e
    subst this
    exact blk_lt hg
theorem rowB_form {w : World} {v : Value} {xs : List UInt8} (h : rowB w v xs) : ∃ p cap, v = .slice p xs.length cap := by
  rcases h with ⟨rfl, rfl⟩ | ⟨g, cap, cur, fr, rfl, _⟩
  · exact ⟨_, _, rfl⟩
  · exact ⟨_, _, rfl⟩
theorem PCell.same {w w' : World} {iv : Value} {pb : Nat} {row : Value} {c : Cel} (h : PCell w iv pb row c) (h1 : w'.heap[pb]? = w.heap[pb]?) (h2 : ∀ g, row.ownBlock = some g → g < w.heap.size → w'.heap[g]? = w.heap[g]?) : PCell w' iv pb row c := by
  rcases h with ⟨e, h⟩ | ⟨e, h⟩
  · exact .inl ⟨e, h.kind, h.bs, h1.trans h.blk, owns_same h.row h2⟩
  · exact .inr ⟨e, h.kind, h.it, h1.trans h.blk, rowB_same h.row h2⟩
theorem PCell.lt {w : World} {iv : Value} {pb : Nat} {row : Value} {c : Cel} (h : PCell w iv pb row c) : pb < w.heap.size := by
  rcases h with ⟨e, h⟩ | ⟨e, h⟩
  · exact blk_lt h.blk
  · exact blk_lt h.blk
theorem PCell.row_lt {w : World} {iv : Value} {pb : Nat} {row : Value} {c : Cel} (h : PCell w iv pb row c) {g : Nat} (e : row.ownBlock = some g) : g < w.heap.size := by
  rcases h with ⟨_, h⟩ | ⟨_, h⟩
  · exact (h.row.lt g e).2
  · exact rowB_lt h.row e
theorem PH.same {role role' : Nat → Nat × Nat} {c hb : Nat} {vc : Value} {ivs : List Value} {pb : Nat → Nat} {rv : Nat → Value} {P : List Cel} {w w' : World} (h : PH role c hb vc ivs pb rv P w)
    (hk : ∀ k, k < w.heap.size → (role k).1 = c → w'.heap[k]? = w.heap[k]? ∧ role' k = role k) : PH role' c hb vc ivs pb rv P w' := by
  have l0 := blk_lt h.hblk
  have e0 := hk hb l0 (by rw [h.hrole])
  refine ⟨h.wf, e0.2.trans h.hrole, e0.1.trans h.hblk, owns_same h.crow fun g e l => (hk g l (by rw [h.crole g e])).1, fun g e => ?_, fun i cl hi => ?_⟩
  · exact (hk g (h.crow.lt g e).2 (by rw [h.crole g e])).2.trans (h.crole g e)
  · obtain ⟨iv, h1, h2, h3, h4⟩ := h.cell i cl hi
    have e2 := hk (pb i) h2.lt (by rw [h3])
    exact ⟨iv, h1, h2.same e2.1 fun g e l => (hk g l (by rw [h4 g e])).1, e2.2.trans h3, fun g e => (hk g (h2.row_lt e) (by rw [h4 g e])).2.trans (h4 g e)⟩
theorem PH.keep {role role' : Nat → Nat × Nat} {c d hb : Nat} {vc : Value} {ivs : List Value} {pb : Nat → Nat} {rv : Nat → Value} {P : List Cel} {w w' : World} (h : PH role c hb vc ivs pb rv P w) (k : Keep role d w role' w') (hd : c ≠ d) : PH role' c hb vc ivs pb rv P w' :=
  h.same fun i hi hc => ⟨k.block i hi (by rw [hc]; exact hd), k.same i hi⟩
theorem PH.below {role : Nat → Nat × Nat} {c hb : Nat} {vc : Value} {ivs : List Value} {pb : Nat → Nat} {rv : Nat → Value} {P : List Cel} {w w' : World} (h : PH role c hb vc ivs pb rv P w) (k : Below w.heap.size w w') : PH role c hb vc ivs pb rv P w' :=
  h.same fun i hi _ => ⟨k.block i hi, rfl⟩
theorem PHeap.keep {role role' : Nat → Nat × Nat} {c d hb : Nat} {P : List Cel} {w w' : World} (h : PHeap role c hb P w) (k : Keep role d w role' w') (hd : c ≠ d) : PHeap role' c hb P w' := by
  obtain ⟨vc, ivs, pb, rv, h⟩ := h
  exact ⟨vc, ivs, pb, rv, h.keep k hd⟩
theorem PHeap.below {role : Nat → Nat × Nat} {c hb : Nat} {P : List Cel} {w w' : World} (h : PHeap role c hb P w) (k : Below w.heap.size w w') : PHeap role c hb P w' := by
  obtain ⟨vc, ivs, pb, rv, h⟩ := h
  exact ⟨vc, ivs, pb, rv, h.below k⟩
theorem PHeap.wf {role : Nat → Nat × Nat} {c hb : Nat} {P : List Cel} {w : World} (h : PHeap role c hb P w) : WfP P := by
  obtain ⟨vc, ivs, pb, rv, h⟩ := h
  exact h.wf
theorem cellAt {w : World} {b : Nat} {cur : Array Value} {t : TypeId} {f : Nat × Nat} (h : w.heap[b]? = some (.cells cur t f)) (i : Nat) : w.cell? ⟨b, i, none⟩ = cur[i]? := by simp [World.cell?, h]
theorem freeAt {w : World} {b : Nat} {cur : Array Value} {t : TypeId} (h : w.heap[b]? = some (.cells cur t (0, 0))) (i : Nat) : w.frozen? ⟨b, i, none⟩ = false := by simp [World.frozen?, h]
end Go.Proofs.Ytmlkmgeddkpgiaa
