/- Walks of heap: a cell more: Array, String, Dict. -/
import Derived.Test.YtmlkmgeddkpgiaaK10
import Derived.Lib.ConvBytes
import Derived.Laws.ResultCell
namespace Go.Proofs.Ytmlkmgeddkpgiaa
open Go.RowKit
set_option linter.unusedVariables false

/-- The roles of the blocks from n on: b a cell's block, r its row's. -/
def newRole (role : Nat → Nat × Nat) (n c i b : Nat) (r : Option Nat) : Nat → Nat × Nat := paint role n fun k => if k = b then (c, 2 * i + 2) else if some k = r then (c, 2 * i + 3) else (c, 1)

theorem PCell.bound {w : World} {iv : Value} {pb : Nat} {row : Value} {c : Cel} (h : PCell w iv pb row c) : (c.k = 8 ∧ c.it = []) ∨ ((c.k = 9 ∨ c.k = 10) ∧ c.bs = []) := by
  rcases h with ⟨_, h⟩ | ⟨_, h⟩
  · exact .inr ⟨h.kind, h.bs⟩
  · exact .inl ⟨h.kind, h.it⟩
theorem used_append (P : List Cel) (c : Cel) : usedP (P ++ [c]) = usedP P + c.size := by simp [usedP]

/-- A heap that has got a cell more. -/
theorem PH.added {role : Nat → Nat × Nat} {c hb : Nat} {vc : Value} {ivs : List Value} {pb : Nat → Nat} {rv : Nat → Value} {P : List Cel} {w w1 w2 : World} (h : PH role c hb vc ivs pb rv P w) (k1 : Below w.heap.size w w1)
    {cl : Cel} {b : Nat} {iv row : Value} (hb1 : w.heap.size ≤ b) (hc : PCell w1 iv b row cl) (hr : ∀ g, row.ownBlock = some g → w.heap.size ≤ g ∧ g ≠ b) (hl : P.length < 2000) (hu : cl.size + usedP P ≤ 40000)
    {g cap : Nat} (e1 : w2.heap[hb]? = some (.cells #[.slice (some ⟨g, 0, none⟩) (P.length + 1) cap, .int .i64 ((usedP P : Int) + cl.size)] 97 (0, 0)))
    (e2 : w2.ownsRow 0 99 1 (.slice (some ⟨g, 0, none⟩) (P.length + 1) cap) (P.length + 1) (ivs ++ [iv])) (e3 : vc.ownBlock = some g ∨ w1.heap.size ≤ g) (e4 : w2.os = w1.os) (e5 : w2.tape = w1.tape) (e6 : w2.output = w1.output) (e7 : w1.heap.size ≤ w2.heap.size)
    (e8 : ∀ k, k < w1.heap.size → k ≠ hb → vc.ownBlock ≠ some k → w2.heap[k]? = w1.heap[k]?) :
    PHeap (newRole role w.heap.size c P.length b row.ownBlock) c hb (P ++ [cl]) w2 ∧ Keep role c w (newRole role w.heap.size c P.length b row.ownBlock) w2 := by
  have hbl := blk_lt h.hblk
  have hlen : ivs.length = P.length := by
    have := h.crow.1
    omega
  have old : ∀ k, k < w.heap.size → newRole role w.heap.size c P.length b row.ownBlock k = role k := fun k hk => paint_old hk
  have far : ∀ k, k < w.heap.size → role k ≠ (c, 0) → role k ≠ (c, 1) → w2.heap[k]? = w.heap[k]? := fun k hk h0 h1 =>
    (e8 k (Nat.lt_of_lt_of_le hk k1.size) (fun e => h0 (by rw [e]; exact h.hrole)) (fun e => h1 (h.crole k e))).trans (k1.block k hk)
  have far1 : ∀ k, w.heap.size ≤ k → k < w1.heap.size → w2.heap[k]? = w1.heap[k]? := fun k hk hk1 =>
    e8 k hk1 (by omega) (fun e => by
      have := (h.crow.lt k e).2
      omega)
  refine ⟨⟨.slice (some ⟨g, 0, none⟩) (P.length + 1) cap, ivs ++ [iv], fun i => if i = P.length then b else pb i, fun i => if i = P.length then row else rv i, ?_, ?_, ?_, ?_, ?_, ?_⟩, ?_⟩
  · refine ⟨by simp; omega, by rw [used_append]; omega, fun d hd => ?_⟩
    rcases List.mem_append.1 hd with hd | hd
    · exact h.wf.kind d hd
    · simp at hd
      subst hd
      exact hc.bound
  · rw [old hb hbl]
    exact h.hrole
  · rw [e1, used_append]
    simp
  · simpa using e2
  · intro k hk
    have : g = k := by simpa [Value.ownBlock] using hk
    subst this
    rcases e3 with e3 | e3
    · rw [old g (h.crow.lt g e3).2]
      exact h.crole g e3
    · have hg : w.heap.size ≤ g := Nat.le_trans k1.size e3
      rw [newRole, paint_new hg, if_neg, if_neg]
      · intro e
        have := hc.row_lt e.symm
        omega
      · intro e
        have := hc.lt
        omega
  · intro i cl' hi
    by_cases hin : i = P.length
    · subst hin
      have : cl = cl' := by simpa using hi
      subst this
      have hbw := hc.lt
      refine ⟨iv, by rw [List.getElem?_append_right (by omega), hlen]; simp, ?_, ?_, fun k hk => ?_⟩
      · simp only [if_true]
        exact hc.same (far1 b hb1 hbw) fun k e hk => far1 k (hr k e).1 hk
      · simp only [if_true]
        rw [newRole, paint_new hb1, if_pos rfl]
      · simp only [if_true] at hk
        rw [newRole, paint_new (hr k hk).1, if_neg (hr k hk).2, if_pos hk.symm]
    · have hi' : i < P.length := by
        have := (List.getElem?_eq_some_iff.1 hi).1
        simp at this
        omega
      rw [List.getElem?_append_left hi'] at hi
      obtain ⟨iv', h1, h2, h3, h4⟩ := h.cell i cl' hi
      simp only [if_neg hin]
      refine ⟨iv', by rw [List.getElem?_append_left (by omega)]; exact h1, ?_, ?_, fun k hk => ?_⟩
      · refine h2.same (far _ h2.lt ?_ ?_) fun k e hk => far k hk ?_ ?_
        · rw [h3]; simp
        · rw [h3]; simp
        · rw [h4 k e]; simp
        · rw [h4 k e]; simp
      · rw [old _ h2.lt]
        exact h3
      · rw [old _ (h2.row_lt hk)]
        exact h4 k hk
  · refine ⟨e4.trans k1.os, e5.trans k1.tape, e6.trans k1.output, Nat.le_trans k1.size e7, fun k hk hne => far k hk ?_ ?_, old⟩
    · intro e
      exact hne (by rw [e])
    · intro e
      exact hne (by rw [e])
end Go.Proofs.Ytmlkmgeddkpgiaa
