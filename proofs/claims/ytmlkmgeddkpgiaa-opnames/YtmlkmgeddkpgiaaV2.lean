/- Walks of op: find. -/
import Derived.Test.YtmlkmgeddkpgiaaV1
import Derived.Test.YtmlkmgeddkpgiaaK20
import Derived.Lib.OthersKept
import Derived.LoopTactic
namespace Go.Proofs.Ytmlkmgeddkpgiaa
open Go.RowKit
set_option linter.unusedVariables false

abbrev ptrv (b : Nat) : Value := .pointer (some ⟨b, 0, none⟩)
abbrev opV (t : Int × Int × ByteArray) : Value := .agg #[.int .i64 t.1, .int .i64 t.2.1, .string t.2.2]
abbrev opObj (n f : Int) (s : ByteArray) : Obj := .cells #[.int .i64 n, .int .i64 f, .string s] 149 (0, 0)
/-- A call of function k enters its body. -/
def EntersF (k : Nat) : Prop := ∀ (args : Array Value) (w : World), (callFunc k args).run Try.prog w = .ok (.enter k args) w
theorem entersF_of {k : Nat} {fn : Func} (hf : Try.prog.funcs[k]? = some fn) (hname : (fn.name == "runtime.NumGoroutine") = false) (hb : fn.body.isSome = true) : EntersF k := by
  intro args w
  have h1 : fn.name ≠ "runtime.NumGoroutine" := by simpa using hname
  obtain ⟨c, hc⟩ := Option.isSome_iff_exists.mp hb
  simp [callFunc, hf, h1, hc]
/-- Block b alone may have changed. -/
structure Sole (b : Nat) (w w' : World) : Prop where
  os : w'.os = w.os
  tape : w'.tape = w.tape
  output : w'.output = w.output
  size : w.heap.size ≤ w'.heap.size
  block : ∀ k, k < w.heap.size → k ≠ b → w'.heap[k]? = w.heap[k]?
theorem Sole.refl (b : Nat) (w : World) : Sole b w w := ⟨rfl, rfl, rfl, Nat.le_refl _, fun _ _ _ => rfl⟩
theorem Sole.trans {b : Nat} {u v w : World} (h : Sole b u v) (k : Sole b v w) : Sole b u w :=
  ⟨k.os.trans h.os, k.tape.trans h.tape, k.output.trans h.output, Nat.le_trans h.size k.size, fun i hi hb => (k.block i (Nat.lt_of_lt_of_le hi h.size) hb).trans (h.block i hi hb)⟩
theorem Sole.below {b : Nat} {u v w : World} (h : Sole b u v) (k : Below v.heap.size v w) : Sole b u w :=
  h.trans ⟨k.os, k.tape, k.output, k.size, fun i hi _ => k.block i hi⟩
theorem Sole.belowN {b : Nat} {u v w : World} (h : Sole b u v) (k : Below u.heap.size v w) : Sole b u w :=
  ⟨k.os.trans h.os, k.tape.trans h.tape, k.output.trans h.output, Nat.le_trans h.size k.size, fun i hi hb => (k.block i hi).trans (h.block i hi hb)⟩

theorem Sole.of_only {b A : Nat} {u v w : World} (h : Sole b u v) (k : Only A v w) (hA : u.heap.size ≤ A) : Sole b u w :=
  ⟨k.os.trans h.os, k.tape.trans h.tape, k.output.trans h.output, by rw [k.size]; exact h.size, fun i hi hb => (k.block i (by omega)).trans (h.block i hi hb)⟩
/-- How find's own blocks lie: the result, the operator, the iterator; the captured cell holds V z. -/
structure OpW (t : TypeId) (V : Int → Value) (b : Nat) (w wr : World) (pos : Nat) (n f : Int) (s : ByteArray) (z : Int) : Prop where
  ob : wr.heap[w.heap.size + 1]? = some (opObj n f s)
  res : wr.heap[w.heap.size]? = some (opObj 0 0 ⟨#[]⟩)
  it : wr.heap[w.heap.size + 2]? = some (.stringIter nm pos)
  cell : wr.heap[b]? = some (.cells #[V z] t (0, 0))
  sole : Sole b w wr
  hb : b < w.heap.size
section
variable {t : TypeId} {V : Int → Value} {b pos : Nat} {w wr w2 : World} {n f z : Int} {s : ByteArray}
theorem OpW.next (h : OpW t V b w wr pos n f s z) (q : Nat) : OpW t V b w (wr.iterAt (w.heap.size + 2) nm q) q n f s z :=
  ⟨(Lib.iterAt_other _ _ _ _ _ (by omega)).trans h.ob, (Lib.iterAt_other _ _ _ _ _ (by omega)).trans h.res, Lib.iterAt_heap _ _ _ _ _ h.it,
    (Lib.iterAt_other _ _ _ _ _ (by have := h.hb; omega)).trans h.cell,
    ⟨h.sole.os, h.sole.tape, h.sole.output, by rw [Lib.iterAt_size]; exact h.sole.size, fun i hi hb => (Lib.iterAt_other _ _ _ _ _ (by omega)).trans (h.sole.block i hi hb)⟩, h.hb⟩
theorem OpW.set (h : OpW t V b w wr pos n f s z) (i : Nat) (v : Value) {n' f' : Int} {s' : ByteArray} (he : #[Value.int .i64 n, .int .i64 f, .string s].setIfInBounds i v = #[Value.int .i64 n', .int .i64 f', .string s']) : OpW t V b w (wr.setCell ⟨w.heap.size + 1, i, none⟩ v) pos n' f' s' z := by
  have o : Only (w.heap.size + 1) wr (wr.setCell ⟨w.heap.size + 1, i, none⟩ v) := (Only.refl _ _).set i v
  have := h.hb
  refine ⟨?_, (o.block _ (by omega)).trans h.res, (o.block _ (by omega)).trans h.it, (o.block _ (by omega)).trans h.cell, h.sole.of_only o (by omega), h.hb⟩
  rw [heap_setCell_same _ _ _ _ _ _ h.ob, he]
theorem OpW.num (h : OpW t V b w wr pos n f s z) (m : Int) : OpW t V b w (wr.setCell ⟨w.heap.size + 1, 0, none⟩ (.int .i64 m)) pos m f s z := h.set 0 _ rfl
theorem OpW.fam (h : OpW t V b w wr pos n f s z) (m : Int) : OpW t V b w (wr.setCell ⟨w.heap.size + 1, 1, none⟩ (.int .i64 m)) pos n m s z := h.set 1 _ rfl
theorem OpW.name (h : OpW t V b w wr pos n f s z) (q : ByteArray) : OpW t V b w (wr.setCell ⟨w.heap.size + 1, 2, none⟩ (.string q)) pos n f q z := h.set 2 _ rfl
theorem OpW.call (h : OpW t V b w wr pos n f s z) {y : Int} (k : Sole b wr w2) (hc : w2.heap[b]? = some (.cells #[V y] t (0, 0))) : OpW t V b w w2 pos n f s y := by
  have := h.hb
  refine ⟨(k.block _ (blk_lt h.ob) (by omega)).trans h.ob, (k.block _ (blk_lt h.res) (by omega)).trans h.res, (k.block _ (blk_lt h.it) (by omega)).trans h.it, hc, h.sole.trans k, h.hb⟩
end

/-- What of the text is read already, and what is still to come. -/
structure OpP (p : Int × Int × ByteArray → Bool) (pos st : Nat) (n f : Int) : Prop where
  hpos : pos ≤ 1158
  hst : st ≤ pos
  hn : 1 ≤ n
  hf : 1 ≤ f
  hf2 : f ≤ n
  rest : tab.find? p = (cutL (nm.data.toList.drop pos) ((nm.data.toList.drop st).take (pos - st)) n f).find? p
  count : n - 1 + (cutL (nm.data.toList.drop pos) ((nm.data.toList.drop st).take (pos - st)) n f).length = 162

theorem nmL_length : nm.data.toList.length = 1158 := by rw [Array.length_toList]; exact nm_size
theorem nm_lt {pos : Nat} (h : pos < nm.size) : pos < nm.data.toList.length := by rw [Array.length_toList]; exact h
theorem nm_extract (st pos : Nat) : nm.extract st pos = ⟨((nm.data.toList.drop st).take (pos - st)).toArray⟩ := by
  apply ByteArray.ext
  rw [ByteArray.data_extract]
  apply Array.ext'
  simp [Array.toList_extract]
theorem nm_drop {pos : Nat} (h : pos < nm.size) : nm.data.toList.drop pos = nm[pos] :: nm.data.toList.drop (pos + 1) := by
  have h' := nm_lt h
  rw [List.drop_eq_getElem_cons h']
  rfl
theorem nm_take {pos st : Nat} (h : pos < nm.size) (hst : st ≤ pos) : (nm.data.toList.drop st).take (pos + 1 - st) = (nm.data.toList.drop st).take (pos - st) ++ [nm[pos]] := by
  have h' := nm_lt h
  have e : pos + 1 - st = (pos - st) + 1 := by omega
  have hl : pos - st < (nm.data.toList.drop st).length := by rw [List.length_drop]; omega
  rw [e, List.take_succ_eq_append_getElem hl]
  congr 2
  simp [List.getElem_drop, show st + (pos - st) = pos from by omega]
  rfl
theorem nm_byte {pos : Nat} (h : pos < nm.size) : (nm[pos]).toNat < 128 := by
  have h' := nm_lt h
  have := List.all_eq_true.1 nm_all (nm.data.toList[pos]) (List.getElem_mem h')
  exact of_decide_eq_true this
theorem byte_eq {b : UInt8} {k : Nat} (hk : k < 256) (h : b.toNat = k) : b = UInt8.ofNat k := by
  apply UInt8.toNat_inj.1
  rw [h]; simp; omega
section
variable {p : Int × Int × ByteArray → Bool} {pos st : Nat} {n f : Int}
theorem OpP.start : OpP p 0 0 1 1 := ⟨by omega, by omega, by omega, by omega, by omega, by simp [← cut_nm], by
  have h1 := cut_nm
  have h2 := tab_length
  rw [← h1] at h2
  simp [h2]⟩
theorem OpP.other (h : OpP p pos st n f) (hp : pos < nm.size) (h1 : (nm[pos]).toNat ≠ 32) (h2 : (nm[pos]).toNat ≠ 10) : OpP p (pos + 1) st n f := by
  have b1 : (nm[pos] == 32) = false := by apply Bool.eq_false_iff.2; intro e; have := eq_of_beq e; rw [this] at h1; exact h1 rfl
  have b2 : (nm[pos] == 10) = false := by apply Bool.eq_false_iff.2; intro e; have := eq_of_beq e; rw [this] at h2; exact h2 rfl
  have e : cutL (nm.data.toList.drop pos) ((nm.data.toList.drop st).take (pos - st)) n f = cutL (nm.data.toList.drop (pos + 1)) ((nm.data.toList.drop st).take (pos + 1 - st)) n f := by
    rw [nm_drop hp, nm_take hp h.hst, cutL, b1, b2]; rfl
  have hs := nm_size
  exact ⟨by omega, by have := h.hst; omega, h.hn, h.hf, h.hf2, by rw [← e]; exact h.rest, by rw [← e]; exact h.count⟩
theorem OpP.sp (h : OpP p pos st n f) (hp : pos < nm.size) (h1 : (nm[pos]).toNat = 32) (hn : p (n, f, nm.extract st pos) = false) : OpP p (pos + 1) (pos + 1) (n + 1) f := by
  have b1 : (nm[pos] == 32) = true := by rw [byte_eq (by omega) h1]; rfl
  have e : cutL (nm.data.toList.drop pos) ((nm.data.toList.drop st).take (pos - st)) n f = (n, f, nm.extract st pos) :: cutL (nm.data.toList.drop (pos + 1)) ((nm.data.toList.drop (pos + 1)).take (pos + 1 - (pos + 1))) (n + 1) f := by
    rw [nm_drop hp, cutL, b1, nm_extract]; simp
  have hs := nm_size
  have h3 := h.rest
  have h4 := h.count
  rw [e] at h3 h4
  rw [List.find?_cons, hn] at h3
  rw [List.length_cons] at h4
  exact ⟨by omega, by omega, by have := h.hn; omega, h.hf, by have := h.hf2; omega, h3, by omega⟩
theorem OpP.nl (h : OpP p pos st n f) (hp : pos < nm.size) (h1 : (nm[pos]).toNat = 10) (hn : p (n, f, nm.extract st pos) = false) : OpP p (pos + 1) (pos + 1) (n + 1) (f + 1) := by
  have b0 : (nm[pos] == 32) = false := by rw [byte_eq (by omega) h1]; rfl
  have b1 : (nm[pos] == 10) = true := by rw [byte_eq (by omega) h1]; rfl
  have e : cutL (nm.data.toList.drop pos) ((nm.data.toList.drop st).take (pos - st)) n f = (n, f, nm.extract st pos) :: cutL (nm.data.toList.drop (pos + 1)) ((nm.data.toList.drop (pos + 1)).take (pos + 1 - (pos + 1))) (n + 1) (f + 1) := by
    rw [nm_drop hp, cutL, b0, b1, nm_extract]; simp
  have hs := nm_size
  have h3 := h.rest
  have h4 := h.count
  rw [e] at h3 h4
  rw [List.find?_cons, hn] at h3
  rw [List.length_cons] at h4
  exact ⟨by omega, by omega, by have := h.hn; omega, by have := h.hf; omega, by have := h.hf2; omega, h3, by omega⟩
theorem OpP.found (h : OpP p pos st n f) (hp : pos < nm.size) (h1 : (nm[pos]).toNat = 32 ∨ (nm[pos]).toNat = 10) (hn : p (n, f, nm.extract st pos) = true) : tab.find? p = some (n, f, nm.extract st pos) := by
  rw [h.rest]
  rcases h1 with h1 | h1
  · have b1 : (nm[pos] == 32) = true := by rw [byte_eq (by omega) h1]; rfl
    rw [nm_drop hp, cutL, b1, ← nm_extract]; simp [hn]
  · have b0 : (nm[pos] == 32) = false := by rw [byte_eq (by omega) h1]; rfl
    have b1 : (nm[pos] == 10) = true := by rw [byte_eq (by omega) h1]; rfl
    rw [nm_drop hp, cutL, b0, b1, ← nm_extract]; simp [hn]
theorem OpP.most (h : OpP p pos st n f) (hp : pos < nm.size) (h1 : (nm[pos]).toNat = 32 ∨ (nm[pos]).toNat = 10) : n ≤ 162 := by
  have h4 := h.count
  rcases h1 with h1 | h1
  · have b1 : (nm[pos] == 32) = true := by rw [byte_eq (by omega) h1]; rfl
    rw [nm_drop hp, cutL, b1, cond_true, List.length_cons] at h4
    omega
  · have b0 : (nm[pos] == 32) = false := by rw [byte_eq (by omega) h1]; rfl
    have b1 : (nm[pos] == 10) = true := by rw [byte_eq (by omega) h1]; rfl
    rw [nm_drop hp, cutL, b0, b1, cond_false, cond_true, List.length_cons] at h4
    omega
theorem OpP.done (h : OpP p pos st n f) (hp : ¬ pos < nm.size) : tab.find? p = none ∧ n - 1 = 162 := by
  have hs := nm_size
  have e : nm.data.toList.drop pos = [] := List.drop_eq_nil_of_le (by rw [nmL_length]; omega)
  have h3 := h.rest
  have h4 := h.count
  rw [e] at h3 h4
  simp [cutL] at h3 h4
  exact ⟨by simpa using h3, h4⟩
end
end Go.Proofs.Ytmlkmgeddkpgiaa
