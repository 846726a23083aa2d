/- DictLast: its calls, and the world of its loop. -/
import Derived.Test.YtigboibcgpfphaaY8
namespace Go.Proofs.Ytigboibcgpfphaa
open Go.RowKit Go.Maps
set_option linter.unusedVariables false

abbrev O3 (n0 B W C : Nat) : Nat → Prop := fun b => ((b < n0 ∨ b = B) ∨ b = W) ∨ b = C
/-- The heap of one dictionary beside three boxes: its object, what is wanted, the key that is asked for. -/
structure LSt (n0 hb : Nat) (P : List Cel) (w0 wr : World) (B W C : Nat) (wo qo : Ob) : Prop where
  sep : Sep (O3 n0 B W C) hb P wr
  d : wr.heap[B]? = some (obObj 10 false 0 0 0 ⟨#[]⟩)
  want : wr.heap[W]? = some (obObj wo.k wo.x wo.n wo.a wo.l wo.s)
  q : wr.heap[C]? = some (obObj qo.k qo.x qo.n qo.a qo.l qo.s)
  below : Below n0 w0 wr
  ne : B ≠ W ∧ W ≠ C ∧ n0 ≤ W
section
variable {n0 hb B W C : Nat} {P P' : List Cel} {w0 wr wx : World} {wo qo : Ob}
theorem LSt.put (h : LSt n0 hb P w0 wr B W C wo qo) {own : Nat → Prop} (s : Sep own hb P' wx) (k : Kept own wr wx) (hs : ∀ b, O3 n0 B W C b → own b) : LSt n0 hb P' w0 wx B W C wo qo :=
  ⟨s.sub hs, ((k.sub hs).block _ (.inl (.inl (.inr rfl)))).trans h.d, ((k.sub hs).block _ (.inl (.inr rfl))).trans h.want, ((k.sub hs).block _ (.inr rfl)).trans h.q, h.below.trans ((k.sub hs).below fun _ h => .inl (.inl (.inl h))), h.ne⟩
theorem LSt.later (h : LSt n0 hb P w0 wr B W C wo qo) (k : Below wr.heap.size wr wx) : LSt n0 hb P w0 wx B W C wo qo :=
  h.put (h.sep.below k).1 (h.sep.below k).2 fun _ h => h
theorem LSt.write (h : LSt n0 hb P w0 wr B W C wo qo) (v : Ob) : LSt n0 hb P w0 (put6 wr W (.int .i64 v.k) (.bool v.x) (.int .i64 v.n) (.int .i64 v.a) (.int .i64 v.l) (.string v.s)) B W C v qo := by
  have on : Only W wr (put6 wr W (.int .i64 v.k) (.bool v.x) (.int .i64 v.n) (.int .i64 v.a) (.int .i64 v.l) (.string v.s)) := only6 _ _ _ _ _ _ _ _
  exact ⟨h.sep.only (.inl (.inr rfl)) on, (on.block _ h.ne.1).trans h.d, set6 h.want _ _ _ _ _ _, (on.block _ (Ne.symm h.ne.2.1)).trans h.q, only_below on h.below h.ne.2.2, h.ne⟩
end
section
variable {own : Nat → Prop} {hb n a : Nat} {w : World} {ps : List (Ob × Ob)} {P : List Cel} {q : Ob} {want : Option Ob} {k1 n1 a1 l1 k2 n2 a2 l2 k3 n3 a3 l3 : Int} {x1 x2 x3 : Bool} {s1 s2 s3 : ByteArray}
theorem lC (h : LastS q want n ps) (hn : n ≤ 40) : DictC (oP ps 40) oD ps 40 false := oP_c (Nat.le_trans h.len hn) (by decide) h.fine
theorem lKey (h : Sep own hb P w) (e : kNum a = ⟨k1, x1, n1, a1, l1, s1⟩) (e2 : kKey a = ⟨k2, x2, n2, a2, l2, s2⟩) :
    Calls Try.prog 36 #[ptr hb, obV k1 x1 n1 a1 l1 s1] w fun e w' => e = .returned (.tuple #[obV k2 x2 n2 a2 l2 s2, .int .i64 0]) ∧ Sep own hb P w' ∧ Kept own w w' := by
  have f := kNum_facts a P
  have := sKey (k := kNum a) h 0 k2 x2 n2 a2 l2 s2 f.1 (f.2.1.trans e2)
  rw [e] at this
  exact this
theorem lSame {ask : Nat} (e1 : kKey a = ⟨k1, x1, n1, a1, l1, s1⟩) (e2 : kKey ask = ⟨k2, x2, n2, a2, l2, s2⟩) :
    Calls Try.prog 49 #[obV k1 x1 n1 a1 l1 s1, obV k2 x2 n2 a2 l2 s2] w fun e w' => e = .returned (.bool (decide (isKey (kKey ask) (kKey a)))) ∧ Below w.heap.size w w' := by
  have := sSame a ask w
  rw [e1, e2] at this ⊢
  exact this
theorem lSet (h : Sep own hb (oP ps 40) w) (L : LastS q want n ps) (hn : n < 40) (v : Int) (hv : -32768 ≤ v ∧ v ≤ 32767) (e : kNum a = ⟨k1, x1, n1, a1, l1, s1⟩) :
    Calls Try.prog 38 #[ptr hb, obV 10 false 0 0 0 ⟨#[]⟩, obV k1 x1 n1 a1 l1 s1, obV 3 false v 0 0 ⟨#[]⟩] w fun e w' => e = .returned (.int .i64 0) ∧ Sep own hb (oP (dsetL ps (kKey a) (Ob.num v)) 40) w' ∧ Kept own w w' := by
  have f := kNum_facts a (oP ps 40)
  have := sDictPut (d := oD) (k := kNum a) (v := Ob.num v) h (lC L (by omega)) (fun _ => by rw [f.2.1]; exact f.2.2.2) (fun _ => by rw [f.2.1]; exact f.2.2.1) 0 (L.setE hn a v hv _)
  rw [if_pos rfl, f.2.1, e, oP_set] at this
  exact this
theorem lDrop (h : Sep own hb (oP ps 40) w) (L : LastS q want n ps) (hn : n ≤ 40) (e : kNum a = ⟨k1, x1, n1, a1, l1, s1⟩) :
    Calls Try.prog 40 #[ptr hb, obV 10 false 0 0 0 ⟨#[]⟩, obV k1 x1 n1 a1 l1 s1] w fun e w' => e = .returned (.int .i64 0) ∧ Sep own hb (oP (dropL ps (kKey a)) 40) w' ∧ Kept own w w' := by
  have f := kNum_facts a (oP ps 40)
  have := sDictDrop (d := oD) (k := kNum a) h (lC L hn) (fun _ => by rw [f.2.1]; exact f.2.2.2) (L.valid (by omega))
  rw [L.dropE, if_pos rfl, f.2.1, e, oP_set] at this
  exact this
theorem lGet {ask : Nat} (h : Sep own hb (oP ps 40) w) (L : LastS (kKey ask) want n ps) (hn : n ≤ 40) (e : kKey ask = ⟨k1, x1, n1, a1, l1, s1⟩) (e2 : want.getD Ob.zero = ⟨k2, x2, n2, a2, l2, s2⟩) (E : Int) (hE : (if want.isSome then 0 else 9) = E) :
    Calls Try.prog 42 #[ptr hb, obV 10 false 0 0 0 ⟨#[]⟩, obV k1 x1 n1 a1 l1 s1] w fun e w' => e = .returned (.tuple #[obV k2 x2 n2 a2 l2 s2, .int .i64 E]) ∧ Sep own hb (oP ps 40) w' ∧ Kept own w w' := by
  have g := L.get (oP ps 40)
  have f := kKey_facts ask (oP ps 40)
  have := sDictGet (d := oD) (k := kKey ask) h (lC L hn) (fun _ => by rw [f.2]; exact (kNum_facts ask []).2.2.2) E k2 x2 n2 a2 l2 s2 (g.1.trans hE) (g.2.trans e2)
  rw [e] at this
  exact this
end
end Go.Proofs.Ytigboibcgpfphaa
