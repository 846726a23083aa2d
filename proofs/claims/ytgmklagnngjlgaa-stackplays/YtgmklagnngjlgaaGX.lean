/- GX: G1, G2, G3, G4, G5, G6, G7. -/
import Derived.Test.YtgmklagnngjlgaaQB
import Derived.BigQuiet
import Derived.Test.YtgmklagnngjlgaaH1
/- How a stack of layer 14 lies in memory (the program's and the reference's alike); walks of New, Len, Clear, Peek. -/
namespace Go.Proofs.Ytgmklagnngjlgaa
open Go.RowKit
set_option linter.unusedVariables false
set_option linter.unusedSimpArgs false
set_option maxHeartbeats 1000000
set_option maxRecDepth 100000

abbrev TS : TypeId := 166
abbrev TR : TypeId := 92
/-- A stack of type T: its block sb, the slice v in it, its operands X. -/
structure Stk (T : TypeId) (sb : Nat) (v : Value) (X : List Ob) (w : World) : Prop where
  hdr : w.heap[sb]? = some (.cells #[v] T (0, 0))
  row : w.ownsRow 0 24 6 v X.length (obCells X)
  ne : v.ownBlock ≠ some sb
  len : X.length ≤ 200
/-- What a call has done to a stack: it has the operands X', and no other block has changed. -/
structure Did (T : TypeId) (sb : Nat) (v : Value) (w : World) (X' : List Ob) (w' : World) : Prop where
  ex : ∃ v', Stk T sb v' X' w' ∧ ∀ g, v'.ownBlock = some g → v.ownBlock = some g ∨ w.heap.size ≤ g
  kept : Kept (fun b => b < w.heap.size ∧ b ≠ sb ∧ v.ownBlock ≠ some b) w w'
section
variable {T : TypeId} {sb : Nat} {v : Value} {X : List Ob} {w w' : World}
theorem Stk.cell (h : Stk T sb v X w) : w.cell? ⟨sb, 0, none⟩ = some v := by
  rw [cellAt h.hdr]
  rfl
theorem Stk.free (h : Stk T sb v X w) : w.frozen? ⟨sb, 0, none⟩ = false := freeAt h.hdr 0
theorem Stk.lt (h : Stk T sb v X w) : sb < w.heap.size := blk_lt h.hdr
theorem Stk.form (h : Stk T sb v X w) : ∃ p cap, v = .slice p X.length cap := by
  obtain ⟨p, cap, e⟩ := owns_form h.row
  exact ⟨p, cap, e⟩
theorem Stk.same (h : Stk T sb v X w) (k : ∀ b, b = sb ∨ v.ownBlock = some b → w'.heap[b]? = w.heap[b]?) : Stk T sb v X w' :=
  ⟨(k _ (.inl rfl)).trans h.hdr, owns_at h.row fun g e => k g (.inr e), h.ne, h.len⟩
theorem Stk.blk (h : Stk T sb v X w) {b : Nat} (q : b = sb ∨ v.ownBlock = some b) : b < w.heap.size := by
  rcases q with rfl | q
  · exact h.lt
  · exact (h.row.lt b q).2
theorem Stk.below (h : Stk T sb v X w) (k : Below w.heap.size w w') : Stk T sb v X w' := h.same fun b q => k.block b (h.blk q)
theorem Stk.did (h : Stk T sb v X w) (k : Below w.heap.size w w') : Did T sb v w X w' := ⟨⟨v, h.below k, fun g e => .inl e⟩, kept_of k fun b q => q.1⟩
theorem Stk.nil (w : World) : Stk T w.heap.size (.slice none 0 0) [] (w.alloc (.cells #[.slice none 0 0] T)) :=
  ⟨heap_alloc_new _ _, World.ownsRow_nil _ _ _ _, by simp [Value.ownBlock], Nat.zero_le _⟩
theorem Did.store {v' : Value} {Y : List Ob} (h : Stk T sb v X w) (k : Kept (fun b => b < w.heap.size ∧ v.ownBlock ≠ some b) w w') (row : w'.ownsRow 0 24 6 v' Y.length (obCells Y)) (hg : ∀ g, v'.ownBlock = some g → v.ownBlock = some g ∨ w.heap.size ≤ g) (hY : Y.length ≤ 200) : Did T sb v w Y (w'.setCell ⟨sb, 0, none⟩ v') := by
  have hl := h.lt
  have hne : v'.ownBlock ≠ some sb := fun e => by
    rcases hg sb e with q | q
    · exact h.ne q
    · omega
  have hh : w'.heap[sb]? = some (.cells #[v] T (0, 0)) := (k.block sb ⟨hl, h.ne⟩).trans h.hdr
  refine ⟨⟨v', ⟨?_, ownsRow_setCell_other row hne _, hne, hY⟩, hg⟩, k.os, k.tape, k.output, ?_, fun b q => ?_⟩
  · rw [heap_setCell_same _ _ _ _ T _ hh]
    rfl
  · have := k.size
    simpa [World.setCell] using this
  · rw [heap_setCell_other _ _ _ _ q.2.1]
    exact k.block b ⟨q.1, q.2.2⟩
end

/-- A slice of objects that is read: its cells are those of L. -/
def Seg (w : World) (vp : Value) (L : List Ob) : Prop := (vp = .slice none 0 0 ∧ L = []) ∨ ∃ ad c, vp = .slice (some ad) L.length c ∧ ∀ j u, (obCells L)[j]? = some u → w.cell? (ad.add j) = some u
section
variable {w w' : World} {v vp : Value} {X L : List Ob}
theorem Seg.later (h : Seg w vp L) (k : Below w.heap.size w w') : Seg w' vp L := by
  rcases h with h | ⟨ad, c, e, hc⟩
  · exact .inl h
  · exact .inr ⟨ad, c, e, fun j u hj => cell_later k (hc j u hj)⟩
theorem Seg.of_owns {base : Nat} (h : w.ownsRow base 24 6 v X.length (obCells X)) : Seg w v X := by
  have hc := fun g e => h.cells (g := g) e
  rcases h.2 with ⟨rfl, h0⟩ | ⟨g, cap, cur, rfl, _⟩
  · exact .inl ⟨rfl, List.eq_nil_of_length_eq_zero h0⟩
  · exact .inr ⟨⟨g, 0, none⟩, cap, rfl, hc g rfl⟩
theorem obCells_drop (L : List Ob) (lo : Nat) (h : lo ≤ L.length) (j : Nat) : (obCells (L.drop lo))[j]? = (obCells L)[lo * 6 + j]? := by
  have e := obCells_append (L.take lo) (L.drop lo)
  rw [List.take_append_drop] at e
  rw [e, List.getElem?_append_right (by rw [obCells_length, List.length_take]; omega), obCells_length, List.length_take]
  congr 1
  omega
theorem obCells_take {L : List Ob} {k j : Nat} {u : Value} (h : (obCells (L.take k))[j]? = some u) : (obCells L)[j]? = some u := by
  have e := obCells_append (L.take k) (L.drop k)
  rw [List.take_append_drop] at e
  rw [e, List.getElem?_append_left (List.getElem?_eq_some_iff.1 h).1]
  exact h
/-- A part of a slice. -/
theorem Seg.sub {p : Option Addr} {cap : Nat} (h : Seg w (.slice p L.length cap) L) (lo hi m : Nat) (h1 : lo ≤ hi) (h2 : hi ≤ L.length) (h3 : hi ≤ m) (h4 : m ≤ cap) : Seg w (sliced p lo hi m 6) ((L.drop lo).take (hi - lo)) := by
  unfold sliced
  have hlen : ((L.drop lo).take (hi - lo)).length = hi - lo := by simp; omega
  rcases h with ⟨e, rfl⟩ | ⟨ad, c, e, hc'⟩
  · obtain ⟨rfl, _, rfl⟩ : p = none ∧ ([] : List Ob).length = 0 ∧ cap = 0 := by simpa using e
    simp at h2
    subst h2
    obtain rfl : lo = 0 := by omega
    obtain rfl : m = 0 := by omega
    exact .inl ⟨by simp, by simp⟩
  · obtain ⟨rfl, rfl⟩ : p = some ad ∧ cap = c := by simpa using e
    refine .inr ⟨if m = lo then ad else ad.add (lo * 6), m - lo, ?_, fun j u hj => ?_⟩
    · rw [hlen]
      split <;> rfl
    · have hj' := (List.getElem?_eq_some_iff.1 hj).1
      rw [obCells_length, hlen] at hj'
      have hj2 := obCells_take hj
      rw [obCells_drop _ _ (by omega)] at hj2
      rw [if_neg (by omega), Addr.add_add]
      exact hc' _ _ hj2
/-- What an append gives: the slice's own row has grown, or a new one is made. -/
structure AppOf (base : Nat) (v : Value) (Y : List Ob) (w : World) (v' : Value) (w' : World) : Prop where
  row : w'.ownsRow base 24 6 v' Y.length (obCells Y)
  grow : w.grownBy w' v.ownBlock
  own : ∀ g, v'.ownBlock = some g → v.ownBlock = some g ∨ w.heap.size ≤ g
theorem seg_append {base : Nat} (row : w.ownsRow base 24 6 v X.length (obCells X)) (s : Seg w vp L) (hb : base ≤ w.heap.size) (hX : X.length ≤ 1000) (hL : L.length ≤ 1000) (ty : TypeId) :
    ∃ v' w', (Builtin.append_ #[33, 33] ty #[v, vp]).run Try.prog w = .ok v' w' ∧ AppOf base v (X ++ L) w v' w' := by
  obtain ⟨i0, hi, hz0, hz1, hz2⟩ := info_parts info24
  rcases s with ⟨rfl, rfl⟩ | ⟨ad, c, rfl, hc⟩
  · refine ⟨v, w, ?_, ⟨by simpa using row, ⟨rfl, rfl, rfl, Nat.le_refl _, fun _ _ _ => rfl⟩, fun g e => .inl e⟩⟩
    have hu := Try.underlying33
    rcases row.2 with ⟨rfl, _⟩ | ⟨g, cap, cur, rfl, _, _, hn, _⟩
    · simp [Builtin.append_, run_underlying hu, sizeOf, typeInfo, hi, Builtin.lenOf, Builtin.firstCells, loadCells, loadCellsFrom]
    · simp [Builtin.append_, run_underlying hu, sizeOf, typeInfo, hi, Builtin.lenOf, Builtin.firstCells, loadCells, loadCellsFrom, hn, storeCells]
  · obtain ⟨v', w', hr, h2, h3, _, h5⟩ := run_append_own_at (P := Try.prog) w base 33 ty 24 i0 _ 6 56 Try.underlying33 hi hz0 hz1 hz2 rfl (by decide) v X.length (obCells X) row ad L.length c (obCells L) (obCells_length L) hc (obCells_one L) (by unfold maxLen; omega) (by omega) hb
    refine ⟨v', w', hr, ⟨by rw [List.length_append, obCells_append]; exact h2, h3, fun g e => ?_⟩⟩
    rcases h5 with q | q
    · exact .inl (q ▸ e)
    · rw [q] at e
      exact .inr (Nat.le_of_eq (Option.some.inj e))
/-- append at a plain region's list. -/
theorem wpList_append_ex {P : Program} {w : World} {ops : Array Oper} {rest : List Oper} {o : Oper} {a : Act} {Q : Exit → Act → World → Prop} (hgd : o.guard = none) (s x : Operand) (t : TypeId)
    (ho : o.op = .call { callee := .builtin .append, args := #[s, x], argTypes := #[t, t] }) (V1 V2 : Value) (hs : a.eval s = V1) (hx : a.eval x = V2) (F : Value → World → Prop) (hrun : ∃ v w', (Builtin.append_ #[t, t] o.type #[V1, V2]).run P w = .ok v w' ∧ F v w')
    (h : ∀ v w', F v w' → wpList P ops Q rest (a.put o.dst v) w') : wpList P ops Q (o :: rest) a w := by
  obtain ⟨v, w', hr, hf⟩ := hrun
  refine wpList_plain hgd fun K hK => ?_
  unfold Oper.wp
  simp [execOp, ho, resolve, invoke, builtin, hs, hx, hr, Result.andThen]
  exact hK _ _ (h v w' hf)
/-- Nobody else's block has changed. -/
theorem AppOf.kept {base : Nat} {v v' : Value} {Y : List Ob} {w w' : World} (h : AppOf base v Y w v' w') : Kept (fun b => b < w.heap.size ∧ v.ownBlock ≠ some b) w w' :=
  ⟨h.grow.os, h.grow.tape, h.grow.output, h.grow.size, fun b q => h.grow.block b q.1 fun e => q.2 e.symm⟩
theorem Stk.after {T : TypeId} {sb : Nat} {base : Nat} {w4 w5 : World} {v' : Value} {Y : List Ob} (h : Stk T sb v X w) (k : Below w.heap.size w w4) (a : AppOf base v Y w4 v' w5) (hY : Y.length ≤ 200) : Did T sb v w Y (w5.setCell ⟨sb, 0, none⟩ v') :=
  Did.store h ⟨a.grow.os.trans k.os, a.grow.tape.trans k.tape, a.grow.output.trans k.output, Nat.le_trans k.size a.grow.size, fun b q => (a.grow.block b (Nat.lt_of_lt_of_le q.1 k.size) fun e => q.2 e.symm).trans (k.block b q.1)⟩ (a.row.mono (Nat.zero_le _)) (fun g e => (a.own g e).imp id fun q => Nat.le_trans k.size q) hY
theorem ObAt.same {b : Nat} {k n a l : Int} {x : Bool} {s : ByteArray} (h : ObAt w b k x n a l s) (q : w'.heap[b]? = w.heap[b]?) : ObAt w' b k x n a l s := by
  obtain ⟨c0, c1, c2, c3, c4, c5⟩ := h
  have e : ∀ j, w'.cell? ⟨b, j, none⟩ = w.cell? ⟨b, j, none⟩ := fun j => World.cell?_of_block q
  exact ⟨(e _).trans c0, (e _).trans c1, (e _).trans c2, (e _).trans c3, (e _).trans c4, (e _).trans c5⟩
theorem ObAt.lt {b : Nat} {k n a l : Int} {x : Bool} {s : ByteArray} (h : ObAt w b k x n a l s) : b < w.heap.size := World.block_lt_of_cell? w _ h.1
end
end Go.Proofs.Ytgmklagnngjlgaa

/- Walks of stack: New, Len, Clear, Peek. -/
namespace Go.Proofs.Ytgmklagnngjlgaa
open Go.RowKit
set_option linter.unusedVariables false
set_option linter.unusedSimpArgs false
set_option maxHeartbeats 1000000
set_option maxRecDepth 100000

theorem stkNew (w : World) : Calls Try.prog 60 #[] w fun e w' => e = .returned (ptr w.heap.size) ∧ w' = w.alloc (.cells #[.slice none 0 0] 166) := by
  go_enter Try.func60, Try.ntmps60
  go_wp2
  go_ret
  exact ⟨rfl, rfl⟩
section
variable {sb : Nat} {v : Value} {X : List Ob} {w : World}
theorem stkLen (h : Stk 166 sb v X w) : Calls Try.prog 76 #[ptr sb] w fun e w' => e = .returned (.int .i64 X.length) ∧ w = w' := by
  obtain ⟨p, cap, rfl⟩ := h.form
  have c := h.cell
  go_enter Try.func76, Try.ntmps76
  go_wp2
  go_ret
  exact ⟨rfl, rfl⟩
theorem stkClear (h : Stk 166 sb v X w) : Calls Try.prog 69 #[ptr sb] w fun e w' => e = .returned (.tuple #[]) ∧ Did 166 sb v w [] w' := by
  obtain ⟨p, cap, rfl⟩ := h.form
  have c := h.cell
  have f := h.free
  have H := Lib.hid h
  clear h
  go_enter Try.func69, Try.ntmps69
  go_wp2
  go_end0
  exact ⟨rfl, Did.store H.out ⟨rfl, rfl, rfl, Nat.le_refl _, fun _ _ => rfl⟩ (World.ownsRow_nil _ _ _ _) (fun g e => by simp [Value.ownBlock] at e) (Nat.zero_le _)⟩
theorem peek_neg (h : Stk 166 sb v X w) (i : Int) (hi : i < 0) : Calls Try.prog 72 #[ptr sb, .int .i64 i] w fun e w' => e = .returned (.tuple #[zeroOb, .int .i64 2]) ∧ Below w.heap.size w w' := by
  obtain ⟨p, cap, rfl⟩ := h.form
  have h0 := h.cell
  clear h
  go_enter Try.func72, Try.ntmps72
  go_upto_region 1 with fail
  obtain ⟨wa, ea, ka, za, oa⟩ := zero_box w
  rw [ea]
  have KA := Lib.hid ka
  have OA := Lib.hid oa
  obtain ⟨⟨o0, o1, o2, o3, o4, o5⟩, g0, g1, g2, g3, g4, g5⟩ := cells6 oa
  clear ea ka za oa h0
  go_wp2
  (try simp only [Exit.inBlock, Exit.then])
  exact bodyPost_ret (ret_cell rfl _ _ _ _ _ _ _ _ rfl rfl (set6 OA.out _ _ _ _ _ _) Try.underlying24 rfl (by kernel_rfl)) rfl ⟨rfl, set6_below KA.out (Nat.le_refl _) _ _ _ _ _ _⟩
theorem peek_under (h : Stk 166 sb v X w) (i : Int) (hi : 0 ≤ i) (hl : X.length ≤ i) : Calls Try.prog 72 #[ptr sb, .int .i64 i] w fun e w' => e = .returned (.tuple #[zeroOb, .int .i64 7]) ∧ Below w.heap.size w w' := by
  obtain ⟨p, cap, rfl⟩ := h.form
  have h0 := h.cell
  have t0 : ¬ (i < 0) := by omega
  have t1 : i ≥ (X.length : Int) := by omega
  clear h
  go_enter Try.func72, Try.ntmps72
  go_upto_region 1 with fail
  obtain ⟨wa, ea, ka, za, oa⟩ := zero_box w
  rw [ea]
  have KA := Lib.hid ka
  have OA := Lib.hid oa
  obtain ⟨⟨o0, o1, o2, o3, o4, o5⟩, g0, g1, g2, g3, g4, g5⟩ := cells6 oa
  replace h0 := cell_later ka h0
  clear ea ka za oa
  go_wp2
  (try simp only [Exit.inBlock, Exit.then])
  exact bodyPost_ret (ret_cell rfl _ _ _ _ _ _ _ _ rfl rfl (set6 OA.out _ _ _ _ _ _) Try.underlying24 rfl (by kernel_rfl)) rfl ⟨rfl, set6_below KA.out (Nat.le_refl _) _ _ _ _ _ _⟩
/-- m operands lie below the one that is asked. -/
theorem peek_ok (h : Stk 166 sb v X w) (i m : Nat) (hl : X.length = m + i + 1) (k n a l : Int) (x : Bool) (s : ByteArray) (hm : X[m]? = some ⟨k, x, n, a, l, s⟩) : Calls Try.prog 72 #[ptr sb, .int .i64 i] w fun e w' => e = .returned (.tuple #[obV k x n a l s, .int .i64 0]) ∧ Below w.heap.size w w' := by
  obtain ⟨g, cap, rfl, c0, c1, c2, c3, c4, c5⟩ := row_item h.row hm
  have h0 := h.cell
  have hlen := h.len
  clear h hm
  dsimp only at c0 c1 c2 c3 c4 c5
  have t0 : ¬ ((i : Int) < 0) := by omega
  have t1 : ¬ ((i : Int) ≥ (X.length : Int)) := by omega
  have e1 : IntKind.i64.wrap ((X.length : Int) - 1) = (m : Int) + i := by rw [IntWalk.i64_in _ (by omega)]; omega
  have e2 : IntKind.i64.wrap (m : Int) = (m : Int) := IntWalk.i64_in _ (by omega)
  have e3 : wrap64 (m : Int) = (m : Int) := by rw [← IntWalk.i64_left]; exact e2
  have q0 : (0 : Int) ≤ m := by omega
  have q1 : (m : Int) < X.length := by omega
  clear hl hlen
  go_enter Try.func72, Try.ntmps72
  go_upto_region 1 with fail
  obtain ⟨wa, ea, ka, za, oa⟩ := zero_box w
  rw [ea]
  have KA := Lib.hid ka
  have OA := Lib.hid oa
  obtain ⟨⟨o0, o1, o2, o3, o4, o5⟩, f0, f1, f2, f3, f4, f5⟩ := cells6 oa
  replace h0 := cell_later ka h0
  replace c0 := cell_later ka c0
  replace c1 := cell_later ka c1
  replace c2 := cell_later ka c2
  replace c3 := cell_later ka c3
  replace c4 := cell_later ka c4
  replace c5 := cell_later ka c5
  clear ea ka za oa
  go_upto_region 7 with fail
  go_still_tail 14, (by kernel_rfl)
  change wpList _ _ _ _ _ wa.drew
  have OD : Hid (wa.drew.heap[w.heap.size]? = some emptyOb) := Lib.hid OA.out
  have KD : Hid (Below w.heap.size w wa.drew) := Lib.hid KA.out.drew
  clear h0 c0 c1 c2 c3 c4 c5 o0 o1 o2 o3 o4 o5 f0 f1 f2 f3 f4 f5 OA KA
  generalize wa.drew = wd at OD KD ⊢
  obtain ⟨⟨o0, o1, o2, o3, o4, o5⟩, f0, f1, f2, f3, f4, f5⟩ := cells6 OD.out
  go_wp2
  (try simp only [Exit.inBlock, Exit.then])
  exact bodyPost_ret (ret_cell rfl _ _ _ _ _ _ _ _ rfl rfl (set6 OD.out _ _ _ _ _ _) Try.underlying24 rfl (by kernel_rfl)) rfl ⟨rfl, set6_below KD.out (Nat.le_refl _) _ _ _ _ _ _⟩
end
end Go.Proofs.Ytgmklagnngjlgaa

/- Walks of stack: Push. -/
namespace Go.Proofs.Ytgmklagnngjlgaa
open Go.RowKit
set_option linter.unusedVariables false
set_option linter.unusedSimpArgs false
set_option maxHeartbeats 1000000
set_option maxRecDepth 100000

/-- An object boxed, as the cells that an append reads. -/
theorem seg_box (w : World) (k n a l : Int) (x : Bool) (s : ByteArray) : ∃ wb, w.alloc (.cells #[.int .i64 k, .bool x, .int .i64 n, .int .i64 a, .int .i64 l, .string s] 24) = wb ∧ Below w.heap.size w wb ∧ Seg wb (.slice (some ⟨w.heap.size, 0, none⟩) 1 1) [⟨k, x, n, a, l, s⟩] :=
  ⟨_, rfl, box_below _ _, .inr ⟨_, 1, rfl, fun j u h => by rw [Addr.add_mid, Nat.zero_add, cellAt (heap_alloc_new _ _)]; simpa [obCells, Ob.cells] using h⟩⟩
section
variable {sb : Nat} {v : Value} {X : List Ob} {w : World}
theorem push_arg (h : Stk 166 sb v X w) (o : Ob) (hm : o.may = false) : Calls Try.prog 61 #[ptr sb, o.val] w fun e w' => e = .returned (.int .i64 1) ∧ Below w.heap.size w w' := by
  change Calls Try.prog _ #[ptr sb, obV o.k o.x o.n o.a o.l o.s] w _
  have hmay := Lib.hid (fun wx => may_any o.k o.n o.a o.l o.x o.s wx)
  rw [show mayO o.k o.n o.a o.l o.s = false from hm] at hmay
  clear h
  go_enter Try.func61, Try.ntmps61
  go_upto_region 1 with fail
  obtain ⟨wa, ea, ka, za, oa⟩ := ob_box w o.k o.n o.a o.l o.x o.s
  rw [ea]
  have KA := Lib.hid ka
  obtain ⟨c0, c1, c2, c3, c4, c5⟩ := oa
  clear ea ka za
  go_wp2_with fail
  refine (hmay.out _).mono ?_
  rintro e wb ⟨rfl, kb⟩
  have KB := Lib.hid (below_and KA.out kb)
  clear kb c0 c1 c2 c3 c4 c5
  go_wp2
  go_ret
  exact ⟨rfl, KB.out⟩
theorem push_over (h : Stk 166 sb v X w) (o : Ob) (hm : o.may = true) (hl : X.length = 200) : Calls Try.prog 61 #[ptr sb, o.val] w fun e w' => e = .returned (.int .i64 8) ∧ Below w.heap.size w w' := by
  change Calls Try.prog _ #[ptr sb, obV o.k o.x o.n o.a o.l o.s] w _
  have hmay := Lib.hid (fun wx => may_any o.k o.n o.a o.l o.x o.s wx)
  rw [show mayO o.k o.n o.a o.l o.s = true from hm] at hmay
  obtain ⟨p, cap, rfl⟩ := h.form
  rw [hl] at h
  have h0 := h.cell
  clear h
  go_enter Try.func61, Try.ntmps61
  go_upto_region 1 with fail
  obtain ⟨wa, ea, ka, za, oa⟩ := ob_box w o.k o.n o.a o.l o.x o.s
  rw [ea]
  have KA := Lib.hid ka
  obtain ⟨c0, c1, c2, c3, c4, c5⟩ := oa
  clear ea ka za
  go_wp2_with fail
  refine (hmay.out _).mono ?_
  rintro e wb ⟨rfl, kb⟩
  have KB := Lib.hid (below_and KA.out kb)
  replace h0 := cell_later (below_and KA.out kb) h0
  clear kb c0 c1 c2 c3 c4 c5
  go_wp2
  go_ret
  exact ⟨rfl, KB.out⟩
theorem push_ok (h : Stk 166 sb v X w) (o : Ob) (hm : o.may = true) (hl : X.length < 200) : Calls Try.prog 61 #[ptr sb, o.val] w fun e w' => e = .returned (.int .i64 0) ∧ Did 166 sb v w (X ++ [o]) w' := by
  change Calls Try.prog _ #[ptr sb, obV o.k o.x o.n o.a o.l o.s] w _
  have hmay := Lib.hid (fun wx => may_any o.k o.n o.a o.l o.x o.s wx)
  rw [show mayO o.k o.n o.a o.l o.s = true from hm] at hmay
  obtain ⟨p, cap, rfl⟩ := h.form
  have H := Lib.hid h
  have HL := Lib.hid hl
  have h0 := h.cell
  have t0 : ¬ ((X.length : Int) ≥ 200) := by omega
  clear h hl
  go_enter Try.func61, Try.ntmps61
  go_upto_region 1 with fail
  obtain ⟨wa, ea, ka, za, oa⟩ := ob_box w o.k o.n o.a o.l o.x o.s
  rw [ea]
  have KA := Lib.hid ka
  have OA := Lib.hid oa
  obtain ⟨c0, c1, c2, c3, c4, c5⟩ := oa
  clear ea ka za
  go_wp2_with fail
  refine (hmay.out _).mono ?_
  rintro e wb ⟨rfl, kb⟩
  have KB := Lib.hid (below_and KA.out kb)
  have OB := Lib.hid (OA.out.later kb)
  replace h0 := cell_later (below_and KA.out kb) h0
  clear kb c0 c1 c2 c3 c4 c5
  go_upto_region 5 with fail
  clear h0
  have sx0 : ObAt wb.drew w.heap.size o.k o.x o.n o.a o.l o.s := OB.out.drew
  have k0 : Below w.heap.size w wb.drew := KB.out.drew
  (try refine wp_region_noPanic ?_)
  refine wp_region_held_drew (S := fun wx => ObAt wx w.heap.size o.k o.x o.n o.a o.l o.s) (by kernel_rfl) sx0 (fun _ => ?_)
  generalize wb.drew = wd at sx0 k0 ⊢
  have SX := Lib.hid sx0
  have GB := Lib.hid k0
  have h0 : wd.cell? ⟨sb, 0, none⟩ = some (.slice p X.length cap) := (H.out.below k0).cell
  clear sx0 k0
  refine wpAnyH_take (i := 0) (v := ptr sb) rfl (by kernel_rfl) (by kernel_rfl) (by kernel_rfl) (fun _ _ _ h => h) (Or.inl ⟨by rfl, fun wx hS => ?_⟩) SX.out ?_
  · go_simp
  try simp only [Act.put, List.getElem_toArray, List.getElem_cons_succ, List.getElem_cons_zero, List.setIfInBounds_toArray, List.set_cons_zero, List.set_cons_succ]
  refine wpAnyH_take (i := 1) (v := ptr sb) rfl (by kernel_rfl) (by kernel_rfl) (by kernel_rfl) (fun _ _ _ h => h) (Or.inl ⟨by rfl, fun wx hS => ?_⟩) SX.out ?_
  · go_simp
  try simp only [Act.put, List.getElem_toArray, List.getElem_cons_succ, List.getElem_cons_zero, List.setIfInBounds_toArray, List.set_cons_zero, List.set_cons_succ]
  refine wpAnyH_take (i := 2) (v := ptr sb) rfl (by kernel_rfl) (by kernel_rfl) (by kernel_rfl) (fun _ _ _ h => h) (Or.inl ⟨by rfl, fun wx hS => ?_⟩) SX.out ?_
  · go_simp
  try simp only [Act.put, List.getElem_toArray, List.getElem_cons_succ, List.getElem_cons_zero, List.setIfInBounds_toArray, List.set_cons_zero, List.set_cons_succ]
  refine wpAnyH_take (i := 3) (v := .pointer (some ⟨sb, 0, none⟩)) rfl (by kernel_rfl) (by kernel_rfl) (by kernel_rfl) (fun _ _ _ h => h) (Or.inl ⟨by rfl, fun wx hS => ?_⟩) SX.out ?_
  · go_simp
  try simp only [Act.put, List.getElem_toArray, List.getElem_cons_succ, List.getElem_cons_zero, List.setIfInBounds_toArray, List.set_cons_zero, List.set_cons_succ]
  refine wpAnyH_take (i := 5) (v := obV o.k o.x o.n o.a o.l o.s) rfl (by kernel_rfl) (by kernel_rfl) (by kernel_rfl) (fun _ _ _ h => h) (Or.inl ⟨by rfl, fun wx hS => ?_⟩) SX.out ?_
  · obtain ⟨c0, c1, c2, c3, c4, c5⟩ := hS; go_simp
  try simp only [Act.put, List.getElem_toArray, List.getElem_cons_succ, List.getElem_cons_zero, List.setIfInBounds_toArray, List.set_cons_zero, List.set_cons_succ]
  refine wpAnyH_ready (rs := [4, 6]) (by kernel_rfl) (by simp) ?_
  refine AllReadyH.cons rfl (fun K hK => ?_) (AllReadyH.cons rfl (fun K hK => ?_) AllReadyH.nil)
  · go_simp
    refine hK.out _ _ SX.out (fun _ => ?_)
    clear hK
    try simp only [Act.put, List.getElem_toArray, List.getElem_cons_succ, List.getElem_cons_zero, List.setIfInBounds_toArray, List.set_cons_zero, List.set_cons_succ]
    refine wpAnyH_ready (rs := [6]) (by kernel_rfl) (by simp) ?_
    refine AllReadyH.cons rfl (fun K hK => ?_) AllReadyH.nil
    go_simp
    obtain ⟨w4, e4, k4, s4⟩ := seg_box wd o.k o.n o.a o.l o.x o.s
    rw [e4]
    have S4 := Lib.hid s4
    have sx1 := SX.out.later k4
    replace SX := Lib.hid sx1
    replace GB := Lib.hid (below_and GB.out k4)
    replace h0 := cell_later k4 h0
    clear e4 k4 s4 sx1
    refine hK.out _ _ SX.out (fun _ => ?_)
    clear hK
    try simp only [Act.put, List.getElem_toArray, List.getElem_cons_succ, List.getElem_cons_zero, List.setIfInBounds_toArray, List.set_cons_zero, List.set_cons_succ]
    refine wpAnyH_ready (rs := [7]) (by kernel_rfl) (by simp) ?_
    refine AllReadyH.cons rfl (fun K hK => ?_) AllReadyH.nil
    clear h0
    refine step_append_ex rfl _ _ 33 rfl (.slice p X.length cap) (.slice (some ⟨wd.heap.size, 0, none⟩) 1 1) rfl rfl _ (seg_append (H.out.below GB.out).row S4.out (Nat.zero_le _) (by have := HL.out; omega) (by simp) _) ?_
    rintro v5 w5 ap
    replace ap : AppOf 0 (.slice p X.length cap) (X ++ [o]) w4 v5 w5 := ap
    obtain ⟨p5, c5, e5⟩ : ∃ p5 c5, v5 = .slice p5 (X.length + 1) c5 := by
      obtain ⟨p5, c5, e⟩ := owns_form ap.row
      exact ⟨p5, c5, by rw [e]; simp⟩
    subst e5
    have AP := Lib.hid ap
    have hs5 := (H.out.below GB.out)
    have K5 : Hid (Kept (fun b => b < w4.heap.size ∧ (Value.slice p X.length cap).ownBlock ≠ some b) w4 w5) := Lib.hid ap.kept
    have nb : (Value.slice p X.length cap).ownBlock ≠ some w.heap.size := fun e => by have := (H.out.row.lt _ e).2; omega
    have c0 : w5.cell? ⟨sb, 0, none⟩ = some (.slice p X.length cap) := cellAt ((K5.out.block _ ⟨hs5.lt, hs5.ne⟩).trans hs5.hdr) 0
    have f0 : w5.frozen? ⟨sb, 0, none⟩ = false := freeAt ((K5.out.block _ ⟨hs5.lt, hs5.ne⟩).trans hs5.hdr) 0
    have sx1 : ObAt w5 w.heap.size o.k o.x o.n o.a o.l o.s := SX.out.same (K5.out.block _ ⟨SX.out.lt, nb⟩)
    replace SX := Lib.hid sx1
    clear ap hs5 nb sx1
    refine hK.out _ _ SX.out (fun _ => ?_)
    clear hK
    try simp only [Act.put, List.getElem_toArray, List.getElem_cons_succ, List.getElem_cons_zero, List.setIfInBounds_toArray, List.set_cons_zero, List.set_cons_succ]
    refine wpAnyH_take (i := 8) (v := ptr sb) rfl (by kernel_rfl) (by kernel_rfl) (by kernel_rfl) (fun _ _ _ h => h) (Or.inl ⟨by rfl, fun wx hS => ?_⟩) SX.out ?_
    · go_simp
    try simp only [Act.put, List.getElem_toArray, List.getElem_cons_succ, List.getElem_cons_zero, List.setIfInBounds_toArray, List.set_cons_zero, List.set_cons_succ]
    refine wpAnyH_take (i := 9) (v := .pointer (some ⟨sb, 0, none⟩)) rfl (by kernel_rfl) (by kernel_rfl) (by kernel_rfl) (fun _ _ _ h => h) (Or.inl ⟨by rfl, fun wx hS => ?_⟩) SX.out ?_
    · go_simp
    try simp only [Act.put, List.getElem_toArray, List.getElem_cons_succ, List.getElem_cons_zero, List.setIfInBounds_toArray, List.set_cons_zero, List.set_cons_succ]
    refine wpAnyH_ready (rs := [10]) (by kernel_rfl) (by simp) ?_
    refine AllReadyH.cons rfl (fun K hK => ?_) AllReadyH.nil
    go_simp
    have sx6 : ObAt (w5.setCell ⟨sb, 0, none⟩ (.slice p5 (X.length + 1) c5)) w.heap.size o.k o.x o.n o.a o.l o.s := SX.out.same (heap_setCell_other _ _ _ _ (by have := H.out.lt; simp; omega))
    have D : Hid (Did 166 sb (.slice p X.length cap) w (X ++ [o]) (w5.setCell ⟨sb, 0, none⟩ (.slice p5 (X.length + 1) c5))) := Lib.hid (H.out.after GB.out AP.out (by have := HL.out; simp; omega))
    clear c0 f0
    generalize w5.setCell ⟨sb, 0, none⟩ (.slice p5 (X.length + 1) c5) = w6 at sx6 D ⊢
    refine hK.out _ _ sx6 (fun _ => ?_)
    clear hK sx6
    refine wpAnyH_done (by kernel_rfl) ?_ _
    (try refine no_panic ?_)
    go_wp2
    go_ret
    exact ⟨rfl, D.out⟩
  · go_simp
    obtain ⟨w4, e4, k4, s4⟩ := seg_box wd o.k o.n o.a o.l o.x o.s
    rw [e4]
    have S4 := Lib.hid s4
    have sx1 := SX.out.later k4
    replace SX := Lib.hid sx1
    replace GB := Lib.hid (below_and GB.out k4)
    replace h0 := cell_later k4 h0
    clear e4 k4 s4 sx1
    refine hK.out _ _ SX.out (fun _ => ?_)
    clear hK
    try simp only [Act.put, List.getElem_toArray, List.getElem_cons_succ, List.getElem_cons_zero, List.setIfInBounds_toArray, List.set_cons_zero, List.set_cons_succ]
    refine wpAnyH_ready (rs := [4]) (by kernel_rfl) (by simp) ?_
    refine AllReadyH.cons rfl (fun K hK => ?_) AllReadyH.nil
    go_simp
    refine hK.out _ _ SX.out (fun _ => ?_)
    clear hK
    try simp only [Act.put, List.getElem_toArray, List.getElem_cons_succ, List.getElem_cons_zero, List.setIfInBounds_toArray, List.set_cons_zero, List.set_cons_succ]
    refine wpAnyH_ready (rs := [7]) (by kernel_rfl) (by simp) ?_
    refine AllReadyH.cons rfl (fun K hK => ?_) AllReadyH.nil
    clear h0
    refine step_append_ex rfl _ _ 33 rfl (.slice p X.length cap) (.slice (some ⟨wd.heap.size, 0, none⟩) 1 1) rfl rfl _ (seg_append (H.out.below GB.out).row S4.out (Nat.zero_le _) (by have := HL.out; omega) (by simp) _) ?_
    rintro v5 w5 ap
    replace ap : AppOf 0 (.slice p X.length cap) (X ++ [o]) w4 v5 w5 := ap
    obtain ⟨p5, c5, e5⟩ : ∃ p5 c5, v5 = .slice p5 (X.length + 1) c5 := by
      obtain ⟨p5, c5, e⟩ := owns_form ap.row
      exact ⟨p5, c5, by rw [e]; simp⟩
    subst e5
    have AP := Lib.hid ap
    have hs5 := (H.out.below GB.out)
    have K5 : Hid (Kept (fun b => b < w4.heap.size ∧ (Value.slice p X.length cap).ownBlock ≠ some b) w4 w5) := Lib.hid ap.kept
    have nb : (Value.slice p X.length cap).ownBlock ≠ some w.heap.size := fun e => by have := (H.out.row.lt _ e).2; omega
    have c0 : w5.cell? ⟨sb, 0, none⟩ = some (.slice p X.length cap) := cellAt ((K5.out.block _ ⟨hs5.lt, hs5.ne⟩).trans hs5.hdr) 0
    have f0 : w5.frozen? ⟨sb, 0, none⟩ = false := freeAt ((K5.out.block _ ⟨hs5.lt, hs5.ne⟩).trans hs5.hdr) 0
    have sx1 : ObAt w5 w.heap.size o.k o.x o.n o.a o.l o.s := SX.out.same (K5.out.block _ ⟨SX.out.lt, nb⟩)
    replace SX := Lib.hid sx1
    clear ap hs5 nb sx1
    refine hK.out _ _ SX.out (fun _ => ?_)
    clear hK
    try simp only [Act.put, List.getElem_toArray, List.getElem_cons_succ, List.getElem_cons_zero, List.setIfInBounds_toArray, List.set_cons_zero, List.set_cons_succ]
    refine wpAnyH_take (i := 8) (v := ptr sb) rfl (by kernel_rfl) (by kernel_rfl) (by kernel_rfl) (fun _ _ _ h => h) (Or.inl ⟨by rfl, fun wx hS => ?_⟩) SX.out ?_
    · go_simp
    try simp only [Act.put, List.getElem_toArray, List.getElem_cons_succ, List.getElem_cons_zero, List.setIfInBounds_toArray, List.set_cons_zero, List.set_cons_succ]
    refine wpAnyH_take (i := 9) (v := .pointer (some ⟨sb, 0, none⟩)) rfl (by kernel_rfl) (by kernel_rfl) (by kernel_rfl) (fun _ _ _ h => h) (Or.inl ⟨by rfl, fun wx hS => ?_⟩) SX.out ?_
    · go_simp
    try simp only [Act.put, List.getElem_toArray, List.getElem_cons_succ, List.getElem_cons_zero, List.setIfInBounds_toArray, List.set_cons_zero, List.set_cons_succ]
    refine wpAnyH_ready (rs := [10]) (by kernel_rfl) (by simp) ?_
    refine AllReadyH.cons rfl (fun K hK => ?_) AllReadyH.nil
    go_simp
    have sx6 : ObAt (w5.setCell ⟨sb, 0, none⟩ (.slice p5 (X.length + 1) c5)) w.heap.size o.k o.x o.n o.a o.l o.s := SX.out.same (heap_setCell_other _ _ _ _ (by have := H.out.lt; simp; omega))
    have D : Hid (Did 166 sb (.slice p X.length cap) w (X ++ [o]) (w5.setCell ⟨sb, 0, none⟩ (.slice p5 (X.length + 1) c5))) := Lib.hid (H.out.after GB.out AP.out (by have := HL.out; simp; omega))
    clear c0 f0
    generalize w5.setCell ⟨sb, 0, none⟩ (.slice p5 (X.length + 1) c5) = w6 at sx6 D ⊢
    refine hK.out _ _ sx6 (fun _ => ?_)
    clear hK sx6
    refine wpAnyH_done (by kernel_rfl) ?_ _
    (try refine no_panic ?_)
    go_wp2
    go_ret
    exact ⟨rfl, D.out⟩
end
end Go.Proofs.Ytgmklagnngjlgaa

/- Walks of stack: top, Dup, Roll. -/
namespace Go.Proofs.Ytgmklagnngjlgaa
open Go.RowKit
set_option linter.unusedVariables false
set_option linter.unusedSimpArgs false
set_option maxHeartbeats 1000000
set_option maxRecDepth 100000

/-- copy of objects into a row. -/
theorem run_copy_obs (w : World) (ty : TypeId) (g o dLen dCap : Nat) (a : Addr) (sLen sCap : Nat) (cur : Array Value) (t : TypeId) (Y : List Ob) (hg : w.heap[g]? = some (.cells cur t (0, 0))) (hn : Y.length = Nat.min sLen dLen)
    (hsrc : ∀ j v, (obCells Y)[j]? = some v → w.cell? (a.add j) = some v) (hfit : o + (obCells Y).length ≤ cur.size) :
    ∃ r, (Builtin.copy_ #[33, 33] ty #[.slice (some ⟨g, o, none⟩) dLen dCap, .slice (some a) sLen sCap]).run Try.prog w = .ok r (w.setRow g (cur.toList.take o ++ obCells Y ++ cur.toList.drop (o + (obCells Y).length)).toArray) := by
  have hl := run_loadCells_list (P := Try.prog) w a (obCells Y) hsrc
  have hst := run_storeCells_at Try.prog g o t (obCells Y) 0 cur w hg (by simpa using hfit) (obCells_one Y)
  have hu := Try.underlying33
  have hq : (sizeOf 24).run Try.prog w = .ok 6 w := by kernel_rfl
  have h6 : (obCells Y).length = Nat.min sLen dLen * 6 := by rw [obCells_length, hn]
  rw [Nat.add_zero] at hst
  refine ⟨goInt (Nat.min sLen dLen), ?_⟩
  simp [Builtin.copy_, run_underlying hu, Builtin.lenOf, Builtin.firstCells, hq, ← h6, hl, hst]
/-- append of a part onto a part that has no room: a new row. -/
theorem run_append_full (w : World) (ty : TypeId) (U L : List Ob) (au : Addr) (vl : Value) (hu : ∀ j v, (obCells U)[j]? = some v → w.cell? (au.add j) = some v) (hl : Seg w vl L) (hL : 0 < L.length) (hm : U.length + L.length ≤ 1000) :
    ∃ cap w', (Builtin.append_ #[33, 33] ty #[.slice (some au) U.length U.length, vl]).run Try.prog w = .ok (.slice (some ⟨w.heap.size, 0, none⟩) (U.length + L.length) cap) w' ∧ Below w.heap.size w w' ∧ ∀ j v, (obCells (U ++ L))[j]? = some v → w'.cell? (Addr.add ⟨w.heap.size, 0, none⟩ j) = some v := by
  obtain ⟨i0, hi, hz0, hz1, hz2⟩ := info_parts info24
  rcases hl with ⟨_, rfl⟩ | ⟨ad, c, rfl, hc⟩
  · simp at hL
  · have hr := run_append_grow (P := Try.prog) w 33 ty 24 i0 _ Try.underlying33 hi hz0 au U.length U.length (obCells U) (by rw [hz1]; exact obCells_length U) hu ad L.length c (obCells L) (by rw [hz1]; exact obCells_length L) hc (by omega) (by omega) (by rw [hz2]; exact growslice_fits (by omega) (by omega))
    refine ⟨_, _, hr, (Below.refl _ w).drew.alloc (Nat.le_refl _) _, fun j v hj => ?_⟩
    rw [Addr.add_mid, Nat.zero_add]
    have hn := heap_alloc_new w.drew (.cells ((obCells U).toArray ++ (obCells L).toArray ++ Builtin.zeroCells (obV 0 false 0 0 0 ⟨#[]⟩).cells (grownCap w (U.length + L.length) U.length 24 - (U.length + L.length))) 24)
    rw [show w.heap.size = w.drew.heap.size from rfl, cellAt hn]
    rw [obCells_append] at hj
    have hj' := (List.getElem?_eq_some_iff.1 hj).1
    rw [← Array.getElem?_toList]
    simp only [Array.toList_append]
    rw [List.getElem?_append_left hj']
    exact hj
theorem size24 (w : World) : (sizeOf (Try.prog.elem 33)).run Try.prog w = .ok 6 w := by kernel_rfl
theorem under33 : Try.prog.underlying 33 = some (.slice (Try.prog.elem 33)) := by kernel_rfl
theorem slice33_l (p : Option Addr) (z cap lo : Nat) (h1 : lo ≤ z) (w : World) : (Instr.slice 33 (.slice p z cap) (some (.int .i64 lo)) none none).run Try.prog w = .ok (sliced p lo z cap 6) w := by
  rw [run_slice_l w 33 p z cap under33 .i64 lo (by omega) (by omega), size24]
  simp
theorem slice33_h (p : Option Addr) (z cap hi : Nat) (h1 : hi ≤ cap) (w : World) : (Instr.slice 33 (.slice p z cap) none (some (.int .i64 hi)) none).run Try.prog w = .ok (sliced p 0 hi cap 6) w := by
  rw [run_slice_h w 33 p z cap under33 .i64 hi (by omega) (by omega), size24]
  simp
theorem slice33_lh (p : Option Addr) (z cap lo hi : Nat) (h1 : lo ≤ hi) (h2 : hi ≤ cap) (w : World) : (Instr.slice 33 (.slice p z cap) (some (.int .i64 lo)) (some (.int .i64 hi)) none).run Try.prog w = .ok (sliced p lo hi cap 6) w := by
  rw [run_slice_lh w 33 p z cap under33 .i64 .i64 lo hi (by omega) (by omega) (by omega), size24]
  simp
theorem slice33_hm (p : Option Addr) (z cap hi m : Nat) (h1 : hi ≤ m) (h2 : m ≤ cap) (w : World) : (Instr.slice 33 (.slice p z cap) none (some (.int .i64 hi)) (some (.int .i64 m))).run Try.prog w = .ok (sliced p 0 hi m 6) w := by
  rw [run_slice_hm w 33 p z cap under33 .i64 .i64 hi m (by omega) (by omega) (by omega), size24]
  simp
theorem slice33_lhm (p : Option Addr) (z cap lo hi m : Nat) (h0 : lo ≤ hi) (h1 : hi ≤ m) (h2 : m ≤ cap) (w : World) : (Instr.slice 33 (.slice p z cap) (some (.int .i64 lo)) (some (.int .i64 hi)) (some (.int .i64 m))).run Try.prog w = .ok (sliced p lo hi m 6) w := by
  rw [run_slice_lhm w 33 p z cap under33 .i64 .i64 .i64 lo hi m (by omega) (by omega) (by omega) (by omega), size24]
  simp
theorem top_core (sb z cap n m : Nat) (p : Option Addr) (V : Value) (w : World) (h0 : w.cell? ⟨sb, 0, none⟩ = some (.slice p z cap)) (hsl : ∀ w : World, (Instr.slice 33 (.slice p z cap) (some (.int .i64 m)) none none).run Try.prog w = .ok V w)
    (t0 : ¬ ((n : Int) < 0)) (t1 : ¬ (z < n)) (e1 : IntKind.i64.wrap ((z : Int) - n) = m) :
    Calls Try.prog 120 #[ptr sb, .int .i64 n] w fun e w' => e = .returned (.tuple #[V, .int .i64 0]) ∧ Below w.heap.size w w' := by
  go_enter Try.func120, Try.ntmps120
  go_wp2_with fail
  go_quiet (fail)
  go_wp2
  go_ret2
  exact ⟨rfl, below_drewN _ _⟩
section
variable {sb : Nat} {v : Value} {X : List Ob} {w : World}
theorem top_ok {p : Option Addr} {cap : Nat} (h : Stk 166 sb (.slice p X.length cap) X w) (n m : Nat) (hl : X.length = m + n) : Calls Try.prog 120 #[ptr sb, .int .i64 n] w fun e w' => e = .returned (.tuple #[sliced p m X.length cap 6, .int .i64 0]) ∧ Below w.heap.size w w' :=
  top_core sb X.length cap n m p _ w h.cell (slice33_l p _ cap m (by omega)) (by omega) (by omega) (by have := h.len; rw [IntWalk.i64_in _ (by omega)]; omega)
theorem top_neg (h : Stk 166 sb v X w) (n : Int) (hi : n < 0) : Calls Try.prog 120 #[ptr sb, .int .i64 n] w fun e w' => e = .returned (.tuple #[.slice none 0 0, .int .i64 2]) ∧ Below w.heap.size w w' := by
  obtain ⟨p, cap, rfl⟩ := h.form
  have h0 := h.cell
  clear h
  go_enter Try.func120, Try.ntmps120
  go_wp2
  go_ret2
  exact ⟨rfl, Below.refl _ _⟩
theorem dup_neg (h : Stk 166 sb v X w) (n : Int) (hi : n < 0) : Calls Try.prog 65 #[ptr sb, .int .i64 n] w fun e w' => e = .returned (.int .i64 2) ∧ Below w.heap.size w w' := by
  have q := Lib.hid (top_neg h n hi)
  clear h
  go_enter Try.func65, Try.ntmps65
  go_wp2_with fail
  refine q.out.mono ?_
  rintro e wb ⟨rfl, kb⟩
  have KB := Lib.hid kb
  clear kb
  go_wp2
  go_ret
  exact ⟨rfl, KB.out⟩
theorem roll_neg (h : Stk 166 sb v X w) (n j : Int) (hi : n < 0) : Calls Try.prog 67 #[ptr sb, .int .i64 n, .int .i64 j] w fun e w' => e = .returned (.int .i64 2) ∧ Below w.heap.size w w' := by
  have q := Lib.hid (top_neg h n hi)
  clear h
  go_enter Try.func67, Try.ntmps67
  go_wp2_with fail
  refine q.out.mono ?_
  rintro e wb ⟨rfl, kb⟩
  have KB := Lib.hid kb
  clear kb
  go_wp2
  go_ret
  exact ⟨rfl, KB.out⟩
theorem top_under (h : Stk 166 sb v X w) (n : Int) (hi : 0 ≤ n) (hl : X.length < n) : Calls Try.prog 120 #[ptr sb, .int .i64 n] w fun e w' => e = .returned (.tuple #[.slice none 0 0, .int .i64 7]) ∧ Below w.heap.size w w' := by
  obtain ⟨p, cap, rfl⟩ := h.form
  have h0 := h.cell
  have t0 : ¬ (n < 0) := by omega
  have t1 : (X.length : Int) < n := hl
  clear h
  go_enter Try.func120, Try.ntmps120
  go_wp2
  go_ret2
  exact ⟨rfl, Below.refl _ _⟩
theorem dup_under (h : Stk 166 sb v X w) (n : Int) (hi : 0 ≤ n) (hl : X.length < n) : Calls Try.prog 65 #[ptr sb, .int .i64 n] w fun e w' => e = .returned (.int .i64 7) ∧ Below w.heap.size w w' := by
  have q := Lib.hid (top_under h n hi hl)
  clear h
  go_enter Try.func65, Try.ntmps65
  go_wp2_with fail
  refine q.out.mono ?_
  rintro e wb ⟨rfl, kb⟩
  have KB := Lib.hid kb
  clear kb
  go_wp2
  go_ret
  exact ⟨rfl, KB.out⟩
theorem roll_under (h : Stk 166 sb v X w) (n j : Int) (hi : 0 ≤ n) (hl : X.length < n) : Calls Try.prog 67 #[ptr sb, .int .i64 n, .int .i64 j] w fun e w' => e = .returned (.int .i64 7) ∧ Below w.heap.size w w' := by
  have q := Lib.hid (top_under h n hi hl)
  clear h
  go_enter Try.func67, Try.ntmps67
  go_wp2_with fail
  refine q.out.mono ?_
  rintro e wb ⟨rfl, kb⟩
  have KB := Lib.hid kb
  clear kb
  go_wp2
  go_ret
  exact ⟨rfl, KB.out⟩
theorem dup_over (h : Stk 166 sb v X w) (n : Nat) (hl : n ≤ X.length) (ho : 200 < X.length + n) : Calls Try.prog 65 #[ptr sb, .int .i64 n] w fun e w' => e = .returned (.int .i64 8) ∧ Below w.heap.size w w' := by
  obtain ⟨p, cap, rfl⟩ := h.form
  obtain ⟨m, hm⟩ : ∃ m, X.length = m + n := ⟨X.length - n, by omega⟩
  have q := Lib.hid (top_ok h n m hm)
  have H := Lib.hid h
  have e1 : IntKind.i64.wrap ((X.length : Int) + n) = (X.length : Int) + n := by have := h.len; rw [IntWalk.i64_in _ (by omega)]
  have t1 : (X.length : Int) + n > 200 := by omega
  clear h hm hl ho
  generalize sliced p m X.length cap 6 = V at q
  go_enter Try.func65, Try.ntmps65
  go_wp2_with fail
  refine q.out.mono ?_
  rintro e wb ⟨rfl, kb⟩
  have KB := Lib.hid kb
  have h0 := (H.out.below kb).cell
  clear kb
  go_wp2
  go_ret
  exact ⟨rfl, KB.out⟩
theorem dup_ok (h : Stk 166 sb v X w) (n m : Nat) (hl : X.length = m + n) (ho : X.length + n ≤ 200) : Calls Try.prog 65 #[ptr sb, .int .i64 n] w fun e w' => e = .returned (.int .i64 0) ∧ Did 166 sb v w (X ++ X.drop m) w' := by
  obtain ⟨p, cap, rfl⟩ := h.form
  have q := Lib.hid (top_ok h n m hl)
  have hcap : X.length ≤ cap := by
    rcases h.row.2 with ⟨e, _⟩ | ⟨g, c, cur, e, _, _, hn, _⟩
    · have : X.length = 0 := by simpa using (by simpa using e : p = none ∧ X = [] ∧ cap = 0).2.1
      omega
    · obtain ⟨_, rfl⟩ : p = some ⟨g, 0, none⟩ ∧ cap = c := by simpa using e
      exact hn
  have H := Lib.hid h
  have HL := Lib.hid hl
  have HO := Lib.hid ho
  have HC := Lib.hid hcap
  have e1 : IntKind.i64.wrap ((X.length : Int) + n) = (X.length : Int) + n := by have := h.len; rw [IntWalk.i64_in _ (by omega)]
  have t1 : ¬ ((X.length : Int) + n > 200) := by omega
  clear h hl ho hcap
  obtain ⟨V, hV⟩ : ∃ V, sliced p m X.length cap 6 = V := ⟨_, rfl⟩
  rw [hV] at q
  have HV := Lib.hid hV
  clear hV
  go_enter Try.func65, Try.ntmps65
  go_wp2_with fail
  refine q.out.mono ?_
  rintro e wb ⟨rfl, kb⟩
  have KB := Lib.hid kb
  have HB := Lib.hid (H.out.below kb)
  have h0 := HB.out.cell
  have SG : Hid (Seg wb V (X.drop m)) := Lib.hid (by
    have := (Seg.of_owns HB.out.row).sub m X.length X.length (by have := HL.out; omega) (Nat.le_refl _) (Nat.le_refl _) HC.out
    rw [List.take_of_length_le (by simp)] at this
    have h2 := (Seg.of_owns HB.out.row).sub m X.length cap (by have := HL.out; omega) (Nat.le_refl _) HC.out (Nat.le_refl _)
    rw [List.take_of_length_le (by simp), HV.out] at h2
    exact h2)
  clear kb
  go_wp2_with (first
    | (at_builtin; refine wpList_append_ex rfl _ _ 33 rfl (.slice p X.length cap) V rfl rfl _ (seg_append HB.out.row SG.out (Nat.zero_le _) (by have := HO.out; omega) (by have := HO.out; simp; omega) _) ?_))
  rintro v5 w5 ap
  have K5 := ap.kept
  have D := Lib.hid (H.out.after KB.out ap (by have := HL.out; have := HO.out; simp; omega))
  have c0 : w5.cell? ⟨sb, 0, none⟩ = some (.slice p X.length cap) := cellAt ((K5.block _ ⟨HB.out.lt, HB.out.ne⟩).trans HB.out.hdr) 0
  have f0 : w5.frozen? ⟨sb, 0, none⟩ = false := freeAt ((K5.block _ ⟨HB.out.lt, HB.out.ne⟩).trans HB.out.hdr) 0
  obtain ⟨p5, c5, rfl⟩ := owns_form ap.row
  clear K5 ap h0
  go_wp2
  go_ret
  exact ⟨rfl, by simpa using D.out⟩
theorem roll_none (h : Stk 166 sb v X w) (j : Int) : Calls Try.prog 67 #[ptr sb, .int .i64 0, .int .i64 j] w fun e w' => e = .returned (.int .i64 0) ∧ Below w.heap.size w w' := by
  obtain ⟨p, cap, rfl⟩ := h.form
  have q := Lib.hid (top_ok h 0 X.length rfl)
  clear h
  generalize sliced p X.length X.length cap 6 = V at q
  go_enter Try.func67, Try.ntmps67
  go_wp2_with fail
  refine q.out.mono ?_
  rintro e wb ⟨rfl, kb⟩
  have KB := Lib.hid kb
  clear kb
  go_wp2
  go_ret
  exact ⟨rfl, KB.out⟩
end
/-- append, then copy. -/
def Moves (V V1 V2 : Value) (R : World → Prop) (w : World) : Prop := ∀ wx ty ty2, Below w.heap.size w wx → ∃ v' w', (Builtin.append_ #[33, 33] ty #[V2, V1]).run Try.prog wx = .ok v' w' ∧ ∃ r w'', (Builtin.copy_ #[33, 33] ty2 #[V, v']).run Try.prog w' = .ok r w'' ∧ R w''
theorem roll_core (sb n cut u : Nat) (j t : Int) (V V1 V2 : Value) (R : World → Prop) (w : World) (hn : 0 < n) (hb : n ≤ 200) (ht : j.tmod n = t) (hu : t < 0 ∧ t + n = u ∨ 0 ≤ t ∧ t = u) (hc : n = cut + u)
    (hq : Hid (Calls Try.prog 120 #[ptr sb, .int .i64 n] w fun e w' => e = .returned (.tuple #[V, .int .i64 0]) ∧ Below w.heap.size w w'))
    (hs1 : ∀ w : World, (Instr.slice 33 V none (some (.int .i64 cut)) (some (.int .i64 cut))).run Try.prog w = .ok V1 w)
    (hs2 : ∀ w : World, (Instr.slice 33 V (some (.int .i64 cut)) (some (.int .i64 n)) (some (.int .i64 n))).run Try.prog w = .ok V2 w) (hm : Hid (Moves V V1 V2 R w)) :
    Calls Try.prog 67 #[ptr sb, .int .i64 n, .int .i64 j] w fun e w' => e = .returned (.int .i64 0) ∧ R w' := by
  have n0 : ¬ ((n : Int) = 0) := by omega
  have n1 : ¬ (n = 0) := by omega
  have e3 : IntKind.i64.wrap ((n : Int) - u) = cut := by rw [IntWalk.i64_in _ (by omega)]; omega
  have e4 : wrap64 ((n : Int) - u) = cut := by rw [← IntWalk.i64_left]; exact e3
  rcases hu with ⟨hu, he⟩ | ⟨hu, he⟩
  · have e2 : IntKind.i64.wrap (t + n) = u := by rw [IntWalk.i64_in _ (by omega)]; omega
    have b0 : -200 ≤ t := by omega
    clear he hn hb hc
    go_enter Try.func67, Try.ntmps67
    go_wp2_with fail
    refine hq.out.mono ?_
    rintro e wb ⟨rfl, kb⟩
    have KB := Lib.hid kb
    clear kb
    go_wp2_with fail
    go_quiet (fail)
    obtain ⟨v5, w5, hr5, r6, w6, hr6, hR⟩ := hm.out (wb.drewN nq) 33 3 (below_and KB.out (below_drewN _ _))
    have HR := Lib.hid hR
    clear hR
    go_wp2_with (first
      | (at_builtin; refine wpList_append_ex rfl _ _ 33 rfl V2 V1 rfl rfl (fun v w => v = v5 ∧ w = w5) ⟨v5, w5, hr5, rfl, rfl⟩ ?_; rintro _ _ ⟨rfl, rfl⟩)
      | (at_builtin; refine wpList_copy_run rfl _ _ 33 33 rfl V _ rfl rfl r6 w6 hr6 ?_))
    go_ret
    exact ⟨rfl, HR.out⟩
  · obtain rfl : t = (u : Int) := he
    clear hu hn hb hc
    go_enter Try.func67, Try.ntmps67
    go_wp2_with fail
    refine hq.out.mono ?_
    rintro e wb ⟨rfl, kb⟩
    have KB := Lib.hid kb
    clear kb
    go_wp2_with fail
    go_quiet (fail)
    obtain ⟨v5, w5, hr5, r6, w6, hr6, hR⟩ := hm.out (wb.drewN nq) 33 3 (below_and KB.out (below_drewN _ _))
    have HR := Lib.hid hR
    clear hR
    go_wp2_with (first
      | (at_builtin; refine wpList_append_ex rfl _ _ 33 rfl V2 V1 rfl rfl (fun v w => v = v5 ∧ w = w5) ⟨v5, w5, hr5, rfl, rfl⟩ ?_; rintro _ _ ⟨rfl, rfl⟩)
      | (at_builtin; refine wpList_copy_run rfl _ _ 33 33 rfl V _ rfl rfl r6 w6 hr6 ?_))
    go_ret
    exact ⟨rfl, HR.out⟩
end Go.Proofs.Ytgmklagnngjlgaa

/- Walks of stack: Roll. -/
namespace Go.Proofs.Ytgmklagnngjlgaa
open Go.RowKit
set_option linter.unusedVariables false
set_option linter.unusedSimpArgs false
set_option maxHeartbeats 1000000
set_option maxRecDepth 100000

/-- Rotated by u. -/
def rollL (B : List Ob) (u : Nat) : List Ob := B.drop (B.length - u) ++ B.take (B.length - u)
def rollP (X : List Ob) (n : Nat) (j : Int) : List Ob := X.take (X.length - n) ++ rollL (X.drop (X.length - n)) (j % n).toNat
theorem rollL_length (B : List Ob) (u : Nat) : (rollL B u).length = B.length := by simp [rollL]
theorem rollP_length (X : List Ob) (n : Nat) (j : Int) : (rollP X n j).length = X.length := by
  unfold rollP
  rw [List.length_append, rollL_length]
  simp
theorem take_obCells (X : List Ob) (m : Nat) : (obCells X).take (m * 6) = obCells (X.take m) := by
  by_cases h : m ≤ X.length
  · have e : obCells X = obCells (X.take m) ++ obCells (X.drop m) := by rw [← obCells_append, List.take_append_drop]
    have hl : (obCells (X.take m)).length = m * 6 := by rw [obCells_length, List.length_take]; omega
    rw [e, ← hl, List.take_left]
  · rw [List.take_of_length_le (by rw [obCells_length]; omega), List.take_of_length_le (by omega)]
section
variable {T : TypeId} {sb : Nat} {v : Value} {X : List Ob} {w w' : World}
/-- A copy within the operands' row. -/
theorem Stk.put {g m : Nat} {cap : Nat} {cur : Array Value} (h : Stk T sb (.slice (some ⟨g, 0, none⟩) X.length cap) X w) (hg : w'.heap[g]? = some (.cells cur 24 (0, 0))) (hs : w'.heap[sb]? = some (.cells #[.slice (some ⟨g, 0, none⟩) X.length cap] T (0, 0))) (hc : X.length ≤ cap) (hM : cap ≤ maxLen) (hcs : cur.size = cap * 6) (ht : cur.toList.take (X.length * 6) = obCells X) (Y : List Ob) (hY : X.length = m + Y.length) :
    Stk T sb (.slice (some ⟨g, 0, none⟩) X.length cap) (X.take m ++ Y) (w'.setRow g (cur.toList.take (m * 6) ++ obCells Y ++ cur.toList.drop (m * 6 + (obCells Y).length)).toArray) := by
  have hlen : (X.take m ++ Y).length = X.length := by simp; omega
  have hgs : g ≠ sb := fun e => h.ne (by simp [Value.ownBlock, e])
  have hl6 : (obCells Y).length = Y.length * 6 := obCells_length Y
  refine ⟨(setRow_other w' g sb _ hgs.symm).trans hs, ?_, h.ne, by rw [hlen]; exact h.len⟩
  refine ⟨by rw [obCells_length], .inr ⟨g, cap, _, by rw [hlen], Nat.zero_le _, setRow_heap w' g cur _ 24 _ hg, by rw [hlen]; exact hc, hM, ?_, ?_⟩⟩
  · simp only [List.size_toArray, List.length_append, List.length_take, List.length_drop, Array.length_toList, hl6, hcs]
    omega
  · rw [hlen, obCells_append, ← take_obCells, ← ht, List.take_take, Nat.min_eq_left (by omega)]
    have e : X.length * 6 = (cur.toList.take (m * 6) ++ obCells Y).length := by
      rw [List.length_append, List.length_take, hl6, show cur.toList.length = cap * 6 from hcs]
      omega
    rw [e]
    exact List.take_left
theorem roll_ok (h : Stk 166 sb v X w) (n : Nat) (j : Int) (hn : 0 < n) (hl : n ≤ X.length) : Calls Try.prog 67 #[ptr sb, .int .i64 n, .int .i64 j] w fun e w' => e = .returned (.int .i64 0) ∧ Did 166 sb v w (rollP X n j) w' := by
  have hlen := h.len
  rcases h.row.2 with ⟨_, h0⟩ | ⟨g, cap, cur, rfl, _, hg, hc, hM, hcs, ht⟩
  · omega
  obtain ⟨m, hm⟩ : ∃ m, X.length = m + n := ⟨X.length - n, by omega⟩
  have h0 := Int.emod_nonneg j (by omega : (n : Int) ≠ 0)
  have h1 := Int.emod_lt_of_pos j (by omega : (0 : Int) < n)
  obtain ⟨u, hu⟩ : ∃ u : Nat, j % (n : Int) = u := ⟨(j % n).toNat, by omega⟩
  obtain ⟨cut, hcut⟩ : ∃ cut, n = cut + u := ⟨n - u, by omega⟩
  have hB : (X.drop m).length = n := by simp; omega
  have eV : sliced (some ⟨g, 0, none⟩) m X.length cap 6 = .slice (some ⟨g, m * 6, none⟩) n (cap - m) := by
    unfold sliced
    rw [if_neg (by omega), Option.map_some, Addr.add_mid, Nat.zero_add, hm, Nat.add_sub_cancel_left]
  have hseg := (Seg.of_owns h.row).sub m X.length cap (by omega) (Nat.le_refl _) hc (Nat.le_refl _)
  rw [eV, List.take_of_length_le (by simp)] at hseg
  have hq := top_ok h n m hm
  rw [eV] at hq
  refine (roll_core sb n cut u j _ (.slice (some ⟨g, m * 6, none⟩) n (cap - m)) _ _ (fun w' => Did 166 sb (.slice (some ⟨g, 0, none⟩) X.length cap) w (rollP X n j) w') w hn (by omega) rfl ?_ hcut (Lib.hid hq) (slice33_hm _ n (cap - m) cut cut (Nat.le_refl _) (by omega)) (slice33_lhm _ n (cap - m) cut n n (by omega) (Nat.le_refl _) (by omega)) (Lib.hid ?_))
  · have := tmod_cases j n (by omega)
    omega
  · intro wx ty ty2 kx
    have hx := h.below kx
    have hsx : Seg wx (.slice (some ⟨g, m * 6, none⟩) (X.drop m).length (cap - m)) (X.drop m) := by rw [hB]; exact hseg.later kx
    have s1 := hsx.sub 0 cut cut (Nat.zero_le _) (by omega) (Nat.le_refl _) (by omega)
    have s2 := hsx.sub cut n n (by omega) (by omega) (Nat.le_refl _) (by omega)
    rw [List.drop_zero, Nat.sub_zero] at s1
    rw [List.take_of_length_le (by simp; omega)] at s2
    have hlu : ((X.drop m).drop cut).length = u := by simp; omega
    have hll : ((X.drop m).take cut).length = cut := by simp; omega
    rcases s2 with ⟨e, _⟩ | ⟨au, c, e, hcu⟩
    · unfold sliced at e
      simp at e
      split at e <;> simp at e
    have ec : c = n - cut := by
      unfold sliced at e
      have := (Value.slice.inj e).2.2
      omega
    obtain ⟨cap', w1, hr, k1, hc1⟩ := run_append_full wx ty ((X.drop m).drop cut) ((X.drop m).take cut) au _ hcu s1 (by omega) (by omega)
    have ev2 : sliced (some ⟨g, m * 6, none⟩) cut n n 6 = .slice (some au) ((X.drop m).drop cut).length ((X.drop m).drop cut).length := by
      rw [e, ec, hlu]
      congr 1
      omega
    rw [← ev2] at hr
    refine ⟨_, w1, hr, ?_⟩
    have hg1 : w1.heap[g]? = some (.cells cur 24 (0, 0)) := by
      rw [k1.block g (Nat.lt_of_lt_of_le (blk_lt hg) kx.size), kx.block g (blk_lt hg)]
      exact hg
    have hY : ((X.drop m).drop cut ++ (X.drop m).take cut).length = n := by rw [List.length_append]; omega
    obtain ⟨r, hr2⟩ := run_copy_obs w1 ty2 g (m * 6) n (cap - m) ⟨wx.heap.size, 0, none⟩ (((X.drop m).drop cut).length + ((X.drop m).take cut).length) cap' cur 24 ((X.drop m).drop cut ++ (X.drop m).take cut) hg1 (by rw [hY, hlu, hll]; show n = min (u + cut) n; omega) hc1 (by rw [obCells_length, hY, hcs]; omega)
    refine ⟨r, _, hr2, ?_⟩
    have kk := below_and kx k1
    have hp : rollP X n j = X.take m ++ ((X.drop m).drop cut ++ (X.drop m).take cut) := by
      unfold rollP rollL
      rw [hu, show X.length - n = m from by omega, hB, Int.toNat_natCast, show n - u = cut from by omega]
    rw [hp]
    refine ⟨⟨_, (h.put hg1 ((kk.block _ h.lt).trans h.hdr) hc hM hcs ht _ (by rw [hY]; exact hm)), fun g e => .inl e⟩, kk.os, kk.tape, kk.output, by simpa using kk.size, fun b q => ?_⟩
    rw [setRow_other _ _ _ _ (fun e => q.2.2 (by simp [Value.ownBlock, e]))]
    exact kk.block b q.1
end
end Go.Proofs.Ytgmklagnngjlgaa

/- Walks of stack: Pop (slices.Delete of the last one). -/
namespace Go.Proofs.Ytgmklagnngjlgaa
open Go.RowKit
set_option linter.unusedVariables false
set_option linter.unusedSimpArgs false
set_option maxHeartbeats 1000000
set_option maxRecDepth 100000

theorem zero24 (w : World) : (zeroValue 24).run Try.prog w = .ok (obV 0 false 0 0 0 ⟨#[]⟩) w := by kernel_rfl
theorem run_clear_ob (w : World) (g m c : Nat) (cur : Array Value) (t : TypeId) (hg : w.heap[g]? = some (.cells cur t (0, 0))) (hfit : m * 6 + 6 ≤ cur.size) (ty : TypeId) :
    (Builtin.clear_ #[33] ty #[.slice (some ⟨g, m * 6, none⟩) 1 c]).run Try.prog w = .ok (.tuple #[]) (w.setRow g (cur.toList.take (m * 6) ++ obCells [Ob.zero] ++ cur.toList.drop (m * 6 + (obCells [Ob.zero]).length)).toArray) := by
  have hst := run_storeCells_at Try.prog g (m * 6) t (obCells [Ob.zero]) 0 cur w hg (by simpa [obCells, Ob.cells] using hfit) (obCells_one _)
  rw [Nat.add_zero] at hst
  have hz : (Builtin.zeroCells (obV 0 false 0 0 0 ⟨#[]⟩).cells 1).toList = obCells [Ob.zero] := by kernel_rfl
  simp [Builtin.clear_, run_underlying Try.underlying33, zero24, hz, hst]
theorem delete_core (g m cap : Nat) (V2 : Value) (R : World → Prop) (w : World) (h1 : ∀ w : World, (Instr.slice 33 (.slice (some ⟨g, 0, none⟩) (m + 1) cap) none (some (.int .i64 m)) none).run Try.prog w = .ok (.slice (some ⟨g, 0, none⟩) m cap) w)
    (h2 : ∀ w : World, (Instr.slice 33 (.slice (some ⟨g, 0, none⟩) (m + 1) cap) (some (.int .i64 ((m : Int) + 1))) none none).run Try.prog w = .ok V2 w)
    (h3 : ∀ w : World, (Instr.slice 33 (.slice (some ⟨g, 0, none⟩) (m + 1) cap) (some (.int .i64 m)) (some (.int .i64 ((m : Int) + 1))) (some (.int .i64 ((m : Int) + 1)))).run Try.prog w = .ok (.slice (some ⟨g, m * 6, none⟩) 1 1) w)
    (h4 : ∀ w : World, (Instr.slice 33 (.slice (some ⟨g, 0, none⟩) m cap) (some (.int .i64 m)) (some (.int .i64 ((m : Int) + 1))) none).run Try.prog w = .ok (.slice (some ⟨g, m * 6, none⟩) 1 (cap - m)) w)
    (h5 : ∀ (w : World) (ty : TypeId), (Builtin.append_ #[33, 33] ty #[.slice (some ⟨g, 0, none⟩) m cap, V2]).run Try.prog w = .ok (.slice (some ⟨g, 0, none⟩) m cap) w)
    (hm : Hid (∀ wx, Below w.heap.size w wx → ∃ wz, (∀ ty, (Builtin.clear_ #[33] ty #[.slice (some ⟨g, m * 6, none⟩) 1 (cap - m)]).run Try.prog wx = .ok (.tuple #[]) wz) ∧ R wz)) :
    Calls Try.prog 119 #[.slice (some ⟨g, 0, none⟩) (m + 1) cap, .int .i64 m, .int .i64 ((m : Int) + 1)] w fun e w' => e = .returned (.slice (some ⟨g, 0, none⟩) m cap) ∧ R w' := by
  go_enter Try.func119, Try.ntmps119
  go_wp2_with fail
  have SX : Hid True := Lib.hid trivial
  (try refine wp_region_noPanic ?_)
  refine wp_region_held_drew (S := fun _ => True) (by kernel_rfl) trivial (fun _ => ?_)
  have KD : Hid (Below w.heap.size w w.drew) := Lib.hid (Below.refl _ _).drew
  generalize w.drew = wd at KD ⊢
  obtain ⟨wz, hcl, hR⟩ := hm.out wd KD.out
  have HR := Lib.hid hR
  clear hR
  refine wpAnyH_take (i := 0) (v := .slice (some ⟨g, 0, none⟩) (m + 1) cap) rfl (by kernel_rfl) (by kernel_rfl) (by kernel_rfl) (fun _ _ _ h => h) (Or.inl ⟨by rfl, fun wx hS => ?_⟩) SX.out ?_
  · go_simp
  try simp only [Act.put, List.getElem_toArray, List.getElem_cons_succ, List.getElem_cons_zero, List.setIfInBounds_toArray, List.set_cons_zero, List.set_cons_succ]
  refine wpAnyH_take (i := 1) (v := .int .i64 m) rfl (by kernel_rfl) (by kernel_rfl) (by kernel_rfl) (fun _ _ _ h => h) (Or.inl ⟨by rfl, fun wx hS => ?_⟩) SX.out ?_
  · go_simp
  try simp only [Act.put, List.getElem_toArray, List.getElem_cons_succ, List.getElem_cons_zero, List.setIfInBounds_toArray, List.set_cons_zero, List.set_cons_succ]
  refine wpAnyH_take (i := 2) (v := .slice (some ⟨g, 0, none⟩) m cap) rfl (by kernel_rfl) (by kernel_rfl) (by kernel_rfl) (fun _ _ _ h => h) (Or.inl ⟨by rfl, fun wx hS => ?_⟩) SX.out ?_
  · go_simp
  try simp only [Act.put, List.getElem_toArray, List.getElem_cons_succ, List.getElem_cons_zero, List.setIfInBounds_toArray, List.set_cons_zero, List.set_cons_succ]
  refine wpAnyH_take (i := 3) (v := .slice (some ⟨g, 0, none⟩) (m + 1) cap) rfl (by kernel_rfl) (by kernel_rfl) (by kernel_rfl) (fun _ _ _ h => h) (Or.inl ⟨by rfl, fun wx hS => ?_⟩) SX.out ?_
  · go_simp
  try simp only [Act.put, List.getElem_toArray, List.getElem_cons_succ, List.getElem_cons_zero, List.setIfInBounds_toArray, List.set_cons_zero, List.set_cons_succ]
  refine wpAnyH_take (i := 4) (v := .int .i64 ((m : Int) + 1)) rfl (by kernel_rfl) (by kernel_rfl) (by kernel_rfl) (fun _ _ _ h => h) (Or.inl ⟨by rfl, fun wx hS => ?_⟩) SX.out ?_
  · go_simp
  try simp only [Act.put, List.getElem_toArray, List.getElem_cons_succ, List.getElem_cons_zero, List.setIfInBounds_toArray, List.set_cons_zero, List.set_cons_succ]
  refine wpAnyH_take (i := 5) (v := V2) rfl (by kernel_rfl) (by kernel_rfl) (by kernel_rfl) (fun _ _ _ h => h) (Or.inl ⟨by rfl, fun wx hS => ?_⟩) SX.out ?_
  · go_simp
  try simp only [Act.put, List.getElem_toArray, List.getElem_cons_succ, List.getElem_cons_zero, List.setIfInBounds_toArray, List.set_cons_zero, List.set_cons_succ]
  refine wpAnyH_ready (rs := [6]) (by kernel_rfl) (by simp) ?_
  refine AllReadyH.cons rfl (fun K hK => ?_) AllReadyH.nil
  refine step_append_ex rfl _ _ 33 rfl (.slice (some ⟨g, 0, none⟩) m cap) V2 rfl rfl (fun v wx => v = .slice (some ⟨g, 0, none⟩) m cap ∧ wx = wd) ⟨_, _, h5 _ _, rfl, rfl⟩ ?_
  rintro _ _ ⟨rfl, rfl⟩
  refine hK.out _ _ SX.out (fun _ => ?_)
  clear hK
  try simp only [Act.put, List.getElem_toArray, List.getElem_cons_succ, List.getElem_cons_zero, List.setIfInBounds_toArray, List.set_cons_zero, List.set_cons_succ]
  refine wpAnyH_take (i := 7) (v := .slice (some ⟨g, 0, none⟩) m cap) rfl (by kernel_rfl) (by kernel_rfl) (by kernel_rfl) (fun _ _ _ h => h) (Or.inl ⟨by rfl, fun wx hS => ?_⟩) SX.out ?_
  · go_simp
  try simp only [Act.put, List.getElem_toArray, List.getElem_cons_succ, List.getElem_cons_zero, List.setIfInBounds_toArray, List.set_cons_zero, List.set_cons_succ]
  refine wpAnyH_done (by kernel_rfl) ?_ _
  (try refine no_panic ?_)
  go_wp2
  go_ret
  exact ⟨rfl, HR.out⟩
section
variable {sb : Nat} {v : Value} {X : List Ob} {w : World}
theorem pop_under (h : Stk 166 sb v [] w) : Calls Try.prog 63 #[ptr sb] w fun e w' => e = .returned (.tuple #[zeroOb, .int .i64 7]) ∧ Below w.heap.size w w' := by
  have hp : Hid (∀ wx, Below w.heap.size w wx → Calls Try.prog 72 #[ptr sb, .int .i64 0] wx fun e w' => e = .returned (.tuple #[zeroOb, .int .i64 7]) ∧ Below wx.heap.size wx w') := Lib.hid fun wx kx => peek_under (h.below kx) 0 (by omega) (by simp)
  clear h
  go_enter Try.func63, Try.ntmps63
  go_upto_region 1 with fail
  obtain ⟨wa, ea, ka, za, oa⟩ := zero_box w
  rw [ea]
  have KA := Lib.hid ka
  have OA := Lib.hid oa
  clear ea ka za oa
  go_wp2_with fail
  refine (hp.out wa KA.out).mono ?_
  rintro e wb ⟨rfl, kb⟩
  have KB := Lib.hid (below_and KA.out kb)
  have OB : Hid (wb.heap[w.heap.size]? = some emptyOb) := Lib.hid ((kb.block _ (blk_lt OA.out)).trans OA.out)
  obtain ⟨⟨o0, o1, o2, o3, o4, o5⟩, f0, f1, f2, f3, f4, f5⟩ := cells6 OB.out
  clear kb
  go_upto_region 2 with fail
  obtain ⟨wf, ef, bf, onf⟩ := set6_box OB.out (.int .i64 0) (.bool false) (.int .i64 0) (.int .i64 0) (.int .i64 0) (.string ⟨#[]⟩)
  rw [ef]
  have BF := Lib.hid bf
  have KF := Lib.hid (onf.below KB.out (Nat.le_refl _))
  clear ef bf onf o0 o1 o2 o3 o4 o5 f0 f1 f2 f3 f4 f5
  obtain ⟨⟨o0, o1, o2, o3, o4, o5⟩, f0, f1, f2, f3, f4, f5⟩ := cells6 BF.out
  go_wp2
  (try simp only [Exit.inBlock, Exit.then])
  exact bodyPost_ret (ret_cell rfl _ _ _ _ _ _ _ _ rfl rfl (set6 BF.out _ _ _ _ _ _) Try.underlying24 rfl (by kernel_rfl)) rfl ⟨rfl, set6_below KF.out (Nat.le_refl _) _ _ _ _ _ _⟩
/-- The last one is deleted. -/
theorem delete_last {g m cap : Nat} {cur : Array Value} (hX : X.length = m + 1) (hg : w.heap[g]? = some (.cells cur 24 (0, 0))) (hc : m + 1 ≤ cap) (hM : cap ≤ maxLen) (hcs : cur.size = cap * 6) (ht : cur.toList.take ((m + 1) * 6) = obCells X) :
    Calls Try.prog 119 #[.slice (some ⟨g, 0, none⟩) (m + 1) cap, .int .i64 m, .int .i64 ((m : Int) + 1)] w fun e w' => e = .returned (.slice (some ⟨g, 0, none⟩) m cap) ∧ w'.ownsRow 0 24 6 (.slice (some ⟨g, 0, none⟩) m cap) (X.take m).length (obCells (X.take m)) ∧ Kept (fun b => b < w.heap.size ∧ b ≠ g) w w' := by
  have hlen : (X.take m).length = m := by simp; omega
  have c1 : ((m : Int) + 1) = ((m + 1 : Nat) : Int) := by omega
  have s1 := slice33_h (some ⟨g, 0, none⟩) (m + 1) cap m (by omega)
  have s2 := slice33_l (some ⟨g, 0, none⟩) (m + 1) cap (m + 1) (Nat.le_refl _)
  have s3 := slice33_lhm (some ⟨g, 0, none⟩) (m + 1) cap m (m + 1) (m + 1) (by omega) (Nat.le_refl _) hc
  have s4 := slice33_lh (some ⟨g, 0, none⟩) m cap m (m + 1) (by omega) hc
  have q1 : sliced (some ⟨g, 0, none⟩) 0 m cap 6 = .slice (some ⟨g, 0, none⟩) m cap := by
    unfold sliced
    simp [Addr.add]
  have q3 : sliced (some ⟨g, 0, none⟩) m (m + 1) (m + 1) 6 = .slice (some ⟨g, m * 6, none⟩) 1 1 := by
    unfold sliced
    rw [if_neg (by omega), Option.map_some, Addr.add_mid, Nat.zero_add, Nat.add_sub_cancel_left]
  have q4 : sliced (some ⟨g, 0, none⟩) m (m + 1) cap 6 = .slice (some ⟨g, m * 6, none⟩) 1 (cap - m) := by
    unfold sliced
    rw [if_neg (by omega), Option.map_some, Addr.add_mid, Nat.zero_add, Nat.add_sub_cancel_left]
  rw [← c1] at s2 s3 s4
  rw [q1] at s1
  rw [q3] at s3
  rw [q4] at s4
  refine delete_core g m cap _ _ w s1 s2 s3 s4 (fun wx ty => ?_) (Lib.hid fun wx kx => ?_)
  · obtain ⟨i0, hi, hz0, hz1, hz2⟩ := info_parts info24
    have hu := Try.underlying33
    have hm : m ≤ cap := by omega
    obtain ⟨ae, he⟩ : ∃ ae, sliced (some ⟨g, 0, none⟩) (m + 1) (m + 1) cap 6 = .slice (some ae) 0 (cap - (m + 1)) := by
      unfold sliced
      rw [Nat.sub_self]
      split
      · exact ⟨_, rfl⟩
      · exact ⟨_, rfl⟩
    rw [he]
    simp [Builtin.append_, run_underlying hu, sizeOf, typeInfo, hi, Builtin.lenOf, Builtin.firstCells, loadCells, loadCellsFrom, hm, storeCells]
  · have hgx : wx.heap[g]? = some (.cells cur 24 (0, 0)) := (kx.block g (blk_lt hg)).trans hg
    refine ⟨_, fun ty => run_clear_ob wx g m (cap - m) cur 24 hgx (by rw [hcs]; omega) ty, ?_, ?_⟩
    · have h6 : (obCells [Ob.zero]).length = 6 := rfl
      refine ⟨by rw [obCells_length], .inr ⟨g, cap, _, by rw [hlen], Nat.zero_le _, setRow_heap wx g cur _ 24 _ hgx, by rw [hlen]; omega, hM, ?_, ?_⟩⟩
      · have hcl : cur.toList.length = cap * 6 := hcs
        simp only [List.size_toArray, List.length_append, List.length_take, List.length_drop, h6, hcl]
        omega
      · have e : (X.take m).length * 6 = (cur.toList.take (m * 6)).length := by
          have hcl : cur.toList.length = cap * 6 := hcs
          rw [hlen, List.length_take, hcl]
          omega
        rw [← take_obCells, ← ht, List.take_take, Nat.min_eq_left (by omega), e, List.append_assoc]
        exact List.take_left
    · exact ⟨kx.os, kx.tape, kx.output, by simpa using kx.size, fun b q => (setRow_other _ _ _ _ q.2).trans (kx.block b q.1)⟩
end
end Go.Proofs.Ytgmklagnngjlgaa

/- Walks of stack: Pop of an operand. -/
namespace Go.Proofs.Ytgmklagnngjlgaa
open Go.RowKit
set_option linter.unusedVariables false
set_option linter.unusedSimpArgs false
set_option maxHeartbeats 1000000
set_option maxRecDepth 100000

section
variable {sb : Nat} {v : Value} {X : List Ob} {w : World}
theorem pop_ok (h : Stk 166 sb v X w) (m : Nat) (hl : X.length = m + 1) (k n a l : Int) (x : Bool) (s : ByteArray) (hm : X[m]? = some ⟨k, x, n, a, l, s⟩) : Calls Try.prog 63 #[ptr sb] w fun e w' => e = .returned (.tuple #[obV k x n a l s, .int .i64 0]) ∧ Did 166 sb v w (X.take m) w' := by
  have hlen := h.len
  rcases h.row.2 with ⟨_, h0⟩ | ⟨g, cap, cur, rfl, _, hg, hc, hM, hcs, ht⟩
  · omega
  have hp : Hid (∀ wx, Below w.heap.size w wx → Calls Try.prog 72 #[ptr sb, .int .i64 0] wx fun e w' => e = .returned (.tuple #[obV k x n a l s, .int .i64 0]) ∧ Below wx.heap.size wx w') := Lib.hid fun wx kx => peek_ok (h.below kx) 0 m (by omega) k n a l x s hm
  have H := Lib.hid h
  have hne := h.ne
  have HG := Lib.hid hg
  have HX := Lib.hid hl
  rw [hl] at hc ht
  have hdel : Hid (∀ wx, wx.heap[g]? = some (.cells cur 24 (0, 0)) → Calls Try.prog 119 #[.slice (some ⟨g, 0, none⟩) (m + 1) cap, .int .i64 m, .int .i64 ((m : Int) + 1)] wx fun e w' => e = .returned (.slice (some ⟨g, 0, none⟩) m cap) ∧ w'.ownsRow 0 24 6 (.slice (some ⟨g, 0, none⟩) m cap) (X.take m).length (obCells (X.take m)) ∧ Kept (fun b => b < wx.heap.size ∧ b ≠ g) wx w') := Lib.hid fun wx q => delete_last hl q hc hM hcs ht
  have e1 : IntKind.i64.wrap (m : Int) = m := IntWalk.i64_in _ (by omega)
  have e2 : wrap64 (m : Int) = m := by rw [← IntWalk.i64_left]; exact e1
  have e3 : IntKind.i64.wrap ((m : Int) + 1) = (m : Int) + 1 := IntWalk.i64_in _ (by omega)
  have e4 : wrap64 ((m : Int) + 1) = (m : Int) + 1 := by rw [← IntWalk.i64_left]; exact e3
  clear h hm hg hc hM hcs ht hne hlen
  go_enter Try.func63, Try.ntmps63
  go_upto_region 1 with fail
  obtain ⟨wa, ea, ka, za, oa⟩ := zero_box w
  rw [ea]
  have KA := Lib.hid ka
  have OA := Lib.hid oa
  clear ea ka za oa
  go_wp2_with fail
  refine (hp.out wa KA.out).mono ?_
  rintro e wb ⟨rfl, kb⟩
  have KB := Lib.hid (below_and KA.out kb)
  have OB : Hid (wb.heap[w.heap.size]? = some emptyOb) := Lib.hid ((kb.block _ (blk_lt OA.out)).trans OA.out)
  obtain ⟨⟨o0, o1, o2, o3, o4, o5⟩, f0, f1, f2, f3, f4, f5⟩ := cells6 OB.out
  clear kb
  go_upto_region 2 with fail
  obtain ⟨wf, ef, bf, onf⟩ := set6_box OB.out (.int .i64 k) (.bool x) (.int .i64 n) (.int .i64 a) (.int .i64 l) (.string s)
  rw [ef]
  have BF := Lib.hid bf
  have KF := Lib.hid (onf.below KB.out (Nat.le_refl _))
  clear ef bf onf o0 o1 o2 o3 o4 o5 f0 f1 f2 f3 f4 f5
  have HF := Lib.hid (H.out.below KF.out)
  have h0 : wf.cell? ⟨sb, 0, none⟩ = some (.slice (some ⟨g, 0, none⟩) (m + 1) cap) := by rw [HF.out.cell, HX.out]
  go_wp2_with fail
  refine (hdel.out wf ((KF.out.block g (blk_lt HG.out)).trans HG.out)).mono ?_
  rintro e wz ⟨rfl, row, kz⟩
  have gs : g ≠ sb := fun e => H.out.ne (by simp [Value.ownBlock, e])
  have c0 : wz.cell? ⟨sb, 0, none⟩ = some (.slice (some ⟨g, 0, none⟩) X.length cap) := cellAt ((kz.block _ ⟨HF.out.lt, gs.symm⟩).trans HF.out.hdr) 0
  have f0 : wz.frozen? ⟨sb, 0, none⟩ = false := freeAt ((kz.block _ ⟨HF.out.lt, gs.symm⟩).trans HF.out.hdr) 0
  have D := Did.store H.out (w' := wz) ⟨kz.os.trans KF.out.os, kz.tape.trans KF.out.tape, kz.output.trans KF.out.output, Nat.le_trans KF.out.size kz.size, fun b q => (kz.block b ⟨Nat.lt_of_lt_of_le q.1 KF.out.size, fun e => q.2 (by simp [Value.ownBlock, e])⟩).trans (KF.out.block b q.1)⟩ row (fun g e => .inl e) (by have := H.out.len; simp; omega)
  have hgl := blk_lt HG.out
  have hsl := H.out.lt
  have OZ : wz.heap[w.heap.size]? = some (obObj k x n a l s) := (kz.block _ ⟨blk_lt BF.out, by omega⟩).trans BF.out
  have hS : Stk 166 sb (.slice (some ⟨g, 0, none⟩) m cap) (X.take m) (wz.setCell ⟨sb, 0, none⟩ (.slice (some ⟨g, 0, none⟩) m cap)) := by
    obtain ⟨⟨v', hs, _⟩, _⟩ := D
    have : v' = .slice (some ⟨g, 0, none⟩) m cap := by
      have h1 := hs.cell
      rw [World.cell?_setCell_same' _ _ _ (by rw [c0]; rfl)] at h1
      exact (Option.some.inj h1).symm
    rw [← this]
    rw [this] at hs ⊢
    exact hs
  have O4 : (wz.setCell ⟨sb, 0, none⟩ (.slice (some ⟨g, 0, none⟩) m cap)).heap[w.heap.size]? = some (obObj k x n a l s) := (heap_setCell_other _ _ _ _ (by show w.heap.size ≠ sb; omega)).trans OZ
  have DK := Lib.hid D.kept
  have HS := Lib.hid hS
  have OH := Lib.hid O4
  have GL : Hid (g < w.heap.size ∧ sb < w.heap.size) := Lib.hid ⟨hgl, hsl⟩
  clear D hS O4 OZ kz row gs hgl hsl h0
  go_upto_region 5 with fail
  clear c0 f0
  generalize wz.setCell ⟨sb, 0, none⟩ (.slice (some ⟨g, 0, none⟩) m cap) = w4 at DK HS OH ⊢
  obtain ⟨⟨o0, o1, o2, o3, o4, o5⟩, f0, f1, f2, f3, f4, f5⟩ := cells6 OH.out
  go_wp2
  (try simp only [Exit.inBlock, Exit.then])
  obtain ⟨wq, eq, bq, onl⟩ := set6_box OH.out (.int .i64 k) (.bool x) (.int .i64 n) (.int .i64 a) (.int .i64 l) (.string s)
  rw [eq]
  have hgl := GL.out.1
  have hsl := GL.out.2
  have K : Did 166 sb (.slice (some ⟨g, 0, none⟩) X.length cap) w (X.take m) wq := by
    refine ⟨⟨_, HS.out.same fun b q => onl.block b ?_, fun g e => .inl e⟩, onl.os.trans DK.out.os, onl.tape.trans DK.out.tape, onl.output.trans DK.out.output, ?_, fun b q => (onl.block b (by omega)).trans (DK.out.block b q)⟩
    · rcases q with rfl | q
      · omega
      · have : g = b := by simpa [Value.ownBlock] using q
        omega
    · have := onl.size
      have := DK.out.size
      omega
  exact bodyPost_ret (ret_cell rfl _ _ _ _ _ _ _ _ rfl rfl bq Try.underlying24 rfl (by kernel_rfl)) rfl ⟨rfl, K⟩
end
end Go.Proofs.Ytgmklagnngjlgaa
