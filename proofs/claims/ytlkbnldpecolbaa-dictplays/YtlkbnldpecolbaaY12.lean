/- Y12: K31, Q1, Q2, Q3. -/
import Derived.Test.YtlkbnldpecolbaaY11
import Derived.Deep.MidRow
import Derived.Deep.RegionHeld3
import Derived.Deep.RegionHeldLaw
/- A heap and any number of copies of it, each of a colour of its own: what one heap's calls do beside them, Copy and Become. -/
namespace Go.Proofs.Ytlkbnldpecolbaa
open Go.RowKit
set_option linter.unusedVariables false

/-- The heap (colour 1), its copies (colours 2, 3, ..), and blocks that none of them touches. -/
def Many (own : Nat → Prop) (hb : Nat) (P : List Cel) (gs : List (Nat × List Cel)) (w : World) : Prop :=
  ∃ role, PHeap role 1 hb P w ∧ (∀ i g, gs[i]? = some g → PHeap role (i + 2) g.1 g.2 w) ∧ ∀ b, own b → b < w.heap.size ∧ (role b).1 = 0
theorem PHeap.same {role role' : Nat → Nat × Nat} {c hb : Nat} {P : List Cel} {w w' : World} (h : PHeap role c hb P w)
    (hk : ∀ k, k < w.heap.size → (role k).1 = c → w'.heap[k]? = w.heap[k]? ∧ role' k = role k) : PHeap role' c hb P w' := by
  obtain ⟨vc, ivs, pb, rv, h⟩ := h
  exact ⟨vc, ivs, pb, rv, h.same hk⟩
section
variable {own : Nat → Prop} {hb gb i : Nat} {P P' Q : List Cel} {gs : List (Nat × List Cel)} {w w' : World}
theorem Many.of_sep (h : Sep own hb P w) : Many own hb P [] w := by
  obtain ⟨role, h1, h2⟩ := h
  refine ⟨fun b => if (role b).1 = 1 then role b else (0, 0), h1.same fun k hk hc => ⟨rfl, by simp [hc]⟩, by simp, fun b hb => ⟨(h2 b hb).1, by simp [(h2 b hb).2]⟩⟩
theorem Many.sep (h : Many own hb P gs w) : Sep own hb P w := by
  obtain ⟨role, h1, h2, h3⟩ := h
  exact ⟨role, h1, fun b hb => ⟨(h3 b hb).1, by rw [(h3 b hb).2]; decide⟩⟩
/-- Whatever is said of the heap by Sep and Kept holds beside its copies. -/
theorem Many.lift (h : Many own hb P gs w) : ∃ own' : Nat → Prop, Sep own' hb P w ∧ (∀ b, own b → own' b) ∧ ∀ P' w', Sep own' hb P' w' → Kept own' w w' → Many own hb P' gs w' := by
  obtain ⟨role, h1, h2, h3⟩ := h
  refine ⟨fun b => b < w.heap.size ∧ (role b).1 ≠ 1, ⟨role, h1, fun b hb => hb⟩, fun b hb => ⟨(h3 b hb).1, by rw [(h3 b hb).2]; decide⟩, fun P' w' s k => ?_⟩
  obtain ⟨role2, s1, s2⟩ := s
  refine ⟨fun b => if b < w.heap.size ∧ (role b).1 ≠ 1 then role b else if (role2 b).1 = 1 then role2 b else (0, 0), s1.same fun b hb hc => ⟨rfl, ?_⟩, fun i g hg => (h2 i g hg).same fun b hb hc => ?_, fun b hb => ?_⟩
  · have n : ¬ (b < w.heap.size ∧ (role b).1 ≠ 1) := fun n => (s2 b n).2 hc
    rw [if_neg n, if_pos hc]
  · have n : b < w.heap.size ∧ (role b).1 ≠ 1 := ⟨hb, by omega⟩
    rw [if_pos n]
    exact ⟨k.block b n, rfl⟩
  · have n : b < w.heap.size ∧ (role b).1 ≠ 1 := ⟨(h3 b hb).1, by rw [(h3 b hb).2]; decide⟩
    dsimp only
    rw [if_pos n]
    exact ⟨Nat.lt_of_lt_of_le n.1 k.size, (h3 b hb).2⟩
theorem Many.below (h : Many own hb P gs w) (k : Below w.heap.size w w') : Many own hb P gs w' ∧ Kept own w w' := by
  obtain ⟨own', s, ho, hl⟩ := h.lift
  exact ⟨hl P w' (s.below k).1 (s.below k).2, (h.sep.below k).2⟩
theorem Many.box (h : Many own hb P gs w) (o : Obj) : Many (fun b => own b ∨ b = w.heap.size) hb P gs (w.alloc o) := by
  obtain ⟨role, h1, h2, h3⟩ := h
  refine ⟨paint role w.heap.size fun _ => (0, 0), h1.same fun k hk _ => ⟨(box_below w o).block k hk, paint_old hk⟩, fun i g hg => (h2 i g hg).same fun k hk _ => ⟨(box_below w o).block k hk, paint_old hk⟩, fun b hb => ?_⟩
  rcases hb with hb | rfl
  · have := h3 b hb
    rw [paint_old this.1]
    refine ⟨?_, this.2⟩
    have := this.1
    simp
    omega
  · rw [paint_new (Nat.le_refl _)]
    exact ⟨by simp, rfl⟩
theorem Many.sub {own' : Nat → Prop} (h : Many own hb P gs w) (k : ∀ b, own' b → own b) : Many own' hb P gs w := by
  obtain ⟨role, h1, h2, h3⟩ := h
  exact ⟨role, h1, h2, fun b hb => h3 b (k b hb)⟩
theorem Many.take (h : Many own hb P gs w) (n : Nat) : Many own hb P (gs.take n) w := by
  obtain ⟨role, h1, h2, h3⟩ := h
  refine ⟨role, h1, fun i g hg => h2 i g ?_, h3⟩
  rw [List.getElem?_take] at hg
  split at hg
  · exact hg
  · cases hg
theorem many_new (h : Many own hb P gs w) : Calls Try.prog 40 #[ptr w.heap.size, ptr hb] (w.alloc (.cells #[.slice none 0 0, .int .i64 0] 72)) fun e w' => e = .returned (.tuple #[]) ∧ Many own hb P (gs ++ [(w.heap.size, P)]) w' ∧ Kept own w w' := by
  obtain ⟨role, h1, h2, h3⟩ := h
  obtain ⟨d, hd⟩ : ∃ d, gs.length + 2 = d := ⟨_, rfl⟩
  obtain ⟨role0, hr0⟩ : ∃ role0 : Nat → Nat × Nat, (fun b => if (role b).1 = d then (0, (role b).2) else role b) = role0 := ⟨_, rfl⟩
  have r0 : ∀ b, (role b).1 ≠ d → role0 b = role b := fun b hb => by rw [← hr0]; simp [hb]
  have bb := box_below w (.cells #[.slice none 0 0, .int .i64 0] 72)
  have p1 : PHeap (paint role0 w.heap.size fun _ => (d, 0)) 1 hb P (w.alloc (.cells #[.slice none 0 0, .int .i64 0] 72)) := h1.same fun k hk hc => ⟨bb.block k hk, by rw [paint_old hk, r0 k (by omega)]⟩
  have p2 : ∀ i g, gs[i]? = some g → PHeap (paint role0 w.heap.size fun _ => (d, 0)) (i + 2) g.1 g.2 (w.alloc (.cells #[.slice none 0 0, .int .i64 0] 72)) := fun i g hg => by
    have hi := (List.getElem?_eq_some_iff.1 hg).1
    exact (h2 i g hg).same fun k hk hc => ⟨bb.block k hk, by rw [paint_old hk, r0 k (by omega)]⟩
  have p1' := p1
  obtain ⟨vc, ivs, pb, rv, hp⟩ := p1'
  refine (become_any hp d w.heap.size (by omega) _ _ (heap_alloc_new _ _) (paint_new (Nat.le_refl _))).mono ?_
  rintro e w' ⟨rfl, role', q1, q2⟩
  have ho : ∀ b, own b → b < (w.alloc (.cells #[.slice none 0 0, .int .i64 0] 72)).heap.size ∧ paint role0 w.heap.size (fun _ => (d, 0)) b = role b := fun b hb => by
    have := (h3 b hb).1
    exact ⟨by simp; omega, by rw [paint_old this, r0 b (by rw [(h3 b hb).2]; omega)]⟩
  refine ⟨rfl, ⟨role', p1.keep q2 (by omega), fun i g hg => ?_, fun b hb => ?_⟩, q2.os, q2.tape, q2.output, Nat.le_trans (by simp) q2.size, fun b hb => ?_⟩
  · rw [List.getElem?_append] at hg
    split at hg
    · next hi => exact (p2 i g hg).keep q2 (by omega)
    · next hi =>
      have hi' : i - gs.length = 0 := by
        have := (List.getElem?_eq_some_iff.1 hg).1
        simp at this
        omega
      rw [hi'] at hg
      obtain rfl : (w.heap.size, P) = g := by simpa using hg
      rw [show i + 2 = d from by omega]
      exact q1
  · refine ⟨Nat.lt_of_lt_of_le (ho b hb).1 q2.size, ?_⟩
    rw [q2.same b (ho b hb).1, (ho b hb).2]
    exact (h3 b hb).2
  · rw [q2.block b (ho b hb).1 (by rw [(ho b hb).2, (h3 b hb).2]; omega)]
    exact bb.block b (h3 b hb).1
theorem manyCopy (h : Many own hb P gs w) : Calls Try.prog 39 #[ptr hb] w fun e w' => ∃ gb, e = .returned (ptr gb) ∧ Many own hb P (gs ++ [(gb, P)]) w' ∧ Kept own w w' :=
  copy_walk hb (fun gb w' => Many own hb P (gs ++ [(gb, P)]) w' ∧ Kept own w w') w (Lib.hid (many_new h))
theorem manyBecome (h : Many own hb P gs w) (hi : gs[i]? = some (gb, Q)) : Calls Try.prog 40 #[ptr hb, ptr gb] w fun e w' => e = .returned (.tuple #[]) ∧ Many own hb Q gs w' ∧ Kept own w w' := by
  obtain ⟨role, h1, h2, h3⟩ := h
  obtain ⟨vc, ivs, pb, rv, hp⟩ := h2 i _ hi
  have h1' := h1
  obtain ⟨vc1, ivs1, pb1, rv1, hh⟩ := h1'
  refine (become_any hp 1 hb (by omega) _ _ hh.hblk hh.hrole).mono ?_
  rintro e w' ⟨rfl, role', q1, q2⟩
  refine ⟨rfl, ⟨role', q1, fun i g hg => (h2 i g hg).keep q2 (by omega), fun b hb => ⟨Nat.lt_of_lt_of_le (h3 b hb).1 q2.size, by rw [q2.same b (h3 b hb).1]; exact (h3 b hb).2⟩⟩, q2.os, q2.tape, q2.output, q2.size, fun b hb => q2.block b (h3 b hb).1 (by rw [(h3 b hb).2]; decide)⟩
theorem manyCells (h : Many own hb P gs w) (hi : gs[i]? = some (gb, Q)) : Calls Try.prog 23 #[ptr gb] w fun e w' => e = .returned (.int .i64 Q.length) ∧ w = w' := by
  obtain ⟨role, h1, h2, h3⟩ := h
  obtain ⟨vc, ivs, pb, rv, hp⟩ := h2 i _ hi
  obtain ⟨p, cap, rfl, h0⟩ := hp.cells
  exact cells_any gb p Q.length cap w h0
end
end Go.Proofs.Ytlkbnldpecolbaa

/- tympanref11: Composite, the size of a cell. -/
namespace Go.Proofs.Ytlkbnldpecolbaa
open Go.RowKit
set_option linter.unusedVariables false

def compP (k : Int) : Bool := decide (k = 9 ∨ k = 8 ∨ k = 10)
theorem rcomp_part (k n a l : Int) (x b1 b2 b3 p : Bool) (s : ByteArray) (w : World) (h1 : (k == 9) = b1) (h2 : (k == 8) = b2) (h3 : (k == 10) = b3) (hp : Hid ((b1 || (b2 || b3)) = p)) :
    Calls Try.prog 93 #[obV k x n a l s] w fun e w' => e = .returned (.bool p) ∧ Below w.heap.size w w' := by
  cases b1 <;> cases b2 <;> cases b3 <;>
  · go_enter Try.func93, Try.ntmps93
    go_upto_region 1 with fail
    obtain ⟨wb, eb, kb, zb, c0, c1, c2, c3, c4, c5⟩ := ob_box w k n a l x s
    rw [eb]
    go_wp2
    go_ret
    exact ⟨ret_bool (by have := hp.out; simpa using this), kb⟩
theorem rcomp_any (k n a l : Int) (x : Bool) (s : ByteArray) (w : World) : Calls Try.prog 93 #[obV k x n a l s] w fun e w' => e = .returned (.bool (compP k)) ∧ Below w.heap.size w w' :=
  rcomp_part k n a l x _ _ _ _ s w rfl rfl rfl (Lib.hid (by unfold compP; rw [Bool.eq_iff_iff]; simp))
/-- A cell of the reference's heap: its value. -/
abbrev rcV (k : Int) (it bs : Value) (lk : Bool) : Value := .agg #[.int .i64 k, it, bs, .bool lk]
theorem rc_box (w : World) (k : Int) (it bs : Value) (lk : Bool) : ∃ wb, w.alloc (.cells #[.int .i64 k, it, bs, .bool lk] 102) = wb ∧ Below w.heap.size w wb ∧ wb.heap.size = w.heap.size + 1 ∧
    wb.cell? ⟨w.heap.size, 0, none⟩ = some (.int .i64 k) ∧ wb.cell? ⟨w.heap.size, 1, none⟩ = some it ∧ wb.cell? ⟨w.heap.size, 2, none⟩ = some bs ∧ wb.cell? ⟨w.heap.size, 3, none⟩ = some (.bool lk) :=
  ⟨_, rfl, box_below _ _, by simp, by simp, by simp, by simp, by simp⟩
theorem rcsize_any (k : Int) (p q : Option Addr) (n c m d t : Nat) (lk : Bool) (w : World) (e : IntKind.i64.wrap ((n : Int) + (m : Int)) = t) :
    Calls Try.prog 74 #[rcV k (.slice p n c) (.slice q m d) lk] w fun e w' => e = .returned (.int .i64 t) ∧ Below w.heap.size w w' := by
  go_enter Try.func74, Try.ntmps74
  go_upto_region 1 with fail
  obtain ⟨wb, eb, kb, zb, c0, c1, c2, c3⟩ := rc_box w k (.slice p n c) (.slice q m d) lk
  rw [eb]
  go_wp2
  go_ret
  exact ⟨rfl, kb⟩
end Go.Proofs.Ytlkbnldpecolbaa

/- How the reference's heap lies in memory: its block, the row of its cells (written in place), the rows of items and bytes (never written again). -/
namespace Go.Proofs.Ytlkbnldpecolbaa
open Go.RowKit
set_option linter.unusedVariables false

/-- A slice whose cells are known; its block is one of I. -/
def rowC (w : World) (I : Nat → Prop) (v : Value) (n : Nat) (cs : List Value) : Prop :=
  (v = .slice none 0 0 ∧ n = 0 ∧ cs = []) ∨ ∃ g cap, v = .slice (some ⟨g, 0, none⟩) n cap ∧ n ≤ cap ∧ I g ∧ g < w.heap.size ∧ ∀ j u, cs[j]? = some u → w.cell? ⟨g, j, none⟩ = some u
theorem rowC.same {w w' : World} {I I' : Nat → Prop} {v : Value} {n : Nat} {cs : List Value} (h : rowC w I v n cs) (hs : w.heap.size ≤ w'.heap.size) (k : ∀ g, I g → g < w.heap.size → I' g ∧ w'.heap[g]? = w.heap[g]?) : rowC w' I' v n cs := by
  rcases h with h | ⟨g, cap, h1, h2, h3, h4, h5⟩
  · exact .inl h
  · refine .inr ⟨g, cap, h1, h2, (k g h3 h4).1, Nat.lt_of_lt_of_le h4 hs, fun j u hj => ?_⟩
    rw [World.cell?_of_block (w := w) (a := ⟨g, j, none⟩) (k g h3 h4).2]
    exact h5 j u hj
/-- A cell of the reference's heap, with the slices that it holds. -/
structure RC where
  c : Cel
  it : Value
  bs : Value
abbrev rcL (r : RC) : List Value := [.int .i64 r.c.k, r.it, r.bs, .bool r.c.lk]
def rcCells (R : List RC) : List Value := R.flatMap rcL
def cels (R : List RC) : List Cel := R.map RC.c
theorem rcCells_length (R : List RC) : (rcCells R).length = R.length * 4 := by
  induction R with
  | nil => rfl
  | cons r R ih =>
    show (rcL r ++ rcCells R).length = _
    rw [List.length_append, ih]
    simp
    omega
theorem rcCells_get {R : List RC} {i j : Nat} {r : RC} (h : R[i]? = some r) (hj : j < 4) : (rcCells R)[i * 4 + j]? = (rcL r)[j]? := by
  induction R generalizing i with
  | nil => simp at h
  | cons p R ih =>
    show (rcL p ++ rcCells R)[_]? = _
    have h4 : (rcL p).length = 4 := rfl
    cases i with
    | zero =>
      simp at h
      subst h
      rw [List.getElem?_append_left (by omega)]
      simp
    | succ i =>
      simp at h
      rw [List.getElem?_append_right (by omega), h4, show (i + 1) * 4 + j - 4 = i * 4 + j from by omega]
      exact ih h
/-- Blocks of ours that are neither the heap's own nor the row of its cells. -/
def Im (own : Nat → Prop) (rb : Nat) (v : Value) (b : Nat) : Prop := own b ∧ b ≠ rb ∧ v.ownBlock ≠ some b
structure RH (own : Nat → Prop) (rb : Nat) (v : Value) (R : List RC) (w : World) : Prop where
  hdr : w.heap[rb]? = some (.cells #[v] 54 (0, 0))
  mine : own rb
  row : rowC w (fun b => own b ∧ b ≠ rb) v R.length (rcCells R)
  sub : ∀ (i : Nat) (r : RC), R[i]? = some r → rowC w (Im own rb v) r.it r.c.it.length (obCells r.c.it) ∧ rowC w (Im own rb v) r.bs r.c.bs.length (byCells r.c.bs)
  wf : WfP (cels R)
  free : ∀ g, v.ownBlock = some g → ∀ j, w.frozen? ⟨g, j, none⟩ = false
theorem RH.kept {own own' : Nat → Prop} {rb : Nat} {v : Value} {R : List RC} {w w' : World} (h : RH own rb v R w) (ho : ∀ b, own b → own' b) (hs : w.heap.size ≤ w'.heap.size) (k : ∀ b, own b → b < w.heap.size → w'.heap[b]? = w.heap[b]?) : RH own' rb v R w' :=
  ⟨(k rb h.mine (blk_lt h.hdr)).trans h.hdr, ho _ h.mine, h.row.same hs fun g q hg => ⟨⟨ho _ q.1, q.2⟩, k g q.1 hg⟩, fun i r hr => ⟨(h.sub i r hr).1.same hs fun g q hg => ⟨⟨ho _ q.1, q.2⟩, k g q.1 hg⟩, (h.sub i r hr).2.same hs fun g q hg => ⟨⟨ho _ q.1, q.2⟩, k g q.1 hg⟩⟩, h.wf, fun g e j => by
    rcases h.row with ⟨rfl, _⟩ | ⟨g', cap', rfl, _, q, hg, _⟩
    · cases e
    · have : g' = g := by simpa [Value.ownBlock] using e
      subst this
      rw [World.frozen?_of_block (w := w) (a := ⟨g', j, none⟩) (k g' q.1 hg)]
      exact h.free g' e j⟩
theorem RH.below {own : Nat → Prop} {rb : Nat} {v : Value} {R : List RC} {w w' : World} (h : RH own rb v R w) (k : Below w.heap.size w w') : RH own rb v R w' := h.kept (fun _ h => h) k.size fun b _ hb => k.block b hb
theorem rowC.form {w : World} {I : Nat → Prop} {v : Value} {n : Nat} {cs : List Value} (h : rowC w I v n cs) : ∃ p cap, v = .slice p n cap ∧ n ≤ cap := by
  rcases h with ⟨rfl, rfl, _⟩ | ⟨g, cap, rfl, hn, _⟩
  · exact ⟨none, 0, rfl, Nat.le_refl _⟩
  · exact ⟨_, _, rfl, hn⟩
section
variable {own : Nat → Prop} {rb : Nat} {v : Value} {R : List RC} {w : World}
theorem cels_length (R : List RC) : (cels R).length = R.length := by simp [cels]
theorem cels_get {i : Nat} {r : RC} (h : R[i]? = some r) : (cels R)[i]? = some r.c := by simp [cels, h]
/-- The cells of the i-th. -/
theorem RH.at (h : RH own rb v R w) {i : Nat} {r : RC} (hi : R[i]? = some r) : ∃ g cap, v = .slice (some ⟨g, 0, none⟩) R.length cap ∧ own g ∧ g ≠ rb ∧ g < w.heap.size ∧ w.cell? ⟨g, i * 4, none⟩ = some (.int .i64 r.c.k) ∧ w.cell? ⟨g, i * 4 + 1, none⟩ = some r.it ∧ w.cell? ⟨g, i * 4 + 2, none⟩ = some r.bs ∧ w.cell? ⟨g, i * 4 + 3, none⟩ = some (.bool r.c.lk) := by
  have hl := (List.getElem?_eq_some_iff.1 hi).1
  rcases h.row with ⟨_, h0, _⟩ | ⟨g, cap, h1, h2, h3, h4, h5⟩
  · omega
  · have c : ∀ j, j < 4 → w.cell? ⟨g, i * 4 + j, none⟩ = (rcL r)[j]? := fun j hj => by
      obtain ⟨u, hu⟩ : ∃ u, (rcL r)[j]? = some u := ⟨_, List.getElem?_eq_getElem (by simpa using hj)⟩
      rw [hu]
      exact h5 _ u (by rw [rcCells_get hi hj, hu])
    exact ⟨g, cap, h1, h3.1, h3.2, h4, c 0 (by decide), c 1 (by decide), c 2 (by decide), c 3 (by decide)⟩
theorem RH.hcell (h : RH own rb v R w) : w.cell? ⟨rb, 0, none⟩ = some v := by
  rw [cellAt h.hdr]
  rfl
theorem RH.cellOf (h : RH own rb v R w) {o : Ob} {r : RC} (hi : R[o.n.toNat]? = some r) : cellOf (cels R) o = r.c := by
  unfold Go.Proofs.Ytlkbnldpecolbaa.cellOf
  rw [List.getD_eq_getElem?_getD, cels_get hi]
  rfl
/-- The sizes of a cell's two slices. -/
theorem RH.size (h : RH own rb v R w) {i : Nat} {r : RC} (hi : R[i]? = some r) : ∃ p q c d, r.it = .slice p r.c.it.length c ∧ r.bs = .slice q r.c.bs.length d ∧ r.c.size ≤ 40000 := by
  obtain ⟨p, c, e1, _⟩ := (h.sub i r hi).1.form
  obtain ⟨q, d, e2, _⟩ := (h.sub i r hi).2.form
  exact ⟨p, q, c, d, e1, e2, h.wf.size (cels_get hi)⟩
end
end Go.Proofs.Ytlkbnldpecolbaa

/- Walks of tympanref11: May. -/
namespace Go.Proofs.Ytlkbnldpecolbaa
open Go.RowKit
set_option linter.unusedVariables false
set_option maxHeartbeats 1000000
set_option maxRecDepth 100000

theorem rmayH_no (rb : Nat) (k n a l : Int) (x : Bool) (s : ByteArray) (w : World)
    (h1 : Hid (∀ wx, Calls Try.prog 92 #[obV k x n a l s] wx fun e w' => e = .returned (.bool false) ∧ Below wx.heap.size wx w')) :
    Calls Try.prog 65 #[ptr rb, obV k x n a l s] w fun e w' => e = .returned (.bool false) ∧ Below w.heap.size w w' := by
  go_enter Try.func65, Try.ntmps65
  go_upto_region 1 with fail
  obtain ⟨wb, eb, kb, zb, c0, c1, c2, c3, c4, c5⟩ := ob_box w k n a l x s
  rw [eb]
  go_wp2_with fail
  refine (h1.out _).mono ?_
  rintro e wc ⟨rfl, kc⟩
  have KC := Lib.hid (below_and kb kc)
  clear eb kb kc c0 c1 c2 c3 c4 c5
  go_wp2
  go_ret
  exact ⟨rfl, KC.out⟩
theorem rmayH_plain (rb : Nat) (k n a l : Int) (x : Bool) (s : ByteArray) (w : World)
    (h1 : Hid (∀ wx, Calls Try.prog 92 #[obV k x n a l s] wx fun e w' => e = .returned (.bool true) ∧ Below wx.heap.size wx w'))
    (h2 : Hid (∀ wx, Calls Try.prog 93 #[obV k x n a l s] wx fun e w' => e = .returned (.bool false) ∧ Below wx.heap.size wx w')) :
    Calls Try.prog 65 #[ptr rb, obV k x n a l s] w fun e w' => e = .returned (.bool true) ∧ Below w.heap.size w w' := by
  go_enter Try.func65, Try.ntmps65
  go_upto_region 1 with fail
  obtain ⟨wb, eb, kb, zb, oa⟩ := ob_box w k n a l x s
  rw [eb]
  have OA := Lib.hid oa
  obtain ⟨c0, c1, c2, c3, c4, c5⟩ := oa
  go_wp2_with fail
  refine (h1.out _).mono ?_
  rintro e wc ⟨rfl, kc⟩
  have KC := Lib.hid (below_and kb kc)
  have OC := OA.out.later kc
  clear eb kb kc c0 c1 c2 c3 c4 c5
  obtain ⟨c0, c1, c2, c3, c4, c5⟩ := OC
  go_wp2_with fail
  refine (h2.out _).mono ?_
  rintro e wd ⟨rfl, kd⟩
  have KD := Lib.hid (below_and KC.out kd)
  clear kd c0 c1 c2 c3 c4 c5
  go_wp2
  go_ret
  exact ⟨rfl, KD.out⟩
/-- A cell, up to the test of it. -/
def MayAt (w : World) (rb A : Nat) (p : Option Addr) (z cap : Nat) (k : Int) (x : Bool) (n a l : Int) (s : ByteArray) : Prop := w.cell? ⟨rb, 0, none⟩ = some (.slice p z cap) ∧ ObAt w A k x n a l s
theorem MayAt.later {w wx : World} {rb A : Nat} {p : Option Addr} {z cap : Nat} {k : Int} {x : Bool} {n a l : Int} {s : ByteArray} (h : MayAt w rb A p z cap k x n a l s) (kc : Below w.heap.size w wx) : MayAt wx rb A p z cap k x n a l s := ⟨cell_later kc h.1, h.2.later kc⟩
theorem rmayH_far (rb z cap : Nat) (p : Option Addr) (k n a l : Int) (x : Bool) (s : ByteArray) (w : World) (hn : ¬ (n < z)) (h0 : w.cell? ⟨rb, 0, none⟩ = some (.slice p z cap))
    (h1 : Hid (∀ wx, Calls Try.prog 92 #[obV k x n a l s] wx fun e w' => e = .returned (.bool true) ∧ Below wx.heap.size wx w'))
    (h2 : Hid (∀ wx, Calls Try.prog 93 #[obV k x n a l s] wx fun e w' => e = .returned (.bool true) ∧ Below wx.heap.size wx w')) :
    Calls Try.prog 65 #[ptr rb, obV k x n a l s] w fun e w' => e = .returned (.bool false) ∧ Below w.heap.size w w' := by
  have hn' : decide (n < (z : Int)) = false := decide_eq_false hn
  go_enter Try.func65, Try.ntmps65
  go_upto_region 1 with fail
  obtain ⟨wb, eb, kb, zb, oa⟩ := ob_box w k n a l x s
  rw [eb]
  have OA : Hid (MayAt wb rb w.heap.size p z cap k x n a l s) := Lib.hid ⟨cell_later kb h0, oa⟩
  obtain ⟨c0, c1, c2, c3, c4, c5⟩ := oa
  go_wp2_with fail
  refine (h1.out _).mono ?_
  rintro e wc ⟨rfl, kc⟩
  have KC := Lib.hid (below_and kb kc)
  have OC := Lib.hid (OA.out.later kc)
  clear eb kb kc c0 c1 c2 c3 c4 c5 h0
  obtain ⟨h0, c0, c1, c2, c3, c4, c5⟩ := OC.out
  go_wp2_with fail
  refine (h2.out _).mono ?_
  rintro e wd ⟨rfl, kd⟩
  have KD := Lib.hid (below_and KC.out kd)
  have OD := OC.out.later kd
  clear kd c0 c1 c2 c3 c4 c5 h0
  obtain ⟨h0, c0, c1, c2, c3, c4, c5⟩ := OD
  go_wp2_with fail
  go_quiet (fail)
  go_wp2
  go_ret
  exact ⟨rfl, below_and KD.out (below_drewN _ _)⟩
/-- .. and a cell of the heap besides. -/
def MayCl (w : World) (rb A g z cap i : Nat) (k' : Int) (it bs : Value) (lk : Bool) (k : Int) (x : Bool) (a l : Int) (s : ByteArray) : Prop := MayAt w rb A (some ⟨g, 0, none⟩) z cap k x i a l s ∧
  w.cell? ⟨g, i * 4, none⟩ = some (.int .i64 k') ∧ w.cell? ⟨g, i * 4 + 1, none⟩ = some it ∧ w.cell? ⟨g, i * 4 + 2, none⟩ = some bs ∧ w.cell? ⟨g, i * 4 + 3, none⟩ = some (.bool lk)
theorem MayCl.later {w wx : World} {rb A g z cap i : Nat} {k' : Int} {it bs : Value} {lk : Bool} {k : Int} {x : Bool} {a l : Int} {s : ByteArray} (h : MayCl w rb A g z cap i k' it bs lk k x a l s) (kc : Below w.heap.size w wx) : MayCl wx rb A g z cap i k' it bs lk k x a l s :=
  ⟨h.1.later kc, cell_later kc h.2.1, cell_later kc h.2.2.1, cell_later kc h.2.2.2.1, cell_later kc h.2.2.2.2⟩
theorem rmayH_kind (rb g z cap i : Nat) (k' : Int) (it bs : Value) (lk : Bool) (k a l : Int) (x : Bool) (s : ByteArray) (w : World) (hi : i < z) (h0 : w.cell? ⟨rb, 0, none⟩ = some (.slice (some ⟨g, 0, none⟩) z cap))
    (d0 : w.cell? ⟨g, i * 4, none⟩ = some (.int .i64 k')) (d1 : w.cell? ⟨g, i * 4 + 1, none⟩ = some it) (d2 : w.cell? ⟨g, i * 4 + 2, none⟩ = some bs) (d3 : w.cell? ⟨g, i * 4 + 3, none⟩ = some (.bool lk))
    (h1 : Hid (∀ wx, Calls Try.prog 92 #[obV k x i a l s] wx fun e w' => e = .returned (.bool true) ∧ Below wx.heap.size wx w'))
    (h2 : Hid (∀ wx, Calls Try.prog 93 #[obV k x i a l s] wx fun e w' => e = .returned (.bool true) ∧ Below wx.heap.size wx w')) (hk : (k' == k) = false) :
    Calls Try.prog 65 #[ptr rb, obV k x i a l s] w fun e w' => e = .returned (.bool false) ∧ Below w.heap.size w w' := by
  have t0 : (0 : Int) ≤ i := by omega
  have t1 : (i : Int) < z := by omega
  go_enter Try.func65, Try.ntmps65
  go_upto_region 1 with fail
  obtain ⟨wb, eb, kb, zb, oa⟩ := ob_box w k i a l x s
  rw [eb]
  have OA : Hid (MayCl wb rb w.heap.size g z cap i k' it bs lk k x a l s) := Lib.hid ⟨⟨cell_later kb h0, oa⟩, cell_later kb d0, cell_later kb d1, cell_later kb d2, cell_later kb d3⟩
  obtain ⟨c0, c1, c2, c3, c4, c5⟩ := oa
  clear d0 d1 d2 d3
  go_wp2_with fail
  refine (h1.out _).mono ?_
  rintro e wc ⟨rfl, kc⟩
  have KC := Lib.hid (below_and kb kc)
  have OC := Lib.hid (OA.out.later kc)
  clear eb kb kc c0 c1 c2 c3 c4 c5 h0
  obtain ⟨⟨h0, c0, c1, c2, c3, c4, c5⟩, d0, d1, d2, d3⟩ := OC.out
  go_wp2_with fail
  refine (h2.out _).mono ?_
  rintro e wd ⟨rfl, kd⟩
  have KD := Lib.hid (below_and KC.out kd)
  have OD := Lib.hid (OC.out.later kd)
  clear kd c0 c1 c2 c3 c4 c5 h0 d0 d1 d2 d3
  obtain ⟨⟨h0, c0, c1, c2, c3, c4, c5⟩, d0, d1, d2, d3⟩ := OD.out
  go_wp2_with fail
  go_quiet (fail)
  go_wp2
  go_ret
  exact ⟨rfl, below_and KD.out (below_drewN _ _)⟩
theorem rmayH_cell (rb g z cap i : Nat) (k' : Int) (it bs : Value) (lk : Bool) (k a l : Int) (x : Bool) (s : ByteArray) (w : World) (hi : i < z) (h0 : w.cell? ⟨rb, 0, none⟩ = some (.slice (some ⟨g, 0, none⟩) z cap))
    (d0 : w.cell? ⟨g, i * 4, none⟩ = some (.int .i64 k')) (d1 : w.cell? ⟨g, i * 4 + 1, none⟩ = some it) (d2 : w.cell? ⟨g, i * 4 + 2, none⟩ = some bs) (d3 : w.cell? ⟨g, i * 4 + 3, none⟩ = some (.bool lk))
    (h1 : Hid (∀ wx, Calls Try.prog 92 #[obV k x i a l s] wx fun e w' => e = .returned (.bool true) ∧ Below wx.heap.size wx w'))
    (h2 : Hid (∀ wx, Calls Try.prog 93 #[obV k x i a l s] wx fun e w' => e = .returned (.bool true) ∧ Below wx.heap.size wx w')) (hk : (k' == k) = true) (m : Nat) (r : Bool) (ea : IntKind.i64.wrap (a + l) = a + l) (hr : decide (a + l ≤ (m : Int)) = r)
    (h3 : Hid (∀ wx, Calls Try.prog 74 #[rcV k' it bs lk] wx fun e w' => e = .returned (.int .i64 m) ∧ Below wx.heap.size wx w')) :
    Calls Try.prog 65 #[ptr rb, obV k x i a l s] w fun e w' => e = .returned (.bool r) ∧ Below w.heap.size w w' := by
  have t0 : (0 : Int) ≤ i := by omega
  have t1 : (i : Int) < z := by omega
  go_enter Try.func65, Try.ntmps65
  go_upto_region 1 with fail
  obtain ⟨wb, eb, kb, zb, oa⟩ := ob_box w k i a l x s
  rw [eb]
  have OA : Hid (MayCl wb rb w.heap.size g z cap i k' it bs lk k x a l s) := Lib.hid ⟨⟨cell_later kb h0, oa⟩, cell_later kb d0, cell_later kb d1, cell_later kb d2, cell_later kb d3⟩
  obtain ⟨c0, c1, c2, c3, c4, c5⟩ := oa
  clear d0 d1 d2 d3
  go_wp2_with fail
  refine (h1.out _).mono ?_
  rintro e wc ⟨rfl, kc⟩
  have KC := Lib.hid (below_and kb kc)
  have OC := Lib.hid (OA.out.later kc)
  clear eb kb kc c0 c1 c2 c3 c4 c5 h0
  obtain ⟨⟨h0, c0, c1, c2, c3, c4, c5⟩, d0, d1, d2, d3⟩ := OC.out
  go_wp2_with fail
  refine (h2.out _).mono ?_
  rintro e wd ⟨rfl, kd⟩
  have KD := Lib.hid (below_and KC.out kd)
  have OD := Lib.hid (OC.out.later kd)
  clear kd c0 c1 c2 c3 c4 c5 h0 d0 d1 d2 d3
  obtain ⟨⟨h0, c0, c1, c2, c3, c4, c5⟩, d0, d1, d2, d3⟩ := OD.out
  go_wp2_with fail
  have gb : Hid (Below w.heap.size w wd.drew) := Lib.hid KD.out.drew
  have go : Hid (MayCl wd.drew rb w.heap.size g z cap i k' it bs lk k x a l s) := Lib.hid OD.out
  go_region_held3 (fun wx => (wx.cell? ⟨rb, 0, none⟩ = some (.slice (some ⟨g, 0, none⟩) z cap) ∧ wx.cell? ⟨w.heap.size, 0, none⟩ = some (.int .i64 k) ∧ wx.cell? ⟨w.heap.size, 1, none⟩ = some (.bool x) ∧ wx.cell? ⟨w.heap.size, 2, none⟩ = some (.int .i64 i) ∧ wx.cell? ⟨w.heap.size, 3, none⟩ = some (.int .i64 a) ∧ wx.cell? ⟨w.heap.size, 4, none⟩ = some (.int .i64 l) ∧ wx.cell? ⟨w.heap.size, 5, none⟩ = some (.string s)) ∧
      wx.cell? ⟨g, i * 4, none⟩ = some (.int .i64 k') ∧ wx.cell? ⟨g, i * 4 + 1, none⟩ = some it ∧ wx.cell? ⟨g, i * 4 + 2, none⟩ = some bs ∧ wx.cell? ⟨g, i * 4 + 3, none⟩ = some (.bool lk))
    (first | exact go.out | go_keep)
    (first | (go_at_call 74; refine (h3.out _).mono ?_; rintro e we ⟨rfl, ke⟩; replace gb := Lib.hid (below_and gb.out ke); replace go := Lib.hid (go.out.later ke); clear ke))
  go_wp2
  go_ret
  exact ⟨rfl, gb.out⟩
end Go.Proofs.Ytlkbnldpecolbaa
