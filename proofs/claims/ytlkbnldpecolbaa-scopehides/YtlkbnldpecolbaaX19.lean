/- X19: S1, S2, S3, S4. -/
import Derived.Test.YtlkbnldpecolbaaX17
import Derived.Deep.MidRow
import Derived.StillTailTactics
import Derived.Deep.RegionHeld3
/- How the saves of layer 13 lie in memory, beside a heap and its copies. -/
namespace Go.Proofs.Ytlkbnldpecolbaa
open Go.RowKit
set_option linter.unusedVariables false

/-- An open save: its number, the block of its copy, the copy's cells. -/
structure Sv where
  n : Nat
  g : Nat
  q : List Cel
def svOb (n : Nat) : Ob := ⟨11, false, n, 0, 0, ⟨#[]⟩⟩
abbrev svC (n : Int) (g : Nat) : List Value := [.int .i64 11, .bool false, .int .i64 n, .int .i64 0, .int .i64 0, .string ⟨#[]⟩, ptr g]
def svG (L : List Sv) : List (Nat × List Cel) := L.map fun s => (s.g, s.q)
structure SAt (w : World) (sb : Nat) (L : List Sv) (last : Nat) : Prop where
  len : L.length ≤ 10
  there : w.there sb 0 72
  ents : ∀ (i : Nat) (s : Sv), L[i]? = some s → w.rangeAt sb (i * 7) (svC s.n s.g)
  count : w.cell? ⟨sb, 70, none⟩ = some (.int .i64 L.length)
  last : w.cell? ⟨sb, 71, none⟩ = some (.int .i64 last)
  lt : sb < w.heap.size
section
variable {own : Nat → Prop} {hb sb last : Nat} {P P' : List Cel} {L : List Sv} {w w' : World}
theorem SAt.same (h : SAt w sb L last) (k : w'.heap[sb]? = w.heap[sb]?) (hs : w.heap.size ≤ w'.heap.size) : SAt w' sb L last := by
  have c : ∀ j, w'.cell? ⟨sb, j, none⟩ = w.cell? ⟨sb, j, none⟩ := fun j => World.cell?_of_block (w := w) k
  have f : ∀ j, w'.frozen? ⟨sb, j, none⟩ = w.frozen? ⟨sb, j, none⟩ := fun j => World.frozen?_of_block (w := w) k
  refine ⟨h.len, fun j hj => ?_, fun i s hi j v hv => ?_, ?_, ?_, Nat.lt_of_lt_of_le h.lt hs⟩
  · rw [c, f]
    exact h.there j hj
  · rw [c]
    exact h.ents i s hi j v hv
  · rw [c]
    exact h.count
  · rw [c]
    exact h.last
theorem SAt.drew (h : SAt w sb L last) : SAt w.drew sb L last := h.same rfl (Nat.le_refl _)
/-- The heap, the copies of its open saves, the saves; the blocks 'own' are none of theirs. -/
structure SH (own : Nat → Prop) (hb : Nat) (P : List Cel) (sb : Nat) (L : List Sv) (last : Nat) (w : World) : Prop where
  many : Many (fun b => own b ∨ b = sb) hb P (svG L) w
  sat : SAt w sb L last
  nown : ¬ own sb
theorem SH.sub {own' : Nat → Prop} (h : SH own hb P sb L last w) (k : ∀ b, own' b → own b) : SH own' hb P sb L last w :=
  ⟨h.many.sub fun b q => q.imp (k b) id, h.sat, fun q => h.nown (k _ q)⟩
theorem SH.below (h : SH own hb P sb L last w) (k : Below w.heap.size w w') : SH own hb P sb L last w' ∧ Kept own w w' := by
  obtain ⟨m, q⟩ := h.many.below k
  exact ⟨⟨m, h.sat.same (k.block _ h.sat.lt) k.size, h.nown⟩, q.sub fun b => .inl⟩
theorem SH.box (h : SH own hb P sb L last w) (o : Obj) : SH (fun b => own b ∨ b = w.heap.size) hb P sb L last (w.alloc o) := by
  refine ⟨(h.many.box o).sub fun b q => ?_, h.sat.same ((box_below w o).block _ h.sat.lt) (box_below w o).size, fun q => ?_⟩
  · rcases q with (q | q) | q
    · exact .inl (.inl q)
    · exact .inr q
    · exact .inl (.inr q)
  · rcases q with q | q
    · exact h.nown q
    · have := h.sat.lt
      omega
theorem SH.box_ob (h : SH own hb P sb L last w) (k : Int) (x : Bool) (n a l : Int) (s : ByteArray) :
    ∃ w', w.alloc (.cells #[.int .i64 k, .bool x, .int .i64 n, .int .i64 a, .int .i64 l, .string s] 30) = w' ∧ SH (fun b => own b ∨ b = w.heap.size) hb P sb L last w' ∧ Kept own w w' ∧ w'.heap[w.heap.size]? = some (obObj k x n a l s) :=
  ⟨_, rfl, h.box _, (h.below (box_below _ _)).2, heap_alloc_new _ _⟩
/-- Whatever is said of the heap by Sep and Kept holds beside its saves. -/
theorem SH.lift (h : SH own hb P sb L last w) : ∃ own' : Nat → Prop, Sep own' hb P w ∧ (∀ b, own b → own' b) ∧ ∀ P' w', Sep own' hb P' w' → Kept own' w w' → SH own hb P' sb L last w' := by
  obtain ⟨own', s, ho, hl⟩ := h.many.lift
  exact ⟨own', s, fun b q => ho b (.inl q), fun P' w' s' k => ⟨hl P' w' s' k, h.sat.same (k.block _ (ho _ (.inr rfl))) k.size, h.nown⟩⟩
theorem SH.lt (h : SH own hb P sb L last w) {b : Nat} (q : own b) : b < w.heap.size := by
  obtain ⟨role, _, _, h3⟩ := h.many
  exact (h3 b (.inl q)).1

theorem svG_get {i : Nat} {s : Sv} (h : L[i]? = some s) : (svG L)[i]? = some (s.g, s.q) := by simp [svG, h]
theorem svG_append (s : Sv) : svG (L ++ [s]) = svG L ++ [(s.g, s.q)] := by simp [svG]
theorem svG_take (n : Nat) : svG (L.take n) = (svG L).take n := by simp [svG, List.map_take]

/-- Which open save an object is. -/
def atS (L : List Sv) (o : Ob) : Option Nat := L.findIdx? fun s => sameO 11 s.n 0 0 ⟨#[]⟩ o.k o.n o.a o.l o.s
theorem same_sv (n : Nat) (o : Ob) : sameO 11 n 0 0 ⟨#[]⟩ o.k o.n o.a o.l o.s = decide (o.k = 11 ∧ o.n = n ∧ o.a = 0 ∧ o.l = 0 ∧ o.s = ⟨#[]⟩) := by
  have : numO 11 n 0 0 ⟨#[]⟩ = false := by simp [numO]
  unfold sameO
  rw [this]
  simp only [Bool.false_eq_true, false_and, if_false]
  apply decide_eq_decide.2
  constructor <;> (rintro ⟨h1, h2, h3, h4, h5⟩; exact ⟨h1.symm, h2.symm, h3.symm, h4.symm, h5.symm⟩)
end
theorem only_cells (b : Nat) : ∀ (vs : List Value) (o : Nat) (w : World), Only b w (w.setCells b o vs)
  | [], _, w => Only.refl b w
  | v :: vs, o, w => by
    have q := only_cells b vs (o + 1) (w.setCell ⟨b, o, none⟩ v)
    have r := (Only.refl b w).set o v
    exact ⟨q.os.trans r.os, q.tape.trans r.tape, q.output.trans r.output, q.size.trans r.size, fun k hk => (q.block k hk).trans (r.block k hk)⟩
theorem Only.trans {b : Nat} {w0 w1 w2 : World} (r : Only b w0 w1) (q : Only b w1 w2) : Only b w0 w2 := ⟨q.os.trans r.os, q.tape.trans r.tape, q.output.trans r.output, q.size.trans r.size, fun k hk => (q.block k hk).trans (r.block k hk)⟩
theorem Many.only {own : Nat → Prop} {hb A : Nat} {P : List Cel} {gs : List (Nat × List Cel)} {w w' : World} (h : Many own hb P gs w) (hA : own A) (k : Only A w w') : Many own hb P gs w' := by
  obtain ⟨role, h1, h2, h3⟩ := h
  refine ⟨role, h1.only k (by rw [(h3 A hA).2]; decide), fun i g hg => (h2 i g hg).only k (by rw [(h3 A hA).2]; simp), fun b hb => ⟨by rw [k.size]; exact (h3 b hb).1, (h3 b hb).2⟩⟩
theorem kept_only {own : Nat → Prop} {A : Nat} {w w' : World} (k : Only A w w') (hA : ¬ own A) : Kept own w w' :=
  ⟨k.os, k.tape, k.output, by rw [k.size]; exact Nat.le_refl _, fun b hb => k.block b fun e => hA (e ▸ hb)⟩
section
variable {sb last : Nat} {L : List Sv} {w : World}
theorem SAt.put70 (h : SAt w sb L last) (M : List Sv) (hM : M.length ≤ 10) (he : ∀ i s, M[i]? = some s → w.rangeAt sb (i * 7) (svC s.n s.g)) : SAt (w.setCell ⟨sb, 70, none⟩ (.int .i64 M.length)) sb M last := by
  have on : Only sb w (w.setCell ⟨sb, 70, none⟩ (.int .i64 M.length)) := (Only.refl sb w).set 70 _
  refine ⟨hM, World.there_setCells h.there sb 70 [_], fun i s hi => ?_, World.cell?_setCell_same _ _ _ h.count, ?_, by rw [on.size]; exact h.lt⟩
  · have hl := (List.getElem?_eq_some_iff.1 hi).1
    exact World.rangeAt_setCells_apart (he i s hi) sb 70 [.int .i64 M.length] (.inr (.inl (by show i * 7 + 7 ≤ 70; omega)))
  · rw [World.cell?_setCell_other _ _ _ _ (by simp)]
    exact h.last
theorem SAt.put71 (h : SAt w sb L last) (m : Nat) : SAt (w.setCell ⟨sb, 71, none⟩ (.int .i64 m)) sb L m := by
  have on : Only sb w (w.setCell ⟨sb, 71, none⟩ (.int .i64 m)) := (Only.refl sb w).set 71 _
  refine ⟨h.len, World.there_setCells h.there sb 71 [_], fun i s hi => ?_, ?_, World.cell?_setCell_same _ _ _ h.last, by rw [on.size]; exact h.lt⟩
  · have hl := (List.getElem?_eq_some_iff.1 hi).1
    have := h.len
    exact World.rangeAt_setCells_apart (h.ents i s hi) sb 71 [.int .i64 m] (.inr (.inl (by show i * 7 + 7 ≤ 71; omega)))
  · rw [World.cell?_setCell_other _ _ _ _ (by simp)]
    exact h.count
/-- Other cells of the entries from the a-th on. -/
theorem SAt.putE (h : SAt w sb L last) (a : Nat) (vs : List Value) (hv : a * 7 + vs.length ≤ 70) :
    (w.setCells sb (a * 7) vs).there sb 0 72 ∧ (∀ i s, i < a → L[i]? = some s → (w.setCells sb (a * 7) vs).rangeAt sb (i * 7) (svC s.n s.g)) ∧ (w.setCells sb (a * 7) vs).cell? ⟨sb, 70, none⟩ = some (.int .i64 L.length) ∧ (w.setCells sb (a * 7) vs).cell? ⟨sb, 71, none⟩ = some (.int .i64 last) ∧ sb < (w.setCells sb (a * 7) vs).heap.size := by
  refine ⟨World.there_setCells h.there sb _ _, fun i s hi hs => World.rangeAt_setCells_apart (h.ents i s hs) sb _ _ (.inr (.inl (by show i * 7 + 7 ≤ a * 7; omega))), ?_, ?_, by rw [(only_cells sb vs (a * 7) w).size]; exact h.lt⟩
  · rw [World.cell?_setCells_out sb vs _ w _ (fun _ _ => .inr (by show a * 7 + vs.length ≤ 70; omega))]
    exact h.count
  · rw [World.cell?_setCells_out sb vs _ w _ (fun _ _ => .inr (by show a * 7 + vs.length ≤ 71; omega))]
    exact h.last
theorem SAt.push (h : SAt w sb L last) (hl : L.length < 10) (n g : Nat) (q : List Cel) : SAt ((w.setCells sb (L.length * 7) (svC n g)).setCell ⟨sb, 70, none⟩ (.int .i64 ((L.length + 1 : Nat) : Int))) sb (L ++ [⟨n, g, q⟩]) last := by
  obtain ⟨h1, h2, h3, h4, h5⟩ := h.putE L.length (svC n g) (by show L.length * 7 + 7 ≤ 70; omega)
  have hM : (L ++ [(⟨n, g, q⟩ : Sv)]).length = L.length + 1 := by simp
  have := SAt.put70 (L := L) ⟨h.len, h1, fun i s hs => h2 i s (List.getElem?_eq_some_iff.1 hs).1 hs, h3, h4, h5⟩ (L ++ [⟨n, g, q⟩]) (by omega) (fun i s hs => ?_)
  · rw [hM] at this
    exact this
  · rw [List.getElem?_append] at hs
    split at hs
    · next hi => exact h2 i s hi hs
    · next hi =>
      have hi' : i = L.length := by
        have := (List.getElem?_eq_some_iff.1 hs).1
        simp at this
        omega
      subst hi'
      obtain rfl : (⟨n, g, q⟩ : Sv) = s := by simpa using hs
      exact World.rangeAt_setCells_same w sb _ _ fun j hj => by
        have := h.there (L.length * 7 + j) (by simp at hj; omega)
        simpa using this
theorem SAt.cut (h : SAt w sb L last) (a : Nat) (ha : a ≤ L.length) (vs : List Value) (hv : a * 7 + vs.length ≤ 70) : SAt ((w.setCells sb (a * 7) vs).setCell ⟨sb, 70, none⟩ (.int .i64 a)) sb (L.take a) last := by
  obtain ⟨h1, h2, h3, h4, h5⟩ := h.putE a vs hv
  have hM : (L.take a).length = a := by rw [List.length_take]; omega
  have h' : SAt ((w.setCells sb (a * 7) vs).setCell ⟨sb, 70, none⟩ (.int .i64 (L.take a).length)) sb (L.take a) last := by
    have on : Only sb (w.setCells sb (a * 7) vs) ((w.setCells sb (a * 7) vs).setCell ⟨sb, 70, none⟩ (.int .i64 (L.take a).length)) := (Only.refl sb _).set 70 _
    refine ⟨by have := h.len; omega, World.there_setCells h1 sb 70 [_], fun i s hi => ?_, World.cell?_setCell_same _ _ _ h3, ?_, by rw [on.size]; exact h5⟩
    · have hl := (List.getElem?_eq_some_iff.1 hi).1
      rw [List.getElem?_take_of_lt (by omega)] at hi
      exact World.rangeAt_setCells_apart (h2 i s (by omega) hi) sb 70 [.int .i64 (L.take a).length] (.inr (.inl (by show i * 7 + 7 ≤ 70; have := h.len; omega)))
    · rw [World.cell?_setCell_other _ _ _ _ (by simp)]
      exact h4
  rw [hM] at h'
  exact h'
end
end Go.Proofs.Ytlkbnldpecolbaa

/- Walks of save: New, Len, find. -/
namespace Go.Proofs.Ytlkbnldpecolbaa
open Go.RowKit
set_option linter.unusedVariables false

section
variable {L : List Sv} {o : Ob}
theorem atS_none (h : ∀ (i : Nat) (s : Sv), L[i]? = some s → sameO 11 s.n 0 0 ⟨#[]⟩ o.k o.n o.a o.l o.s = false) : atS L o = none := by
  rw [atS, List.findIdx?_eq_none_iff]
  intro s hs
  obtain ⟨i, hi⟩ := List.mem_iff_getElem?.1 hs
  exact h i s hi
theorem atS_some {j : Nat} {s : Sv} (hj : L[j]? = some s) (hs : sameO 11 s.n 0 0 ⟨#[]⟩ o.k o.n o.a o.l o.s = true) (h : ∀ (i : Nat) (s : Sv), i < j → L[i]? = some s → sameO 11 s.n 0 0 ⟨#[]⟩ o.k o.n o.a o.l o.s = false) : atS L o = some j := by
  rw [atS, List.findIdx?_eq_some_iff_getElem]
  obtain ⟨hl, he⟩ := List.getElem?_eq_some_iff.1 hj
  refine ⟨hl, by rw [he]; exact hs, fun i hi => ?_⟩
  rw [h i L[i] hi (List.getElem?_eq_getElem (by omega))]
  decide
theorem atS_lt {j : Nat} (h : atS L o = some j) : j < L.length := by
  rw [atS, List.findIdx?_eq_some_iff_getElem] at h
  exact h.1
end

structure FindSt (L : List Sv) (sb last A : Nat) (o : Ob) (w wr : World) (j : Nat) : Prop where
  le : j ≤ L.length
  no : ∀ (i : Nat) (s : Sv), i < j → L[i]? = some s → sameO 11 s.n 0 0 ⟨#[]⟩ o.k o.n o.a o.l o.s = false
  sat : SAt wr sb L last
  ob : ObAt wr A o.k o.x o.n o.a o.l o.s
  below : Below w.heap.size w wr

theorem ent_cells {w : World} {sb last : Nat} {L : List Sv} (h : SAt w sb L last) {i : Nat} {s : Sv} (hi : L[i]? = some s) :
    w.cell? ⟨sb, i * 7, none⟩ = some (.int .i64 11) ∧ w.cell? ⟨sb, i * 7 + 1, none⟩ = some (.bool false) ∧ w.cell? ⟨sb, i * 7 + 2, none⟩ = some (.int .i64 s.n) ∧ w.cell? ⟨sb, i * 7 + 3, none⟩ = some (.int .i64 0) ∧ w.cell? ⟨sb, i * 7 + 4, none⟩ = some (.int .i64 0) ∧ w.cell? ⟨sb, i * 7 + 5, none⟩ = some (.string ⟨#[]⟩) ∧ w.cell? ⟨sb, i * 7 + 6, none⟩ = some (ptr s.g) :=
  ⟨h.ents i s hi 0 _ rfl, h.ents i s hi 1 _ rfl, h.ents i s hi 2 _ rfl, h.ents i s hi 3 _ rfl, h.ents i s hi 4 _ rfl, h.ents i s hi 5 _ rfl, h.ents i s hi 6 _ rfl⟩

end Go.Proofs.Ytlkbnldpecolbaa

/- Walks of save: New, Len, Newer. -/
namespace Go.Proofs.Ytlkbnldpecolbaa
open Go.RowKit
set_option linter.unusedVariables false

/-- Newer. -/
def newS (L : List Sv) (o x : Ob) : Bool :=
  match atS L o with
  | none => false
  | some i => if x.k = 9 ∨ x.k = 8 ∨ x.k = 10 then decide ((((L[i]?.map fun s => s.q.length).getD 0 : Nat) : Int) ≤ x.n) else decide (x.k = 11 ∧ o.n ≤ x.n)
section
variable {own : Nat → Prop} {hb sb last : Nat} {P : List Cel} {L : List Sv} {w : World}
end
end Go.Proofs.Ytlkbnldpecolbaa

/- Walks of save: Save. -/
namespace Go.Proofs.Ytlkbnldpecolbaa
open Go.RowKit
set_option linter.unusedVariables false
set_option linter.unusedSimpArgs false

theorem svC_one (n : Int) (g : Nat) : ∀ v ∈ svC n g, v.oneCell' = true := by
  intro v hv
  simp only [svC, List.mem_cons, List.not_mem_nil, or_false] at hv
  rcases hv with rfl | rfl | rfl | rfl | rfl | rfl | rfl <;> rfl
theorem no_panic {Q : Exit → Act → World → Prop} {a : Act} {w : World} (h : Q .normal a w) : NoPanic Q .normal a w := h
theorem kept_drew {own : Nat → Prop} {w w' : World} (h : Kept own w.drew w') : Kept own w w' := ⟨h.os, h.tape, h.output, h.size, h.block⟩
theorem SH.zero {own : Nat → Prop} {hb sb last : Nat} {P : List Cel} {L : List Sv} {w : World} (h : SH own hb P sb L last w) :
    ∃ w', w.alloc (.cells #[.int .i64 0, .bool false, .int .i64 0, .int .i64 0, .int .i64 0, .string ⟨#[]⟩] 30) = w' ∧ SH (fun b => own b ∨ b = w.heap.size) hb P sb L last w' ∧ Kept own w w' ∧ w'.heap[w.heap.size]? = some emptyOb := h.box_ob _ _ _ _ _ _
section
variable {own : Nat → Prop} {hb sb last last' A : Nat} {P : List Cel} {L L' : List Sv} {w w1 : World}
theorem SH.only (h : SH own hb P sb L last w) (k : Only sb w w1) (s : SAt w1 sb L' last') (hg : svG L' = svG L) : SH own hb P sb L' last' w1 ∧ Kept own w w1 :=
  ⟨⟨by rw [hg]; exact h.many.only (.inr rfl) k, s, h.nown⟩, kept_only k h.nown⟩
theorem SH.put (h : SH own hb P sb L last w) (hA : own A) (k : Only A w w1) : SH own hb P sb L last w1 :=
  ⟨h.many.only (.inl hA) k, h.sat.same (k.block _ fun e => h.nown (e ▸ hA)) (by rw [k.size]; exact Nat.le_refl _), h.nown⟩
end
/-- What the statement that stores an entry reads. -/
def SaveS (w : World) (sb A n : Nat) (m : Int) : Prop :=
  w.cell? ⟨sb, 70, none⟩ = some (.int .i64 n) ∧ w.cell? ⟨A, 0, none⟩ = some (.int .i64 11) ∧ w.cell? ⟨A, 1, none⟩ = some (.bool false) ∧ w.cell? ⟨A, 2, none⟩ = some (.int .i64 m) ∧ w.cell? ⟨A, 3, none⟩ = some (.int .i64 0) ∧ w.cell? ⟨A, 4, none⟩ = some (.int .i64 0) ∧ w.cell? ⟨A, 5, none⟩ = some (.string ⟨#[]⟩)
theorem SaveS.same {w w' : World} {sb A n : Nat} {m : Int} (h : SaveS w sb A n m) (h1 : w'.heap[sb]? = w.heap[sb]?) (h2 : w'.heap[A]? = w.heap[A]?) : SaveS w' sb A n m := by
  have c : ∀ j, w'.cell? ⟨sb, j, none⟩ = w.cell? ⟨sb, j, none⟩ := fun j => World.cell?_of_block (w := w) h1
  have d : ∀ j, w'.cell? ⟨A, j, none⟩ = w.cell? ⟨A, j, none⟩ := fun j => World.cell?_of_block (w := w) h2
  simp only [SaveS, c, d]
  exact h
theorem SaveS.put {w : World} {sb A n : Nat} {m : Int} (h : SaveS w sb A n m) (hA : A ≠ sb) (hn : n < 10) (vs : List Value) (hv : vs.length = 7) : SaveS (w.setCells sb (n * 7) vs) sb A n m := by
  have d : ∀ j, (w.setCells sb (n * 7) vs).cell? ⟨A, j, none⟩ = w.cell? ⟨A, j, none⟩ := fun j => World.cell?_setCells_out sb vs _ w _ (fun e _ => absurd e hA)
  have c : (w.setCells sb (n * 7) vs).cell? ⟨sb, 70, none⟩ = w.cell? ⟨sb, 70, none⟩ := World.cell?_setCells_out sb vs _ w _ (fun _ _ => .inr (by show n * 7 + vs.length ≤ 70; omega))
  simp only [SaveS, c, d]
  exact h
theorem SAt.room {w : World} {sb last : Nat} {L : List Sv} (h : SAt w sb L last) (hl : L.length < 10) : ∃ v0 v1 v2 v3 v4 v5 v6, (w.cell? ⟨sb, L.length * 7, none⟩ = some v0 ∧ w.cell? ⟨sb, L.length * 7 + 1, none⟩ = some v1 ∧ w.cell? ⟨sb, L.length * 7 + 2, none⟩ = some v2 ∧ w.cell? ⟨sb, L.length * 7 + 3, none⟩ = some v3 ∧ w.cell? ⟨sb, L.length * 7 + 4, none⟩ = some v4 ∧ w.cell? ⟨sb, L.length * 7 + 5, none⟩ = some v5 ∧ w.cell? ⟨sb, L.length * 7 + 6, none⟩ = some v6) ∧
    w.frozen? ⟨sb, L.length * 7, none⟩ = false ∧ w.frozen? ⟨sb, L.length * 7 + 1, none⟩ = false ∧ w.frozen? ⟨sb, L.length * 7 + 2, none⟩ = false ∧ w.frozen? ⟨sb, L.length * 7 + 3, none⟩ = false ∧ w.frozen? ⟨sb, L.length * 7 + 4, none⟩ = false ∧ w.frozen? ⟨sb, L.length * 7 + 5, none⟩ = false ∧ w.frozen? ⟨sb, L.length * 7 + 6, none⟩ = false := by
  have c : ∀ j, j < 7 → ∃ v, w.cell? ⟨sb, L.length * 7 + j, none⟩ = some v := fun j hj => by
    have := (h.there (L.length * 7 + j) (by omega)).1
    rw [Nat.zero_add] at this
    exact Option.isSome_iff_exists.1 this
  have f : ∀ j, j < 7 → w.frozen? ⟨sb, L.length * 7 + j, none⟩ = false := fun j hj => by
    have := (h.there (L.length * 7 + j) (by omega)).2
    rw [Nat.zero_add] at this
    exact this
  obtain ⟨v0, c0⟩ := c 0 (by decide)
  obtain ⟨v1, c1⟩ := c 1 (by decide)
  obtain ⟨v2, c2⟩ := c 2 (by decide)
  obtain ⟨v3, c3⟩ := c 3 (by decide)
  obtain ⟨v4, c4⟩ := c 4 (by decide)
  obtain ⟨v5, c5⟩ := c 5 (by decide)
  obtain ⟨v6, c6⟩ := c 6 (by decide)
  exact ⟨v0, v1, v2, v3, v4, v5, v6, ⟨c0, c1, c2, c3, c4, c5, c6⟩, f 0 (by decide), f 1 (by decide), f 2 (by decide), f 3 (by decide), f 4 (by decide), f 5 (by decide), f 6 (by decide)⟩
end Go.Proofs.Ytlkbnldpecolbaa
