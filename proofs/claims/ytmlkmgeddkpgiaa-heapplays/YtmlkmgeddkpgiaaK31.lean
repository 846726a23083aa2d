/- A heap and any number of copies of it, each of a colour of its own: what one heap's calls do beside them, Copy and Become. -/
import Derived.Test.YtmlkmgeddkpgiaaK29
namespace Go.Proofs.Ytmlkmgeddkpgiaa
open Go.RowKit
set_option linter.unusedVariables false

/-- The heap (colour 1), its copies (colours 2, 3, ..), and blocks that none of them touches. -/
def Many (own : Nat → Prop) (hb : Nat) (P : List Cel) (gs : List (Nat × List Cel)) (w : World) : Prop :=
  ∃ role, PHeap role 1 hb P w ∧ (∀ i g, gs[i]? = some g → PHeap role (i + 2) g.1 g.2 w) ∧ ∀ b, own b → b < w.heap.size ∧ (role b).1 = 0
theorem PHeap.same {role role' : Nat → Nat × Nat} {c hb : Nat} {P : List Cel} {w w' : World} (h : PHeap role c hb P w)
    (hk : ∀ k, k < w.heap.size → (role k).1 = c → w'.heap[k]? = w.heap[k]? ∧ role' k = role k) : PHeap role' c hb P w' := by
  obtain ⟨vc, ivs, pb, rv, h⟩ := h
  exact ⟨vc, ivs, pb, rv, h.same hk⟩
section
variable {own : Nat → Prop} {hb gb i : Nat} {P P' Q : List Cel} {gs : List (Nat × List Cel)} {w w' : World}
theorem Many.of_sep (h : Sep own hb P w) : Many own hb P [] w := by
  obtain ⟨role, h1, h2⟩ := h
  refine ⟨fun b => if (role b).1 = 1 then role b else (0, 0), h1.same fun k hk hc => ⟨rfl, by simp [hc]⟩, by simp, fun b hb => ⟨(h2 b hb).1, by simp [(h2 b hb).2]⟩⟩
theorem Many.sep (h : Many own hb P gs w) : Sep own hb P w := by
  obtain ⟨role, h1, h2, h3⟩ := h
  exact ⟨role, h1, fun b hb => ⟨(h3 b hb).1, by rw [(h3 b hb).2]; decide⟩⟩
/-- Whatever is said of the heap by Sep and Kept holds beside its copies. -/
theorem Many.lift (h : Many own hb P gs w) : ∃ own' : Nat → Prop, Sep own' hb P w ∧ (∀ b, own b → own' b) ∧ ∀ P' w', Sep own' hb P' w' → Kept own' w w' → Many own hb P' gs w' := by
  obtain ⟨role, h1, h2, h3⟩ := h
  refine ⟨fun b => b < w.heap.size ∧ (role b).1 ≠ 1, ⟨role, h1, fun b hb => hb⟩, fun b hb => ⟨(h3 b hb).1, by rw [(h3 b hb).2]; decide⟩, fun P' w' s k => ?_⟩
  obtain ⟨role2, s1, s2⟩ := s
  refine ⟨fun b => if b < w.heap.size ∧ (role b).1 ≠ 1 then role b else if (role2 b).1 = 1 then role2 b else (0, 0), s1.same fun b hb hc => ⟨rfl, ?_⟩, fun i g hg => (h2 i g hg).same fun b hb hc => ?_, fun b hb => ?_⟩
  · have n : ¬ (b < w.heap.size ∧ (role b).1 ≠ 1) := fun n => (s2 b n).2 hc
    rw [if_neg n, if_pos hc]
  · have n : b < w.heap.size ∧ (role b).1 ≠ 1 := ⟨hb, by omega⟩
    rw [if_pos n]
    exact ⟨k.block b n, rfl⟩
  · have n : b < w.heap.size ∧ (role b).1 ≠ 1 := ⟨(h3 b hb).1, by rw [(h3 b hb).2]; decide⟩
    dsimp only
    rw [if_pos n]
    exact ⟨Nat.lt_of_lt_of_le n.1 k.size, (h3 b hb).2⟩
theorem Many.below (h : Many own hb P gs w) (k : Below w.heap.size w w') : Many own hb P gs w' ∧ Kept own w w' := by
  obtain ⟨own', s, ho, hl⟩ := h.lift
  exact ⟨hl P w' (s.below k).1 (s.below k).2, (h.sep.below k).2⟩
theorem Many.box (h : Many own hb P gs w) (o : Obj) : Many (fun b => own b ∨ b = w.heap.size) hb P gs (w.alloc o) := by
  obtain ⟨role, h1, h2, h3⟩ := h
  refine ⟨paint role w.heap.size fun _ => (0, 0), h1.same fun k hk _ => ⟨(box_below w o).block k hk, paint_old hk⟩, fun i g hg => (h2 i g hg).same fun k hk _ => ⟨(box_below w o).block k hk, paint_old hk⟩, fun b hb => ?_⟩
  rcases hb with hb | rfl
  · have := h3 b hb
    rw [paint_old this.1]
    refine ⟨?_, this.2⟩
    have := this.1
    simp
    omega
  · rw [paint_new (Nat.le_refl _)]
    exact ⟨by simp, rfl⟩
theorem Many.sub {own' : Nat → Prop} (h : Many own hb P gs w) (k : ∀ b, own' b → own b) : Many own' hb P gs w := by
  obtain ⟨role, h1, h2, h3⟩ := h
  exact ⟨role, h1, h2, fun b hb => h3 b (k b hb)⟩
theorem Many.take (h : Many own hb P gs w) (n : Nat) : Many own hb P (gs.take n) w := by
  obtain ⟨role, h1, h2, h3⟩ := h
  refine ⟨role, h1, fun i g hg => h2 i g ?_, h3⟩
  rw [List.getElem?_take] at hg
  split at hg
  · exact hg
  · cases hg
theorem many_new (h : Many own hb P gs w) : Calls Try.prog 20 #[ptr w.heap.size, ptr hb] (w.alloc (.cells #[.slice none 0 0, .int .i64 0] 97)) fun e w' => e = .returned (.tuple #[]) ∧ Many own hb P (gs ++ [(w.heap.size, P)]) w' ∧ Kept own w w' := by
  obtain ⟨role, h1, h2, h3⟩ := h
  obtain ⟨d, hd⟩ : ∃ d, gs.length + 2 = d := ⟨_, rfl⟩
  obtain ⟨role0, hr0⟩ : ∃ role0 : Nat → Nat × Nat, (fun b => if (role b).1 = d then (0, (role b).2) else role b) = role0 := ⟨_, rfl⟩
  have r0 : ∀ b, (role b).1 ≠ d → role0 b = role b := fun b hb => by rw [← hr0]; simp [hb]
  have bb := box_below w (.cells #[.slice none 0 0, .int .i64 0] 97)
  have p1 : PHeap (paint role0 w.heap.size fun _ => (d, 0)) 1 hb P (w.alloc (.cells #[.slice none 0 0, .int .i64 0] 97)) := h1.same fun k hk hc => ⟨bb.block k hk, by rw [paint_old hk, r0 k (by omega)]⟩
  have p2 : ∀ i g, gs[i]? = some g → PHeap (paint role0 w.heap.size fun _ => (d, 0)) (i + 2) g.1 g.2 (w.alloc (.cells #[.slice none 0 0, .int .i64 0] 97)) := fun i g hg => by
    have hi := (List.getElem?_eq_some_iff.1 hg).1
    exact (h2 i g hg).same fun k hk hc => ⟨bb.block k hk, by rw [paint_old hk, r0 k (by omega)]⟩
  have p1' := p1
  obtain ⟨vc, ivs, pb, rv, hp⟩ := p1'
  refine (become_any hp d w.heap.size (by omega) _ _ (heap_alloc_new _ _) (paint_new (Nat.le_refl _))).mono ?_
  rintro e w' ⟨rfl, role', q1, q2⟩
  have ho : ∀ b, own b → b < (w.alloc (.cells #[.slice none 0 0, .int .i64 0] 97)).heap.size ∧ paint role0 w.heap.size (fun _ => (d, 0)) b = role b := fun b hb => by
    have := (h3 b hb).1
    exact ⟨by simp; omega, by rw [paint_old this, r0 b (by rw [(h3 b hb).2]; omega)]⟩
  refine ⟨rfl, ⟨role', p1.keep q2 (by omega), fun i g hg => ?_, fun b hb => ?_⟩, q2.os, q2.tape, q2.output, Nat.le_trans (by simp) q2.size, fun b hb => ?_⟩
  · rw [List.getElem?_append] at hg
    split at hg
    · next hi => exact (p2 i g hg).keep q2 (by omega)
    · next hi =>
      have hi' : i - gs.length = 0 := by
        have := (List.getElem?_eq_some_iff.1 hg).1
        simp at this
        omega
      rw [hi'] at hg
      obtain rfl : (w.heap.size, P) = g := by simpa using hg
      rw [show i + 2 = d from by omega]
      exact q1
  · refine ⟨Nat.lt_of_lt_of_le (ho b hb).1 q2.size, ?_⟩
    rw [q2.same b (ho b hb).1, (ho b hb).2]
    exact (h3 b hb).2
  · rw [q2.block b (ho b hb).1 (by rw [(ho b hb).2, (h3 b hb).2]; omega)]
    exact bb.block b (h3 b hb).1
theorem manyCopy (h : Many own hb P gs w) : Calls Try.prog 10 #[ptr hb] w fun e w' => ∃ gb, e = .returned (ptr gb) ∧ Many own hb P (gs ++ [(gb, P)]) w' ∧ Kept own w w' :=
  copy_walk hb (fun gb w' => Many own hb P (gs ++ [(gb, P)]) w' ∧ Kept own w w') w (Lib.hid (many_new h))
theorem manyBecome (h : Many own hb P gs w) (hi : gs[i]? = some (gb, Q)) : Calls Try.prog 20 #[ptr hb, ptr gb] w fun e w' => e = .returned (.tuple #[]) ∧ Many own hb Q gs w' ∧ Kept own w w' := by
  obtain ⟨role, h1, h2, h3⟩ := h
  obtain ⟨vc, ivs, pb, rv, hp⟩ := h2 i _ hi
  have h1' := h1
  obtain ⟨vc1, ivs1, pb1, rv1, hh⟩ := h1'
  refine (become_any hp 1 hb (by omega) _ _ hh.hblk hh.hrole).mono ?_
  rintro e w' ⟨rfl, role', q1, q2⟩
  refine ⟨rfl, ⟨role', q1, fun i g hg => (h2 i g hg).keep q2 (by omega), fun b hb => ⟨Nat.lt_of_lt_of_le (h3 b hb).1 q2.size, by rw [q2.same b (h3 b hb).1]; exact (h3 b hb).2⟩⟩, q2.os, q2.tape, q2.output, q2.size, fun b hb => q2.block b (h3 b hb).1 (by rw [(h3 b hb).2]; decide)⟩
theorem manyCells (h : Many own hb P gs w) (hi : gs[i]? = some (gb, Q)) : Calls Try.prog 23 #[ptr gb] w fun e w' => e = .returned (.int .i64 Q.length) ∧ w = w' := by
  obtain ⟨role, h1, h2, h3⟩ := h
  obtain ⟨vc, ivs, pb, rv, hp⟩ := h2 i _ hi
  obtain ⟨p, cap, rfl, h0⟩ := hp.cells
  exact cells_any gb p Q.length cap w h0
end
end Go.Proofs.Ytmlkmgeddkpgiaa
