/- SA: S1, S2, S3, S4. -/
import Derived.Test.YtgmklagnngjlgaaK31
import Derived.Deep.MidRow
import Derived.StillTailTactics
import Derived.Deep.RegionHeld3
/- How the saves of layer 13 lie in memory, beside a heap and its copies. -/
namespace Go.Proofs.Ytgmklagnngjlgaa
open Go.RowKit
set_option linter.unusedVariables false

/-- An open save: its number, the block of its copy, the copy's cells. -/
structure Sv where
  n : Nat
  g : Nat
  q : List Cel
def svOb (n : Nat) : Ob := ⟨11, false, n, 0, 0, ⟨#[]⟩⟩
abbrev svC (n : Int) (g : Nat) : List Value := [.int .i64 11, .bool false, .int .i64 n, .int .i64 0, .int .i64 0, .string ⟨#[]⟩, ptr g]
def svG (L : List Sv) : List (Nat × List Cel) := L.map fun s => (s.g, s.q)
structure SAt (w : World) (sb : Nat) (L : List Sv) (last : Nat) : Prop where
  len : L.length ≤ 10
  there : w.there sb 0 72
  ents : ∀ (i : Nat) (s : Sv), L[i]? = some s → w.rangeAt sb (i * 7) (svC s.n s.g)
  count : w.cell? ⟨sb, 70, none⟩ = some (.int .i64 L.length)
  last : w.cell? ⟨sb, 71, none⟩ = some (.int .i64 last)
  lt : sb < w.heap.size
section
variable {own : Nat → Prop} {hb sb last : Nat} {P P' : List Cel} {L : List Sv} {w w' : World}
theorem SAt.same (h : SAt w sb L last) (k : w'.heap[sb]? = w.heap[sb]?) (hs : w.heap.size ≤ w'.heap.size) : SAt w' sb L last := by
  have c : ∀ j, w'.cell? ⟨sb, j, none⟩ = w.cell? ⟨sb, j, none⟩ := fun j => World.cell?_of_block (w := w) k
  have f : ∀ j, w'.frozen? ⟨sb, j, none⟩ = w.frozen? ⟨sb, j, none⟩ := fun j => World.frozen?_of_block (w := w) k
  refine ⟨h.len, fun j hj => ?_, fun i s hi j v hv => ?_, ?_, ?_, Nat.lt_of_lt_of_le h.lt hs⟩
  · rw [c, f]
    exact h.there j hj
  · rw [c]
    exact h.ents i s hi j v hv
  · rw [c]
    exact h.count
  · rw [c]
    exact h.last
theorem SAt.drew (h : SAt w sb L last) : SAt w.drew sb L last := h.same rfl (Nat.le_refl _)
/-- The heap, the copies of its open saves, the saves; the blocks 'own' are none of theirs. -/
structure SH (own : Nat → Prop) (hb : Nat) (P : List Cel) (sb : Nat) (L : List Sv) (last : Nat) (w : World) : Prop where
  many : Many (fun b => own b ∨ b = sb) hb P (svG L) w
  sat : SAt w sb L last
  nown : ¬ own sb
theorem SH.sub {own' : Nat → Prop} (h : SH own hb P sb L last w) (k : ∀ b, own' b → own b) : SH own' hb P sb L last w :=
  ⟨h.many.sub fun b q => q.imp (k b) id, h.sat, fun q => h.nown (k _ q)⟩
theorem SH.below (h : SH own hb P sb L last w) (k : Below w.heap.size w w') : SH own hb P sb L last w' ∧ Kept own w w' := by
  obtain ⟨m, q⟩ := h.many.below k
  exact ⟨⟨m, h.sat.same (k.block _ h.sat.lt) k.size, h.nown⟩, q.sub fun b => .inl⟩
theorem SH.box (h : SH own hb P sb L last w) (o : Obj) : SH (fun b => own b ∨ b = w.heap.size) hb P sb L last (w.alloc o) := by
  refine ⟨(h.many.box o).sub fun b q => ?_, h.sat.same ((box_below w o).block _ h.sat.lt) (box_below w o).size, fun q => ?_⟩
  · rcases q with (q | q) | q
    · exact .inl (.inl q)
    · exact .inr q
    · exact .inl (.inr q)
  · rcases q with q | q
    · exact h.nown q
    · have := h.sat.lt
      omega
theorem SH.box_ob (h : SH own hb P sb L last w) (k : Int) (x : Bool) (n a l : Int) (s : ByteArray) :
    ∃ w', w.alloc (.cells #[.int .i64 k, .bool x, .int .i64 n, .int .i64 a, .int .i64 l, .string s] 24) = w' ∧ SH (fun b => own b ∨ b = w.heap.size) hb P sb L last w' ∧ Kept own w w' ∧ w'.heap[w.heap.size]? = some (obObj k x n a l s) :=
  ⟨_, rfl, h.box _, (h.below (box_below _ _)).2, heap_alloc_new _ _⟩
/-- Whatever is said of the heap by Sep and Kept holds beside its saves. -/
theorem SH.lift (h : SH own hb P sb L last w) : ∃ own' : Nat → Prop, Sep own' hb P w ∧ (∀ b, own b → own' b) ∧ ∀ P' w', Sep own' hb P' w' → Kept own' w w' → SH own hb P' sb L last w' := by
  obtain ⟨own', s, ho, hl⟩ := h.many.lift
  exact ⟨own', s, fun b q => ho b (.inl q), fun P' w' s' k => ⟨hl P' w' s' k, h.sat.same (k.block _ (ho _ (.inr rfl))) k.size, h.nown⟩⟩
theorem SH.lt (h : SH own hb P sb L last w) {b : Nat} (q : own b) : b < w.heap.size := by
  obtain ⟨role, _, _, h3⟩ := h.many
  exact (h3 b (.inl q)).1

theorem svG_get {i : Nat} {s : Sv} (h : L[i]? = some s) : (svG L)[i]? = some (s.g, s.q) := by simp [svG, h]
theorem svG_append (s : Sv) : svG (L ++ [s]) = svG L ++ [(s.g, s.q)] := by simp [svG]
theorem svG_take (n : Nat) : svG (L.take n) = (svG L).take n := by simp [svG, List.map_take]

/-- Which open save an object is. -/
def atS (L : List Sv) (o : Ob) : Option Nat := L.findIdx? fun s => sameO 11 s.n 0 0 ⟨#[]⟩ o.k o.n o.a o.l o.s
theorem same_sv (n : Nat) (o : Ob) : sameO 11 n 0 0 ⟨#[]⟩ o.k o.n o.a o.l o.s = decide (o.k = 11 ∧ o.n = n ∧ o.a = 0 ∧ o.l = 0 ∧ o.s = ⟨#[]⟩) := by
  have : numO 11 n 0 0 ⟨#[]⟩ = false := by simp [numO]
  unfold sameO
  rw [this]
  simp only [Bool.false_eq_true, false_and, if_false]
  apply decide_eq_decide.2
  constructor <;> (rintro ⟨h1, h2, h3, h4, h5⟩; exact ⟨h1.symm, h2.symm, h3.symm, h4.symm, h5.symm⟩)
end
theorem only_cells (b : Nat) : ∀ (vs : List Value) (o : Nat) (w : World), Only b w (w.setCells b o vs)
  | [], _, w => Only.refl b w
  | v :: vs, o, w => by
    have q := only_cells b vs (o + 1) (w.setCell ⟨b, o, none⟩ v)
    have r := (Only.refl b w).set o v
    exact ⟨q.os.trans r.os, q.tape.trans r.tape, q.output.trans r.output, q.size.trans r.size, fun k hk => (q.block k hk).trans (r.block k hk)⟩
theorem Only.trans {b : Nat} {w0 w1 w2 : World} (r : Only b w0 w1) (q : Only b w1 w2) : Only b w0 w2 := ⟨q.os.trans r.os, q.tape.trans r.tape, q.output.trans r.output, q.size.trans r.size, fun k hk => (q.block k hk).trans (r.block k hk)⟩
theorem Many.only {own : Nat → Prop} {hb A : Nat} {P : List Cel} {gs : List (Nat × List Cel)} {w w' : World} (h : Many own hb P gs w) (hA : own A) (k : Only A w w') : Many own hb P gs w' := by
  obtain ⟨role, h1, h2, h3⟩ := h
  refine ⟨role, h1.only k (by rw [(h3 A hA).2]; decide), fun i g hg => (h2 i g hg).only k (by rw [(h3 A hA).2]; simp), fun b hb => ⟨by rw [k.size]; exact (h3 b hb).1, (h3 b hb).2⟩⟩
theorem kept_only {own : Nat → Prop} {A : Nat} {w w' : World} (k : Only A w w') (hA : ¬ own A) : Kept own w w' :=
  ⟨k.os, k.tape, k.output, by rw [k.size]; exact Nat.le_refl _, fun b hb => k.block b fun e => hA (e ▸ hb)⟩
section
variable {sb last : Nat} {L : List Sv} {w : World}
theorem SAt.put70 (h : SAt w sb L last) (M : List Sv) (hM : M.length ≤ 10) (he : ∀ i s, M[i]? = some s → w.rangeAt sb (i * 7) (svC s.n s.g)) : SAt (w.setCell ⟨sb, 70, none⟩ (.int .i64 M.length)) sb M last := by
  have on : Only sb w (w.setCell ⟨sb, 70, none⟩ (.int .i64 M.length)) := (Only.refl sb w).set 70 _
  refine ⟨hM, World.there_setCells h.there sb 70 [_], fun i s hi => ?_, World.cell?_setCell_same _ _ _ h.count, ?_, by rw [on.size]; exact h.lt⟩
  · have hl := (List.getElem?_eq_some_iff.1 hi).1
    exact World.rangeAt_setCells_apart (he i s hi) sb 70 [.int .i64 M.length] (.inr (.inl (by show i * 7 + 7 ≤ 70; omega)))
  · rw [World.cell?_setCell_other _ _ _ _ (by simp)]
    exact h.last
theorem SAt.put71 (h : SAt w sb L last) (m : Nat) : SAt (w.setCell ⟨sb, 71, none⟩ (.int .i64 m)) sb L m := by
  have on : Only sb w (w.setCell ⟨sb, 71, none⟩ (.int .i64 m)) := (Only.refl sb w).set 71 _
  refine ⟨h.len, World.there_setCells h.there sb 71 [_], fun i s hi => ?_, ?_, World.cell?_setCell_same _ _ _ h.last, by rw [on.size]; exact h.lt⟩
  · have hl := (List.getElem?_eq_some_iff.1 hi).1
    have := h.len
    exact World.rangeAt_setCells_apart (h.ents i s hi) sb 71 [.int .i64 m] (.inr (.inl (by show i * 7 + 7 ≤ 71; omega)))
  · rw [World.cell?_setCell_other _ _ _ _ (by simp)]
    exact h.count
/-- Other cells of the entries from the a-th on. -/
theorem SAt.putE (h : SAt w sb L last) (a : Nat) (vs : List Value) (hv : a * 7 + vs.length ≤ 70) :
    (w.setCells sb (a * 7) vs).there sb 0 72 ∧ (∀ i s, i < a → L[i]? = some s → (w.setCells sb (a * 7) vs).rangeAt sb (i * 7) (svC s.n s.g)) ∧ (w.setCells sb (a * 7) vs).cell? ⟨sb, 70, none⟩ = some (.int .i64 L.length) ∧ (w.setCells sb (a * 7) vs).cell? ⟨sb, 71, none⟩ = some (.int .i64 last) ∧ sb < (w.setCells sb (a * 7) vs).heap.size := by
  refine ⟨World.there_setCells h.there sb _ _, fun i s hi hs => World.rangeAt_setCells_apart (h.ents i s hs) sb _ _ (.inr (.inl (by show i * 7 + 7 ≤ a * 7; omega))), ?_, ?_, by rw [(only_cells sb vs (a * 7) w).size]; exact h.lt⟩
  · rw [World.cell?_setCells_out sb vs _ w _ (fun _ _ => .inr (by show a * 7 + vs.length ≤ 70; omega))]
    exact h.count
  · rw [World.cell?_setCells_out sb vs _ w _ (fun _ _ => .inr (by show a * 7 + vs.length ≤ 71; omega))]
    exact h.last
theorem SAt.push (h : SAt w sb L last) (hl : L.length < 10) (n g : Nat) (q : List Cel) : SAt ((w.setCells sb (L.length * 7) (svC n g)).setCell ⟨sb, 70, none⟩ (.int .i64 ((L.length + 1 : Nat) : Int))) sb (L ++ [⟨n, g, q⟩]) last := by
  obtain ⟨h1, h2, h3, h4, h5⟩ := h.putE L.length (svC n g) (by show L.length * 7 + 7 ≤ 70; omega)
  have hM : (L ++ [(⟨n, g, q⟩ : Sv)]).length = L.length + 1 := by simp
  have := SAt.put70 (L := L) ⟨h.len, h1, fun i s hs => h2 i s (List.getElem?_eq_some_iff.1 hs).1 hs, h3, h4, h5⟩ (L ++ [⟨n, g, q⟩]) (by omega) (fun i s hs => ?_)
  · rw [hM] at this
    exact this
  · rw [List.getElem?_append] at hs
    split at hs
    · next hi => exact h2 i s hi hs
    · next hi =>
      have hi' : i = L.length := by
        have := (List.getElem?_eq_some_iff.1 hs).1
        simp at this
        omega
      subst hi'
      obtain rfl : (⟨n, g, q⟩ : Sv) = s := by simpa using hs
      exact World.rangeAt_setCells_same w sb _ _ fun j hj => by
        have := h.there (L.length * 7 + j) (by simp at hj; omega)
        simpa using this
theorem SAt.cut (h : SAt w sb L last) (a : Nat) (ha : a ≤ L.length) (vs : List Value) (hv : a * 7 + vs.length ≤ 70) : SAt ((w.setCells sb (a * 7) vs).setCell ⟨sb, 70, none⟩ (.int .i64 a)) sb (L.take a) last := by
  obtain ⟨h1, h2, h3, h4, h5⟩ := h.putE a vs hv
  have hM : (L.take a).length = a := by rw [List.length_take]; omega
  have h' : SAt ((w.setCells sb (a * 7) vs).setCell ⟨sb, 70, none⟩ (.int .i64 (L.take a).length)) sb (L.take a) last := by
    have on : Only sb (w.setCells sb (a * 7) vs) ((w.setCells sb (a * 7) vs).setCell ⟨sb, 70, none⟩ (.int .i64 (L.take a).length)) := (Only.refl sb _).set 70 _
    refine ⟨by have := h.len; omega, World.there_setCells h1 sb 70 [_], fun i s hi => ?_, World.cell?_setCell_same _ _ _ h3, ?_, by rw [on.size]; exact h5⟩
    · have hl := (List.getElem?_eq_some_iff.1 hi).1
      rw [List.getElem?_take_of_lt (by omega)] at hi
      exact World.rangeAt_setCells_apart (h2 i s (by omega) hi) sb 70 [.int .i64 (L.take a).length] (.inr (.inl (by show i * 7 + 7 ≤ 70; have := h.len; omega)))
    · rw [World.cell?_setCell_other _ _ _ _ (by simp)]
      exact h4
  rw [hM] at h'
  exact h'
end
end Go.Proofs.Ytgmklagnngjlgaa

/- Walks of save: New, Len, find. -/
namespace Go.Proofs.Ytgmklagnngjlgaa
open Go.RowKit
set_option linter.unusedVariables false

section
variable {L : List Sv} {o : Ob}
theorem atS_none (h : ∀ (i : Nat) (s : Sv), L[i]? = some s → sameO 11 s.n 0 0 ⟨#[]⟩ o.k o.n o.a o.l o.s = false) : atS L o = none := by
  rw [atS, List.findIdx?_eq_none_iff]
  intro s hs
  obtain ⟨i, hi⟩ := List.mem_iff_getElem?.1 hs
  exact h i s hi
theorem atS_some {j : Nat} {s : Sv} (hj : L[j]? = some s) (hs : sameO 11 s.n 0 0 ⟨#[]⟩ o.k o.n o.a o.l o.s = true) (h : ∀ (i : Nat) (s : Sv), i < j → L[i]? = some s → sameO 11 s.n 0 0 ⟨#[]⟩ o.k o.n o.a o.l o.s = false) : atS L o = some j := by
  rw [atS, List.findIdx?_eq_some_iff_getElem]
  obtain ⟨hl, he⟩ := List.getElem?_eq_some_iff.1 hj
  refine ⟨hl, by rw [he]; exact hs, fun i hi => ?_⟩
  rw [h i L[i] hi (List.getElem?_eq_getElem (by omega))]
  decide
theorem atS_lt {j : Nat} (h : atS L o = some j) : j < L.length := by
  rw [atS, List.findIdx?_eq_some_iff_getElem] at h
  exact h.1
end

structure FindSt (L : List Sv) (sb last A : Nat) (o : Ob) (w wr : World) (j : Nat) : Prop where
  le : j ≤ L.length
  no : ∀ (i : Nat) (s : Sv), i < j → L[i]? = some s → sameO 11 s.n 0 0 ⟨#[]⟩ o.k o.n o.a o.l o.s = false
  sat : SAt wr sb L last
  ob : ObAt wr A o.k o.x o.n o.a o.l o.s
  below : Below w.heap.size w wr

theorem sv_box (w : World) (n : Int) (g : Nat) : ∃ wb, w.alloc (.cells #[.int .i64 11, .bool false, .int .i64 n, .int .i64 0, .int .i64 0, .string ⟨#[]⟩, ptr g] 149) = wb ∧ Below w.heap.size w wb ∧ wb.heap.size = w.heap.size + 1 ∧ ObAt wb w.heap.size 11 false n 0 0 ⟨#[]⟩ :=
  ⟨_, rfl, (Below.refl _ w).alloc (Nat.le_refl _) _, by simp, by simp [ObAt]⟩
theorem ent_cells {w : World} {sb last : Nat} {L : List Sv} (h : SAt w sb L last) {i : Nat} {s : Sv} (hi : L[i]? = some s) :
    w.cell? ⟨sb, i * 7, none⟩ = some (.int .i64 11) ∧ w.cell? ⟨sb, i * 7 + 1, none⟩ = some (.bool false) ∧ w.cell? ⟨sb, i * 7 + 2, none⟩ = some (.int .i64 s.n) ∧ w.cell? ⟨sb, i * 7 + 3, none⟩ = some (.int .i64 0) ∧ w.cell? ⟨sb, i * 7 + 4, none⟩ = some (.int .i64 0) ∧ w.cell? ⟨sb, i * 7 + 5, none⟩ = some (.string ⟨#[]⟩) ∧ w.cell? ⟨sb, i * 7 + 6, none⟩ = some (ptr s.g) :=
  ⟨h.ents i s hi 0 _ rfl, h.ents i s hi 1 _ rfl, h.ents i s hi 2 _ rfl, h.ents i s hi 3 _ rfl, h.ents i s hi 4 _ rfl, h.ents i s hi 5 _ rfl, h.ents i s hi 6 _ rfl⟩

set_option maxHeartbeats 1000000 in
set_option maxRecDepth 100000 in
theorem svfind_walk (sb last : Nat) (L : List Sv) (k : Int) (x : Bool) (n a l : Int) (s : ByteArray) (w : World) (h : Hid (SAt w sb L last)) :
    Calls Try.prog 112 #[ptr sb, obV k x n a l s] w fun e w' => e = .returned (.tuple #[.int .i64 ((atS L ⟨k, x, n, a, l, s⟩).getD 0 : Nat), .bool (atS L ⟨k, x, n, a, l, s⟩).isSome]) ∧ Below w.heap.size w w' := by
  go_enter Try.func112, Try.ntmps112
  go_wp2_with fail
  obtain ⟨wb, eb, kb, zb, ob⟩ := ob_box w k n a l x s
  rw [eb]
  have h1 := h.out.same (kb.block _ h.out.lt) kb.size
  have c70 := h1.count
  have hle : (L.length : Int) ≤ 10 := by have := h1.len; omega
  have hge : (0 : Int) ≤ L.length := by omega
  have F0 : Hid (FindSt L sb last w.heap.size ⟨k, x, n, a, l, s⟩ w wb 0) := Lib.hid ⟨Nat.zero_le _, fun i s hi => by omega, h1, ob, kb⟩
  clear eb kb zb ob h1
  go_quiet (fail)
  have F1 : Hid (FindSt L sb last w.heap.size ⟨k, x, n, a, l, s⟩ w (wb.drewN nq) 0) := Lib.hid ⟨F0.out.le, F0.out.no, F0.out.sat.same rfl (Nat.le_refl _), F0.out.ob, below_and F0.out.below (below_drewN _ _)⟩
  generalize wb.drewN nq = wq at F1
  clear F0 c70
  go_wp2
  go_loopw [19] (fun i wr => ∃ j : Nat, i = .int .i64 j ∧ FindSt L sb last w.heap.size ⟨k, x, n, a, l, s⟩ w wr j) (fun i _ => L.length - (intOf i).toNat)
  case atStart => exact ⟨0, rfl, F1.out⟩
  case round =>
    obtain ⟨j, rfl, fj⟩ := hrel
    have FJ := Lib.hid fj
    clear fj F1 hle hge
    by_cases hlt : j < L.length
    · obtain ⟨t, ht⟩ : ∃ t, L[j]? = some t := ⟨_, List.getElem?_eq_getElem hlt⟩
      have HT := Lib.hid ht
      have HL := Lib.hid hlt
      obtain ⟨c0, c1, c2, c3, c4, c5, c6⟩ := ent_cells FJ.out.sat ht
      obtain ⟨d0, d1, d2, d3, d4, d5⟩ := FJ.out.ob
      have h1 : (j : Int) < L.length := by omega
      have h2 : (0 : Int) ≤ j := by omega
      clear ht
      go_upto_region 6 with fail
      obtain ⟨wc, ec, kc, zc, oc⟩ := sv_box wr t.n t.g
      rw [ec]
      have FC : Hid (FindSt L sb last w.heap.size ⟨k, x, n, a, l, s⟩ w wc j) := Lib.hid ⟨FJ.out.le, FJ.out.no, FJ.out.sat.same (kc.block _ FJ.out.sat.lt) kc.size, FJ.out.ob.later kc, below_and FJ.out.below kc⟩
      clear c0 c1 c2 c3 c4 c5 c6 d0 d1 d2 d3 d4 d5 ec kc zc
      obtain ⟨c0, c1, c2, c3, c4, c5⟩ := oc
      obtain ⟨d0, d1, d2, d3, d4, d5⟩ := FC.out.ob
      obtain ⟨r, hr⟩ : ∃ r, sameO 11 t.n 0 0 ⟨#[]⟩ k n a l s = r := ⟨_, rfl⟩
      have HR := Lib.hid hr
      clear hr
      cases r
      · go_wp2_with fail
        refine (same_any 11 t.n 0 0 k n a l false x ⟨#[]⟩ s wc).mono ?_
        rintro e wd ⟨rfl, kd⟩
        rw [HR.out]
        have FD : Hid (FindSt L sb last w.heap.size ⟨k, x, n, a, l, s⟩ w wd (j + 1)) := Lib.hid ⟨HL.out, fun i s' hi hs => by
          by_cases e : i = j
          · subst e
            rw [HT.out] at hs
            obtain rfl : t = s' := by simpa using hs
            exact HR.out
          · exact FC.out.no i s' (by omega) hs, FC.out.sat.same (kd.block _ FC.out.sat.lt) kd.size, FC.out.ob.later kd, below_and FC.out.below kd⟩
        have e1 : IntKind.i64.wrap ((j : Int) + 1) = ((j + 1 : Nat) : Int) := by rw [IntWalk.i64_in _ (by have := FC.out.sat.len; have := HL.out; omega)]; omega
        clear kd c0 c1 c2 c3 c4 c5 d0 d1 d2 d3 d4 d5
        go_wp2
        go_roundw
        case rel => exact ⟨j + 1, by congr 1, FD.out⟩
        case measure => exact measure_up L.length j _ rfl HL.out
      · go_wp2_with fail
        refine (same_any 11 t.n 0 0 k n a l false x ⟨#[]⟩ s wc).mono ?_
        rintro e wd ⟨rfl, kd⟩
        rw [HR.out]
        have KD := Lib.hid (below_and FC.out.below kd)
        clear kd c0 c1 c2 c3 c4 c5 d0 d1 d2 d3 d4 d5
        go_wp2
        have ha : atS L ⟨k, x, n, a, l, s⟩ = some j := atS_some HT.out HR.out FC.out.no
        go_ret2
        exact ⟨by rw [ha]; rfl, KD.out⟩
    · have ha : atS L ⟨k, x, n, a, l, s⟩ = none := atS_none fun i s' hs => FJ.out.no i s' (by have := (List.getElem?_eq_some_iff.1 hs).1; omega) hs
      have h1 : ¬ ((j : Int) < L.length) := by omega
      go_wp2
      go_ret2
      exact ⟨rfl, FJ.out.below⟩
end Go.Proofs.Ytgmklagnngjlgaa

/- Walks of save: New, Len, Newer. -/
namespace Go.Proofs.Ytgmklagnngjlgaa
open Go.RowKit
set_option linter.unusedVariables false

theorem svLen {w : World} {sb last : Nat} {L : List Sv} (h : SAt w sb L last) : Calls Try.prog 58 #[ptr sb] w fun e w' => e = .returned (.int .i64 L.length) ∧ w = w' := by
  have c := h.count
  go_enter Try.func58, Try.ntmps58
  go_wp2
  go_ret
  exact ⟨rfl, rfl⟩
set_option maxRecDepth 100000 in
theorem svNew_any (w : World) : Calls Try.prog 47 #[] w fun e w' => e = .returned (ptr w.heap.size) ∧ ∃ C : Array Value, w' = w.alloc (.cells C 152) ∧ C.size = 72 ∧ C[70]? = some (.int .i64 0) ∧ C[71]? = some (.int .i64 0) := by
  go_enter Try.func47, Try.ntmps47
  go_wp2
  go_ret
  exact ⟨rfl, _, rfl, by kernel_rfl, by kernel_rfl, by kernel_rfl⟩
theorem SH.start {own : Nat → Prop} {hb : Nat} {P : List Cel} {w : World} (h : Sep own hb P w) (C : Array Value) (h1 : C.size = 72) (h2 : C[70]? = some (.int .i64 0)) (h3 : C[71]? = some (.int .i64 0)) :
    SH own hb P w.heap.size [] 0 (w.alloc (.cells C 152)) ∧ Kept own w (w.alloc (.cells C 152)) := by
  have hb' := heap_alloc_new w (.cells C 152)
  have hn : ¬ own w.heap.size := fun q => by
    obtain ⟨role, _, h2⟩ := h
    have := (h2 _ q).1
    omega
  refine ⟨⟨(Many.of_sep h).box _, ⟨by simp, fun j hj => ⟨?_, ?_⟩, fun i s hi => by simp at hi, ?_, ?_, by simp⟩, hn⟩, ((Many.of_sep h).below (box_below _ _)).2⟩
  · rw [cellAt hb', Array.getElem?_eq_getElem (by omega)]
    rfl
  · rw [freeAt hb']
  · rw [cellAt hb', h2]
    rfl
  · rw [cellAt hb', h3]
    rfl
theorem svNew {own : Nat → Prop} {hb : Nat} {P : List Cel} {w : World} (h : Sep own hb P w) : Calls Try.prog 47 #[] w fun e w' => e = .returned (ptr w.heap.size) ∧ SH own hb P w.heap.size [] 0 w' ∧ Kept own w w' := by
  refine (svNew_any w).mono ?_
  rintro e w' ⟨rfl, C, rfl, h1, h2, h3⟩
  have := SH.start h C h1 h2 h3
  exact ⟨rfl, this.1, this.2⟩

/-- Newer. -/
def newS (L : List Sv) (o x : Ob) : Bool :=
  match atS L o with
  | none => false
  | some i => if x.k = 9 ∨ x.k = 8 ∨ x.k = 10 then decide ((((L[i]?.map fun s => s.q.length).getD 0 : Nat) : Int) ≤ x.n) else decide (x.k = 11 ∧ o.n ≤ x.n)
set_option maxHeartbeats 1000000 in
set_option maxRecDepth 100000 in
theorem newer_none (sb : Nat) (k n a l k' n' a' l' : Int) (x x' : Bool) (s s' : ByteArray) (w : World)
    (hf : Hid (∀ wx, Below w.heap.size w wx → Calls Try.prog 112 #[ptr sb, obV k x n a l s] wx fun e w' => e = .returned (.tuple #[.int .i64 0, .bool false]) ∧ Below wx.heap.size wx w')) :
    Calls Try.prog 56 #[ptr sb, obV k x n a l s, obV k' x' n' a' l' s'] w fun e w' => e = .returned (.bool false) ∧ Below w.heap.size w w' := by
  go_enter Try.func56, Try.ntmps56
  go_upto_region 1 with fail
  obtain ⟨wb, eb, kb, ⟨c0, c1, c2, c3, c4, c5⟩, o2⟩ := two_box w k n a l k' n' a' l' x x' s s'
  rw [eb]
  go_wp2_with fail
  refine (hf.out _ kb).mono ?_
  rintro e wc ⟨rfl, kc⟩
  have KC := Lib.hid (below_and kb kc)
  clear eb kb kc c0 c1 c2 c3 c4 c5 o2
  go_wp2
  go_ret
  exact ⟨rfl, KC.out⟩
set_option maxHeartbeats 1000000 in
set_option maxRecDepth 100000 in
theorem newer_some (sb i g m : Nat) (k n a l k' n' a' l' : Int) (x x' b1 b2 b3 b4 p q r : Bool) (s s' : ByteArray) (w : World) (hi : i < 10) (h1 : (k' == 9) = b1) (h2 : (k' == 8) = b2) (h3 : (k' == 10) = b3) (h4 : (k' == 11) = b4)
    (h5 : decide ((m : Int) ≤ n') = p) (h6 : decide (n ≤ n') = q) (hr : Hid ((if b1 || (b2 || b3) then p else b4 && q) = r)) (hc : w.cell? ⟨sb, i * 7 + 6, none⟩ = some (ptr g))
    (hf : Hid (∀ wx, Below w.heap.size w wx → Calls Try.prog 112 #[ptr sb, obV k x n a l s] wx fun e w' => e = .returned (.tuple #[.int .i64 i, .bool true]) ∧ Below wx.heap.size wx w'))
    (hg : Hid (∀ wx, Below w.heap.size w wx → Calls Try.prog 26 #[ptr g] wx fun e w' => e = .returned (.int .i64 m) ∧ wx = w')) :
    Calls Try.prog 56 #[ptr sb, obV k x n a l s, obV k' x' n' a' l' s'] w fun e w' => e = .returned (.bool r) ∧ Below w.heap.size w w' := by
  go_enter Try.func56, Try.ntmps56
  go_upto_region 1 with fail
  obtain ⟨wb, eb, kb, ⟨c0, c1, c2, c3, c4, c5⟩, o2⟩ := two_box w k n a l k' n' a' l' x x' s s'
  rw [eb]
  go_wp2_with fail
  refine (hf.out _ kb).mono ?_
  rintro e wc ⟨rfl, kc⟩
  have KC := Lib.hid (below_and kb kc)
  obtain ⟨d0, d1, d2, d3, d4, d5⟩ := o2.later kc
  replace c2 := cell_later kc c2
  have e6 := cell_later (below_and kb kc) hc
  have i1 : (i : Int) < 10 := by omega
  have i0 : (0 : Int) ≤ i := by omega
  clear eb kb kc c0 c1 c3 c4 c5 o2 hc
  cases b1
  · cases b2
    · cases b3
      · cases b4
        · go_wp2
          go_ret
          exact ⟨ret_bool (by have := hr.out; simpa using this), KC.out⟩
        · go_wp2
          go_ret
          exact ⟨ret_bool (by have := hr.out; simpa [h6] using this), KC.out⟩
      · go_wp2_with fail
        go_quiet (first | (go_at_call 26; exact Calls.quiet_of_same ((hg.out _ (by first | exact KC.out | exact KC.out.drew | exact below_and KC.out (below_drewN _ _))).mono fun _ _ h => ⟨h.1, h.2.symm⟩)))
        go_wp2
        go_ret
        exact ⟨ret_bool (by have := hr.out; simpa [h5] using this), below_and KC.out (below_drewN _ _)⟩
    · go_wp2_with fail
      go_quiet (first | (go_at_call 26; exact Calls.quiet_of_same ((hg.out _ (by first | exact KC.out | exact KC.out.drew | exact below_and KC.out (below_drewN _ _))).mono fun _ _ h => ⟨h.1, h.2.symm⟩)))
      go_wp2
      go_ret
      exact ⟨ret_bool (by have := hr.out; simpa [h5] using this), below_and KC.out (below_drewN _ _)⟩
  · go_wp2_with fail
    go_quiet (first | (go_at_call 26; exact Calls.quiet_of_same ((hg.out _ (by first | exact KC.out | exact KC.out.drew | exact below_and KC.out (below_drewN _ _))).mono fun _ _ h => ⟨h.1, h.2.symm⟩)))
    go_wp2
    go_ret
    exact ⟨ret_bool (by have := hr.out; simpa [h5] using this), below_and KC.out (below_drewN _ _)⟩
section
variable {own : Nat → Prop} {hb sb last : Nat} {P : List Cel} {L : List Sv} {w : World}
theorem svFind (h : SAt w sb L last) (o : Ob) {r : Option Nat} (hr : atS L o = r) :
    Calls Try.prog 112 #[ptr sb, o.val] w fun e w' => e = .returned (.tuple #[.int .i64 (r.getD 0 : Nat), .bool r.isSome]) ∧ Below w.heap.size w w' := by
  have := svfind_walk sb last L o.k o.x o.n o.a o.l o.s w (Lib.hid h)
  rw [hr] at this
  exact this
theorem svNewer (h : SH own hb P sb L last w) (o x : Ob) : Calls Try.prog 56 #[ptr sb, o.val, x.val] w fun e w' => e = .returned (.bool (newS L o x)) ∧ SH own hb P sb L last w' ∧ Kept own w w' := by
  cases ha : atS L o with
  | none =>
    refine (newer_none sb o.k o.n o.a o.l x.k x.n x.a x.l o.x x.x o.s x.s w (Lib.hid fun wx kx => svFind (h.below kx).1.sat o ha)).mono ?_
    rintro e w' ⟨rfl, k⟩
    exact ⟨by simp [newS, ha], h.below k⟩
  | some i =>
    have hl := atS_lt ha
    have ht : L[i]? = some L[i] := List.getElem?_eq_getElem hl
    have := h.sat.len
    refine (newer_some sb i L[i].g L[i].q.length o.k o.n o.a o.l x.k x.n x.a x.l o.x x.x _ _ _ _ _ _ (newS L o x) o.s x.s w (by omega) rfl rfl rfl rfl rfl rfl (Lib.hid ?_) (ent_cells h.sat ht).2.2.2.2.2.2 (Lib.hid fun wx kx => svFind (h.below kx).1.sat o ha) (Lib.hid fun wx kx => manyCells (h.below kx).1.many (svG_get ht))).mono ?_
    · simp only [newS, ha, ht, Option.map_some, Option.getD_some]
      by_cases q9 : x.k = 9
      · simp [q9]
      by_cases q8 : x.k = 8
      · simp [q8]
      by_cases q10 : x.k = 10
      · simp [q10]
      by_cases q11 : x.k = 11 <;> simp [q9, q8, q10, q11]
    · rintro e w' ⟨rfl, k⟩
      exact ⟨rfl, h.below k⟩
end
end Go.Proofs.Ytgmklagnngjlgaa

/- Walks of save: Save. -/
namespace Go.Proofs.Ytgmklagnngjlgaa
open Go.RowKit
set_option linter.unusedVariables false
set_option linter.unusedSimpArgs false

theorem svC_one (n : Int) (g : Nat) : ∀ v ∈ svC n g, v.oneCell' = true := by
  intro v hv
  simp only [svC, List.mem_cons, List.not_mem_nil, or_false] at hv
  rcases hv with rfl | rfl | rfl | rfl | rfl | rfl | rfl <;> rfl
theorem no_panic {Q : Exit → Act → World → Prop} {a : Act} {w : World} (h : Q .normal a w) : NoPanic Q .normal a w := h
theorem kept_drew {own : Nat → Prop} {w w' : World} (h : Kept own w.drew w') : Kept own w w' := ⟨h.os, h.tape, h.output, h.size, h.block⟩
theorem SH.zero {own : Nat → Prop} {hb sb last : Nat} {P : List Cel} {L : List Sv} {w : World} (h : SH own hb P sb L last w) :
    ∃ w', w.alloc (.cells #[.int .i64 0, .bool false, .int .i64 0, .int .i64 0, .int .i64 0, .string ⟨#[]⟩] 24) = w' ∧ SH (fun b => own b ∨ b = w.heap.size) hb P sb L last w' ∧ Kept own w w' ∧ w'.heap[w.heap.size]? = some emptyOb := h.box_ob _ _ _ _ _ _
section
variable {own : Nat → Prop} {hb sb last last' A : Nat} {P : List Cel} {L L' : List Sv} {w w1 : World}
theorem SH.only (h : SH own hb P sb L last w) (k : Only sb w w1) (s : SAt w1 sb L' last') (hg : svG L' = svG L) : SH own hb P sb L' last' w1 ∧ Kept own w w1 :=
  ⟨⟨by rw [hg]; exact h.many.only (.inr rfl) k, s, h.nown⟩, kept_only k h.nown⟩
theorem SH.put (h : SH own hb P sb L last w) (hA : own A) (k : Only A w w1) : SH own hb P sb L last w1 :=
  ⟨h.many.only (.inl hA) k, h.sat.same (k.block _ fun e => h.nown (e ▸ hA)) (by rw [k.size]; exact Nat.le_refl _), h.nown⟩
end
/-- What the statement that stores an entry reads. -/
def SaveS (w : World) (sb A n : Nat) (m : Int) : Prop :=
  w.cell? ⟨sb, 70, none⟩ = some (.int .i64 n) ∧ w.cell? ⟨A, 0, none⟩ = some (.int .i64 11) ∧ w.cell? ⟨A, 1, none⟩ = some (.bool false) ∧ w.cell? ⟨A, 2, none⟩ = some (.int .i64 m) ∧ w.cell? ⟨A, 3, none⟩ = some (.int .i64 0) ∧ w.cell? ⟨A, 4, none⟩ = some (.int .i64 0) ∧ w.cell? ⟨A, 5, none⟩ = some (.string ⟨#[]⟩)
theorem SaveS.same {w w' : World} {sb A n : Nat} {m : Int} (h : SaveS w sb A n m) (h1 : w'.heap[sb]? = w.heap[sb]?) (h2 : w'.heap[A]? = w.heap[A]?) : SaveS w' sb A n m := by
  have c : ∀ j, w'.cell? ⟨sb, j, none⟩ = w.cell? ⟨sb, j, none⟩ := fun j => World.cell?_of_block (w := w) h1
  have d : ∀ j, w'.cell? ⟨A, j, none⟩ = w.cell? ⟨A, j, none⟩ := fun j => World.cell?_of_block (w := w) h2
  simp only [SaveS, c, d]
  exact h
theorem SaveS.put {w : World} {sb A n : Nat} {m : Int} (h : SaveS w sb A n m) (hA : A ≠ sb) (hn : n < 10) (vs : List Value) (hv : vs.length = 7) : SaveS (w.setCells sb (n * 7) vs) sb A n m := by
  have d : ∀ j, (w.setCells sb (n * 7) vs).cell? ⟨A, j, none⟩ = w.cell? ⟨A, j, none⟩ := fun j => World.cell?_setCells_out sb vs _ w _ (fun e _ => absurd e hA)
  have c : (w.setCells sb (n * 7) vs).cell? ⟨sb, 70, none⟩ = w.cell? ⟨sb, 70, none⟩ := World.cell?_setCells_out sb vs _ w _ (fun _ _ => .inr (by show n * 7 + vs.length ≤ 70; omega))
  simp only [SaveS, c, d]
  exact h
theorem SAt.room {w : World} {sb last : Nat} {L : List Sv} (h : SAt w sb L last) (hl : L.length < 10) : ∃ v0 v1 v2 v3 v4 v5 v6, (w.cell? ⟨sb, L.length * 7, none⟩ = some v0 ∧ w.cell? ⟨sb, L.length * 7 + 1, none⟩ = some v1 ∧ w.cell? ⟨sb, L.length * 7 + 2, none⟩ = some v2 ∧ w.cell? ⟨sb, L.length * 7 + 3, none⟩ = some v3 ∧ w.cell? ⟨sb, L.length * 7 + 4, none⟩ = some v4 ∧ w.cell? ⟨sb, L.length * 7 + 5, none⟩ = some v5 ∧ w.cell? ⟨sb, L.length * 7 + 6, none⟩ = some v6) ∧
    w.frozen? ⟨sb, L.length * 7, none⟩ = false ∧ w.frozen? ⟨sb, L.length * 7 + 1, none⟩ = false ∧ w.frozen? ⟨sb, L.length * 7 + 2, none⟩ = false ∧ w.frozen? ⟨sb, L.length * 7 + 3, none⟩ = false ∧ w.frozen? ⟨sb, L.length * 7 + 4, none⟩ = false ∧ w.frozen? ⟨sb, L.length * 7 + 5, none⟩ = false ∧ w.frozen? ⟨sb, L.length * 7 + 6, none⟩ = false := by
  have c : ∀ j, j < 7 → ∃ v, w.cell? ⟨sb, L.length * 7 + j, none⟩ = some v := fun j hj => by
    have := (h.there (L.length * 7 + j) (by omega)).1
    rw [Nat.zero_add] at this
    exact Option.isSome_iff_exists.1 this
  have f : ∀ j, j < 7 → w.frozen? ⟨sb, L.length * 7 + j, none⟩ = false := fun j hj => by
    have := (h.there (L.length * 7 + j) (by omega)).2
    rw [Nat.zero_add] at this
    exact this
  obtain ⟨v0, c0⟩ := c 0 (by decide)
  obtain ⟨v1, c1⟩ := c 1 (by decide)
  obtain ⟨v2, c2⟩ := c 2 (by decide)
  obtain ⟨v3, c3⟩ := c 3 (by decide)
  obtain ⟨v4, c4⟩ := c 4 (by decide)
  obtain ⟨v5, c5⟩ := c 5 (by decide)
  obtain ⟨v6, c6⟩ := c 6 (by decide)
  exact ⟨v0, v1, v2, v3, v4, v5, v6, ⟨c0, c1, c2, c3, c4, c5, c6⟩, f 0 (by decide), f 1 (by decide), f 2 (by decide), f 3 (by decide), f 4 (by decide), f 5 (by decide), f 6 (by decide)⟩
set_option maxHeartbeats 1000000 in
set_option maxRecDepth 100000 in
theorem svSave_ok {own : Nat → Prop} {hb sb last : Nat} {P : List Cel} {L : List Sv} {w : World} (h : SH own hb P sb L last w) (hl : L.length < 10) (hL : last < 4611686018427387904) :
    Calls Try.prog 48 #[ptr sb, ptr hb] w fun e w' => e = .returned (.tuple #[obV 11 false ((last + 1 : Nat) : Int) 0 0 ⟨#[]⟩, .int .i64 0]) ∧ (∃ g, SH own hb P sb (L ++ [⟨last + 1, g, P⟩]) (last + 1) w') ∧ Kept own w w' := by
  have H := Lib.hid h
  have HL := Lib.hid hl
  have e1 : IntKind.i64.wrap ((last : Int) + 1) = ((last + 1 : Nat) : Int) := by rw [IntWalk.i64_in _ (by omega)]; omega
  have e2 : IntKind.i64.wrap ((L.length : Int) + 1) = ((L.length + 1 : Nat) : Int) := by rw [IntWalk.i64_in _ (by omega)]; omega
  have hn : ¬ ((L.length : Int) = 10) := by omega
  clear h hl hL
  go_enter Try.func48, Try.ntmps48
  go_upto_region 1 with fail
  obtain ⟨wa, ea, sa, ka, oa⟩ := H.out.zero
  rw [ea]
  have SA := Lib.hid sa
  have KA := Lib.hid ka
  have OA := Lib.hid oa
  have c70 := sa.sat.count
  have c71 := sa.sat.last
  have f71 := (sa.sat.there 71 (by decide)).2
  simp only [Nat.zero_add] at f71
  obtain ⟨⟨o0, o1, o2, o3, o4, o5⟩, g0, g1, g2, g3, g4, g5⟩ := cells6 oa
  clear ea sa ka oa
  go_upto_region 6 with fail
  obtain ⟨w1, ew1⟩ : ∃ w1, wa.setCell ⟨sb, 71, none⟩ (.int .i64 ((last : Int) + 1)) = w1 := ⟨_, rfl⟩
  rw [ew1]
  have q1 := SA.out.only (last' := last + 1) (w1 := w1) (by rw [← ew1]; exact (Only.refl _ _).set 71 _) (by rw [← ew1]; exact SA.out.sat.put71 (last + 1)) rfl
  have S1 := Lib.hid q1.1
  have K1 := Lib.hid (KA.out.trans (q1.2.sub fun _ h => .inl h))
  have o1 := (q1.2.block _ (.inr rfl)).trans OA.out
  have O1 := Lib.hid o1
  clear c70 c71 f71 o0 o1 o2 o3 o4 o5 g0 g1 g2 g3 g4 g5 q1 ew1
  have c71 : w1.cell? ⟨sb, 71, none⟩ = some (.int .i64 ((last : Int) + 1)) := S1.out.sat.last
  obtain ⟨⟨o0, o1, o2, o3, o4, o5⟩, g0, g1, g2, g3, g4, g5⟩ := cells6 O1.out
  go_upto_region 7 with fail
  obtain ⟨w2, ew2⟩ : ∃ w2, w1.setCells w.heap.size 0 [.int .i64 11, .bool false, .int .i64 ((last : Int) + 1), .int .i64 0, .int .i64 0, .string ⟨#[]⟩] = w2 := ⟨_, rfl⟩
  have on2 : Only w.heap.size w1 w2 := by rw [← ew2]; exact only_cells _ _ _ _
  have o2b : w2.heap[w.heap.size]? = some (obObj 11 false ((last : Int) + 1) 0 0 ⟨#[]⟩) := by rw [← ew2]; exact set6 O1.out _ _ _ _ _ _
  change Code.wp _ _ _ _ (w1.setCells w.heap.size 0 [.int .i64 11, .bool false, .int .i64 ((last : Int) + 1), .int .i64 0, .int .i64 0, .string ⟨#[]⟩])
  rw [ew2]
  have S2 := Lib.hid (S1.out.put (.inr rfl) on2)
  have K2 := Lib.hid (K1.out.trans (kept_only on2 (fun q => by have := H.out.lt q; omega)))
  have O2 := Lib.hid o2b
  clear c71 o0 o1 o2 o3 o4 o5 g0 g1 g2 g3 g4 g5 ew2 on2 o2b
  have GO : Hid (SaveS w2.drew sb w.heap.size L.length ((last : Int) + 1)) := Lib.hid (by obtain ⟨o0, o1, o2, o3, o4, o5⟩ := ob_cells O2.out; exact ⟨S2.out.sat.count, o0, o1, o2, o3, o4, o5⟩)
  have hc := Lib.hid (fun wx (kx : Below w2.heap.size w2 wx) => manyCopy (S2.out.below kx).1.many)
  have i1 : (L.length : Int) < 10 := by have := HL.out; omega
  have i0 : (0 : Int) ≤ L.length := by omega
  have NA : Hid (w.heap.size ≠ sb) := Lib.hid (by have := H.out.sat.lt; omega)
  refine wp_region_noPanic ?_
  refine wp_region_held_drew (S := fun wx => SaveS wx sb w.heap.size L.length ((last : Int) + 1)) (by kernel_rfl) GO.out (fun _ => ?_)
  refine wpAnyH_take (i := 0) (v := ptr sb) rfl (by kernel_rfl) (by kernel_rfl) (by kernel_rfl) (fun _ _ _ h => h) (Or.inl ⟨by rfl, fun wx ⟨q0, q1, q2, q3, q4, q5, q6⟩ => ?_⟩) GO.out ?_
  · go_simp
  simp only [Act.put, List.setIfInBounds_toArray, List.set_cons_zero, List.set_cons_succ]
  refine wpAnyH_take (i := 1) (v := ptr sb) rfl (by kernel_rfl) (by kernel_rfl) (by kernel_rfl) (fun _ _ _ h => h) (Or.inl ⟨by rfl, fun wx ⟨q0, q1, q2, q3, q4, q5, q6⟩ => ?_⟩) GO.out ?_
  · go_simp
  simp only [Act.put, List.setIfInBounds_toArray, List.set_cons_zero, List.set_cons_succ]
  refine wpAnyH_take (i := 2) (v := ptr sb) rfl (by kernel_rfl) (by kernel_rfl) (by kernel_rfl) (fun _ _ _ h => h) (Or.inl ⟨by rfl, fun wx ⟨q0, q1, q2, q3, q4, q5, q6⟩ => ?_⟩) GO.out ?_
  · go_simp
  simp only [Act.put, List.setIfInBounds_toArray, List.set_cons_zero, List.set_cons_succ]
  refine wpAnyH_take (i := 3) (v := .pointer (some ⟨sb, 70, none⟩)) rfl (by kernel_rfl) (by kernel_rfl) (by kernel_rfl) (fun _ _ _ h => h) (Or.inl ⟨by rfl, fun wx ⟨q0, q1, q2, q3, q4, q5, q6⟩ => ?_⟩) GO.out ?_
  · go_simp
  simp only [Act.put, List.setIfInBounds_toArray, List.set_cons_zero, List.set_cons_succ]
  refine wpAnyH_take (i := 4) (v := .int .i64 L.length) rfl (by kernel_rfl) (by kernel_rfl) (by kernel_rfl) (fun _ _ _ h => h) (Or.inl ⟨by rfl, fun wx ⟨q0, q1, q2, q3, q4, q5, q6⟩ => ?_⟩) GO.out ?_
  · go_simp
  simp only [Act.put, List.setIfInBounds_toArray, List.set_cons_zero, List.set_cons_succ]
  refine wpAnyH_take (i := 5) (v := obV 11 false ((last : Int) + 1) 0 0 ⟨#[]⟩) rfl (by kernel_rfl) (by kernel_rfl) (by kernel_rfl) (fun _ _ _ h => h) (Or.inl ⟨by rfl, fun wx ⟨q0, q1, q2, q3, q4, q5, q6⟩ => ?_⟩) GO.out ?_
  · go_simp
  simp only [Act.put, List.setIfInBounds_toArray, List.set_cons_zero, List.set_cons_succ]
  refine wpAnyH_take (i := 6) (v := ptr hb) rfl (by kernel_rfl) (by kernel_rfl) (by kernel_rfl) (fun _ _ _ h => h) (Or.inl ⟨by rfl, fun wx ⟨q0, q1, q2, q3, q4, q5, q6⟩ => ?_⟩) GO.out ?_
  · go_simp
  simp only [Act.put, List.setIfInBounds_toArray, List.set_cons_zero, List.set_cons_succ]
  refine wpAnyH_take (i := 9) (v := ptr sb) rfl (by kernel_rfl) (by kernel_rfl) (by kernel_rfl) (fun _ _ _ h => h) (Or.inl ⟨by rfl, fun wx ⟨q0, q1, q2, q3, q4, q5, q6⟩ => ?_⟩) GO.out ?_
  · go_simp
  simp only [Act.put, List.setIfInBounds_toArray, List.set_cons_zero, List.set_cons_succ]
  refine wpAnyH_take (i := 10) (v := .pointer (some ⟨sb, 0, none⟩)) rfl (by kernel_rfl) (by kernel_rfl) (by kernel_rfl) (fun _ _ _ h => h) (Or.inl ⟨by rfl, fun wx ⟨q0, q1, q2, q3, q4, q5, q6⟩ => ?_⟩) GO.out ?_
  · go_simp
  simp only [Act.put, List.setIfInBounds_toArray, List.set_cons_zero, List.set_cons_succ]
  refine wpAnyH_ready (rs := [7]) (by kernel_rfl) (by simp) ?_
  refine AllReadyH.cons rfl (fun K hK => ?_) AllReadyH.nil
  go_simp
  refine (hc.out _ ((Below.refl _ w2).drew)).mono ?_
  rintro e w3 ⟨gb, rfl, m3, k3⟩
  have T3 := Lib.hid (S2.out.sat.same (w' := w3) (k3.block _ (.inr rfl)) k3.size)
  have M3 := Lib.hid m3
  have G3 : Hid (SaveS w3 sb w.heap.size L.length ((last : Int) + 1)) := Lib.hid (GO.out.same (k3.block _ (.inr rfl)) (k3.block _ (.inl (.inr rfl))))
  have K3 := Lib.hid (K2.out.trans (kept_drew (k3.sub fun _ h => .inl (.inl h))))
  have O3 := Lib.hid ((k3.block _ (.inl (.inr rfl))).trans O2.out)
  clear m3 k3
  refine hK.out _ _ G3.out (fun _ => ?_)
  clear hK
  try simp only [Act.put, List.setIfInBounds_toArray, List.set_cons_zero, List.set_cons_succ]
  refine wpAnyH_take (i := 8) (v := .agg #[.int .i64 11, .bool false, .int .i64 ((last : Int) + 1), .int .i64 0, .int .i64 0, .string ⟨#[]⟩, ptr gb]) rfl (by kernel_rfl) (by kernel_rfl) (by kernel_rfl) (fun _ _ _ h => h) (Or.inl ⟨by rfl, fun wx ⟨q0, q1, q2, q3, q4, q5, q6⟩ => ?_⟩) G3.out ?_
  · go_simp
  simp only [Act.put, List.setIfInBounds_toArray, List.set_cons_zero, List.set_cons_succ]
  refine wpAnyH_take (i := 11) (v := .pointer (some ⟨sb, L.length * 7, none⟩)) rfl (by kernel_rfl) (by kernel_rfl) (by kernel_rfl) (fun _ _ _ h => h) (Or.inl ⟨by rfl, fun wx ⟨q0, q1, q2, q3, q4, q5, q6⟩ => ?_⟩) G3.out ?_
  · go_simp
  simp only [Act.put, List.setIfInBounds_toArray, List.set_cons_zero, List.set_cons_succ]
  refine wpAnyH_ready (rs := [12]) (by kernel_rfl) (by simp) ?_
  refine AllReadyH.cons rfl (fun K hK => ?_) AllReadyH.nil
  rw [if_pos (by rfl)]
  refine wp_store_mid _ _ _ rfl sb (L.length * 7) (svC ((last : Int) + 1) gb).toArray rfl rfl (fun j hj => ?_) (by kernel_rfl) (all_oneCell_toArray (svC_one _ _)) ?_
  · have := T3.out.there (L.length * 7 + j) (by have := HL.out; simp at hj; omega)
    simpa using this
  refine hK.out _ _ (G3.out.put NA.out HL.out _ rfl) (fun _ => ?_)
  clear hK
  refine wpAnyH_done (by kernel_rfl) ?_ _
  refine no_panic ?_
  simp only [Act.put, List.getElem_toArray, List.getElem_cons_succ, List.getElem_cons_zero, List.setIfInBounds_toArray, List.set_cons_zero, List.set_cons_succ]
  obtain ⟨w4, ew4⟩ : ∃ w4, w3.setCells sb (L.length * 7) (svC ((last : Int) + 1) gb) = w4 := ⟨_, rfl⟩
  have on4 : Only sb w3 w4 := by rw [← ew4]; exact only_cells _ _ _ _
  have pe := T3.out.putE L.length (svC ((last : Int) + 1) gb) (by have := HL.out; show L.length * 7 + 7 ≤ 70; omega)
  have pu := T3.out.push HL.out (last + 1) gb P
  rw [show svC (((last + 1 : Nat) : Int)) gb = svC ((last : Int) + 1) gb from rfl] at pu
  rw [ew4] at pe pu ⊢
  have c70 : w4.cell? ⟨sb, 70, none⟩ = some (.int .i64 L.length) := pe.2.2.1
  have f70 : w4.frozen? ⟨sb, 70, none⟩ = false := by
    have := (pe.1 70 (by decide)).2
    simpa using this
  have PU := Lib.hid pu
  have ON := Lib.hid on4
  clear ew4 on4 pe pu GO G3
  simp only [Exit.then]
  go_upto_region 9 with fail
  obtain ⟨w5, ew5⟩ : ∃ w5, w4.setCell ⟨sb, 70, none⟩ (.int .i64 (((L.length + 1 : Nat)) : Int)) = w5 := ⟨_, rfl⟩
  have on5 : Only sb w3 w5 := by rw [← ew5]; exact ON.out.set 70 _
  have pu := PU.out
  rw [ew5] at pu
  change Code.wp _ _ _ _ (w4.setCell ⟨sb, 70, none⟩ (.int .i64 (((L.length + 1 : Nat)) : Int)))
  rw [ew5]
  have S5 : Hid (SH (fun b => own b ∨ b = w.heap.size) hb P sb (L ++ [⟨last + 1, gb, P⟩]) (last + 1) w5) := Lib.hid ⟨by rw [svG_append]; exact M3.out.only (.inr rfl) on5, pu, S2.out.nown⟩
  have K5 := Lib.hid (K3.out.trans (kept_only on5 H.out.nown))
  have O5 := Lib.hid ((on5.block _ NA.out).trans O3.out)
  clear c70 f70 ew5 on5 pu o1
  obtain ⟨⟨o0, o1, o2, o3, o4, o5⟩, g0, g1, g2, g3, g4, g5⟩ := cells6 O5.out
  go_wp2
  (try simp only [Exit.inBlock, Exit.then])
  have on6 := only6 w.heap.size w5 (.int .i64 11) (.bool false) (.int .i64 ((last : Int) + 1)) (.int .i64 0) (.int .i64 0) (.string ⟨#[]⟩)
  refine bodyPost_ret (ret_cell rfl _ _ _ _ _ _ _ _ rfl rfl (set6 O5.out _ _ _ _ _ _) Try.underlying24 rfl (by kernel_rfl)) rfl ⟨rfl, ⟨gb, (S5.out.put (.inr rfl) on6).sub fun _ h => .inl h⟩, K5.out.trans (kept_only on6 fun q => by have := H.out.lt q; omega)⟩
set_option maxHeartbeats 1000000 in
set_option maxRecDepth 100000 in
theorem svSave_full {own : Nat → Prop} {hb sb last : Nat} {P : List Cel} {L : List Sv} {w : World} (h : SH own hb P sb L last w) (hl : L.length = 10) :
    Calls Try.prog 48 #[ptr sb, ptr hb] w fun e w' => e = .returned (.tuple #[zeroOb, .int .i64 5]) ∧ SH own hb P sb L last w' ∧ Kept own w w' := by
  have H := Lib.hid h
  have c70 := h.sat.count
  rw [hl] at c70
  clear h
  go_enter Try.func48, Try.ntmps48
  go_upto_region 1 with fail
  obtain ⟨wa, ea, sa, ka, oa⟩ := H.out.zero
  rw [ea]
  have SA := Lib.hid sa
  have KA := Lib.hid ka
  have OA := Lib.hid oa
  have d70 : wa.cell? ⟨sb, 70, none⟩ = some (.int .i64 10) := by
    have := sa.sat.count
    rw [hl] at this
    exact this
  obtain ⟨⟨o0, o1, o2, o3, o4, o5⟩, g0, g1, g2, g3, g4, g5⟩ := cells6 oa
  clear ea sa ka oa c70
  go_wp2
  (try simp only [Exit.inBlock, Exit.then])
  have on6 := only6 w.heap.size wa (.int .i64 0) (.bool false) (.int .i64 0) (.int .i64 0) (.int .i64 0) (.string ⟨#[]⟩)
  refine bodyPost_ret (ret_cell rfl _ _ _ _ _ _ _ _ rfl rfl (set6 OA.out _ _ _ _ _ _) Try.underlying24 rfl (by kernel_rfl)) rfl ⟨rfl, (SA.out.put (.inr rfl) on6).sub fun _ h => .inl h, KA.out.trans (kept_only on6 fun q => by have := H.out.lt q; omega)⟩
end Go.Proofs.Ytgmklagnngjlgaa
